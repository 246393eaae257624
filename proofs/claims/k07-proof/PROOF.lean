import PyProof.Rows.All
import Wide.All
import OpenK.AllK
import Wide.FinOn
import HandS.ForMost
import HandS.Wide
import HandS.Codes
import HandS.Exc
import HandS.TryOnly
import HandS.ExcOwn
import HandS.WordsExc
import HandS.ExcInit
import HandS.ExcField
import HandS.IsInst
import HandS.StrMore
import HandS.Style
import KE.GoesMore
import KE.GoesEnum
import HandS.More
import HandS.Conv
import KE.KDictSum
import HandS.ExcIs
import HandS.TupAny
import HandS.Defaults
import HandS.SetKeys
import HandS.Strs
import HandS.Property
import PyProof.SetRoads
import HandS.DeepEq
import HandS.Finally
import PySem.Challenge.RW_searchback_k07_stands_made_renamed_refus
set_option Elab.async false
set_option maxRecDepth 100000
namespace Kx
open PySem L2
def top (i : Nat) : Stmt := PySem.Challenge.pw_searchback_k07_stands_made_renamed_refus.main.body.getD i (.Pass ⟨0, 0, 0, 0⟩)
abbrev sBadMap_init : Stmt := inClass (top 2) 0 -- BadMap.__init__
abbrev sBadStand_init : Stmt := inClass (top 3) 0 -- BadStand.__init__
abbrev sBadQuestion_init : Stmt := inClass (top 4) 0 -- BadQuestion.__init__
abbrev sWhole : Stmt := top 7 -- is_whole(thing, low, high)
abbrev sLabel : Stmt := top 8 -- is_label(thing)
abbrev sSeq : Stmt := top 9 -- is_sequence(thing)
abbrev sMapFault : Stmt := top 11 -- map_fault(names, persons)
abbrev sSitters : Stmt := top 13 -- sitters(seats)
abbrev sStand_init : Stmt := inClass (top 18) 0 -- Stand.__init__
abbrev sStand_eq : Stmt := inClass (top 18) 1 -- Stand.__eq__
abbrev sStand_code : Stmt := inClass (top 18) 2 -- Stand.code
abbrev sStand_persons : Stmt := inClass (top 18) 3 -- Stand.persons
abbrev sStand_renamed : Stmt := inClass (top 18) 4 -- Stand.renamed
abbrev sClockFault : Stmt := top 19 -- _clock_fault(clock)
abbrev sIsSeatName : Stmt := top 22 -- is_seat_name(thing)
abbrev sQuestion_eq : Stmt := inClass (top 24) 0 -- Question.__eq__
abbrev sWho_init : Stmt := inClass (top 25) 0 -- Who.__init__
abbrev sWho_eq : Stmt := inClass (top 25) 1 -- Who.__eq__
abbrev sWho_fault : Stmt := inClass (top 25) 2 -- Who.fault
abbrev sWho_of : Stmt := inClass (top 25) 3 -- Who.of
abbrev sWho_read : Stmt := inClass (top 25) 4 -- Who.read
abbrev sFilled_init : Stmt := inClass (top 26) 0 -- Filled.__init__
abbrev sFilled_eq : Stmt := inClass (top 26) 1 -- Filled.__eq__
abbrev sFilled_fault : Stmt := inClass (top 26) 2 -- Filled.fault
abbrev sFilled_of : Stmt := inClass (top 26) 3 -- Filled.of
abbrev sFilled_read : Stmt := inClass (top 26) 4 -- Filled.read
abbrev sTogether_init : Stmt := inClass (top 27) 0 -- Together.__init__
abbrev sTogether_eq : Stmt := inClass (top 27) 1 -- Together.__eq__
abbrev sTogether_fault : Stmt := inClass (top 27) 2 -- Together.fault
abbrev sTogether_of : Stmt := inClass (top 27) 3 -- Together.of
abbrev sTogether_read : Stmt := inClass (top 27) 4 -- Together.read
abbrev sReached_init : Stmt := inClass (top 28) 0 -- Reached.__init__
abbrev sReached_eq : Stmt := inClass (top 28) 1 -- Reached.__eq__
abbrev sReached_fault : Stmt := inClass (top 28) 2 -- Reached.fault
abbrev sReached_of : Stmt := inClass (top 28) 3 -- Reached.of
abbrev sReached_read : Stmt := inClass (top 28) 4 -- Reached.read
abbrev sSeatsFault : Stmt := top 29 -- _seats_fault(custom, seats)
abbrev sCheck : Stmt := top 30 -- _check(question, custom, stand)
abbrev sMix : Stmt := top 32 -- _law_mix(_law_number, _law_turn)
abbrev sHand : Stmt := top 33 -- _law_hand(_law_script)
abbrev sDraw : Stmt := top 34 -- _law_draw(_law_hand_here, _law_many)
abbrev sOne : Stmt := top 35 -- _law_one(_law_hand_here, _law_rows)
abbrev sLLetters : Stmt := top 36 -- _law_letters(_law_hand_here)
abbrev sLNew : Stmt := top 37 -- _law_new(_law_hand_here, _law_taken)
abbrev sLLabels : Stmt := top 38 -- _law_labels(_law_hand_here, _law_many, _law_barred)
abbrev sLPeople : Stmt := top 39 -- _law_people(_law_hand_here)
abbrev sLWhole : Stmt := top 40 -- _law_whole(_law_thing)
abbrev sLLabel : Stmt := top 41 -- _law_label(_law_thing)
abbrev sLIsStand : Stmt := top 42 -- _law_is_stand(_law_told, _law_stand)
abbrev sLProgramStand : Stmt := top 43 -- _law_program_stand(_law_stand)
abbrev sOdd : Stmt := top 44 -- _law_odd(_law_hand_here)
abbrev sLParts : Stmt := top 45 -- _law_parts(_law_hand_here)
abbrev sWord : Stmt := top 46 -- _law_word(_law_parts_here)
abbrev sLTry : Stmt := top 47 -- _law_try(_law_parts_here)
abbrev sLMap : Stmt := top 48 -- _law_map(_law_hand_here, _law_persons)
abbrev sLMapWord : Stmt := top 49 -- _law_map_word(_law_names, _law_persons)
abbrev sLRenamed : Stmt := top 50 -- _law_renamed(_law_made, _law_names)
abbrev sLRenames : Stmt := top 51 -- _law_renames(_law_hand_here, _law_made, _law_stand)
abbrev sLRefusedQuestion : Stmt := top 52 -- _law_refused_question(_law_word_here, _law_things)
abbrev sLMadeQuestions : Stmt := top 53 -- _law_made_questions(_law_hand_here)
abbrev sLaw : Stmt := top 54 -- law(_law_script)
end Kx

set_option maxHeartbeats 4000000
namespace Kx
open PySem L2
section
variable {P : Program} {w : World} {K : PySem.W.Frag} {mg : Str → Option Value} {base : Heap}
structure Bl (mg : Str → Option Value) : Prop where
  int : mg "int" = none
  abs : mg "abs" = none
  len : mg "len" = none
  enumerate : mg "enumerate" = none
  range : mg "range" = none
def spMix : Sp := fun vs H Q _ => ∃ a b : Int, vs = [.int a, .int b] ∧ ∀ z : Int, Q (.int z) H
structure Has (P : Program) (w : World) (K : PySem.W.Frag) (mg : Str → Option Value) (base : Heap) (x : Str) (k : Nat) (ps : List Str) (sp : Sp) (f : Addr) (fd : FuncData) : Prop where
  G : FnOk P w K mg base CX0 k f fd ps sp
  m : mg x = some (.ref f)
  kp : PySem.W.keepIn K (.ref f) = true
  b : Binds K fd ps []
def HasF (P : Program) (w : World) (K : PySem.W.Frag) (mg : Str → Option Value) (base : Heap) (x : Str) (k : Nat) (ps : List Str) (sp : Sp) : Prop := ∃ f fd, Has P w K mg base x k ps sp f fd
theorem scMix : FnScope ["_law_number", "_law_turn", "_law_once", "_law_twice"] ["_law_number", "_law_turn"] (defScope sMix) := ⟨rfl, rfl, rfl, by decide +kernel, rfl, by decide +kernel, by decide +kernel⟩
theorem small31 {z : Int} {m : Int} (h : 0 < m) (h' : m ≤ 2147483648) : CMul (z % m) (z % m) := by
  have h1 := Int.emod_nonneg z (show m ≠ 0 by omega)
  have h2 := Int.emod_lt_of_pos z h
  exact .inl ⟨by omega, by omega⟩
theorem ok_mix {f : Addr} {fd : FuncData} (F : Fun K "_law_mix" "_law_mix" sMix f fd) (m : mg "_law_mix" = some (.ref f)) (T : Bl mg) : HasF P w K mg base "_law_mix" 1 ["_law_number", "_law_turn"] spMix := by
  refine ⟨f, fd, ?_, m, F.kp, F.binds fun _ _ _ _ _ _ us hl => match us, hl with | [_, _], _ => rfl⟩
  refine F.ok scMix (fun vs H Q E h => ?_) (fun cdv A outer s H vs Q E hr h => ?_)
  · obtain ⟨a, b, rfl, _⟩ := h
    rfl
  · obtain ⟨a, b, rfl, k⟩ := h
    refine ⟨_, pss_cons (ps_set (i := 2) scMix.nd rfl (Or.inl rfl) (pe_op op_mod (pe_callTy call_int1 (by rfl) T.int (by decide +kernel) (pa_cons (pe_op op_add (pe_op op_add (pe_op op_mul (pv 0) pe_int) (pe_op op_mul (pv 1) pe_int)) pe_int) pa_nil)) pe_int))
      (pss_cons (ps_set (i := 3) scMix.nd rfl (Or.inl rfl) (pe_op op_mod (pe_callTy call_int1 (by rfl) T.int (by decide +kernel) (pa_cons (pe_op op_add (pe_op op_add (pe_op op_mul (pv 2) (pv 2)) (pe_op op_mul (pe_op op_fdiv (pv 2) pe_int) pe_int)) (pe_op op_mul (pv 1) pe_int)) pa_nil)) pe_int))
      (pss_one (ps_ret (pe_op op_fdiv (pe_op op_mod (pe_callTy call_int1 (by rfl) T.int (by decide +kernel) (pa_cons (pe_op op_add (pe_op op_fdiv (pe_op op_mul (pv 3) (pv 3)) pe_int) (pv 2)) pa_nil)) pe_int) pe_int)))), ?_⟩
    refine ⟨_, rfl, _, _, rfl, rfl, .inr ⟨by decide, by decide⟩, _, rfl, _, _, rfl, rfl, .inr ⟨by decide, by decide⟩, _, _, rfl, rfl, _, _, rfl, rfl, .inl ⟨_, rfl, _, _, rfl, rfl, (by show (0 : Int) < _; decide), ?_⟩⟩
    refine ⟨_, rfl, _, rfl, _, _, rfl, rfl, small31 (by decide) (by decide), _, rfl, _, _, rfl, rfl, ⟨by decide, by decide⟩, _, _, rfl, rfl, .inr ⟨by decide, by decide⟩, _, _, rfl, rfl, _, rfl, _, _, rfl, rfl, .inr ⟨by decide, by decide⟩, _, _, rfl, rfl, .inl ⟨_, rfl, _, _, rfl, rfl, (by show (0 : Int) < _; decide), ?_⟩⟩
    refine ⟨_, rfl, _, rfl, _, _, rfl, rfl, small31 (by decide) (by decide), _, _, rfl, rfl, ⟨by decide, by decide⟩, _, rfl, _, _, rfl, rfl, .inl ⟨_, rfl, _, _, rfl, rfl, (by show (0 : Int) < _; decide), _, _, rfl, rfl, ⟨by decide, by decide⟩, ?_⟩⟩
    exact k _
/-- the hand at p: what is left of the script, and three counters -/
def HandAt (H : Hp) (p q : Addr) : Prop := ∃ (cs : List Int) (a : Nat) (b c : Int), H p = some (.lst [.ref q, .int a, .int b, .int c]) ∧ H q = some (.lst (cs.map V.int))
/-- all but p is as it was -/
def Keep (H H' : Hp) (p : Addr) : Prop := ∀ b o, H b = some o → b ≠ p → H' b = some o
theorem Keep.refl {H : Hp} {p : Addr} : Keep H H p := fun _ _ h _ => h
theorem Keep.trans {H H1 H2 : Hp} {p : Addr} (a : Keep H H1 p) (b : Keep H1 H2 p) : Keep H H2 p := fun c o h e => b c o (a c o h e) e
theorem Keep.upd {H H1 : Hp} {p : Addr} {o : HO} (a : Keep H H1 p) : Keep H (upd H1 p o) p := fun c u h e => by rw [upd_ne e]; exact a c u h e
theorem HandAt.ne {H : Hp} {p q : Addr} {xs ys : List V} (h : H p = some (.lst (.ref q :: xs))) {cs : List Int} (h' : H q = some (.lst (cs.map V.int))) : q ≠ p := by
  intro e
  subst e
  rw [h] at h'
  cases cs with
  | nil => exact nomatch h'
  | cons c cs => exact nomatch h'
def spDraw : Sp := fun vs H Q _ => ∃ (p q : Addr) (m : Int), vs = [.ref p, .int m] ∧ HandAt H p q ∧ 0 < m ∧ m.natAbs < 2 ^ 200 ∧
  ∀ (z : Int) (H' : Hp), 0 ≤ z → z < m → HandAt H' p q → Keep H H' p → Q (.int z) H'
theorem scDraw : FnScope ["_law_hand_here", "_law_many", "_law_cell", "_law_rest"] ["_law_hand_here", "_law_many"] (defScope sDraw) := ⟨rfl, rfl, rfl, by decide +kernel, rfl, by decide +kernel, by decide +kernel⟩
theorem ok_draw {f : Addr} {fd : FuncData} (F : Fun K "_law_draw" "_law_draw" sDraw f fd) (m : mg "_law_draw" = some (.ref f)) (T : Bl mg) (M : HasF P w K mg base "_law_mix" 1 ["_law_number", "_law_turn"] spMix) : HasF P w K mg base "_law_draw" 2 ["_law_hand_here", "_law_many"] spDraw := by
  refine ⟨f, fd, ?_, m, F.kp, F.binds fun _ _ _ _ _ _ us hl => match us, hl with | [_, _], _ => rfl⟩
  obtain ⟨f1, fd1, M⟩ := M
  refine F.ok scDraw (fun vs H Q E h => ?_) (fun cdv A outer s H vs Q E hr h => ?_)
  · obtain ⟨a, b, c, rfl, _⟩ := h
    rfl
  · obtain ⟨p, q, m, rfl, ⟨cs, a, b, c, hp, hq⟩, m0, m1, k⟩ := h
    have nqp : q ≠ p := HandAt.ne (ys := []) hp hq
    refine ⟨_, C8.pss_cut (ps_if (PW.pt (pw_and (pt_cmpR op_eq (pe_ix ix_list (pv 0) pe_int (fun _ _ => rfl)) pe_int (nomark _)) (pw_and1 (pt_cmpR op_lt (pe_ix ix_list (pv 0) pe_int (fun _ _ => rfl)) (pe_callB call_len_seq (by rfl) T.len PySem.boot_len (pa_cons (pe_ix ix_list (pv 0) pe_int (fun _ _ => rfl)) pa_nil)) (nomark _)))))
        (pss_cons (ps_set (i := 2) scDraw.nd rfl (Or.inl rfl) (pe_ix ix_list (pe_ix ix_list (pv 0) pe_int (fun _ _ => rfl)) (pe_ix ix_list (pv 0) pe_int (fun _ _ => rfl)) (fun _ _ => rfl)))
        (pss_cons (ps_asg (pe_op op_add (pe_ix ix_list (pv 0) pe_int (fun _ _ => rfl)) pe_int) (pg_sub (pv 0) pe_int set_list))
        (pss_cons (ps_if (pt_cmpR op_lt (pv 2) (pe_op op_pow pe_int pe_int) (nomark _)) (pss_one (ps_ret (pe_op op_mod (pe_callTy call_int1 (by rfl) T.int (by decide +kernel) (pa_cons (pe_call M.G hr (by rfl) M.m M.kp M.b .nil pass0 (pa_cons (pe_op op_mod (pe_callTy call_int1 (by rfl) T.int (by decide +kernel) (pa_cons (pv 2) pa_nil)) pe_int) (pa_cons (pe_ix ix_list (pv 0) pe_int (fun _ _ => rfl)) pa_nil))) pa_nil)) (pv 1)))) pss_nil)
        (pss_one (ps_asg (pv 2) (pg_sub (pv 0) pe_int set_list)))))) pss_nil)
      (pss_cons (ps_if (pt_cmpR op_gt (pe_ix ix_list (pv 0) pe_int (fun _ _ => rfl)) pe_int (nomark _))
        (pss_cons (ps_set (i := 3) scDraw.nd rfl (Or.inl rfl) (pe_ix ix_list (pv 0) pe_int (fun _ _ => rfl)))
        (pss_cons (ps_asg (pe_op op_fdivW (pv 3) (pv 1)) (pg_sub (pv 0) pe_int set_list))
        (pss_one (ps_ret (pe_op op_mod (pe_callTy call_int1 (by rfl) T.int (by decide +kernel) (pa_cons (pv 3) pa_nil)) (pv 1)))))) pss_nil)
      (pss_cons (ps_asg (pe_op op_mod (pe_callTy call_int1 (by rfl) T.int (by decide +kernel) (pa_cons (pe_op op_add (pe_ix ix_list (pv 0) pe_int (fun _ _ => rfl)) pe_int) pa_nil)) pe_int) (pg_sub (pv 0) pe_int set_list))
      (pss_one (ps_ret (pe_op op_mod (pe_callTy call_int1 (by rfl) T.int (by decide +kernel) (pa_cons (pe_call M.G hr (by rfl) M.m M.kp M.b .nil pass0 (pa_cons (pe_ix ix_list (pv 0) pe_int (fun _ _ => rfl)) (pa_cons (pe_ix ix_list (pv 0) pe_int (fun _ _ => rfl)) pa_nil))) pa_nil)) (pv 1)))))), ?_⟩
    refine ⟨fun σ H1 => ∃ (x y : Option V) (a : Nat) (b c : Int), σ = [some (.ref p), some (.int m), x, y] ∧ H1 p = some (.lst [.ref q, .int a, .int b, .int c]) ∧ H1 q = some (.lst (cs.map V.int)) ∧ Keep H H1 p, ?_, ?_⟩
    · refine ⟨_, rfl, p, _, _, _, rfl, rfl, SqL.of hp, by rfl, rfl, _, rfl, ?_⟩
      refine ite2 (fun _ => ?_) (fun _ => ?_)
      · refine ⟨_, rfl, p, _, _, _, rfl, rfl, SqL.of hp, by rfl, _, rfl, p, _, _, _, rfl, rfl, SqL.of hp, by rfl, q, _, rfl, .inl (SqL.of hq), _, _, rfl, rfl, _, rfl, ?_⟩
        refine ite2 (fun h1 => ?_) (fun _ => ?_)
        · have h1 : (a : Int) < ((cs.map V.int).length : Nat) := of_decide_eq_true h1
          rw [List.length_map] at h1
          have h2 : a < cs.length := by omega
          have h3 : (cs.map V.int)[a]? = some (V.int cs[a]) := by rw [List.getElem?_map, List.getElem?_eq_getElem h2]; rfl
          have hq' : ∀ o, (upd H p o) q = some (.lst (cs.map V.int)) := fun o => by rw [upd_ne nqp]; exact hq
          refine ⟨_, rfl, p, _, _, _, rfl, rfl, SqL.of hp, by rfl, _, rfl, p, _, _, _, rfl, rfl, SqL.of hp, by rfl, q, _, _, _, rfl, rfl, SqL.of hq, atI_nat h3, ?_⟩
          refine ⟨_, rfl, p, _, _, _, rfl, rfl, SqL.of hp, by rfl, _, _, rfl, rfl, _, rfl, p, _, _, _, rfl, rfl, hp, by rfl, ?_⟩
          refine ⟨_, rfl, _, _, rfl, rfl, ⟨by decide, by decide, by decide⟩, _, _, rfl, rfl, _, rfl, ?_⟩
          refine ite2 (fun _ => ?_) (fun _ => ?_)
          · refine ⟨_, rfl, .inl ⟨_, rfl, _, _, rfl, rfl, (by show (0 : Int) < _; decide), _, rfl, p, _, _, _, rfl, rfl, SqL.of upd_same, by rfl, _, _, rfl, fun z => .inl ⟨_, rfl, _, rfl, _, _, rfl, rfl, m0, ?_⟩⟩⟩
            exact k _ _ (Int.emod_nonneg _ (by omega)) (Int.emod_lt_of_pos _ m0) ⟨cs, a + 1, b, c, upd_same, hq' _⟩ Keep.refl.upd
          · refine ⟨_, rfl, _, rfl, p, _, _, _, rfl, rfl, upd_same, by rfl, ?_⟩
            refine ⟨_, _, a + 1, cs[a], c, rfl, upd_same, ?_, Keep.refl.upd.upd⟩
            rw [upd_upd]
            exact hq' _
        · exact ⟨_, _, a, b, c, rfl, hp, hq, Keep.refl⟩
      · exact ⟨_, _, a, b, c, rfl, hp, hq, Keep.refl⟩
    · rintro σ H1 ⟨x, y, a, b, c, rfl, hp, hq, kp⟩
      have hq' : ∀ o, (upd H1 p o) q = some (.lst (cs.map V.int)) := fun o => by rw [upd_ne nqp]; exact hq
      refine ⟨_, rfl, p, _, _, _, rfl, rfl, SqL.of hp, by rfl, _, _, rfl, rfl, _, rfl, ?_⟩
      refine ite2 (fun _ => ?_) (fun _ => ?_)
      · refine ⟨_, rfl, p, _, _, _, rfl, rfl, SqL.of hp, by rfl, _, rfl, _, rfl, _, _, rfl, rfl, wide_div m0 m1 (by decide) (by decide), _, rfl, p, _, _, _, rfl, rfl, hp, by rfl, ?_⟩
        refine ⟨_, rfl, .inl ⟨_, rfl, _, rfl, _, _, rfl, rfl, m0, ?_⟩⟩
        exact k _ _ (Int.emod_nonneg _ (by omega)) (Int.emod_lt_of_pos _ m0) ⟨cs, a, _, c, upd_same, hq' _⟩ kp.upd
      · refine ⟨_, rfl, p, _, _, _, rfl, rfl, SqL.of hp, by rfl, _, _, rfl, rfl, .inl ⟨_, rfl, _, _, rfl, rfl, (by show (0 : Int) < _; decide), _, rfl, p, _, _, _, rfl, rfl, hp, by rfl, ?_⟩⟩
        refine ⟨_, rfl, p, _, _, _, rfl, rfl, SqL.of upd_same, by rfl, _, rfl, p, _, _, _, rfl, rfl, SqL.of upd_same, by rfl, _, _, rfl, fun z => .inl ⟨_, rfl, _, rfl, _, _, rfl, rfl, m0, ?_⟩⟩
        exact k _ _ (Int.emod_nonneg _ (by omega)) (Int.emod_lt_of_pos _ m0) ⟨cs, a, _, _, upd_same, hq' _⟩ kp.upd
/-- over enumerate(list), the list standing still -/
theorem for_enum {K : PySem.W.Frag} {a : Addr} {xs : List V} {g : TG} {tb : TS} {D : Ends} {σ : St} {H : Hp} (W : Nat → St → Hp → Prop) (start : W 0 σ H) (still : ∀ i σ H, W i σ H → SqL K H a xs)
    (turn : ∀ i x σ H T, xs[i]? = some x → W i σ H → H T = none → g (.ref T) σ (upd H T (.tup [.int (i : Nat), x])) fun σ2 H2 => tb { D with nx := W (i + 1), ct := W (i + 1), bk := D.nx } σ2 H2) (after : ∀ σ H, W xs.length σ H → D.nx σ H) :
    ∃ U : Nat → Nat → St → Hp → Prop, (∃ m, U 0 m σ H) ∧ ∀ i m σ H, U i m σ H → ((Ite K a).stop i H ∧ D.nx σ H) ∨ ((Ite K a).go i H ∧ ∃ N : St → Hp → Prop, (∀ σ' H', N σ' H' → ∃ m', m' < m ∧ U (i + 1) m' σ' H') ∧
      ∀ x H', (Ite K a).yld i H x H' → g x σ H' fun σ2 H2 => tb { D with nx := N, ct := N, bk := D.nx } σ2 H2) := by
  refine ⟨fun i m σ H => m + i = xs.length ∧ W i σ H, ⟨xs.length, by omega, start⟩, fun i m σ H u => ?_⟩
  obtain ⟨e, u⟩ := u
  cases m with
  | zero =>
    have e : i = xs.length := by omega
    subst e
    exact .inl ⟨⟨xs, still _ _ _ u, Nat.le_refl _⟩, after _ _ u⟩
  | succ m =>
    have lt : i < xs.length := by omega
    refine .inr ⟨⟨xs, xs[i], still _ _ _ u, List.getElem?_eq_getElem lt⟩, W (i + 1), fun σ' H' u' => ⟨m, Nat.lt_succ_self _, by omega, u'⟩, fun x H' y => ?_⟩
    obtain ⟨T, z, rfl, free, rfl, same⟩ := y
    exact turn i z σ H T (same xs (still _ _ _ u)) u free
def spHand (K : PySem.W.Frag) : Sp := fun vs H Q _ => ∃ (a : Addr) (ns : List Int), vs = [.ref a] ∧ SqL K H a (ns.map V.int) ∧ ns.length ≤ 63 ∧ ∀ (p q : Addr) (H' : Hp), H p = none → H q = none → q ≠ p → HandAt H' p q → Same H H' → Q (.ref p) H'
theorem sameUpd {H H1 : Hp} {p : Addr} {o : HO} (s : Same H H1) (h : H1 p = none) : Same H (upd H1 p o) := fun b u e => by
  have e1 := s b u e
  rw [upd_ne (ne_of_none e1 h)]
  exact e1
theorem item_int {ns : List Int} {i : Nat} {y : V} (h : (ns.map V.int)[i]? = some y) : ∃ z, y = V.int z ∧ ns[i]? = some z := by
  rw [List.getElem?_map] at h
  cases e : ns[i]? with
  | none => rw [e] at h; cases h
  | some z => rw [e] at h; exact ⟨z, (Option.some.inj h).symm, rfl⟩
theorem scHand : FnScope ["_law_script", "_law_total", "_law_k", "_law_cell"] ["_law_script"] (defScope sHand) := ⟨rfl, rfl, rfl, by decide +kernel, rfl, by decide +kernel, by decide +kernel⟩
theorem ok_hand {f : Addr} {fd : FuncData} (F : Fun K "_law_hand" "_law_hand" sHand f fd) (m : mg "_law_hand" = some (.ref f)) (T : Bl mg) : HasF P w K mg base "_law_hand" 1 ["_law_script"] (spHand K) := by
  refine ⟨f, fd, ?_, m, F.kp, F.binds fun _ _ _ _ _ _ us hl => match us, hl with | [_], _ => rfl⟩
  refine F.ok scHand (fun vs H Q E h => ?_) (fun cdv A outer s H vs Q E hr h => ?_)
  · obtain ⟨a, b, rfl, _⟩ := h
    rfl
  · obtain ⟨a, ns, rfl, hS, hl, k⟩ := h
    refine ⟨_, pss_cons (ps_set (i := 1) scHand.nd rfl (Or.inl rfl) pe_int)
      (pss_cons (ps_for PassesOwn.never rfl (pi_enum (by rfl) T.enumerate (pa_cons (pv 0) pa_nil)) (pg_tup rfl (pgs_cons (pg_name (i := 2) scHand.nd rfl (.inl rfl)) (pgs_cons (pg_name (i := 3) scHand.nd rfl (.inl rfl)) pgs_nil)))
        (pss_one (ps_set (i := 1) scHand.nd rfl (Or.inl rfl) (pe_op op_mod (pe_callTy call_int1 (by rfl) T.int (by decide +kernel) (pa_cons (pe_op op_add (pe_op op_mul (pv 1) pe_int) (pe_op op_mul (pe_callTy call_int1 (by rfl) T.int (by decide +kernel) (pa_cons (pv 3) pa_nil)) (pe_op op_add (pv 2) pe_int))) pa_nil)) pe_int))))
      (pss_one (ps_ret (pe_lst (pa_cons (pe_lc (own := [("_law_cell", 3)]) (g := gName 3) (tt := tYes) (by rfl) scHand.nd (pi_list (pv 0)) (blkOk_by (own := [("_law_cell", 3)]) (N := ["_law_script", "_law_total", "_law_k", "_law_cell"]) (sc := defScope sHand) (by decide +kernel))
          (fun _ _ _ _ _ => pg_name (i := 3) scHand.nd rfl (Or.inl rfl)) (fun _ _ _ _ _ => pts_nil) (fun _ _ _ _ _ => (pe_callB call_abs (by rfl) T.abs (by decide +kernel) (pa_cons (pe_callTy call_int1 (by rfl) T.int (by decide +kernel) (pa_cons (pv 3) pa_nil)) pa_nil))))
        (pa_cons pe_int (pa_cons pe_int (pa_cons (pv 1) pa_nil)))))))), ?_⟩
    refine ⟨_, rfl, a, _, rfl, hS, for_enum (K := K) (a := a) (xs := ns.map V.int) (fun i σ H2 => ∃ (t : Int) (x y : Option V), σ = [some (.ref a), some (.int t), x, y] ∧ Same H H2 ∧ True) ⟨_, _, _, rfl, Same.refl _, trivial⟩ (fun i σ H2 ⟨_, _, _, _, s2, _⟩ => s2.seq hS) ?_ ?_⟩
    · rintro i x σ H2 T hi ⟨t, c, d, rfl, s2, _⟩ free
      obtain ⟨z, rfl, hz⟩ := item_int hi
      have hlt : i < ns.length := (List.getElem?_eq_some_iff.mp hz).1
      refine ⟨T, _, rfl, SqT.of upd_same, rfl, _, _, rfl, _, _, rfl, rfl, ?_⟩
      refine ⟨_, rfl, _, _, rfl, rfl, .inr ⟨by decide, by decide⟩, _, rfl, .inl ⟨_, rfl, _, rfl, _, _, rfl, rfl, _, _, rfl, rfl, .inr ⟨by omega, by omega⟩, _, _, rfl, rfl, .inl ⟨_, rfl, _, _, rfl, rfl, (by show (0 : Int) < _; decide), ?_⟩⟩⟩
      exact ⟨_, _, _, rfl, sameUpd s2 free, trivial⟩
    · rintro σ H2 ⟨t, c, d, rfl, s2, _⟩
      have q : ∀ (b : Int) (l : List Int), (l ++ [b]).map V.int = l.map V.int ++ [V.int b] := fun b l => by rw [List.map_append]; rfl
      refine ⟨_, rfl, a, rfl, ⟨_, s2.seq hS⟩, fun D hD => lc_list (K := K) (a := a) (xs := ns.map V.int) (fun i H3 => Same H H3 ∧ ∃ cs : List Int, cs.length = i ∧ H3 D = some (.lst (cs.map V.int))) ⟨sameUpd s2 hD, [], rfl, upd_same⟩ (fun i H3 _ w => w.1.seq hS) ?_ ?_⟩
      · rintro i y H3 hi ⟨s3, cs, hc, hd⟩
        obtain ⟨z, rfl, hz⟩ := item_int hi
        have hlt : i < ns.length := (List.getElem?_eq_some_iff.mp hz).1
        refine ⟨rfl, ?_⟩
        refine ⟨_, rfl, .inl ⟨_, rfl, _, rfl, cs.map V.int, hd, small1000 (by rw [List.length_map]; omega), ?_⟩⟩
        have e : H D = none := s2.free hD
        refine ⟨fun b u e' => ?_, cs ++ [_], by rw [List.length_append, hc]; rfl, by rw [q]; exact upd_same⟩
        rw [upd_ne (ne_of_none e' e)]
        exact s3 b u e'
      · rintro H3 ⟨s3, cs, hc, hd⟩
        refine ⟨_, rfl, (by show 4 ≤ sizeLine; decide), fun p hp => ?_⟩
        have np : p ≠ D := fun e => by rw [e, hd] at hp; cases hp
        exact k p D _ (s3.free hp) (s2.free hD) np.symm ⟨cs, 0, 0, _, upd_same, by rw [upd_ne np.symm]; exact hd⟩ (sameUpd s3 hp)
/-- every sign a letter from a to z -/
def Low (z : Str) : Prop := ∀ c ∈ z.cps.toList, 97 ≤ c ∧ c ≤ 122
theorem abc_at : ∀ n : Fin 26, (Str.ofString "abcdefghijklmnopqrstuvwxyz").cps.toList[n.1]? = some (97 + n.1) := by decide +kernel
theorem abc_ix {z : Int} (h : 0 ≤ z) (h' : z < 26) : atI (Str.ofString "abcdefghijklmnopqrstuvwxyz").cps.toList z = some (97 + z.toNat) := by
  obtain ⟨n, rfl⟩ : ∃ n : Nat, z = n := ⟨z.toNat, by omega⟩
  exact atI_nat (abc_at ⟨n, by omega⟩)
theorem len_app (a b : Str) : (a ++ b).length = a.length + b.length := Array.size_append
theorem cps_app (a b : Str) : (a ++ b).cps.toList = a.cps.toList ++ b.cps.toList := Array.toList_append
theorem Low.app {a b : Str} (h : Low a) (h' : Low b) : Low (a ++ b) := fun c hc => by
  rw [cps_app] at hc
  rcases List.mem_append.mp hc with e | e
  · exact h c e
  · exact h' c e
theorem Low.one {n : Nat} (h : n < 26) : Low ⟨#[97 + n]⟩ := fun c hc => by
  have e : c = 97 + n := by simpa using hc
  omega
theorem Low.nil : Low (Str.ofString "") := fun c hc => by
  have e : (Str.ofString "").cps.toList = [] := by decide +kernel
  rw [e] at hc
  cases hc
def spOne : Sp := fun vs H Q _ => ∃ (p q r : Addr) (xs : List V), vs = [.ref p, .ref r] ∧ HandAt H p q ∧ H r = some (.lst xs) ∧ r ≠ p ∧ 0 < xs.length ∧ xs.length ≤ 1000 ∧
  ∀ (x : V) (H' : Hp), x ∈ xs → HandAt H' p q → Keep H H' p → Q x H'
theorem scOne : FnScope ["_law_hand_here", "_law_rows"] ["_law_hand_here", "_law_rows"] (defScope sOne) := ⟨rfl, rfl, rfl, by decide +kernel, rfl, by decide +kernel, by decide +kernel⟩
theorem ok_one {f : Addr} {fd : FuncData} (F : Fun K "_law_one" "_law_one" sOne f fd) (m : mg "_law_one" = some (.ref f)) (T : Bl mg) (D : HasF P w K mg base "_law_draw" 2 ["_law_hand_here", "_law_many"] spDraw) : HasF P w K mg base "_law_one" 3 ["_law_hand_here", "_law_rows"] spOne := by
  refine ⟨f, fd, ?_, m, F.kp, F.binds fun _ _ _ _ _ _ us hl => match us, hl with | [_, _], _ => rfl⟩
  obtain ⟨f1, fd1, D⟩ := D
  refine F.ok scOne (fun vs H Q E h => ?_) (fun cdv A outer s H vs Q E hr h => ?_)
  · obtain ⟨a, b, c, d, rfl, _⟩ := h
    rfl
  · obtain ⟨p, q, r, xs, rfl, hp, hx, ne, h0, h9, k⟩ := h
    refine ⟨_, pss_one (ps_ret (pe_ix ix_list (pv 1) (pe_call D.G hr (by rfl) D.m D.kp D.b .nil pass0 (pa_cons (pv 0) (pa_cons (pe_callB call_len_seq (by rfl) T.len PySem.boot_len (pa_cons (pv 1) pa_nil)) pa_nil))) (fun _ _ => rfl))), ?_⟩
    have hz : xs.length < 2 ^ 200 := Nat.lt_of_le_of_lt h9 (by decide)
    refine ⟨_, rfl, _, rfl, _, rfl, r, _, rfl, .inl (SqL.of hx), p, q, _, rfl, hp, by omega, by rw [Int.natAbs_natCast]; exact hz, fun z H1 z0 z1 hp1 k1 => ?_⟩
    obtain ⟨n, rfl⟩ : ∃ n : Nat, z = n := ⟨z.toNat, by omega⟩
    have lt : n < xs.length := by omega
    exact ⟨r, xs, n, _, rfl, rfl, SqL.of (k1 r _ hx ne), atI_nat (List.getElem?_eq_getElem lt), k _ _ (List.getElem_mem lt) hp1 k1⟩
/-- the kinds of things that are asked -/
inductive Kd (H : Hp) : V → String → Prop where
  | non : Kd H .non "NoneType"
  | bl (b : Bool) : Kd H (.bl b) "bool"
  | int (i : Int) : Kd H (.int i) "int"
  | str (z : Str) : Kd H (.str z) "str"
  | lst (a : Addr) (xs : List V) (h : H a = some (.lst xs)) : Kd H (.ref a) "list"
  | tup (a : Addr) (xs : List V) (h : H a = some (.tup xs)) : Kd H (.ref a) "tuple"
  | dct (a : Addr) (xs : List (Key × V)) (h : H a = some (.dK xs)) : Kd H (.ref a) "dict"
theorem Kd.ty {K : PySem.W.Frag} {H : Hp} {x : V} {n : String} (k : Kd H x n) : TyX K H x (.type n) := by
  cases k with
  | non => exact .base .non
  | bl b => exact .base (.bl _)
  | int i => exact .base (.int _)
  | str z => exact .base (.str _)
  | lst a xs h => exact .base (.lst h)
  | tup a xs h => exact .base (.tup h)
  | dct a xs h => exact .base (.dK h)
theorem Kd.kits {H : Hp} {x : V} {n : String} (k : Kd H x n) : n ∈ ["NoneType", "bool", "int", "str", "list", "tuple", "dict"] := by cases k <;> decide
structure Bm (mg : Str → Option Value) : Prop where
  isinstance : mg "isinstance" = none
  str : mg "str" = none
  bool : mg "bool" = none
  list : mg "list" = none
  tuple : mg "tuple" = none
  longest : ∃ t, mg "LONGEST_LABEL" = some (.int 6 t)
theorem kit_int {n : String} (h : n ∈ ["NoneType", "bool", "int", "str", "list", "tuple", "dict"]) : kitB n "int" = some (n == "int" || n == "bool") := by
  simp only [List.mem_cons, List.not_mem_nil, or_false] at h
  rcases h with h | h | h | h | h | h | h <;> (subst h; decide +kernel)
theorem kit_bool {n : String} (h : n ∈ ["NoneType", "bool", "int", "str", "list", "tuple", "dict"]) : kitB n "bool" = some (n == "bool") := by
  simp only [List.mem_cons, List.not_mem_nil, or_false] at h
  rcases h with h | h | h | h | h | h | h <;> (subst h; decide +kernel)
theorem kit_str {n : String} (h : n ∈ ["NoneType", "bool", "int", "str", "list", "tuple", "dict"]) : kitB n "str" = some (n == "str") := by
  simp only [List.mem_cons, List.not_mem_nil, or_false] at h
  rcases h with h | h | h | h | h | h | h <;> (subst h; decide +kernel)
theorem kit_list {n : String} (h : n ∈ ["NoneType", "bool", "int", "str", "list", "tuple", "dict"]) : kitB n "list" = some (n == "list") := by
  simp only [List.mem_cons, List.not_mem_nil, or_false] at h
  rcases h with h | h | h | h | h | h | h <;> (subst h; decide +kernel)
theorem kit_tuple {n : String} (h : n ∈ ["NoneType", "bool", "int", "str", "list", "tuple", "dict"]) : kitB n "tuple" = some (n == "tuple") := by
  simp only [List.mem_cons, List.not_mem_nil, or_false] at h
  rcases h with h | h | h | h | h | h | h <;> (subst h; decide +kernel)
/-- a whole number from lo to hi -/
def wholeV (x : V) (lo hi : Int) : Bool := match x with
  | .int i => decide (lo ≤ i) && decide (i ≤ hi)
  | _ => false
def spWhole : Sp := fun vs H Q _ => ∃ (x : V) (n : String) (lo hi : Int), vs = [x, .int lo, .int hi] ∧ Kd H x n ∧ Q (.bl (wholeV x lo hi)) H
theorem scWhole : FnScope ["thing", "low", "high"] ["thing", "low", "high"] (defScope sWhole) := ⟨rfl, rfl, rfl, by decide +kernel, rfl, by decide +kernel, by decide +kernel⟩
theorem ok_whole {f : Addr} {fd : FuncData} (F : Fun K "is_whole" "is_whole" sWhole f fd) (m : mg "is_whole" = some (.ref f)) (T : Bl mg) (B : Bm mg) : HasF P w K mg base "is_whole" 1 ["thing", "low", "high"] spWhole := by
  refine ⟨f, fd, ?_, m, F.kp, F.binds fun _ _ _ _ _ _ us hl => match us, hl with | [_, _, _], _ => rfl⟩
  refine F.ok scWhole (fun vs H Q E h => ?_) (fun cdv A outer s H vs Q E hr h => ?_)
  · obtain ⟨a, b, c, d, rfl, _⟩ := h
    rfl
  · obtain ⟨x, n, lo, hi, rfl, hk, k⟩ := h
    refine ⟨_, pss_one (ps_ret (pe_and (pe_callB call_isi (by rfl) B.isinstance (by decide +kernel) (pa_cons (pv 0) (pa_cons (pe_bltn (v := .ty "int") (by rfl) T.int (by decide +kernel) rfl) pa_nil))) (pe_and (pe_not (pe_callB call_isi (by rfl) B.isinstance (by decide +kernel) (pa_cons (pv 0) (pa_cons (pe_bltn (v := .ty "bool") (by rfl) B.bool (by decide +kernel) rfl) pa_nil)))) (pe_one (pe_chain op_le op_le (pv 1) (pv 0) (pv 2)))))), ?_⟩
    refine ⟨_, rfl, x, _, _, _, _, rfl, .ty _, hk.ty, kit_ty (kit_int hk.kits), _, rfl, ?_⟩
    cases hk with
    | int i =>
      refine iteT ⟨_, rfl, .int i, _, _, _, _, rfl, .ty _, (Kd.int (H := H) i).ty, kit_ty (kit_bool (Kd.int (H := H) i).kits), _, rfl, _, rfl, ?_⟩
      refine iteT ⟨_, rfl, _, rfl, _, _, rfl, rfl, _, rfl, ?_⟩
      refine ite2 (fun h1 => ?_) (fun h1 => ?_)
      · have h1 : lo ≤ i := of_decide_eq_true h1
        refine ⟨_, rfl, _, _, rfl, rfl, ?_⟩
        have e : wholeV (.int i) lo hi = decide (i ≤ hi) := by simp [wholeV, h1]
        rw [e] at k
        exact k
      · have h1 : ¬ lo ≤ i := fun z => h1 (decide_eq_true z)
        have e : wholeV (.int i) lo hi = false := by simp [wholeV, h1]
        rw [e] at k
        exact k
    | bl b =>
      refine iteT ⟨_, rfl, .bl b, _, _, _, _, rfl, .ty _, (Kd.bl (H := H) b).ty, kit_ty (kit_bool (Kd.bl (H := H) b).kits), _, rfl, _, rfl, ?_⟩
      exact iteF k
    | non => exact iteF k
    | str z => exact iteF k
    | lst a xs h => exact iteF k
    | tup a xs h => exact iteF k
    | dct a xs h => exact iteF k
/-! labels -/
def isLow (c : Nat) : Bool := decide (97 ≤ c) && decide (c ≤ 122)
def isLab (z : Str) : Bool := decide (1 ≤ z.length) && (decide (z.length ≤ 6) && z.cps.toList.all isLow)
def labV (x : V) : Bool := match x with
  | .str z => isLab z
  | _ => false
theorem low_alpha : ∀ n : Fin 128, isLow n.1 = (Unicode.isAlpha n.1 && !(Unicode.isUpper n.1 || Unicode.isTitle n.1)) := by decide +kernel
theorem low_lower : ∀ n : Fin 128, isLow n.1 = true → Unicode.isLower n.1 = true := by decide +kernel
theorem low_small {c : Nat} (h : isLow c = true) : c < 128 := by
  simp only [isLow, Bool.and_eq_true, decide_eq_true_eq] at h
  omega
theorem three (z : Str) (h : 1 ≤ z.length) : (PySem.Txt.isascii z && (PySem.Txt.isalpha z && PySem.Txt.islower z)) = z.cps.toList.all isLow := by
  have hl : z.cps.toList.length = z.length := by simp [Str.length]
  unfold PySem.Txt.isascii PySem.Txt.isalpha PySem.Txt.islower
  rw [← Array.all_toList, ← Array.all_toList, ← Array.any_toList, ← Array.any_toList]
  generalize z.cps.toList = l at hl
  cases e : l.all isLow with
  | true =>
    rw [List.all_eq_true] at e
    have a1 : l.all (fun c => decide (c < 128)) = true := List.all_eq_true.mpr fun c hc => decide_eq_true (low_small (e c hc))
    have a2 : l.all Unicode.isAlpha = true := List.all_eq_true.mpr fun c hc => by
      have q := low_alpha ⟨c, low_small (e c hc)⟩
      rw [show isLow c = true from e c hc] at q
      exact (Bool.and_eq_true_iff.mp q.symm).1
    have a3 : l.any Unicode.isLower = true := by
      cases l with
      | nil => simp only [List.length_nil] at hl; omega
      | cons c l => exact List.any_eq_true.mpr ⟨c, List.mem_cons_self, low_lower ⟨c, low_small (e c List.mem_cons_self)⟩ (e c List.mem_cons_self)⟩
    have a4 : (l.any fun c => Unicode.isUpper c || Unicode.isTitle c) = false := List.any_eq_false.mpr fun c hc => by
      have q := low_alpha ⟨c, low_small (e c hc)⟩
      rw [show isLow c = true from e c hc] at q
      have q2 := (Bool.and_eq_true_iff.mp q.symm).2
      intro z
      rw [z] at q2
      cases q2
    rw [a1, a2, a3, a4]
    have h' : decide (z.length > 0) = true := decide_eq_true (by omega)
    rw [h']
    rfl
  | false =>
    obtain ⟨c, hc, hn⟩ := List.all_eq_false.mp e
    cases a1 : l.all (fun c => decide (c < 128)) with
    | false => rfl
    | true =>
      cases a2 : l.all Unicode.isAlpha with
      | false => simp
      | true =>
        have b1 : c < 128 := of_decide_eq_true (List.all_eq_true.mp a1 c hc)
        have b2 : Unicode.isAlpha c = true := List.all_eq_true.mp a2 c hc
        have q := low_alpha ⟨c, b1⟩
        simp only [b2, Bool.true_and] at q
        have q1 : isLow c = false := by
          cases z : isLow c
          · rfl
          · exact absurd z hn
        rw [q1] at q
        have a4 : (l.any fun c => Unicode.isUpper c || Unicode.isTitle c) = true := List.any_eq_true.mpr ⟨c, hc, by
          cases z : (Unicode.isUpper c || Unicode.isTitle c)
          · rw [z] at q; cases q
          · rfl⟩
        rw [a4]
        simp
def spLabel : Sp := fun vs H Q _ => ∃ (x : V) (n : String), vs = [x] ∧ Kd H x n ∧ (∀ z, x = .str z → z.length ≤ sizeLine) ∧ Q (.bl (labV x)) H
theorem scLabel : FnScope ["thing"] ["thing"] (defScope sLabel) := ⟨rfl, rfl, rfl, by decide +kernel, rfl, by decide +kernel, by decide +kernel⟩
theorem ok_label {f : Addr} {fd : FuncData} (F : Fun K "is_label" "is_label" sLabel f fd) (m : mg "is_label" = some (.ref f)) (T : Bl mg) (B : Bm mg) : HasF P w K mg base "is_label" 1 ["thing"] spLabel := by
  refine ⟨f, fd, ?_, m, F.kp, F.binds fun _ _ _ _ _ _ us hl => match us, hl with | [_], _ => rfl⟩
  obtain ⟨tL, mL⟩ := B.longest
  refine F.ok scLabel (fun vs H Q E h => ?_) (fun cdv A outer s H vs Q E hr h => ?_)
  · obtain ⟨a, b, rfl, _⟩ := h
    rfl
  · obtain ⟨x, n, rfl, hk, hz, k⟩ := h
    refine ⟨_, pss_cons (ps_if (PW.pt (pw_or (pt_not (pt_val (pe_callB call_isi (by rfl) B.isinstance (by decide +kernel) (pa_cons (pv 0) (pa_cons (pe_bltn (v := .ty "str") (by rfl) B.str (by decide +kernel) rfl) pa_nil))))) (pw_or1 (pt_not (pt_chain op_le op_le pe_int (pe_callB call_len_str (by rfl) T.len PySem.boot_len (pa_cons (pv 0) pa_nil)) (pe_glob (v := .int 6) rfl mL ⟨_, rfl⟩)))))) (pss_one (ps_ret pe_bl)) pss_nil)
      (pss_one (ps_ret (pe_and (pe_m0 PySem.F.slot_str_isascii PySem.F.type_str_isascii mt_isascii (pv 0)) (pe_and (pe_m0 PySem.F.slot_str_isalpha PySem.F.type_str_isalpha mt_isalpha (pv 0)) (pe_one (pe_m0 PySem.F.slot_str_islower PySem.F.type_str_islower mt_islower (pv 0))))))), ?_⟩
    refine ⟨_, rfl, x, _, _, _, _, rfl, .ty _, hk.ty, kit_ty (kit_str hk.kits), _, rfl, ?_⟩
    cases hk with
    | str z =>
      have hz := hz z rfl
      refine iteF ?_
      refine ⟨_, rfl, z, rfl, hz, _, _, rfl, rfl, _, rfl, ?_⟩
      refine ite2 (fun h1 => ?_) (fun h1 => ?_)
      · have h1 : (1 : Int) ≤ (z.length : Nat) := of_decide_eq_true h1
        have h1' : 1 ≤ z.length := by omega
        refine ⟨_, _, rfl, rfl, _, rfl, ?_⟩
        refine ite2 (fun h2 => ?_) (fun h2 => ?_)
        · have h2 : ¬ (z.length : Int) ≤ 6 := fun e => by rw [decide_eq_true e] at h2; cases h2
          have e : labV (.str z) = false := by
            show isLab z = false
            unfold isLab
            rw [decide_eq_false (show ¬ z.length ≤ 6 by omega), Bool.false_and, Bool.and_false]
          rw [e] at k
          exact k
        · have h2 : (z.length : Int) ≤ 6 := Classical.byContradiction fun e => h2 (by rw [decide_eq_false e]; rfl)
          have e : labV (.str z) = (PySem.Txt.isascii z && (PySem.Txt.isalpha z && PySem.Txt.islower z)) := by
            rw [three z h1']
            show isLab z = _
            unfold isLab
            rw [decide_eq_true h1', decide_eq_true (show z.length ≤ 6 by omega), Bool.true_and, Bool.true_and]
          rw [e] at k
          refine ⟨_, rfl, ⟨_, rfl⟩, _, rfl, rfl, trivial, _, rfl, ?_⟩
          cases e1 : PySem.Txt.isascii z with
          | false => rw [e1] at k; exact iteF k
          | true =>
            rw [e1, Bool.true_and] at k
            refine iteT ⟨_, rfl, ⟨_, rfl⟩, _, rfl, rfl, trivial, _, rfl, ?_⟩
            cases e2 : PySem.Txt.isalpha z with
            | false => rw [e2] at k; exact iteF k
            | true =>
              rw [e2, Bool.true_and] at k
              exact iteT ⟨_, rfl, ⟨_, rfl⟩, _, rfl, rfl, trivial, k⟩
      · have h1 : ¬ (1 : Int) ≤ (z.length : Nat) := fun e => h1 (decide_eq_true e)
        have e : labV (.str z) = false := by
          show isLab z = false
          unfold isLab
          rw [decide_eq_false (show ¬ 1 ≤ z.length by omega), Bool.false_and]
        rw [e] at k
        exact ⟨_, rfl, iteT k⟩
    | int i => exact iteT k
    | bl b => exact iteT k
    | non => exact iteT k
    | lst a xs h => exact iteT k
    | tup a xs h => exact iteT k
    | dct a xs h => exact iteT k
def seqV (n : String) : Bool := n == "list" || n == "tuple"
def spSeq : Sp := fun vs H Q _ => ∃ (x : V) (n : String), vs = [x] ∧ Kd H x n ∧ ∀ H', Same H H' → Q (.bl (seqV n)) H'
theorem scSeq : FnScope ["thing"] ["thing"] (defScope sSeq) := ⟨rfl, rfl, rfl, by decide +kernel, rfl, by decide +kernel, by decide +kernel⟩
theorem kit_seq {K : PySem.W.Frag} {n : String} (h : n ∈ ["NoneType", "bool", "int", "str", "list", "tuple", "dict"]) : PySem.W.kitAny K (.type n) [.type "list", .type "tuple"] = some (seqV n) := by
  refine kitAny_cons (kit_ty (kit_list h)) (fun e => kitAny_cons (kit_ty (kit_tuple h)) (fun e2 => ?_) (fun e2 => ?_)) (fun e => ?_)
  · unfold seqV; rw [e, e2]; exact kitAny_nil
  · unfold seqV; rw [e, e2]; rfl
  · unfold seqV; rw [e]; rfl
theorem Kd.keep {H H' : Hp} {x : V} {n : String} (k : Kd H x n) (s : Same H H') : Kd H' x n := by
  cases k with
  | non => exact .non
  | bl b => exact .bl b
  | int i => exact .int i
  | str z => exact .str z
  | lst a xs h => exact .lst a xs (s _ _ h)
  | tup a xs h => exact .tup a xs (s _ _ h)
  | dct a xs h => exact .dct a xs (s _ _ h)
theorem ok_seq {f : Addr} {fd : FuncData} (F : Fun K "is_sequence" "is_sequence" sSeq f fd) (m : mg "is_sequence" = some (.ref f)) (B : Bm mg) : HasF P w K mg base "is_sequence" 1 ["thing"] spSeq := by
  refine ⟨f, fd, ?_, m, F.kp, F.binds fun _ _ _ _ _ _ us hl => match us, hl with | [_], _ => rfl⟩
  refine F.ok scSeq (fun vs H Q E h => ?_) (fun cdv A outer s H vs Q E hr h => ?_)
  · obtain ⟨a, b, rfl, _⟩ := h
    rfl
  · obtain ⟨x, n, rfl, hk, k⟩ := h
    refine ⟨_, pss_one (ps_ret (pe_callB call_isiT (by rfl) B.isinstance (by decide +kernel) (pa_cons (pv 0) (pa_cons (pe_tup (pa_cons (pe_bltn (v := .ty "list") (by rfl) B.list (by decide +kernel) rfl) (pa_cons (pe_bltn (v := .ty "tuple") (by rfl) B.tuple (by decide +kernel) rfl) pa_nil))) pa_nil)))), ?_⟩
    refine ⟨_, rfl, by decide, fun t ht => ?_⟩
    exact ⟨x, t, _, _, _, _, rfl, upd_same, .cons (.ty _) (.cons (.ty _) .nil), (hk.keep (sameUpd (Same.refl _) ht)).ty, kit_seq hk.kits, k _ (sameUpd (Same.refl _) ht)⟩
def cV (c : Nat) : V := .str (SX.S [c])
theorem map_cV (l : List Nat) : l.map cV = (l.map fun c => SX.S [c]).map V.str := by rw [List.map_map]; rfl
theorem keepUpd {H H1 : Hp} {p a : Addr} {o : HO} (k : Keep H H1 p) (h : H a = none) : Keep H (upd H1 a o) p := fun b u e ne => by
  rw [upd_ne (ne_of_none e h)]
  exact k b u e ne
theorem HandAt.upd {H : Hp} {p q a : Addr} {o : HO} (h : HandAt H p q) (n1 : a ≠ p) (n2 : a ≠ q) : HandAt (upd H a o) p q := by
  obtain ⟨cs, x, b, c, h1, h2⟩ := h
  exact ⟨cs, x, b, c, by rw [upd_ne n1.symm]; exact h1, by rw [upd_ne n2.symm]; exact h2⟩
theorem HandAt.ap {H : Hp} {p q a : Addr} (h : HandAt H p q) (ha : H a = none) : a ≠ p := by
  obtain ⟨cs, x, b, c, h1, h2⟩ := h
  exact (ne_of_none h1 ha).symm
theorem HandAt.aq {H : Hp} {p q a : Addr} (h : HandAt H p q) (ha : H a = none) : a ≠ q := by
  obtain ⟨cs, x, b, c, h1, h2⟩ := h
  exact (ne_of_none h2 ha).symm
theorem HandAt.same {H H' : Hp} {p q : Addr} (h : HandAt H p q) (s : Same H H') : HandAt H' p q := by
  obtain ⟨cs, x, b, c, h1, h2⟩ := h
  exact ⟨cs, x, b, c, s _ _ h1, s _ _ h2⟩
theorem Same.keep {H H' : Hp} {p : Addr} (s : Same H H') : Keep H H' p := fun b o e _ => s b o e
/-- texts as data -/
def dS (ys : List Str) : List PyData := ys.map PyData.str
theorem dp_strs {K : PySem.W.Frag} {H : Hp} : ∀ ys : List Str, DpAll K H (ys.map V.str) (dS ys)
  | [] => .nil
  | y :: ys => .cons (.str y) (dp_strs ys)
def Ok (ys : List Str) : Prop := ∀ y ∈ ys, PyData.strOk y = true
theorem low_ok {z : Str} (h : Low z) : PyData.strOk z = true := by
  unfold PyData.strOk
  rw [← Array.all_toList]
  exact List.all_eq_true.mpr fun c hc => decide_eq_true (by have := h c hc; omega)
theorem lay_strs {ys : List Str} (h : Ok ys) : PyData.canLayAll0 (dS ys) = true := by
  unfold dS
  rw [PyProof.Rows.canLayAll_strs']
  exact List.all_eq_true.mpr h
theorem deep_strs : ∀ ys : List Str, PyData.depthAll (dS ys) ≤ 1
  | [] => Nat.zero_le _
  | y :: ys => by
    have ih := deep_strs ys
    show max (PyData.depth (.str y)) (PyData.depthAll (dS ys)) ≤ 1
    have e : PyData.depth (.str y) = 0 := rfl
    omega
theorem shaped_list {ys : List Str} (ok : Ok ys) : SeqAt.shaped (.list (dS ys)) = true := by
  have h := lay_strs ok
  have h2 := deep_strs ys
  have h3 : PyData.depth (.list (dS ys)) ≤ 64 := by
    show PyData.depthAll (dS ys) + 1 ≤ 64
    omega
  unfold SeqAt.shaped
  rw [decide_eq_true h3, Bool.and_true]
  exact h
/-- a comprehension over a text's signs -/
theorem lc_str {z : Str} {g : TG} {tt : TT} {te : TE} {vs : List Nat} {σ : St} {H1 : Hp} {D : Addr} {Qd : Hp → Prop} (W : Nat → Hp → Prop) (start : W 0 (upd H1 D (.lst [])))
    (turn : ∀ i c H, z.cps[i]? = some c → W i H → g (.str ⟨#[c]⟩) (wipe σ vs) H fun σ2 H2 => wipe σ2 vs = wipe σ vs ∧ tt σ2 H2 fun b H3 =>
      if b = true then te σ2 H3 fun y H4 => ∃ acc, H4 D = some (.lst acc) ∧ acc.length < sizeLine ∧ W (i + 1) (upd H4 D (.lst (acc ++ [y]))) else W (i + 1) H3) (after : ∀ H, W z.cps.size H → Qd H) :
    ∃ U : Nat → Nat → Hp → Prop, (∃ m, U 0 m (upd H1 D (.lst []))) ∧ ∀ i m H, U i m H → ((Its z).stop i H ∧ Qd H) ∨ ((Its z).go i H ∧ ∃ Nx : Hp → Prop, (∀ H', Nx H' → ∃ m', m' < m ∧ U (i + 1) m' H') ∧
      ∀ x H', (Its z).yld i H x H' → g x (wipe σ vs) H' fun σ2 H2 => wipe σ2 vs = wipe σ vs ∧ tt σ2 H2 fun b H3 => if b = true then te σ2 H3 fun y H4 => ∃ acc, H4 D = some (.lst acc) ∧ acc.length < sizeLine ∧ Nx (upd H4 D (.lst (acc ++ [y]))) else Nx H3) := by
  refine ⟨fun i m H => m + i = z.cps.size ∧ W i H, ⟨z.cps.size, by omega, start⟩, fun i m H u => ?_⟩
  obtain ⟨e, u⟩ := u
  cases m with
  | zero =>
    obtain rfl : i = z.cps.size := by omega
    exact .inl ⟨Nat.le_refl _, after _ u⟩
  | succ m =>
    have lt : i < z.cps.size := by omega
    refine .inr ⟨lt, W (i + 1), fun H' u' => ⟨m, Nat.lt_succ_self _, by omega, u'⟩, fun x H' y => ?_⟩
    obtain ⟨rfl, c, hc, rfl⟩ := y
    exact turn i c _ hc u
def spLLab : Sp := fun vs H Q _ => ∃ (x : V) (n : String), vs = [x] ∧ Kd H x n ∧ (∀ z, x = .str z → PyData.strOk z = true ∧ z.length ≤ 900) ∧ ∀ H', Same H H' → Q (.bl (labV x)) H'
theorem eqv_nil : ∀ ys : List Str, PyData.eqv (.list (dS ys)) (.list []) = ys.isEmpty
  | [] => rfl
  | y :: ys => rfl
/-- the signs that are no letters from a to z -/
def bad (l : List Nat) : List Nat := l.filter fun c => !isLow c
theorem bad_nil (l : List Nat) : (bad l).isEmpty = l.all isLow := by
  unfold bad
  induction l with
  | nil => rfl
  | cons c l ih =>
    rw [List.filter_cons, List.all_cons, ← ih]
    cases isLow c <;> rfl
theorem abc_in : ∀ c, decide (c ∈ (Str.ofString "abcdefghijklmnopqrstuvwxyz").cps.toList) = isLow c := fun c => by
  have e : (Str.ofString "abcdefghijklmnopqrstuvwxyz").cps.toList = (List.range 26).map (97 + ·) := by decide +kernel
  rw [e]
  unfold isLow
  by_cases h : c ∈ (List.range 26).map (97 + ·)
  · obtain ⟨j, hj, rfl⟩ := List.mem_map.mp h
    have := List.mem_range.mp hj
    rw [decide_eq_true h, decide_eq_true (show 97 ≤ 97 + j by omega), decide_eq_true (show 97 + j ≤ 122 by omega)]
    rfl
  · rw [decide_eq_false h]
    by_cases h1 : 97 ≤ c
    · have h2 : ¬ c ≤ 122 := fun h2 => h (List.mem_map.mpr ⟨c - 97, List.mem_range.mpr (by omega), by omega⟩)
      rw [decide_eq_false h2, Bool.and_false]
    · rw [decide_eq_false h1, Bool.false_and]
theorem scLLabel : FnScope ["_law_thing", "_law_sign"] ["_law_thing"] (defScope sLLabel) := ⟨rfl, rfl, rfl, by decide +kernel, rfl, by decide +kernel, by decide +kernel⟩
theorem ok_llab {f : Addr} {fd : FuncData} (F : Fun K "_law_label" "_law_label" sLLabel f fd) (m : mg "_law_label" = some (.ref f)) (T : Bl mg) (B : Bm mg) : HasF P w K mg base "_law_label" 1 ["_law_thing"] spLLab := by
  refine ⟨f, fd, ?_, m, F.kp, F.binds fun _ _ _ _ _ _ us hl => match us, hl with | [_], _ => rfl⟩
  refine F.ok scLLabel (fun vs H Q E h => ?_) (fun cdv A outer s H vs Q E hr h => ?_)
  · obtain ⟨a, b, rfl, _⟩ := h
    rfl
  · obtain ⟨x, n, rfl, hk, hz, k⟩ := h
    refine ⟨_, pss_cons (ps_if (PW.pt (pw_or (pt_not (pt_val (pe_callB call_isi (by rfl) B.isinstance (by decide +kernel) (pa_cons (pv 0) (pa_cons (pe_bltn (v := .ty "str") (by rfl) B.str (by decide +kernel) rfl) pa_nil))))) (pw_or1 (pt_not (pt_chain op_le op_le pe_int (pe_callB call_len_str (by rfl) T.len PySem.boot_len (pa_cons (pv 0) pa_nil)) pe_int))))) (pss_one (ps_ret pe_bl)) pss_nil)
      (pss_one (ps_ret (pe_cmpR (op_eqD hr.units) (pe_lc (own := [("_law_sign", 1)]) (g := gName 1) (by rfl) scLLabel.nd (pi_str (pv 0)) (blkOk_by (own := [("_law_sign", 1)]) (N := ["_law_thing", "_law_sign"]) (sc := defScope sLLabel) (by decide +kernel))
          (fun _ _ _ _ _ => pg_name (i := 1) scLLabel.nd rfl (Or.inl rfl)) (fun _ _ _ _ _ => pts_one (pt_cmpR op_notIn_sign (pv 1) pe_str (by rfl))) (fun _ _ _ _ _ => pv 1)) (pe_lst pa_nil) (nomark _)))), ?_⟩
    refine ⟨_, rfl, x, _, _, _, _, rfl, .ty _, hk.ty, kit_ty (kit_str hk.kits), _, rfl, ?_⟩
    cases hk with
    | str z =>
      obtain ⟨hok, hz⟩ := hz z rfl
      refine iteF ?_
      refine ⟨_, rfl, z, rfl, Nat.le_of_lt (small1000 (by omega)), _, _, rfl, rfl, _, rfl, ?_⟩
      refine ite2 (fun h1 => ?_) (fun h1 => ?_)
      · have h1 : (1 : Int) ≤ (z.length : Nat) := of_decide_eq_true h1
        have h1' : 1 ≤ z.length := by omega
        refine ⟨_, _, rfl, rfl, _, rfl, ?_⟩
        refine ite2 (fun h2 => ?_) (fun h2 => ?_)
        · have h2 : ¬ (z.length : Int) ≤ 6 := fun e => by rw [decide_eq_true e] at h2; cases h2
          have e : labV (.str z) = false := by
            show isLab z = false
            unfold isLab
            rw [decide_eq_false (show ¬ z.length ≤ 6 by omega), Bool.false_and, Bool.and_false]
          rw [e] at k
          exact k H (Same.refl _)
        · have h2 : (z.length : Int) ≤ 6 := Classical.byContradiction fun e => h2 (by rw [decide_eq_false e]; rfl)
          have e : labV (.str z) = z.cps.toList.all isLow := by
            show isLab z = _
            unfold isLab
            rw [decide_eq_true h1', decide_eq_true (show z.length ≤ 6 by omega), Bool.true_and, Bool.true_and]
          rw [e] at k
          have tk : ∀ i c, z.cps[i]? = some c → bad (z.cps.toList.take (i + 1)) = bad (z.cps.toList.take i) ++ (if isLow c then [] else [c]) := fun i c hc => by
            unfold bad
            rw [List.take_add_one, Array.getElem?_toList, hc, List.filter_append]
            cases q : isLow c <;> simp [q]
          have sz : z.cps.toList.take z.cps.size = z.cps.toList := by rw [List.take_of_length_le (by simp)]
          refine ⟨_, rfl, z, rfl, fun D hD => lc_str (z := z) (fun i H3 => Same H H3 ∧ H3 D = some (.lst ((bad (z.cps.toList.take i)).map cV))) ⟨sameUpd (Same.refl _) hD, upd_same⟩ ?_ ?_⟩
          · rintro i c H3 hc ⟨s3, hd⟩
            have hi : i < z.cps.size := (Array.getElem?_eq_some_iff.mp hc).1
            have hz2 : z.cps.size = z.length := rfl
            have t := tk i c hc
            refine ⟨rfl, _, rfl, c, _, rfl, rfl, _, rfl, ?_⟩
            rw [abc_in]
            cases q : isLow c with
            | true =>
              rw [q] at t
              refine (if_neg (by decide)).mpr ⟨s3, ?_⟩
              rw [t]
              exact hd.trans (by simp)
            | false =>
              rw [q] at t
              refine (if_pos (by decide)).mpr ⟨_, rfl, _, hd, small1000 ?_, ?_, ?_⟩
              · rw [List.length_map]
                have l1 : (bad (z.cps.toList.take i)).length ≤ (z.cps.toList.take i).length := List.length_filter_le _ _
                rw [List.length_take] at l1
                omega
              · intro b u e
                rw [upd_ne (ne_of_none e hD)]
                exact s3 b u e
              · rw [upd_same, t]
                simp [cV]
          · rintro H3 ⟨s3, hd⟩
            rw [sz] at hd
            refine ⟨by decide, fun p hp => ?_⟩
            have npd : D ≠ p := ne_of_none hd hp
            have ok : Ok ((bad z.cps.toList).map fun c => SX.S [c]) := fun y hy => by
              obtain ⟨c, hc, rfl⟩ := List.mem_map.mp hy
              have hc2 : c ∈ z.cps.toList := (List.mem_filter.mp hc).1
              unfold PyData.strOk at hok ⊢
              rw [← Array.all_toList] at hok
              have := List.all_eq_true.mp hok c hc2
              simpa using this
            refine ⟨.list (dS ((bad z.cps.toList).map fun c => SX.S [c])), .list [], .lst (SqL.of (xs := ((bad z.cps.toList).map fun c => SX.S [c]).map V.str) (by rw [upd_ne npd, ← map_cV]; exact hd)) (dp_strs _), .lst (SqL.of upd_same) .nil, shaped_list ok, by decide, ?_⟩
            rw [eqv_nil]
            have e2 : ((bad z.cps.toList).map fun c => SX.S [c]).isEmpty = z.cps.toList.all isLow := by rw [List.isEmpty_map, bad_nil]
            rw [e2]
            exact k _ (sameUpd s3 hp)
      · have h1 : ¬ (1 : Int) ≤ (z.length : Nat) := fun e => h1 (decide_eq_true e)
        have e : labV (.str z) = false := by
          show isLab z = false
          unfold isLab
          rw [decide_eq_false (show ¬ 1 ≤ z.length by omega), Bool.false_and]
        rw [e] at k
        exact ⟨_, rfl, iteT (k H (Same.refl _))⟩
    | int i => exact iteT (k H (Same.refl _))
    | bl b => exact iteT (k H (Same.refl _))
    | non => exact iteT (k H (Same.refl _))
    | lst a xs h => exact iteT (k H (Same.refl _))
    | tup a xs h => exact iteT (k H (Same.refl _))
    | dct a xs h => exact iteT (k H (Same.refl _))
def Fine (z : Str) : Prop := PyData.strOk z = true ∧ z.length ≤ 40
theorem fine_up {z : Str} (h : Low z) (l : z.length ≤ 20) : Fine (PySem.Txt.upper z) := by
  have a : ∀ c ∈ z.cps.toList, c < 128 := fun c hc => by have := h c hc; omega
  rw [PyProof.Rows.upper_ascii a]
  refine ⟨?_, ?_⟩
  · unfold PyData.strOk
    rw [← Array.all_toList, Array.toList_map, List.all_map]
    refine List.all_eq_true.mpr fun c hc => decide_eq_true ?_
    have h1 := h c hc
    show PyProof.Rows.up1 c < 0x110000
    unfold PyProof.Rows.up1
    split <;> omega
  · show (z.cps.map _).size ≤ 40
    rw [Array.size_map]
    have e : z.cps.size = z.length := rfl
    omega
theorem none2 {H : Hp} {a b : Addr} {o : HO} (h : upd H a o b = none) : H b = none ∧ b ≠ a := by
  have n : b ≠ a := fun e => by rw [e, upd_same] at h; cases h
  rw [upd_ne n] at h
  exact ⟨h, n⟩
theorem fine_low {z : Str} (h : Low z) (l : z.length ≤ 20) : Fine z := ⟨low_ok h, by omega⟩
theorem fine_app {a b : Str} (h : Fine a) (l : a.length ≤ 20) (hb : PyData.strOk b = true) (lb : b.length ≤ 20) : Fine (a ++ b) := by
  refine ⟨?_, by rw [len_app]; omega⟩
  have h1 := h.1
  unfold PyData.strOk at h1 hb ⊢
  rw [← Array.all_toList] at h1 hb ⊢
  rw [cps_app, List.all_append, h1, hb]
  rfl
end
end Kx

set_option maxHeartbeats 4000000
namespace Kx
open PySem PySem.Spec PyProof.Rows L2
/-! enumerate of a tuple -/
theorem meets_enum1 {v : Value} {o : Obj} {H : Heap → Prop} (B : Begins v o H) : Meets (Builtin.«enumerate.__new__» ⟨[.type "enumerate", v], []⟩) (fun _ R s => H s.heap ∧
    R (.ok (.ret (.ref (s.heap.push o).objs.size))) { s with heap := (s.heap.push o).push { cls := .type "enumerate", data := .fields #[.none, .bool false, .ref s.heap.objs.size, rawInt 0, .none, .none] } }) :=
  .of_wp fun prog w A R s got => by
    obtain ⟨hp, g, d, tk, os⟩ := s
    obtain ⟨there, got⟩ := got
    have sub := sub_enumerate
    have step : ∀ {A' : Around} {E : Value → Shared → Prop} {Q : Value → Shared → Prop}, Q (.ref hp.objs.size) ⟨hp.push o, g, d, tk, os⟩ → wpAny (model prog w) A' (pyIter v) Q E ⟨hp, g, d, tk, os⟩ := fun q => B.iter prog w _ _ ⟨hp, g, d, tk, os⟩ _ there q
    wp_walk using step
    refine wpAny_stack_any fun st => wpAny_pure ?_
    split
    · rename_i c _ _ _ _ _
      cases (c == Value.type "enumerate") <;> (wp_walk using step; exact ⟨_, rfl, got⟩)
    · wp_walk using step; exact ⟨_, rfl, got⟩
theorem call_enum1 {prog : Program} {w : World} {A : Around} {E : Value → Shared → Prop} {s : Shared} {v : Value} {o : Obj} {H : Heap → Prop} {Q : Value → Shared → Prop} (B : Begins v o H) (there : H s.heap)
    (next : ∀ h', IsEnum h' (s.heap.objs.size + 1) s.heap.objs.size 0 .none → h'.get? s.heap.objs.size = some o → (∀ b o, s.heap.get? b = some o → h'.get? b = some o) → Q (.ref (s.heap.objs.size + 1)) { s with heap := h' }) :
    wpAny (model prog w) A (call (.type "enumerate") [v]) Q E s := by
  refine callType_new F.called_enumerate (by decide) (F.typeCall_enumerate_1 _) (F.newCall_enumerate_1 _) (fun obj => F.args_object_init_2 obj _) F.entry_enumerate_new (meets_enum1 B) ⟨there, ?_⟩
  have z : (s.heap.push o).objs.size = s.heap.objs.size + 1 := Heap.size_push ..
  show _ ∧ _
  rw [z]
  have he : IsEnum ((s.heap.push o).push { cls := .type "enumerate", data := .fields #[.none, .bool false, .ref s.heap.objs.size, rawInt 0, .none, .none] }) (s.heap.objs.size + 1) s.heap.objs.size 0 .none := by
    have q := Heap.get?_push_size (s.heap.push o) (o := { cls := .type "enumerate", data := .fields #[.none, .bool false, .ref s.heap.objs.size, rawInt 0, .none, .none] }) rfl
    rw [z] at q
    exact q
  exact ⟨⟨_, he, rfl⟩, next _ he (Heap.get?_push_of_some _ (Heap.get?_push_size _ B.free)) fun b o x => Heap.get?_push_of_some _ (Heap.get?_push_of_some _ x)⟩
/-- the tuple at a, each item in a new pair -/
def IteT (K : PySem.W.Frag) (a : Addr) : It :=
  ⟨fun i H => ∃ (xs : List V) (x : V), SqT K H a xs ∧ xs[i]? = some x, fun i H v H' => ∃ T x, v = .ref T ∧ H T = none ∧ H' = upd H T (.tup [.int (i : Nat), x]) ∧ ∀ xs, SqT K H a xs → xs[i]? = some x, fun i H => ∃ xs : List V, SqT K H a xs ∧ xs.length = i⟩
theorem turn_enumT {P : Program} {w : World} {K : PySem.W.Frag} {elts : List Expr} {kk : Nat} {tpos : Pos} (a e it : Addr) :
    Turn P w K (.Tuple elts kk tpos) (IteT K a) [e, it] e (fun i h => (∃ old, IsEnum h e it ((i : Nat) : Int) old) ∧ h.IsTupleIter it a i ∧ e ≠ it ∧ a ≠ it ∧ a ≠ e) where
  mem := by simp
  obj := fun i h st b hb => by
    obtain ⟨⟨old, he⟩, ⟨o, ho, hc, hd⟩, _⟩ := st
    have e' : b = e ∨ b = it := by simpa using hb
    rcases e' with z | z <;> rw [z]
    · exact ⟨_, he, fun v q => nomatch q⟩
    · exact ⟨o, ho, fun v q => by rw [hd] at q; cases q⟩
  keep := fun i h h' st k => let ⟨⟨old, he⟩, hi, r⟩ := st; ⟨⟨old, k e (by simp) _ he⟩, hi.at fun o q => k it (by simp) o q, r⟩
  item := by
    rintro X rfl rfl rfl hc i pins s σ H E I hf ⟨⟨old, he⟩, hit, hne, hai, hae⟩ ⟨xs, x, hq, hx⟩
    obtain ⟨its, rv, p, hz⟩ := I.tuple hq
    obtain ⟨u, hu, ru⟩ := rv.get hx
    have hel : e < s.heap.objs.size := Heap.lt_size he
    have hil : it < s.heap.objs.size := by obtain ⟨_, q, _⟩ := hit; exact Heap.lt_size q
    have lt : i < its.toArray.size := by simpa using (List.getElem?_eq_some_iff.mp hu).1
    have D := Draws.tuple (prog := X.prog) (w := X.w) (A := X.A.in1) (I.ok.hd hc) it a hai its.toArray
    refine wpAny_pyNext_enum_itemC D he ⟨hit, p⟩ lt hne (by simp [hne, hae.symm]) fun v h' tk hv ho st' hT hsz hk => ?_
    obtain rfl : v = u := by
      have q : its.toArray[i]? = some v := hv
      rw [List.getElem?_toArray, hu] at q
      exact (Option.some.inj q).symm
    refine ⟨_, rfl, wpAny_letOwnedTupleGo_enum (s := { s with heap := h', toks := tk + 1 }) ho fun h'' he' sb => ?_⟩
    have hT2 : h''.get? s.heap.objs.size = some { cls := .type "tuple", data := .seq #[.int i tk, v] } := (sb.2 _ (Nat.ne_of_gt hel)).trans hT
    have new : ObjOk X.prog X.w (upd H s.heap.objs.size (.tup [.int (i : Nat), x])) h'' s.heap.objs.size (.tup [.int (i : Nat), x]) := ⟨by show 2 ≤ sizeLine; decide, [.int i tk, v], .cons ⟨_, rfl⟩ (.cons ru .nil), ⟨_, hT2, rfl, _, rfl⟩⟩
    have I1 : Inv X pins σ (upd H s.heap.objs.size (.tup [.int (i : Nat), x])) { s with heap := h'', toks := tk + 1 } :=
      I.turnedNew (ch := [e, it]) (fun b ob hb q => (sb.2 b (fun z => hb (by simp [z]))).trans (hk b ob (fun z => hb (by simp [z])) (fun z => hb (by simp [z])) q)) hf (Nat.le_refl _) new
    refine ⟨.ref s.heap.objs.size, _, I1, rfl, ⟨_, x, rfl, I.hok.fresh (Nat.le_refl _), rfl, fun ys hy => ?_⟩, ⟨⟨v, he'⟩, st'.1.at fun o q => (sb.2 it (Ne.symm hne)).trans q, hne, hai, hae⟩, fun b hb => ?_⟩
    · rw [I.tuple_inj hy hq]
      exact hx
    · have lt : b < s.heap.objs.size := by
        have e' : b = e ∨ b = it := by simpa using hb
        rcases e' with z | z <;> rw [z]
        · exact hel
        · exact hil
      rw [upd_ne (Nat.ne_of_lt lt)]
      exact (hf b hb).1
  done := by
    rintro X rfl rfl rfl hc i pins s σ H E I hf ⟨⟨old, he⟩, hit, hne, hai, hae⟩ ⟨xs, hq, hx⟩
    obtain ⟨its, rv, p, hz⟩ := I.tuple hq
    obtain ⟨f0, f1, f2, f3, f4, f5⟩ := hf it (by simp)
    have hl := rv.length
    have D := Draws.tuple (prog := X.prog) (w := X.w) (A := X.A.in1) (I.ok.hd hc) it a hai its.toArray
    have n : its.toArray.size = i := by rw [List.size_toArray, ← hl, hx]
    rw [n] at D
    exact wpAny_pyNext_enum_endD D he ⟨hit, p⟩ fun h' eb => ⟨rfl, I.turned (t' := s.toks) (fun b o hb q => eb b o hb q) f0 f1 f3 f4 f5⟩
  self := fun A i s Q E st h => let ⟨⟨_, he⟩, _⟩ := st; wpAny_pyIter_enum he h
/-- enumerate of a list or a tuple -/
def iEnumB (K : PySem.W.Frag) (ta : TA) : TI := fun σ H R => ta σ H fun vs H1 => ∃ a xs, vs = [.ref a] ∧ ((SqL K H1 a xs ∧ R (Ite K a) H1) ∨ (SqT K H1 a xs ∧ R (IteT K a) H1))
theorem pi_enumB {X : Cx} {e : Expr} {ta : TA} {p pos tpos : Pos} {elts : List Expr} {kk : Nat} (hg : Gl X "enumerate") (hm : X.mg "enumerate" = none) (ha : PA X [e] ta) (hs : starEach [e] X.env = [(false, eval e X.env)] := by rfl) :
    PI X (.Tuple elts kk tpos) (.Call (.Name "enumerate" p) [e] [] pos) (iEnumB X.K ta) := by
  refine ⟨fun pins s σ H R I h => Call_ (ld_blt I hg hm boot_enumerate (callWith_type1 (thn (ha.run pos pins s σ H _ I h) fun us s1 ⟨vs, H1, I1, r1, q1⟩ => ?_) hs rfl))⟩
  obtain ⟨a, xs, rfl, q⟩ := q1
  rw [Vals.ref1 r1]
  have fresh : ∀ {h' : Heap}, (∀ b o, s1.heap.get? b = some o → h'.get? b = some o) → Inv X pins σ H1 { s1 with heap := h' } := fun hk => I1.kept (t' := s1.toks) hk
  have fp : ∀ b ∈ [s1.heap.objs.size + 1, s1.heap.objs.size], FpOk X pins H1 b := fun b hb => by
    have e' : b = s1.heap.objs.size + 1 ∨ b = s1.heap.objs.size := by simpa using hb
    have le : s1.heap.objs.size ≤ b := by
      rcases e' with z | z <;> rw [z]
      · exact Nat.le_succ _
      · exact Nat.le_refl _
    exact I1.fpOk le (I1.hok.fresh le)
  rcases q with ⟨hq, q⟩ | ⟨hq, q⟩
  · obtain ⟨its, rv, pl, hz⟩ := I1.list hq
    exact call_enumerate_list pl.isList fun h' he hit hsz hk => wpAny_pyIter_enum he ⟨_, _, _, _, H1, rfl, fresh hk, turn_enum a (s1.heap.objs.size + 1) s1.heap.objs.size, ⟨⟨.none, he⟩, hit, Nat.succ_ne_self _⟩, fp, q⟩
  · obtain ⟨its, rv, pl, hz⟩ := I1.tuple hq
    obtain ⟨oa, ho, _⟩ := id pl
    have lt : a < s1.heap.objs.size := Heap.lt_size ho
    exact call_enum1 (begins_tuple a its.toArray) pl fun h' he hit hk => wpAny_pyIter_enum he ⟨_, _, _, _, H1, rfl, fresh hk, turn_enumT a (s1.heap.objs.size + 1) s1.heap.objs.size, ⟨⟨.none, he⟩, ⟨_, hit, rfl, rfl⟩, Nat.succ_ne_self _, Nat.ne_of_lt lt, Nat.ne_of_lt (Nat.lt_succ_of_lt lt)⟩, fp, q⟩
/-- what a for loop over J asks -/
abbrev Runs (J : It) (g : TG) (tb : TS) (D : Ends) (σ : L2.St) (H : Hp) : Prop := ∃ U : Nat → Nat → L2.St → Hp → Prop, (∃ m, U 0 m σ H) ∧ ∀ i m σ H, U i m σ H → (J.stop i H ∧ D.nx σ H) ∨ (J.go i H ∧ ∃ N : L2.St → Hp → Prop, (∀ σ' H', N σ' H' → ∃ m', m' < m ∧ U (i + 1) m' σ' H') ∧
  ∀ x H', J.yld i H x H' → g x σ H' fun σ2 H2 => tb { D with nx := N, ct := N, bk := D.nx } σ2 H2)
/-- over enumerate of a list or a tuple that stands still -/
theorem for_enumB {K : PySem.W.Frag} {a : Addr} {xs : List V} {g : TG} {tb : TS} {D : Ends} {σ : L2.St} {H : Hp} (W : Nat → L2.St → Hp → Prop) (start : W 0 σ H) (still : (∀ i σ H, W i σ H → SqL K H a xs) ∨ (∀ i σ H, W i σ H → SqT K H a xs))
    (turn : ∀ i x σ H T, xs[i]? = some x → W i σ H → H T = none → g (.ref T) σ (upd H T (.tup [.int (i : Nat), x])) fun σ2 H2 => tb { D with nx := W (i + 1), ct := W (i + 1), bk := D.nx } σ2 H2) (after : ∀ σ H, W xs.length σ H → D.nx σ H) :
    (SqL K H a xs ∧ Runs (Ite K a) g tb D σ H) ∨ (SqT K H a xs ∧ Runs (IteT K a) g tb D σ H) := by
  rcases still with still | still
  · refine .inl ⟨still _ _ _ start, fun i m σ H => m + i = xs.length ∧ W i σ H, ⟨xs.length, by omega, start⟩, fun i m σ H u => ?_⟩
    obtain ⟨e, u⟩ := u
    cases m with
    | zero =>
      obtain rfl : i = xs.length := by omega
      exact .inl ⟨⟨xs, still _ _ _ u, Nat.le_refl _⟩, after _ _ u⟩
    | succ m =>
      have lt : i < xs.length := by omega
      refine .inr ⟨⟨xs, xs[i], still _ _ _ u, List.getElem?_eq_getElem lt⟩, W (i + 1), fun σ' H' u' => ⟨m, Nat.lt_succ_self _, by omega, u'⟩, fun x H' y => ?_⟩
      obtain ⟨T, z, rfl, free, rfl, same⟩ := y
      exact turn i z σ H T (same xs (still _ _ _ u)) u free
  · refine .inr ⟨still _ _ _ start, fun i m σ H => m + i = xs.length ∧ W i σ H, ⟨xs.length, by omega, start⟩, fun i m σ H u => ?_⟩
    obtain ⟨e, u⟩ := u
    cases m with
    | zero =>
      obtain rfl : i = xs.length := by omega
      exact .inl ⟨⟨xs, still _ _ _ u, rfl⟩, after _ _ u⟩
    | succ m =>
      have lt : i < xs.length := by omega
      refine .inr ⟨⟨xs, xs[i], still _ _ _ u, List.getElem?_eq_getElem lt⟩, W (i + 1), fun σ' H' u' => ⟨m, Nat.lt_succ_self _, by omega, u'⟩, fun x H' y => ?_⟩
      obtain ⟨T, z, rfl, free, rfl, same⟩ := y
      exact turn i z σ H T (same xs (still _ _ _ u)) u free
/-- one of two targets' rules -/
theorem pg_or {X : Cx} {t : Expr} {g g' : TG} (h : PG X t g) (h' : PG X t g') : PG X t (fun v σ H Q => g v σ H Q ∨ g' v σ H Q) :=
  ⟨fun pins s σ H v u Q I r q => q.elim (fun q => h.run pins s σ H v u Q I r q) fun q => h'.run pins s σ H v u Q I r q⟩
end Kx

set_option maxHeartbeats 4000000
namespace Kx
open PySem PySem.Spec PyProof.Rows L2
section
variable {X : Cx} {C g : Addr} {sp : Sp} {E : XK} {CXx : CXT} {n : Nat}
/-- an instance as the library's lemmas know it -/
theorem inst_of {pins : List (Addr × Obj)} {σ : L2.St} {H : Hp} {s : Shared} {a dx : Addr} {fs : List (Str × V)} (I : Inv X pins σ H s) (h : H a = some (.ins C dx fs)) : ∃ ox od, PySem.W.InstAt s.heap a ox C od := by
  obtain ⟨mA, J, _⟩ := ins_get I.hok h
  obtain ⟨od, J, _⟩ := J.look
  exact ⟨_, _, J⟩
/-- x in o, o an instance whose class has its own __contains__ -/
def rInOwn (neg : Bool) (C : Addr) (sp : Sp) (E : XK) : R2 := fun x y H Q => ∃ a dx fs, y = .ref a ∧ H a = some (.ins C dx fs) ∧ sp [.ref a, x] H (fun z H' => ∃ b, z = .bl b ∧ Q (.bl (if neg then !b else b)) H') E
theorem op_inOwn (hs : PySem.W.findIn X.K (.ref C) "__contains__" = some (some (.ref g))) (hf : PySem.W.isFn X.K (.ref g) = true) (F : FnR X.prog X.w X.K X.mg X.base CXx n g sp) (hr : Room n X.A) (hx : Passes CXx X E) : OpR X (compareOp .In) (rInOwn false C sp E) := by
  intro pins s σ H x y v u Q I rx ry h
  obtain ⟨a, dx, fs, rfl, ha, q⟩ := h
  obtain rfl : u = Value.ref a := ry
  obtain ⟨ox, od, J⟩ := inst_of I ha
  obtain ⟨m, hF⟩ := I.fr
  refine PySem.W.in_K hF I.ok.mod.kin J hs hf (wpAny_mono (wpAny_call (run_fnR (us := [.ref a, v]) (vs := [.ref a, x]) F hr hx I (.cons rfl (.cons rx .nil)) q)) (fun w s' z => ?_) fun _ _ x => x)
  obtain ⟨z', H', I', rz, b, rfl, qz⟩ := z
  obtain rfl : w = Value.bool b := rz
  exact wpAny_truthy_bool ⟨.bl b, H', I', rfl, qz⟩
theorem op_notInOwn (hs : PySem.W.findIn X.K (.ref C) "__contains__" = some (some (.ref g))) (hf : PySem.W.isFn X.K (.ref g) = true) (F : FnR X.prog X.w X.K X.mg X.base CXx n g sp) (hr : Room n X.A) (hx : Passes CXx X E) : OpR X (compareOp .NotIn) (rInOwn true C sp E) := by
  intro pins s σ H x y v u Q I rx ry h
  obtain ⟨a, dx, fs, rfl, ha, q⟩ := h
  obtain rfl : u = Value.ref a := ry
  obtain ⟨ox, od, J⟩ := inst_of I ha
  obtain ⟨m, hF⟩ := I.fr
  refine PySem.W.notIn_K hF I.ok.mod.kin J hs hf (wpAny_mono (wpAny_call (run_fnR (us := [.ref a, v]) (vs := [.ref a, x]) F hr hx I (.cons rfl (.cons rx .nil)) q)) (fun w s' z => ?_) fun _ _ x => x)
  obtain ⟨z', H', I', rz, b, rfl, qz⟩ := z
  obtain rfl : w = Value.bool b := rz
  exact wpAny_truthy_bool ⟨.bl (!b), H', I', rfl, qz⟩
/-- len(o) by an own __len__ -/
def rLenOwn (C : Addr) (sp : Sp) (E : XK) : List V → Hp → VK → Prop := fun xs H Q => ∃ a dx fs, xs = [.ref a] ∧ H a = some (.ins C dx fs) ∧ sp [.ref a] H (fun z H' => ∃ k : Int, z = .int k ∧ 0 ≤ k ∧ k < 2 ^ 63 ∧ Q (.int k) H') E
theorem call_lenOwn (hs : PySem.W.findIn X.K (.ref C) "__len__" = some (some (.ref g))) (hf : PySem.W.isFn X.K (.ref g) = true) (F : FnR X.prog X.w X.K X.mg X.base CXx n g sp) (hr : Room (n + 1) X.A) (hx : Passes CXx X E) : CallR X (.builtin "len") (rLenOwn C sp E) := by
  intro pins s σ H xs us Q I r h
  obtain ⟨a, dx, fs, rfl, ha, q⟩ := h
  rw [Vals.ref1 r]
  obtain ⟨ox, od, J⟩ := inst_of I ha
  obtain ⟨m, hF⟩ := I.fr
  have run : codeAny (model X.prog X.w) X.A.in1 (.call (.ref g) ⟨[.ref a], []⟩) (fun r s' => match r with | .ok (.ret v) => EP X pins σ (fun z H' => ∃ k : Int, z = .int k ∧ 0 ≤ k ∧ k < 2 ^ 63 ∧ Q (.int k) H') v s' | .ok _ => False | .error e => X.xe e s') s := by
    refine codeAny_mono (F X.A.in1 X.stack s H [.ref a] [.ref a] _ E hr.in1 I.env0.in1 (.cons rfl .nil) q) fun r s' hq => ?_
    rcases r with e | (_ | _ | _ | u)
    · exact hx pins σ H s e s' I hq
    · exact hq.elim
    · exact hq.elim
    · exact hq.elim
    · exact I.after hq
  refine PySem.W.len_K hF I.ok.mod.kin J hs hf (wpAny_mono (wpAny_call run) (fun w s' z => ?_) fun _ _ x => x)
  obtain ⟨z', H', I', rz, k, rfl, k0, k1, qz⟩ := z
  obtain ⟨t, rfl⟩ := (show ∃ t, w = Value.int k t from rz)
  exact ⟨⟨k0, k1⟩, .int k, H', I'.tok _, ⟨_, rfl⟩, qz⟩
/-- o == y by an own __eq__, y any thing that is not of a class below -/
def rEqOwn (K : PySem.W.Frag) (C : Addr) (sp : Sp) (E : XK) : R2 := fun x y H Q => ∃ a dx fs, x = .ref a ∧ H a = some (.ins C dx fs) ∧ ((∃ b dy gs C', y = .ref b ∧ H b = some (.ins C' dy gs) ∧ PySem.W.notFirst K C (.ref C') = true) ∨ (∃ b ys, y = .ref b ∧ H b = some (.tup ys) ∧ PySem.W.notFirst K C (.type "tuple") = true)) ∧
  sp [.ref a, y] H (fun z H' => ∃ b, z = .bl b ∧ Q (.bl b) H') E
theorem op_eqOwn (hs : PySem.W.findIn X.K (.ref C) "__eq__" = some (some (.ref g))) (hf : PySem.W.isFn X.K (.ref g) = true) (F : FnR X.prog X.w X.K X.mg X.base CXx n g sp) (hr : Room n X.A) (hx : Passes CXx X E) : OpR X (compareOp .Eq) (rEqOwn X.K C sp E) := by
  intro pins s σ H x y v u Q I rx ry h
  obtain ⟨a, dx, fs, rfl, ha, hy, q⟩ := h
  obtain rfl : v = Value.ref a := rx
  obtain ⟨ox, od, J⟩ := inst_of I ha
  obtain ⟨m, hF⟩ := I.fr
  have go : ∀ tb, PySem.W.Looks (model X.prog X.w) s.heap (typeOf u) tb → PySem.W.notFirst X.K C tb = true → wpAny (model X.prog X.w) X.A (compareOp .Eq (.ref a) u) (EP X pins σ Q) X.xe s := fun tb hb hn => by
    refine PySem.W.cmp_K (op := .Eq) hr.units0 hF I.ok.mod.kin J hb hn hs hf (wpAny_mono (wpAny_call (run_fnR (us := [.ref a, u]) (vs := [.ref a, y]) F hr hx I (.cons rfl (.cons ry .nil)) q)) (fun w s' z => ?_) fun _ _ x => x)
    obtain ⟨z', H', I', rz, b, rfl, qz⟩ := z
    obtain rfl : w = Value.bool b := rz
    exact ⟨.bl b, H', I', rfl, qz⟩
  rcases hy with ⟨b, dy, gs, C', rfl, hb, hn⟩ | ⟨b, ys, rfl, hb, hn⟩
  · obtain rfl : u = Value.ref b := ry
    obtain ⟨ox', od', J'⟩ := inst_of I hb
    exact go _ J'.type hn
  · obtain rfl : u = Value.ref b := ry
    obtain ⟨_, _, _, o, h1, h2, _⟩ := (show ObjOk X.prog X.w H s.heap b (.tup ys) from I.hok b _ hb)
    exact go _ (PySem.W.kitAt_ty _ _ ⟨o, h1, h2⟩) hn
end
/-! != by the own __eq__ -/
section
variable {prog : Program} {w : World} {A : Around} {Er : Value → Shared → Prop} {s : Shared} {K : PySem.W.Frag} {x D f : Addr} {ox : Obj} {od : Option Obj} {b tb : Value}
theorem bound_ne {M : Model} {args : List Value} {Q : Option Value → Shared → Prop} (Y : K.In s.heap) (J : PySem.W.InstAt s.heap x ox D od) (hs : PySem.W.findIn K (.ref D) "__ne__" = some (some (.builtin "object.__ne__")))
    (h : wpAny M A (call (.builtin "object.__ne__") (.ref x :: args)) (fun v => Q (some v)) Er s) : wpAny M A (callSpecialIfBound? (.ref x) "__ne__" args) Q Er s := by
  simp only [callSpecialIfBound?, bindSpecialIfBound?]
  refine wpAny_holding (wpAny_bind (wpAny_bind (wpAny_bind (J.type.here ((PySem.W.looks_findIn Y hs).here (wpAny_bind (wpAny_askSetting (wpAny_ite ?_))))))))
  have fin : wpAny M A (call (.builtin "object.__ne__") ([.ref x] ++ args) >>= fun v => pure (some v)) Q Er s := wpAny_bind (wpAny_mono h (fun v s' z => wpAny_pure z) fun _ _ z => z)
  split
  · exact wpAny_bind (wpAny_of_eq (F.cmp_object.ne.bind _) (wpAny_pure (by exact fin)))
  · exact wpAny_tryCatch (wpAny_bind (wpAny_of_eq (F.cmp_object.ne.bind _) (wpAny_pure (by exact fin))))
/-- what the own __eq__ hands back, turned about -/
def NeBack (Q : Value → Shared → Prop) (v : Value) (s' : Shared) : Prop := match v with
  | .bool c => Q (.bool (!c)) s'
  | _ => False
theorem call_ne {Q : Value → Shared → Prop} (hu : A.units + 64 < cLine) (Y : K.In s.heap) (J : PySem.W.InstAt s.heap x ox D od) (hm : PySem.W.mroIn K D (.type "object") = some true) (he : PySem.W.findIn K (.ref D) "__eq__" = some (some (.ref f))) (hf : PySem.W.isFn K (.ref f) = true)
    (h : wpAny (model prog w) A.in1 (call (.ref f) [.ref x, b]) (NeBack Q) Er s) : wpAny (model prog w) A (call (.builtin "object.__ne__") [.ref x, b]) Q Er s := by
  refine wpAny_call (codeAny_call_builtin F.cmp_object.ne.plain F.cmpEntry_ne (PySem.W.check_slot F.cmpKind_ne F.cmpSplit_ne (J.type.andThen (PySem.W.looks_mroIn Y hm)) (F.cmpArgs_ne _ _) ?_))
  unfold Builtin.«object.__ne__»
  refine wpAny_bind (m := slotArgs "__ne__" 1 _) (wpAny_of_eq (a := (Value.ref x, [b])) rfl ?_)
  dsimp only
  refine wpAny_bind (wpAny_cRoomFor (A := A.in1) (by show A.units + 1 < cLine; omega) ?_)
  refine wpAny_bind (PySem.W.ifBound_K Y J he hf (wpAny_mono h (fun v s' hv => ?_) fun _ _ z => z))
  cases v with
  | bool c => exact wpAny_bind (wpAny_truthy_bool (wpAny_pure hv))
  | _ => exact hv.elim
theorem rich_ne {h₀ : Heap} {L : Addr} {m : Str → Option Value} {Q : Value → Shared → Prop} (hu : A.units + 64 < cLine) (F₀ : Fr h₀ L s.heap m) (X₀ : K.In h₀) (J : PySem.W.InstAt s.heap x ox D od) (hb : PySem.W.Looks (model prog w) s.heap (typeOf b) tb) (hn : PySem.W.notFirst K D tb = true)
    (hm : PySem.W.mroIn K D (.type "object") = some true) (hne : PySem.W.findIn K (.ref D) "__ne__" = some (some (.builtin "object.__ne__"))) (he : PySem.W.findIn K (.ref D) "__eq__" = some (some (.ref f))) (hf : PySem.W.isFn K (.ref f) = true)
    (h : wpAny (model prog w) A.in1 (call (.ref f) [.ref x, b]) (NeBack Q) Er s) : wpAny (model prog w) A (richCompare .NotEq (.ref x) b) Q Er s := by
  have Y := X₀.keeps F₀.keep
  have one : wpAny (model prog w) A (tryCompare (.ref x) "__ne__" b) (fun r s' => ∃ c, r = some (.bool c) ∧ Q (.bool c) s') Er s := by
    unfold tryCompare
    refine wpAny_bind (bound_ne Y J hne (call_ne hu Y J hm he hf (wpAny_mono h (fun v s' hv => ?_) fun _ _ z => z)))
    cases v with
    | bool c => exact wpAny_pure ⟨!c, rfl, hv⟩
    | _ => exact hv.elim
  unfold richCompare
  simp only [oneThing_ref]
  refine wpAny_holding (wpAny_bind (wpAny_cRoomFor (by omega) (wpAny_bind (J.type.here (wpAny_bind (hb.here ?_))))))
  have fin : ∀ (r : Option Value) (s' : Shared), (∃ c, r = some (.bool c) ∧ Q (.bool c) s') → ∃ c, r = some (.bool c) ∧ Q (.bool c) s' := fun _ _ z => z
  split
  · rename_i q
    have e : PySem.W.subIn K tb (.ref D) = some false := by
      rcases Bool.or_eq_true_iff.mp hn with e | e
      · rw [beq_iff_eq.mp e] at q; simp at q
      · exact beq_iff_eq.mp e
    refine wpAny_bind ((PySem.W.looks_subIn Y e).here ?_)
    simp only [Bool.false_eq_true, if_false]
    refine wpAny_bind (wpAny_mono one (fun r s' z => ?_) fun _ _ e => e)
    obtain ⟨v, rfl, hq⟩ := fin r s' z
    exact wpAny_pure hq
  · refine wpAny_bind (wpAny_pure ?_)
    simp only [Bool.false_eq_true, if_false]
    refine wpAny_bind (wpAny_mono one (fun r s' z => ?_) fun _ _ e => e)
    obtain ⟨v, rfl, hq⟩ := fin r s' z
    exact wpAny_pure hq
end
section
variable {X : Cx} {C g : Addr} {sp : Sp} {E : XK} {CXx : CXT} {n : Nat}
/-- o != y by an own __eq__, both of one class -/
def rNeOwn (C : Addr) (sp : Sp) (E : XK) : R2 := fun x y H Q => ∃ a dx fs b dy gs, x = .ref a ∧ H a = some (.ins C dx fs) ∧ y = .ref b ∧ H b = some (.ins C dy gs) ∧ sp [.ref a, .ref b] H (fun z H' => ∃ c, z = .bl c ∧ Q (.bl (!c)) H') E
theorem op_neOwn (hm : PySem.W.mroIn X.K C (.type "object") = some true) (hne : PySem.W.findIn X.K (.ref C) "__ne__" = some (some (.builtin "object.__ne__"))) (hs : PySem.W.findIn X.K (.ref C) "__eq__" = some (some (.ref g))) (hf : PySem.W.isFn X.K (.ref g) = true) (F : FnR X.prog X.w X.K X.mg X.base CXx n g sp) (hr : Room (n + 1) X.A) (hx : Passes CXx X E) :
    OpR X (compareOp .NotEq) (rNeOwn C sp E) := by
  intro pins s σ H x y v u Q I rx ry h
  obtain ⟨a, dx, fs, b, dy, gs, rfl, ha, rfl, hb, q⟩ := h
  obtain rfl : v = Value.ref a := rx
  obtain rfl : u = Value.ref b := ry
  obtain ⟨ox, od, J⟩ := inst_of I ha
  obtain ⟨ox', od', J'⟩ := inst_of I hb
  obtain ⟨m, hF⟩ := I.fr
  have run : codeAny (model X.prog X.w) X.A.in1 (.call (.ref g) ⟨[.ref a, .ref b], []⟩) (fun r s' => match r with | .ok (.ret v) => EP X pins σ (fun z H' => ∃ c, z = .bl c ∧ Q (.bl (!c)) H') v s' | .ok _ => False | .error e => X.xe e s') s := by
    refine codeAny_mono (F X.A.in1 X.stack s H [.ref a, .ref b] [.ref a, .ref b] _ E hr.in1 I.env0.in1 (.cons rfl (.cons rfl .nil)) q) fun r s' hq => ?_
    rcases r with e | (_ | _ | _ | u)
    · exact hx pins σ H s e s' I hq
    · exact hq.elim
    · exact hq.elim
    · exact hq.elim
    · exact I.after hq
  refine rich_ne hr.units hF I.ok.mod.kin J J'.type (by simp [PySem.W.notFirst]) hm hne hs hf (wpAny_mono (wpAny_call run) (fun w s' z => ?_) fun _ _ x => x)
  obtain ⟨z', H', I', rz, c, rfl, qz⟩ := z
  obtain rfl : w = Value.bool c := rz
  exact ⟨.bl (!c), H', I', rfl, qz⟩
end
end Kx

set_option maxHeartbeats 4000000
namespace Kx
open PySem PySem.Spec PyProof.Rows L2
/-! tuple(dict): the keys in order -/
section
variable {prog : Program} {w : World} {A : Around} {E : Value → Shared → Prop} {s : Shared} {d : Addr} {n : Nat} {P : Nat → Value → Prop} {OK : Heap → Prop}
theorem code_tuple_new_dict {Q₁ : Value → Shared → Prop} (S : PySem.W.KdlSrc prog w "dict" d d n P OK) (hh : A.handled = none) (hok : OK s.heap) (hn : n ≤ sizeLine)
    (h : ∀ (h' : Heap) (tk : Nat) (acc : Array Value), (∀ b o, s.heap.get? b = some o → h'.get? b = some o) → ItemsOf P acc n →
      Q₁ (.ref h'.objs.size) { s with heap := h'.push { cls := .type "tuple", data := .seq acc }, toks := tk }) :
    codeAny (model prog w) A (.call (.builtin "tuple.__new__") ⟨[.type "tuple", .ref d], []⟩) (wants Q₁ E) s := by
  refine codeAny_of_tree ?_
  show wpAny _ A.in1 (do checkBuiltinCall "tuple.__new__" ⟨[.type "tuple", .ref d], []⟩; again (.builtin "tuple.__new__" ⟨[.type "tuple", .ref d], []⟩)) _ _ s
  refine wpAny_bind (wpAny_of_eq (F.newCall_tuple_1 _) (wpAny_pure ⟨plainId_quiet F.plain_tuple_new _, codeAny_builtin F.entry_tuple_new ?_⟩))
  rw [Around.under_plainId F.plain_tuple_new _]
  have hsub := sub_tuple_self
  have hinit := init_tuple_lookup
  have hmh := madeHere_tuple
  obtain ⟨od, hod, hcd⟩ := S.type _ hok
  have hTI : s.TypeIs (.ref d) "dict" := ⟨od, hod, hcd⟩
  have hh1 : A.in1.handled = none := hh
  wp_walk using wpAny_typeOf hTI, PySem.W.kdu_collect (A := A.in1) S hh1 hok hn
  intro h' tk acc hk hacc
  show wpAny _ _ (Builtin.Tuple.tupleExact acc.toList.toArray >>= fun v => ret v) _ _ _
  unfold Builtin.Tuple.tupleExact
  refine wpAny_bind (wpAny_newObj_type ?_ (by show acc.toList.toArray.size ≤ sizeLine; simp only [Array.toArray_toList]; rw [hacc.1]; exact hn))
  refine wpAny_pure ?_
  have e : acc.toList.toArray = acc := by simp
  rw [e]
  exact h h' tk acc hk hacc
theorem call_tuple_dict {Q : Value → Shared → Prop} (S : PySem.W.KdlSrc prog w "dict" d d n P OK) (hh : A.handled = none) (hok : OK s.heap) (hn : n ≤ sizeLine)
    (hQ : ∀ (h' : Heap) (tk : Nat) (acc : Array Value), (∀ b o, s.heap.get? b = some o → h'.get? b = some o) → ItemsOf P acc n →
      Q (.ref h'.objs.size) { s with heap := h'.push { cls := .type "tuple", data := .seq acc }, toks := tk }) :
    wpAny (model prog w) A (call (.type "tuple") [.ref d]) Q E s := by
  refine callType_codes (Q₁ := fun obj s₁ => s₁.TypeIs obj "tuple" ∧ Q obj s₁) F.called_tuple (F.typeCall_tuple_1 _) F.entry_object_init
    (code_tuple_new_dict (A := A.in1) S hh hok hn fun h' tk acc hk hacc => ⟨⟨_, Heap.get?_push_size _ rfl, rfl⟩, hQ h' tk acc hk hacc⟩) fun obj s₁ h₁ => ?_
  exact ⟨h₁.1, F.args_object_init_2 obj _, object_init_meets F.called_tuple.init.lookup F.called_tuple.made (by decide) prog w A.in1 _ s₁ ⟨h₁.1, rfl, h₁.2⟩⟩
end
def rTupD : List V → Hp → VK → Prop := fun xs H Q => ∃ p kvs, xs = [.ref p] ∧ H p = some (.dK kvs) ∧ ∀ q, H q = none → Q (.ref q) (upd H q (.tup (kvs.map fun kv => kV kv.1)))
theorem call_tuple_dK {X : Cx} (hc : X.calm = true) : CallR X (.type "tuple") rTupD := by
  intro pins s σ H xs us Q I r h
  obtain ⟨p, kvs, e, hk, q⟩ := h
  subst e
  obtain ⟨u, eu, rx⟩ := vals1 r
  subst eu
  obtain rfl : u = Value.ref p := rx
  obtain ⟨z, lo, vs, rk, hd⟩ := (show ObjOk X.prog X.w H s.heap p (.dK kvs) from I.hok p _ hk)
  obtain ⟨ep, hat⟩ := hd.dictAt
  have hl : kvs.length = vs.length := Paired.length rk
  refine call_tuple_dict (PySem.W.kdl_dict (knd := mixKind X.prog X.w) (kvs := vs) (ep := ep) lo) (I.ok.hd hc) hat (by rw [← hl]; exact z) fun h' tk acc' hkeep hacc => ?_
  have I2 : Inv X pins σ H { s with heap := h', toks := tk } := I.kept hkeep
  refine ⟨.ref h'.objs.size, upd H h'.objs.size (.tup (kvs.map fun kv => kV kv.1)), I2.laid (t' := tk) (fun c o e => Heap.get?_push_of_some _ e) (Nat.le_refl _) (show ObjOk X.prog X.w _ _ _ (.tup (kvs.map fun kv => kV kv.1)) from ⟨?_, acc'.toList, ?_, ?_⟩), rfl, q _ (I2.hok.fresh (Nat.le_refl _))⟩
  · rw [List.length_map]; exact z
  · have el : acc'.toList.length = acc'.size := by simp
    refine vals_of_at (by rw [List.length_map, el, hacc.1, hl]) fun j x w h1 h2 => ?_
    obtain ⟨k, y, hky, hi⟩ := hacc.2 j w (by rw [← Array.getElem?_toList]; exact h2)
    have e1 : (kvs.map (·.1))[j]? = some k := by
      rw [KV.keys rk, List.getElem?_map, hky] <;> rfl
    have e2 : (kvs.map fun kv => kV kv.1)[j]? = some (kV k) := by
      have e3 : (kvs.map fun kv => kV kv.1) = (kvs.map (·.1)).map kV := by rw [List.map_map] <;> rfl
      rw [e3, List.getElem?_map, e1] <;> rfl
    rw [e2] at h1
    cases h1
    exact keyIs_rel hi
  · rw [Array.toArray_toList]; exact IsTup.new _ _
end Kx

set_option maxHeartbeats 4000000
namespace Kx
open PySem PySem.Spec PySem.Calls PyProof.Rows PySem.W
section
variable {prog : Program} {w : World} {A : Around} {E : Value → Shared → Prop} {s : Shared} {K : Frag} {x D : Addr} {ox : Obj}
theorem findObj_dataO {C : Addr} {od : Option Obj} {name : Str} {a g : Value} (hc : (clsIn K C).isSome = true) (ha : findIn K (.ref C) name = some (some a)) (hg : specialIn K a "__get__" = some (some g)) (ht : takesIn K a = some true) : findObj K C od name = some (.bind g a) := by
  obtain ⟨cd, hc⟩ := Option.isSome_iff_exists.mp hc
  unfold findObj
  rw [hc, Option.bind_some, ha, Option.bind_some]
  simp [hg, ht]
theorem kin_classO {od : Option Obj} {Q : Option Value → Shared → Prop} (hga : findIn K (.ref D) "__getattribute__" = some (some (.builtin "BaseException.__getattribute__"))) (hgt : findIn K (.ref D) "__getattr__" = some none) (hsub : subIn K (.ref D) (.type "BaseException") = some true)
    (hdct : hasDictIn K D = true) (ha : findIn K (.ref D) "__class__" = some (some (.builtin "object.__class__")))
    (hn : specialIn K (.builtin "object.__class__") "__get__" = some (some (.builtin "getset_descriptor.__get__"))) (htk : takesIn K (.builtin "object.__class__") = some true) (hm : mroIn K D (.type "object") = some true)
    (X : K.In s.heap) (I : InstAt s.heap x ox D od) (h : Q (some (.ref D)) { s with toks := s.toks + 1 }) : wpAny (model prog w) A (getAttr? (.ref x) "__class__") Q E s := by
  have hf : findObj K D od "__class__" = some (.bind (.builtin "getset_descriptor.__get__") (.builtin "object.__class__")) := findObj_dataO (by obtain ⟨cd, hc, _⟩ := any_some hdct; rw [hc]; rfl) ha hn htk
  obtain ⟨hp, g, d, t, os⟩ := s
  have L0 := I.type (M := model prog w)
  have L1 := looks_findIn (M := model prog w) X hga
  have L2 := looks_findIn (M := model prog w) X hgt
  have L3 := looks_find (M := model prog w) X I hf
  have sub : Looks (model prog w) hp (isInstance (.ref x) (.type "BaseException")) true := L0.andThen (looks_subIn X hsub)
  have hx0 : (false && onTheHeap (Value.builtin "BaseException.__getattribute__")) = false := rfl
  have hx2 : (Value.builtin "BaseException.__getattribute__" == Value.builtin "object.__getattribute__") = false := by decide +kernel
  have hx1 : (onTheHeap (Value.ref D) && Value.builtin "BaseException.__getattribute__" == Value.builtin "object.__getattribute__") = false := by rw [hx2]; rfl
  unfold getAttr? getAttrBy? getAttrBy
  refine wpAny_bind (wpAny_mkText (wpAny_bind (wpAny_attempt (wpAny_holding (wpAny_bind (L0.at (wpAny_bind (L1.at ?_))))))))
  show wpAny _ _ (if (onTheHeap (Value.ref D) && Value.builtin "BaseException.__getattribute__" == Value.builtin "object.__getattribute__") = true then _ else _) _ _ _
  rw [hx1, if_neg Bool.false_ne_true]
  unfold getAttrByItsOwn hookBefore
  refine wpAny_bind ?_
  rw [if_pos (show onTheHeap (Value.ref D) = true from rfl)]
  refine L2.at ?_
  refine wpAny_bind (wpAny_attempt (wpAny_holding ?_))
  unfold callGetattribute
  rw [hx0, if_neg Bool.false_ne_true]
  unfold boundAndCalled
  rw [PySem.F.excAttr_ValueError.ga.bind (.ref x)]
  refine wpAny_bind (wpAny_pure ?_)
  show wpAny _ _ (call (.builtin "BaseException.__getattribute__") [.ref x, .str "__class__" t]) _ _ _
  refine wpAny_call (codeAny_call_builtin PySem.F.excAttr_ValueError.ga.plain PySem.F.entry_bexc_ga ?_)
  refine @check_slot (model prog w) _ _ ⟨hp, g, d, t + 1, os⟩ "BaseException.__getattribute__" "BaseException" "__getattribute__" (.ref x) [.str "__class__" t] [] _ (by decide +kernel) (by decide +kernel) sub (PySem.F.args_bexc_ga (.ref x) (.str "__class__" t)) ?_
  unfold Builtin.«object.__getattribute__»
  refine wpAny_bind (wpAny_of_eq (a := ((Value.ref x : Value), [Value.str "__class__" t])) (by first | rfl | (simp only [slotArgs]; rfl)) ?_)
  refine wpAny_bind (wpAny_pure (wpAny_bind (L0.at (wpAny_bind (L3.at ?_)))))
  show wpAny _ _ (holding [Value.builtin "object.__class__"] (call (.builtin "getset_descriptor.__get__") [.builtin "object.__class__", .ref x, .ref D]) >>= ret) _ _ _
  refine wpAny_bind (wpAny_holding (wpAny_call (class_get (s := ⟨hp, g, d, t + 1, os⟩) (ox := ox) (od := od) X I hm ?_)))
  refine wpAny_pure ?_
  show wpAny _ _ (handedOut (.ref D)) _ _ _
  rw [handedOut_of (v := .ref D) rfl]
  first
    | exact wpAny_pure (wpAny_pure h)
    | exact wpAny_pure h
    | exact wpAny_pure (wpAny_bind (wpAny_pure (wpAny_pure h)))
theorem kitx_excO {od : Option Obj} (hga : findIn K (.ref D) "__getattribute__" = some (some (.builtin "BaseException.__getattribute__"))) (hgt : findIn K (.ref D) "__getattr__" = some none) (hsub : subIn K (.ref D) (.type "BaseException") = some true) (hdct : hasDictIn K D = true) (ha : findIn K (.ref D) "__class__" = some (some (.builtin "object.__class__")))
    (hn : specialIn K (.builtin "object.__class__") "__get__" = some (some (.builtin "getset_descriptor.__get__"))) (htk : takesIn K (.builtin "object.__class__") = some true) (hm : mroIn K D (.type "object") = some true) :
    KitX K (.ref x) (.ref D) (fun h => InstAt h x ox D od) where
  ty := fun _ _ _ I => I.type
  it := fun _ _ X _ => by
    obtain ⟨cdD, hcD, _⟩ := any_some hdct
    unfold clsIn at hcD
    split at hcD
    · rename_i c' d' cd' sl' ho
      intro A' Q' E' s' k q
      unfold isType loadHead
      exact wpAny_bind (wpAny_loadPart (k _ _ (X _ _ ho)) (wpAny_pure q))
    · cases hcD
  ne := fun h tp dd its n sl X htp => by
    obtain ⟨cdD, hcD, _⟩ := any_some hdct
    refine Bool.eq_false_iff.mpr fun q => ?_
    have e : D = tp := Value.ref.inj (beq_iff_eq.mp q)
    subst e
    unfold clsIn at hcD
    split at hcD
    · rename_i c' d' cd' sl' ho
      have z := (X _ _ ho).symm.trans htp
      cases z
    · cases hcD
  ca := fun X I k => kin_classO hga hgt hsub hdct ha hn htk hm X I k
end
end Kx
namespace Kx
open PySem PySem.Spec PyProof.Rows L2
/-- isinstance(e, c), e a caught error that has fields -/
def rIsEd (K : PySem.W.Frag) (a : Addr) (cls : Value) (d : Option Addr) (D : Addr) : List V → Hp → VK → Prop := fun xs H Q => cls = .ref D ∧ (d = none ∨ ∃ (dd : Addr) (fs : List (Str × V)), d = some dd ∧ H dd = some (.xd fs)) ∧ rIsE K D a xs H Q
theorem call_isEd {X : Cx} {K : PySem.W.Frag} {a D : Addr} {oe : Obj} {cls : Value} {d : Option Addr} {pn : List (Addr × Obj)} (hK : X.K = K) (C : ExcC K D) (hz : Zc cls d oe) (hf : ∃ vs, oe.data = .fields vs) : CallR (X.suite a ((a, oe) :: pn)) (.builtin "isinstance") (rIsEd K a cls d D) := by
  subst hK
  intro pins s σ H xs us Q I r h
  obtain ⟨hcl, hd, c, cv, b, rfl, hcv, e, q⟩ := h
  subst hcl
  cases r with
  | cons rx rr =>
    cases rr with
    | cons rt rr =>
      cases rr
      cases rx
      have ec := hcv _ rt
      subst ec
      obtain ⟨hget, _⟩ := I.pin (a, oe) (List.mem_append.mpr (.inl List.mem_cons_self))
      obtain ⟨vs, hv⟩ := hf
      have J : ∃ od, PySem.W.InstAt s.heap a oe D od := by
        rcases hd with hd | ⟨dd, fs, hd, he⟩
        · subst hd
          obtain ⟨oc, od, oda, osl⟩ := oe
          obtain ⟨h1, h2⟩ := hz
          dsimp only at h1 h2 hv
          subst h1 h2 hv
          exact ⟨none, hget, rfl, rfl, trivial⟩
        · subst hd
          obtain ⟨mA, hns, hr⟩ := (show ObjOk X.prog X.w H s.heap dd (.xd fs) from I.hok dd _ he)
          obtain ⟨od, ho, hl⟩ := lookIn_ns hns
          exact ⟨some od, hget, hz.1, by unfold PySem.W.notCls; rw [hv] <;> rfl, by rw [hz.2]; exact ho⟩
      obtain ⟨od, J⟩ := J
      exact PySem.W.kia_one (kitx_excO C.hg C.hk C.hs C.hd C.ha C.hn C.ht C.hm) I.kIn J e (fun z => nomatch z) fun tk => ⟨.bl b, H, I.kept (t' := tk) fun _ _ z => z, rfl, q⟩
end Kx

set_option maxHeartbeats 4000000
namespace Kx
open PySem PySem.Spec PyProof.Rows L2
/-! two lists of whatever things: of other lengths, or with the very same things at each place -/
theorem eqV_self : ∀ x : V, flatV x = true → eqV x x = true
  | .non, _ => rfl
  | .bl b, _ => by simp [eqV]
  | .int i, _ => by simp [eqV]
  | .str z, _ => by simp [eqV]
section
variable {X : Cx}
def rNeL (K : PySem.W.Frag) : R2 := fun x y H Q => ∃ a b xs ys, x = .ref a ∧ y = .ref b ∧ SqL K H a xs ∧ SqL K H b ys ∧ ((xs.length ≠ ys.length ∧ Q (.bl true) H) ∨ (xs = ys ∧ (∀ z ∈ xs, flatV z = true ∨ ∃ c, z = .ref c) ∧ Q (.bl false) H))
theorem op_neL (hu : X.A.units + 64 < cLine) : OpR X (compareOp .NotEq) (rNeL X.K) := by
  intro pins s σ H x y v u Q I rx ry h
  obtain ⟨a, b, xs, ys, rfl, rfl, ha, hb, h⟩ := h
  obtain rfl : v = Value.ref a := rx
  obtain rfl : u = Value.ref b := ry
  obtain ⟨its, rv, pl, hz⟩ := I.list ha
  obtain ⟨ius, ru, pu, hw⟩ := I.list hb
  have l1 := rv.length
  have l2 := ru.length
  rcases h with ⟨ne, q⟩ | ⟨rfl, fl, q⟩
  · exact SeqAt.RcNeAt.lists_lengths pl.isList pu.isList (by simp only [List.size_toArray, bne_iff_ne, ne_eq]; omega) (by omega) X.prog X.w X.xe _ ⟨.bl true, H, I, rfl, q⟩
  · have e := SeqAt.RcNeAt.lists (e := fun _ => true) (A := X.A) pl.isList pu.isList (by simp only [List.size_toArray]; omega) (by omega) fun j h1 h2 => by
      have hj : j < xs.length := by simp only [List.size_toArray] at h1; omega
      obtain ⟨v1, e1, r1⟩ := rv.get (List.getElem?_eq_getElem hj)
      obtain ⟨v2, e2, r2⟩ := ru.get (List.getElem?_eq_getElem hj)
      have g1 : its.toArray[j] = v1 := by
        have := (List.getElem?_eq_some_iff.mp e1).2
        simpa using this
      have g2 : ius.toArray[j] = v2 := by
        have := (List.getElem?_eq_some_iff.mp e2).2
        simpa using this
      rw [g1, g2]
      rcases fl xs[j] (List.getElem_mem hj) with f | ⟨c, ec⟩
      · have z := eqAt_V (A := X.A.in1) (s := s) r1 r2 f f
        rw [eqV_self _ f] at z
        exact z
      · rw [ec] at r1 r2
        obtain rfl : v1 = Value.ref c := r1
        obtain rfl : v2 = Value.ref c := r2
        exact SeqAt.EqAt.same _
    refine e X.prog X.w X.xe _ ⟨.bl false, H, I, ?_, q⟩
    show Value.bool _ = Value.bool false
    simp
end
end Kx

set_option maxHeartbeats 4000000
namespace Kx
open PySem L2
/-! own errors with fields -/
section
variable {P : Program} {w : World} {K : PySem.W.Frag} {mg : Str → Option Value} {base : Heap}
/-- __init__ of an error with one field -/
def spInit1 (K : PySem.W.Frag) (C : Addr) (f1 : Str) : Sp := fun vs H Q _ => ∃ (a : Addr) (y : V), vs = [.ref a, y] ∧ OexC K C ∧ PySem.W.findIn K (.ref C) f1 = some none ∧ H a = some (exo a C none) ∧
  ∀ (d : Addr) (H' : Hp), H d = none → d ≠ a → H' a = some (exo a C (some d)) → H' d = some (exd d [(f1, y)]) → (∀ b o, H b = some o → b ≠ a → H' b = some o) → Q .non H'
end
section
variable {P : Program} {w : World} {K : PySem.W.Frag} {mg : Str → Option Value} {base : Heap}
theorem scBadMap : FnScope ["self", "what"] ["self", "what"] (defScope sBadMap_init) := ⟨rfl, rfl, rfl, by decide +kernel, rfl, by decide +kernel, by decide +kernel⟩
theorem ok_BadMap {f C : Addr} {fd : FuncData} (F : Fun K "__init__" "BadMap.__init__" sBadMap_init f fd) : FnOk P w K mg base CX0 1 f fd ["self", "what"] (spInit1 K C "what") := by
  refine F.ok scBadMap (fun vs H Q E h => ?_) (fun cdv A outer s H vs Q E hr h => ?_)
  · obtain ⟨a, y, rfl, _⟩ := h
    rfl
  · obtain ⟨a, y, rfl, T, n1, ha, k⟩ := h
    refine ⟨_, pss_one (ps_ost (pv 0) (pv 1)), ?_⟩
    refine ⟨_, rfl, _, rfl, a, C, rfl, T, n1, .inl ⟨ha, fun dx hdx ne => ?_⟩⟩
    refine k dx _ hdx ne upd_same (by rw [upd_ne ne, upd_same]) fun b o e nb => ?_
    rw [upd_ne nb, upd_ne (ne_of_none e hdx)]
    exact e
theorem scBadStand : FnScope ["self", "what"] ["self", "what"] (defScope sBadStand_init) := ⟨rfl, rfl, rfl, by decide +kernel, rfl, by decide +kernel, by decide +kernel⟩
theorem ok_BadStand {f C : Addr} {fd : FuncData} (F : Fun K "__init__" "BadStand.__init__" sBadStand_init f fd) : FnOk P w K mg base CX0 1 f fd ["self", "what"] (spInit1 K C "what") := by
  refine F.ok scBadStand (fun vs H Q E h => ?_) (fun cdv A outer s H vs Q E hr h => ?_)
  · obtain ⟨a, y, rfl, _⟩ := h
    rfl
  · obtain ⟨a, y, rfl, T, n1, ha, k⟩ := h
    refine ⟨_, pss_one (ps_ost (pv 0) (pv 1)), ?_⟩
    refine ⟨_, rfl, _, rfl, a, C, rfl, T, n1, .inl ⟨ha, fun dx hdx ne => ?_⟩⟩
    refine k dx _ hdx ne upd_same (by rw [upd_ne ne, upd_same]) fun b o e nb => ?_
    rw [upd_ne nb, upd_ne (ne_of_none e hdx)]
    exact e
theorem scBadQuestion : FnScope ["self", "what"] ["self", "what"] (defScope sBadQuestion_init) := ⟨rfl, rfl, rfl, by decide +kernel, rfl, by decide +kernel, by decide +kernel⟩
theorem ok_BadQuestion {f C : Addr} {fd : FuncData} (F : Fun K "__init__" "BadQuestion.__init__" sBadQuestion_init f fd) : FnOk P w K mg base CX0 1 f fd ["self", "what"] (spInit1 K C "what") := by
  refine F.ok scBadQuestion (fun vs H Q E h => ?_) (fun cdv A outer s H vs Q E hr h => ?_)
  · obtain ⟨a, y, rfl, _⟩ := h
    rfl
  · obtain ⟨a, y, rfl, T, n1, ha, k⟩ := h
    refine ⟨_, pss_one (ps_ost (pv 0) (pv 1)), ?_⟩
    refine ⟨_, rfl, _, rfl, a, C, rfl, T, n1, .inl ⟨ha, fun dx hdx ne => ?_⟩⟩
    refine k dx _ hdx ne upd_same (by rw [upd_ne ne, upd_same]) fun b o e nb => ?_
    rw [upd_ne nb, upd_ne (ne_of_none e hdx)]
    exact e
end
/-- what is known of an error's class -/
structure ErC (P : Program) (w : World) (K : PySem.W.Frag) (mg : Str → Option Value) (base : Heap) (x : Str) (ps : List Str) (C fI : Addr) (fd : FuncData) (sp : Sp) : Prop where
  T : OexC K C
  iC : PySem.W.findIn K (.ref C) "__init__" = some (some (.ref fI))
  tI : PySem.W.typeIn K (.ref fI) = some (.type "function")
  gC : mg x = some (.ref C)
  b : Binds K fd ps []
  G : FnOk P w K mg base CX0 1 fI fd ps sp
  xf : XfC K C
theorem fin1 {K : PySem.W.Frag} {C : Addr} {f1 : Str} (T : OexC K C) (n1 : PySem.W.findIn K (.ref C) f1 = some none) {H : Hp} {y : V} {Q : XK} (q : ∀ d H', H d = none → Same H H' → H' d = some (.xd [(f1, y)]) → Q (.ref C) (some d) H') :
    [y].length ≤ 1000 ∧ ∀ a, H a = none → spInit1 K C f1 (.ref a :: ([y] ++ [])) (upd H a (exo a C none)) (fun v H2 => v = .non ∧ ∃ (d : Addr) (fs : List (Str × V)), H2 a = some (exo a C (some d)) ∧ H2 d = some (exd d fs) ∧ H d = none ∧ Q (.ref C) (some d) (upd (del H2 a) d (.xd fs))) (fun _ _ _ => False) := by
  refine ⟨(by show 1 ≤ 1000; decide), fun a ha => ⟨a, y, rfl, T, n1, upd_same, fun d H' hd ne ea ed kp => ⟨rfl, d, _, ea, ed, ?_, ?_⟩⟩⟩
  · rw [upd_ne ne] at hd
    exact hd
  · rw [upd_ne ne] at hd
    refine q d _ hd (fun b o e => ?_) upd_same
    have nba := ne_of_none e ha
    rw [upd_ne (ne_of_none e hd), del_ne nba]
    exact kp b o (by rw [upd_ne nba]; exact e) nba
end Kx


set_option maxHeartbeats 4000000
namespace Kx
open PySem L2
/-! rows of kinds: what is asked of them, in plain words -/
/-- a thing that is asked about: its kind, and its text is of known length -/
structure Thing (H : Hp) (x : V) (n : String) : Prop where
  kd : Kd H x n
  fine : ∀ z, x = .str z → PyData.strOk z = true ∧ z.length ≤ 900
theorem Thing.keep {H H' : Hp} {x : V} {n : String} (t : Thing H x n) (s : Same H H') : Thing H' x n := ⟨t.kd.keep s, t.fine⟩
theorem Kd.uniq {H : Hp} {x : V} {n m : String} (a : Kd H x n) (b : Kd H x m) : n = m := by
  cases a with
  | non => cases b; rfl
  | bl => cases b; rfl
  | int => cases b; rfl
  | str => cases b; rfl
  | lst a xs h => cases b with
    | lst _ ys h' => rfl
    | tup _ ys h' => rw [h] at h'; cases h'
    | dct _ ys h' => rw [h] at h'; cases h'
  | tup a xs h => cases b with
    | lst _ ys h' => rw [h] at h'; cases h'
    | tup _ ys h' => rfl
    | dct _ ys h' => rw [h] at h'; cases h'
  | dct a xs h => cases b with
    | lst _ ys h' => rw [h] at h'; cases h'
    | tup _ ys h' => rw [h] at h'; cases h'
    | dct _ ys h' => rfl
/-- a row, as it stands: a pair, or no sequence of two -/
inductive RowIs (H : Hp) : V → Option (V × V) → Prop where
  | lst {b : Addr} {n a : V} {t u : String} (h : H b = some (.lst [n, a])) (hn : Thing H n t) (ha : Thing H a u) : RowIs H (.ref b) (some (n, a))
  | tup {b : Addr} {n a : V} {t u : String} (h : H b = some (.tup [n, a])) (hn : Thing H n t) (ha : Thing H a u) : RowIs H (.ref b) (some (n, a))
  | lstN {b : Addr} {xs : List V} (h : H b = some (.lst xs)) (l : xs.length ≠ 2) : RowIs H (.ref b) none
  | tupN {b : Addr} {xs : List V} (h : H b = some (.tup xs)) (l : xs.length ≠ 2) : RowIs H (.ref b) none
  | oth {y : V} {n : String} (h : Kd H y n) (l : seqV n = false) : RowIs H y none
theorem RowIs.keep {H H' : Hp} {y : V} {r : Option (V × V)} (h : RowIs H y r) (s : Same H H') : RowIs H' y r := by
  cases h with
  | lst h hn ha => exact .lst (s _ _ h) (hn.keep s) (ha.keep s)
  | tup h hn ha => exact .tup (s _ _ h) (hn.keep s) (ha.keep s)
  | lstN h l => exact .lstN (s _ _ h) l
  | tupN h l => exact .tupN (s _ _ h) l
  | oth h l => exact .oth (h.keep s) l
theorem RowIs.kd {H : Hp} {y : V} {r : Option (V × V)} (h : RowIs H y r) : ∃ n, Kd H y n ∧ (seqV n = false → r = none) := by
  cases h with
  | lst h hn ha => exact ⟨_, .lst _ _ h, fun z => nomatch z⟩
  | tup h hn ha => exact ⟨_, .tup _ _ h, fun z => nomatch z⟩
  | lstN h l => exact ⟨_, .lst _ _ h, fun _ => rfl⟩
  | tupN h l => exact ⟨_, .tup _ _ h, fun _ => rfl⟩
  | oth h l => exact ⟨_, h, fun _ => rfl⟩
theorem lab_str {n : V} (h : labV n = true) : ∃ z, n = .str z ∧ isLab z = true := by
  cases n with
  | str z => exact ⟨z, rfl, h⟩
  | _ => cases h
def wordV : Option Str → V
  | none => .non
  | some w => .str w
section
variable {P : Program} {w : World} {K : PySem.W.Frag} {mg : Str → Option Value} {base : Heap}
end
end Kx


set_option maxHeartbeats 4000000
namespace Kx
open PySem PySem.Spec PyProof.Rows L2
section
variable {X : Cx} {CX : CXT} {k : Nat} {f C : Addr} {fd : FuncData} {ps : List Str} {sp : Sp} {x m : Str} {p pos apos : Pos} {e o : Expr} {es : List Expr} {t : TA} {ta : TE} {Ew : L2.St → XK}
/-- C(..) that may be refused, what is wished then depending on the slots -/
theorem run_makeS {pins : List (Addr × Obj)} {σ : L2.St} {H : Hp} {s : Shared} {Q : VK} {us : List Value} {vs : List V} (M : Mk X.K C f) (F : FnOk X.prog X.w X.K X.mg X.base CX k f fd ps sp) (hr : Room (k + 1) X.A) (hb : Binds X.K fd ps [])
    (hx : PassesAt CX X σ (Ew σ)) (I : Inv X pins σ H s) (r : Vals vs us)
    (h : ∀ x dx, H x = none → H dx = none → dx ≠ x → sp (.ref x :: vs) (upd (upd H dx (.own x)) x (.ins C dx [])) (fun v H2 => v = .non ∧ Q (.ref x) H2) (Ew σ)) :
    wpAny (model X.prog X.w) X.A (call (.ref C) us) (EP X pins σ Q) X.xe s := by
  have hq := h (s.heap.objs.size + 1) s.heap.objs.size (I.hok.fresh (Nat.le_succ _)) (I.hok.fresh (Nat.le_refl _)) (Nat.ne_of_lt (Nat.lt_succ_self _))
  have J := Inv.made (C := C) I
  have r2 : Vals (V.ref (s.heap.objs.size + 1) :: vs) (Value.ref (s.heap.objs.size + 1) :: us) := .cons rfl r
  have hl : (Value.ref (s.heap.objs.size + 1) :: us ++ []).length = ps.length := by
    have e := r2.length
    rw [F.len _ _ _ _ hq] at e
    rw [List.append_nil]
    exact e.symm
  have bd := hb _ (Value.ref (s.heap.objs.size + 1) :: us) J.kIn hl
  rw [List.append_nil] at bd
  refine wpAny_call (make_map (f := f) I.kIn M.makes M.init (beq_iff_eq.mp M.fn) (codeAny_mono (F.run _ X.stack _ _ ⟨Value.ref (s.heap.objs.size + 1) :: us, []⟩ (Value.ref (s.heap.objs.size + 1) :: us) _ _ (Ew σ) (hr.make C us []) (J.env0.make C us []) bd r2 hq) fun r s' got => ?_))
  rcases r with e | (_ | _ | _ | u)
  · exact hx pins _ _ e s' J got
  · exact False.elim got
  · exact False.elim got
  · exact False.elim got
  · obtain ⟨v, H', J3, rv, ev, q3⟩ := J.after got
    subst ev
    exact ⟨rv, ⟨V.ref (s.heap.objs.size + 1), H', J3, rfl, q3⟩⟩
def tMakeS (C : Addr) (sp : Sp) (Ew : L2.St → XK) (t : TA) : TE := fun σ H Q => t σ H fun vs H1 => ∀ x dx, H1 x = none → H1 dx = none → dx ≠ x → sp (.ref x :: vs) (upd (upd H1 dx (.own x)) x (.ins C dx [])) (fun v H2 => v = .non ∧ Q (.ref x) H2) (Ew σ)
theorem pe_makeS (M : Mk X.K C f) (F : FnOk X.prog X.w X.K X.mg X.base CX k f fd ps sp) (hr : Room (k + 1) X.A) (hg : Gl X x) (hm : X.mg x = some (.ref C)) (hb : Binds X.K fd ps []) (hx : ∀ σ, PassesAt CX X σ (Ew σ))
    (ha : PA X (e :: es) t) (hdb : (x == ("__debug__" : Str)) = false := by decide) (he : starEach (e :: es) X.env = (false, eval e X.env) :: starEach es X.env := by rfl) (hpl : (backTo pos (starEach es X.env)).any (·.1) = false := by rfl) :
    PE X (.Call (.Name x p) (e :: es) [] pos) (tMakeS C sp Ew t) := by
  refine ⟨fun pins s σ H Q I h => wpAny_Call_Name_kw (ld_glob I hg hm ?_ hdb)⟩
  refine PySem.W.callWith_K (h₀ := X.base) I.ok.mod.kin M.kp (thn (ha.run pos pins s σ H _ I h) fun us s1 ⟨vs, H1, J, r, q⟩ => ⟨J.kIn, ?_⟩) he hpl
  exact run_makeS M F hr hb (hx σ) J r q
/-- o.m(..) that may be refused -/
def tMethW (C : Addr) (m : Str) (sp : Sp) (Ew : L2.St → XK) (ta : TE) (t : TA) : TE := fun σ H Q => ta σ H fun x H1 => ∃ a dx fs, x = .ref a ∧ H1 a = some (.ins C dx fs) ∧ fs.lookup m = none ∧ t σ H1 fun vs H2 => sp (.ref a :: vs) H2 Q (Ew σ)
theorem pe_methW {pl : Sem Bool} (he : PE X o ta) (c : Cls X.K C) (hm : Meth X.K C m f) (F : FnOk X.prog X.w X.K X.mg X.base CX k f fd ps sp) (hr : Room k X.A) (hb : Binds X.K fd ps []) (hx : ∀ σ, PassesAt CX X σ (Ew σ)) (ha : PA X (e :: es) t)
    (hst : starEach (e :: es) X.env = (false, eval e X.env) :: starEach es X.env := by rfl) (hpl : (backTo pos (starEach es X.env)).any (·.1) = false := by rfl)
    (ht : eval (.Call (.Attribute o m apos) (e :: es) [] pos) X.env = (do
      let ov ← eval o X.env
      standAt apos.atName
      let (f, first) ← holding [ov] (getMethod ov m pl)
      callWith pos f first (backTo pos (starEach (e :: es) X.env)) (backToKw pos (keywordEach [] X.env))) := by rfl) :
    PE X (.Call (.Attribute o m apos) (e :: es) [] pos) (tMethW C m sp Ew ta t) := by
  refine ⟨fun pins s σ H Q I h => PySem.W.methodCall_KW (pl := pl) (thn (he.run pins s σ H _ I h) fun u s1 ⟨x, H1, J, rx, a, dx, fs, ex, ea, l, q⟩ => ?_) ht⟩
  subst ex
  obtain rfl : u = Value.ref a := rx
  refine getmeth_ok J ea c hm l (PySem.W.callWith_K (first := [.ref a]) (h₀ := X.base) I.ok.mod.kin hm.kp (thn (ha.run pos pins s1 σ H1 _ J q) fun us s2 ⟨vs, H2, J2, r, q2⟩ => ⟨J2.kIn, ?_⟩) hst hpl)
  exact run_fnS (us := .ref a :: us) (vs := .ref a :: vs) F hr hb (hx σ) J2 (.cons rfl r) q2
end
section
variable {P : Program} {w : World} {K : PySem.W.Frag} {mg : Str → Option Value} {base : Heap}
/-- an own method as the library's lemmas want it -/
structure OwnM (P : Program) (w : World) (K : PySem.W.Frag) (mg : Str → Option Value) (base : Heap) (C : Addr) (m : Str) (k : Nat) (ps : List Str) (sp : Sp) (g : Addr) (fd : FuncData) : Prop where
  M : Meth K C m g
  G : FnOk P w K mg base CX0 k g fd ps sp
  b : Binds K fd ps []
theorem OwnM.raw {C g : Addr} {m : Str} {k : Nat} {ps : List Str} {sp : Sp} {fd : FuncData} (o : OwnM P w K mg base C m k ps sp g fd) : FnR P w K mg base CX0 k g sp := (o.G.raw o.b .nil).imp fun vs H Q E h => by rw [List.append_nil]; exact h
end
end Kx


set_option maxHeartbeats 4000000
namespace Kx
open PySem L2
/-- the heap but for the hand -/
def wo (p : Addr) (H : Hp) : Hp := fun b => if b = p then none else H b
theorem wo_same {H : Hp} {p : Addr} : Same (wo p H) H := fun b o e => by
  unfold wo at e
  by_cases h : b = p
  · rw [if_pos h] at e; cases e
  · rw [if_neg h] at e; exact e
theorem wo_ne {H : Hp} {p b : Addr} (h : b ≠ p) : wo p H b = H b := if_neg h
theorem wo_keep {H H' : Hp} {p : Addr} (k : Keep H H' p) : Same (wo p H) (wo p H') := fun b o e => by
  unfold wo at e ⊢
  by_cases h : b = p
  · rw [if_pos h] at e; cases e
  · rw [if_neg h] at e ⊢; exact k b o e h
theorem wo_at {H : Hp} {p b : Addr} {o : HO} (h : H b = some o) (n : b ≠ p) : wo p H b = some o := by rw [wo_ne n]; exact h
theorem wo_mono {H H' : Hp} {p : Addr} (s : Same H H') : Same (wo p H) (wo p H') := wo_keep fun b o e _ => s b o e
theorem inV_strs (z : Str) : ∀ ys : List Str, inV (.str z) (ys.map V.str) = decide (z ∈ ys)
  | [] => rfl
  | y :: ys => by
    have ih := inV_strs z ys
    show (eqV (.str y) (.str z) || inV (.str z) (ys.map V.str)) = _
    rw [ih]
    by_cases e : z = y
    · subst e
      simp [eqV]
    · have e' : ¬ y = z := fun q => e q.symm
      simp [eqV, e, e']
end Kx
namespace Kx
open PySem L2
/-- what is new since H -/
def nw (H H' : Hp) : Hp := fun a => match H a with
  | none => H' a
  | some _ => none
theorem nw_at {H H' : Hp} {a : Addr} {o : HO} (h0 : H a = none) (h : H' a = some o) : nw H H' a = some o := by
  unfold nw
  rw [h0]
  exact h
theorem nw_get {H H' : Hp} {a : Addr} {o : HO} (h : nw H H' a = some o) : H a = none ∧ H' a = some o := by
  unfold nw at h
  cases e : H a with
  | none => rw [e] at h; exact ⟨rfl, h⟩
  | some u => rw [e] at h; cases h
theorem nw_wo {H H' : Hp} {p : Addr} {o : HO} (hp : H p = some o) : Same (nw H H') (wo p H') := fun a u e => by
  obtain ⟨e0, e1⟩ := nw_get e
  exact wo_at e1 fun h => by rw [h, hp] at e0; cases e0
end Kx
namespace Kx
open PySem L2
def rLstOf (K : PySem.W.Frag) : List V → Hp → VK → Prop := fun xs H Q => ∃ p ys, xs = [.ref p] ∧ (SqL K H p ys ∨ SqT K H p ys) ∧ ∀ l, H l = none → Q (.ref l) (upd H l (.lst ys))
theorem call_lstK {X : Cx} {K : PySem.W.Frag} (h : X.K = K) : CallR X (.type "list") (rLstOf K) := by
  subst h
  exact call_list_of
theorem ix_seqK {X : Cx} {K : PySem.W.Frag} (h : X.K = K) : IxR X (rIx K) := by
  subst h
  exact ix_seq
/-- the heap but for the hand and one list more -/
def hid (b p : Addr) (H : Hp) : Hp := wo b (wo p H)
theorem hid_at {b p c : Addr} {H : Hp} {o : HO} (h : H c = some o) (n1 : c ≠ b) (n2 : c ≠ p) : hid b p H c = some o := by
  unfold hid
  rw [wo_ne n1, wo_ne n2]
  exact h
theorem hid_keep {b p : Addr} {H H' : Hp} (k : Keep H H' p) : Same (hid b p H) (hid b p H') := wo_mono (wo_keep k)
theorem hid_wo {b p : Addr} {H : Hp} : Same (hid b p H) (wo p H) := wo_same
theorem hid_b {b p : Addr} {H : Hp} {o : HO} : Same (hid b p H) (hid b p (upd H b o)) := fun c u e => by
  unfold hid at e ⊢
  have cb : c ≠ b := fun h => by rw [h] at e; unfold wo at e; rw [if_pos rfl] at e; cases e
  rw [wo_ne cb] at e ⊢
  have cp : c ≠ p := fun h => by rw [h] at e; unfold wo at e; rw [if_pos rfl] at e; cases e
  rw [wo_ne cp] at e ⊢
  rw [upd_ne cb]
  exact e
theorem hid_get {b p c : Addr} {H : Hp} {o : HO} (h : hid b p H c = some o) : H c = some o ∧ c ≠ b ∧ c ≠ p := by
  unfold hid at h
  have cb : c ≠ b := fun e => by rw [e] at h; unfold wo at h; rw [if_pos rfl] at h; cases h
  rw [wo_ne cb] at h
  have cp : c ≠ p := fun e => by rw [e] at h; unfold wo at h; rw [if_pos rfl] at h; cases h
  rw [wo_ne cp] at h
  exact ⟨h, cb, cp⟩
/-- where we stand: the hand, the list at b, the rest as it was -/
structure Fr (b p q : Addr) (ys : List V) (H0 Hs H : Hp) : Prop where
  hb : H b = some (.lst ys)
  bp : b ≠ p
  hp : HandAt H p q
  kp : Keep H0 H p
  sm : Same (hid b p Hs) (hid b p H)
  b0 : H0 b = none
  bq : b ≠ q
theorem Fr.new {b p q l : Addr} {ys : List V} {H0 Hs H : Hp} {o : HO} (f : Fr b p q ys H0 Hs H) (hl : H l = none) : Fr b p q ys H0 Hs (upd H l o) ∧ hid b p (upd H l o) l = some o ∧ Same (hid b p H) (hid b p (upd H l o)) := by
  have lb : l ≠ b := (ne_of_none f.hb hl).symm
  have lp : l ≠ p := f.hp.ap hl
  have l0 : H0 l = none := by
    cases e : H0 l with
    | none => rfl
    | some u => exact absurd hl (by rw [f.kp l u e lp]; exact fun z => nomatch z)
  have k : Keep H (upd H l o) p := fun c u e _ => by rw [upd_ne (ne_of_none e hl)]; exact e
  exact ⟨⟨by rw [upd_ne lb.symm]; exact f.hb, f.bp, f.hp.upd lp (f.hp.aq hl), keepUpd f.kp l0, f.sm.trans (hid_keep k), f.b0, f.bq⟩, hid_at upd_same lb lp, hid_keep k⟩
theorem Fr.draw {b p q : Addr} {ys : List V} {H0 Hs H H' : Hp} (f : Fr b p q ys H0 Hs H) (k : Keep H H' p) (h : HandAt H' p q) : Fr b p q ys H0 Hs H' ∧ Same (hid b p H) (hid b p H') :=
  ⟨⟨k b _ f.hb f.bp, f.bp, h, f.kp.trans k, f.sm.trans (hid_keep k), f.b0, f.bq⟩, hid_keep k⟩
theorem lab_low {z : Str} (h : isLab z = true) : Low z ∧ z.length ≤ 6 := by
  unfold isLab at h
  rw [Bool.and_eq_true, Bool.and_eq_true, decide_eq_true_eq, decide_eq_true_eq] at h
  refine ⟨fun c hc => ?_, h.2.1⟩
  have h3 := List.all_eq_true.mp h.2.2 c hc
  unfold isLow at h3
  simp only [Bool.and_eq_true, decide_eq_true_eq] at h3
  omega
theorem hid_swap {b c p : Addr} {H : Hp} {o : HO} (hc : H c = none) : Same (hid b p H) (hid c p (upd H c o)) := fun a u e => by
  obtain ⟨e1, n1, n2⟩ := hid_get e
  have ac := ne_of_none e1 hc
  exact hid_at (by rw [upd_ne ac]; exact e1) ac n2
theorem Fr.put {b p q c : Addr} {ys : List V} {H0 Hs H : Hp} {o : HO} (f : Fr b p q ys H0 Hs H) (n0 : H0 c = none) (ns : Hs c = none) (cb : c ≠ b) (cp : c ≠ p) (cq : c ≠ q) : Fr b p q ys H0 Hs (upd H c o) :=
  ⟨by rw [upd_ne cb.symm]; exact f.hb, f.bp, f.hp.upd cp cq, keepUpd f.kp n0, fun a u e => by
    obtain ⟨e1, n1, n2⟩ := hid_get (f.sm a u e)
    have ac : a ≠ c := fun h => by rw [h] at e; rw [(hid_get e).1] at ns; cases ns
    exact hid_at (by rw [upd_ne ac]; exact e1) n1 n2, f.b0, f.bq⟩
theorem wo_put {b p c : Addr} {H : Hp} {o : HO} : Same (wo c (hid b p H)) (wo c (hid b p (upd H c o))) := fun a u e => by
  have ac : a ≠ c := fun h => by rw [h] at e; unfold wo at e; rw [if_pos rfl] at e; cases e
  rw [wo_ne ac] at e ⊢
  obtain ⟨e1, n1, n2⟩ := hid_get e
  exact hid_at (by rw [upd_ne ac]; exact e1) n1 n2
theorem nw_hid {H H' : Hp} {b p : Addr} {o o' : HO} (hb : H b = some o) (hp : H p = some o') : Same (nw H H') (hid b p H') := fun a u e => by
  obtain ⟨e0, e1⟩ := nw_get e
  exact hid_at e1 (fun h => by rw [h, hb] at e0; cases e0) fun h => by rw [h, hp] at e0; cases e0
theorem HandAt.at_ {H : Hp} {p q : Addr} (h : HandAt H p q) : ∃ o, H p = some o := by
  obtain ⟨cs, a, b, c, h1, h2⟩ := h
  exact ⟨_, h1⟩
end Kx
namespace Kx
open PySem L2
theorem wo_get {p b : Addr} {H : Hp} {o : HO} (h : wo p H b = some o) : H b = some o ∧ b ≠ p := ⟨wo_same _ _ h, fun e => by rw [e] at h; unfold wo at h; rw [if_pos rfl] at h; cases h⟩
end Kx
namespace Kx
open PySem L2
theorem Fr.free {b p q c : Addr} {ys : List V} {H0 Hs H : Hp} (f : Fr b p q ys H0 Hs H) (hc : H c = none) : H0 c = none ∧ c ≠ b ∧ c ≠ p ∧ c ≠ q := by
  have cp := f.hp.ap hc
  refine ⟨?_, (ne_of_none f.hb hc).symm, cp, f.hp.aq hc⟩
  cases e : H0 c with
  | none => rfl
  | some u => exact absurd hc (by rw [f.kp c u e cp]; exact fun z => nomatch z)
/-- what is new since H0, but for the thing at b -/
def hn (b : Addr) (H0 H : Hp) : Hp := wo b (nw H0 H)
theorem hn_nw {b : Addr} {H0 H : Hp} : Same (hn b H0 H) (nw H0 H) := wo_same
theorem hn_get {b c : Addr} {H0 H : Hp} {o : HO} (h : hn b H0 H c = some o) : H c = some o ∧ c ≠ b ∧ H0 c = none := by
  have e := hn_nw c o h
  have cb : c ≠ b := fun e => by unfold hn at h; rw [e] at h; unfold wo at h; rw [if_pos rfl] at h; cases h
  exact ⟨(nw_get e).2, cb, (nw_get e).1⟩
theorem hn_at {b c : Addr} {H0 H : Hp} {o : HO} (h : H c = some o) (n : c ≠ b) (h0 : H0 c = none) : hn b H0 H c = some o := wo_at (nw_at h0 h) n
theorem hn_b {b : Addr} {H0 H : Hp} {o : HO} : Same (hn b H0 H) (hn b H0 (upd H b o)) := fun c u e => by
  obtain ⟨h, n, h0⟩ := hn_get e
  exact hn_at (by rw [upd_ne n]; exact h) n h0
theorem Fr.newN {b p q l : Addr} {ys : List V} {H0 Hs H : Hp} {o : HO} (f : Fr b p q ys H0 Hs H) (hl : H l = none) : Fr b p q ys H0 Hs (upd H l o) ∧ hn b H0 (upd H l o) l = some o ∧ Same (hn b H0 H) (hn b H0 (upd H l o)) := by
  obtain ⟨l0, lb, lp, lq⟩ := f.free hl
  refine ⟨(f.new hl).1, hn_at upd_same lb l0, fun c u e => ?_⟩
  obtain ⟨h, n, h0⟩ := hn_get e
  exact hn_at (by rw [upd_ne (ne_of_none h hl)]; exact h) n h0
theorem Fr.drawN {b p q : Addr} {ys : List V} {H0 Hs H H' : Hp} (f : Fr b p q ys H0 Hs H) (hp0 : ∃ o, H0 p = some o) (k : Keep H H' p) (h : HandAt H' p q) : Fr b p q ys H0 Hs H' ∧ Same (hn b H0 H) (hn b H0 H') := by
  refine ⟨(f.draw k h).1, fun c u e => ?_⟩
  obtain ⟨g, n, h0⟩ := hn_get e
  obtain ⟨o, hp0⟩ := hp0
  exact hn_at (k c u g fun z => by rw [z, hp0] at h0; cases h0) n h0
theorem nw_hn {b p q : Addr} {ys : List V} {H0 Hs H H' : Hp} (f : Fr b p q ys H0 Hs H) : Same (nw H H') (hn b H0 H') := fun c u e => by
  obtain ⟨h, g⟩ := nw_get e
  obtain ⟨c0, cb, _, _⟩ := f.free h
  exact hn_at g cb c0
end Kx
namespace Kx
open PySem L2
theorem line2 {n : Nat} (h : n ≤ 2000000) : n < sizeLine := by
  have e : sizeLine = 16777216 := by decide
  omega
theorem pr_get {α β : Type} {F : α → β → Prop} {xs : List α} {ys : List β} (h : Paired F xs ys) : ∀ {i : Nat} {x : α}, xs[i]? = some x → ∃ y, ys[i]? = some y ∧ F x y := by
  induction h with
  | nil => intro i x e; cases e
  | cons h t ih =>
    intro i x e
    cases i with
    | zero => cases e; exact ⟨_, rfl, h⟩
    | succ i => exact ih e
theorem pr_imp {α β : Type} {F G : α → β → Prop} {xs : List α} {ys : List β} (h : Paired F xs ys) (k : ∀ a b, F a b → G a b) : Paired G xs ys := by
  induction h with
  | nil => exact .nil
  | cons h t ih => exact .cons (k _ _ h) ih
theorem pr_take {α β : Type} {F : α → β → Prop} {xs : List α} {ys : List β} (h : Paired F xs ys) : ∀ n, Paired F (xs.take n) (ys.take n) := by
  induction h with
  | nil => intro n; rw [List.take_nil, List.take_nil]; exact .nil
  | cons h t ih =>
    intro n
    cases n with
    | zero => exact .nil
    | succ n => exact .cons h (ih n)
theorem pr_drop {α β : Type} {F : α → β → Prop} {xs : List α} {ys : List β} (h : Paired F xs ys) : ∀ n, Paired F (xs.drop n) (ys.drop n) := by
  induction h with
  | nil => intro n; rw [List.drop_nil, List.drop_nil]; exact .nil
  | cons h t ih =>
    intro n
    cases n with
    | zero => exact .cons h t
    | succ n => exact ih n
theorem pr_app {α β : Type} {F : α → β → Prop} {xs zs : List α} {ys ws : List β} (h : Paired F xs ys) (k : Paired F zs ws) : Paired F (xs ++ zs) (ys ++ ws) := by
  induction h with
  | nil => exact k
  | cons h t ih => exact .cons h ih
theorem pr_rep {α β : Type} {F : α → β → Prop} {x : α} {y : β} (h : F x y) : ∀ n, Paired F (List.replicate n x) (List.replicate n y)
  | 0 => .nil
  | n + 1 => .cons h (pr_rep h n)
/-! years, as they are told -/
/-- a list or a tuple at b -/
inductive IsSeq (K : PySem.W.Frag) (H : Hp) (b : Addr) (xs : List V) : Prop where
  | lst (h : H b = some (.lst xs)) : IsSeq K H b xs
  | tup (h : H b = some (.tup xs)) : IsSeq K H b xs
  | wr {o : Obj} (e : K.lookup b = some o) (c : o.cls = .type "tuple") (h : ∀ H, SqT K H b xs) : IsSeq K H b xs
theorem IsSeq.keep {K : PySem.W.Frag} {H H' : Hp} {b : Addr} {xs : List V} (h : IsSeq K H b xs) (s : Same H H') : IsSeq K H' b xs := by
  cases h with
  | lst h => exact .lst (s _ _ h)
  | tup h => exact .tup (s _ _ h)
  | wr e c h => exact .wr e c h
theorem IsSeq.sq {K : PySem.W.Frag} {H : Hp} {b : Addr} {xs : List V} (h : IsSeq K H b xs) : SqL K H b xs ∨ SqT K H b xs := by
  cases h with
  | lst h => exact .inl (SqL.of h)
  | tup h => exact .inr (SqT.of h)
  | wr e c h => exact .inr (h H)
theorem IsSeq.ty {K : PySem.W.Frag} {H : Hp} {b : Addr} {xs : List V} (h : IsSeq K H b xs) : ∃ n, n ∈ ["NoneType", "bool", "int", "str", "list", "tuple", "dict"] ∧ seqV n = true ∧ ∀ H', Same H H' → TyX K H' (.ref b) (.type n) := by
  cases h with
  | lst h => exact ⟨"list", by decide, rfl, fun H' s => .base (.lst (s _ _ h))⟩
  | tup h => exact ⟨"tuple", by decide, rfl, fun H' s => .base (.tup (s _ _ h))⟩
  | wr e c h => exact ⟨"tuple", by decide, rfl, fun H' s => .kTuple e c⟩
end Kx
namespace Kx
open PySem PySem.Spec PyProof.Rows L2
/-- what walks a list or a tuple -/
def iSeq (K : PySem.W.Frag) (tl : TE) : TI := fun σ H R => tl σ H fun x H1 => ∃ a, x = .ref a ∧ (((∃ xs, SqL K H1 a xs) ∧ R (Itl K a) H1) ∨ ((∃ xs, SqT K H1 a xs) ∧ R (Itt K a) H1))
theorem pi_seq {X : Cx} {tg l : Expr} {tl : TE} (hl : PE X l tl) : PI X tg l (iSeq X.K tl) := by
  refine ⟨fun pins s σ H R I h => ?_⟩
  refine thn (hl.run pins s σ H _ I h) fun v s1 ⟨x, H1, I1, r1, q1⟩ => ?_
  obtain ⟨a, e, q⟩ := q1
  subst e
  cases r1
  have at_ : ∀ b ∈ [s1.heap.objs.size], FpOk X pins H1 b := fun b hb => by
    obtain rfl : b = s1.heap.objs.size := by simpa using hb
    exact I1.fpOk (Nat.le_refl _) (I1.hok.fresh (Nat.le_refl _))
  rcases q with ⟨⟨xs, hq⟩, q⟩ | ⟨⟨xs, hq⟩, q⟩
  · obtain ⟨its, rv, p, hz⟩ := I1.list hq
    exact wpAny_pyIter_list p.isList ⟨s1.heap.objs.size, [s1.heap.objs.size], _, _, H1, rfl, I1.kept (t' := s1.toks) fun b o e => Heap.get?_push_of_some _ e, turn_list a _, ⟨_, Heap.get?_push_size _ rfl, rfl, rfl⟩, at_, q⟩
  · obtain ⟨its, rv, p, hz⟩ := I1.tuple hq
    exact wpAny_pyIter_tuple (show s1.heap.IsTuple a its.toArray from p) ⟨s1.heap.objs.size, [s1.heap.objs.size], _, _, H1, rfl, I1.kept (t' := s1.toks) fun b o e => Heap.get?_push_of_some _ e, turn_tuple a _, ⟨_, Heap.get?_push_size _ rfl, rfl, rfl⟩, at_, q⟩
theorem IsSeq.both {K : PySem.W.Frag} {H : Hp} {b : Addr} {xs : List V} (h : IsSeq K H b xs) : (∀ H', Same H H' → SqL K H' b xs) ∨ (∀ H', Same H H' → SqT K H' b xs) := by
  cases h with
  | lst h => exact .inl fun H' s => SqL.of (s _ _ h)
  | tup h => exact .inr fun H' s => SqT.of (s _ _ h)
  | wr e c h => exact .inr fun H' s => h H'
/-- a for over such, all but the new standing still -/
theorem for_sq {K : PySem.W.Frag} {a : Addr} {xs : List V} {g : TG} {tb : TS} {D : Ends} {σ : L2.St} {H0 H : Hp} (q : IsSeq K H0 a xs) (Pv : Nat → L2.St → Hp → Prop) (h0 : Pv 0 σ H) (still : ∀ i σ H, Pv i σ H → Same H0 H)
    (hs : ∀ i x σ H, xs[i]? = some x → Pv i σ H → g x σ H fun σ2 H2 => tb { D with nx := Pv (i + 1), ct := Pv (i + 1), bk := D.nx } σ2 H2) (hd : ∀ σ H, Pv xs.length σ H → D.nx σ H) :
    ((∃ xs, SqL K H a xs) ∧ ∃ W : Nat → Nat → L2.St → Hp → Prop, (∃ m, W 0 m σ H) ∧ ∀ i m σ H, W i m σ H →
      ((Itl K a).stop i H ∧ D.nx σ H) ∨ ((Itl K a).go i H ∧ ∃ N : L2.St → Hp → Prop, (∀ σ' H', N σ' H' → ∃ m', m' < m ∧ W (i + 1) m' σ' H') ∧ ∀ x H', (Itl K a).yld i H x H' → g x σ H' fun σ2 H2 => tb { D with nx := N, ct := N, bk := D.nx } σ2 H2)) ∨
    ((∃ xs, SqT K H a xs) ∧ ∃ W : Nat → Nat → L2.St → Hp → Prop, (∃ m, W 0 m σ H) ∧ ∀ i m σ H, W i m σ H →
      ((Itt K a).stop i H ∧ D.nx σ H) ∨ ((Itt K a).go i H ∧ ∃ N : L2.St → Hp → Prop, (∀ σ' H', N σ' H' → ∃ m', m' < m ∧ W (i + 1) m' σ' H') ∧ ∀ x H', (Itt K a).yld i H x H' → g x σ H' fun σ2 H2 => tb { D with nx := N, ct := N, bk := D.nx } σ2 H2)) := by
  rcases q.both with q | q
  · exact .inl ⟨⟨xs, q _ (still _ _ _ h0)⟩, for_list Pv h0 (fun i σ H _ p => q _ (still _ _ _ p)) hs hd⟩
  · exact .inr ⟨⟨xs, q _ (still _ _ _ h0)⟩, for_tup Pv h0 (fun i σ H _ p => q _ (still _ _ _ p)) hs hd⟩
/-- what a comprehension over such is to show -/
def LcB (K : PySem.W.Frag) (a : Addr) (g : TG) (tt : TT) (te : TE) (vs : List Nat) (σ : L2.St) (H1 : Hp) (Qd : Addr → Hp → Prop) : Prop :=
  ((∃ xs, SqL K H1 a xs) ∧ ∀ D, H1 D = none → ∃ W : Nat → Nat → Hp → Prop, (∃ m, W 0 m (upd H1 D (.lst []))) ∧ ∀ i m H, W i m H → ((Itl K a).stop i H ∧ Qd D H) ∨ ((Itl K a).go i H ∧ ∃ Nx : Hp → Prop, (∀ H', Nx H' → ∃ m', m' < m ∧ W (i + 1) m' H') ∧
      ∀ x H', (Itl K a).yld i H x H' → g x (wipe σ vs) H' fun σ2 H2 => wipe σ2 vs = wipe σ vs ∧ tt σ2 H2 fun b H3 => if b = true then te σ2 H3 fun y H4 => ∃ acc, H4 D = some (.lst acc) ∧ acc.length < sizeLine ∧ Nx (upd H4 D (.lst (acc ++ [y]))) else Nx H3)) ∨
  ((∃ xs, SqT K H1 a xs) ∧ ∀ D, H1 D = none → ∃ W : Nat → Nat → Hp → Prop, (∃ m, W 0 m (upd H1 D (.lst []))) ∧ ∀ i m H, W i m H → ((Itt K a).stop i H ∧ Qd D H) ∨ ((Itt K a).go i H ∧ ∃ Nx : Hp → Prop, (∀ H', Nx H' → ∃ m', m' < m ∧ W (i + 1) m' H') ∧
      ∀ x H', (Itt K a).yld i H x H' → g x (wipe σ vs) H' fun σ2 H2 => wipe σ2 vs = wipe σ vs ∧ tt σ2 H2 fun b H3 => if b = true then te σ2 H3 fun y H4 => ∃ acc, H4 D = some (.lst acc) ∧ acc.length < sizeLine ∧ Nx (upd H4 D (.lst (acc ++ [y]))) else Nx H3))
theorem lc_sq {K : PySem.W.Frag} {a : Addr} {xs : List V} {g : TG} {tt : TT} {te : TE} {vs : List Nat} {σ : L2.St} {H0 H1 : Hp} {Qd : Addr → Hp → Prop} (q : IsSeq K H0 a xs) (s0 : Same H0 H1)
    (body : ∀ D, H1 D = none → ∃ Pv : Nat → Hp → Prop, Pv 0 (upd H1 D (.lst [])) ∧ (∀ i H, Pv i H → Same H0 H) ∧ (∀ i x H, xs[i]? = some x → Pv i H → g x (wipe σ vs) H fun σ2 H2 => wipe σ2 vs = wipe σ vs ∧ tt σ2 H2 fun b H3 =>
      if b = true then te σ2 H3 fun y H4 => ∃ acc, H4 D = some (.lst acc) ∧ acc.length < sizeLine ∧ Pv (i + 1) (upd H4 D (.lst (acc ++ [y]))) else Pv (i + 1) H3) ∧ ∀ H, Pv xs.length H → Qd D H) : LcB K a g tt te vs σ H1 Qd := by
  rcases q.both with q | q
  · exact .inl ⟨⟨xs, q _ s0⟩, fun D hD => by
      obtain ⟨Pv, p0, st, tu, af⟩ := body D hD
      exact lc_list (K := K) (a := a) (xs := xs) Pv p0 (fun i H _ p => q _ (st i H p)) tu af⟩
  · exact .inr ⟨⟨xs, q _ s0⟩, fun D hD => by
      obtain ⟨Pv, p0, st, tu, af⟩ := body D hD
      exact lc_tup (K := K) (a := a) (xs := xs) Pv p0 (fun i H _ p => q _ (st i H p)) tu af⟩
theorem woD {H1 H H4 : Hp} {D : Addr} {o : HO} (h : H1 D = none) (s : Same H1 H) (s4 : Same H H4) : Same H1 (upd H4 D o) := fun b u e => by
  rw [upd_ne (ne_of_none e h)]
  exact s4 b u (s b u e)
theorem woU {H H4 : Hp} {D : Addr} {o : HO} (s4 : Same H H4) : Same (wo D H) (wo D (upd H4 D o)) := wo_keep fun b u e n => by
  rw [upd_ne n]
  exact s4 b u e
/-- a comprehension without tests whose step makes y of x, G telling how (of all but the new list), the old things standing still -/
theorem lc_pure {K : PySem.W.Frag} {a : Addr} {xs : List V} {g : TG} {te : TE} {vs : List Nat} {σ : L2.St} {H0 H1 : Hp} {Qd : Addr → Hp → Prop} (G : Nat → V → Hp → Prop) (keep : ∀ i y H H', G i y H → Same H H' → G i y H') (q : IsSeq K H0 a xs) (s0 : Same H0 H1) (hz : xs.length ≤ 2000000)
    (step : ∀ D i x H (k : V → Hp → Prop), xs[i]? = some x → H1 D = none → Same H1 H → (∃ acc, H D = some (.lst acc)) → (∀ y H4, Same H H4 → G i y (wo D H4) → k y H4) → g x (wipe σ vs) H fun σ2 H2 => wipe σ2 vs = wipe σ vs ∧ te σ2 H2 k)
    (after : ∀ D ys H, H1 D = none → Same H1 H → H D = some (.lst ys) → ys.length = xs.length → (∀ i y, ys[i]? = some y → G i y (wo D H)) → Qd D H) (gm : ∀ x σ H (Q Q' : L2.St → Hp → Prop), (∀ σ H, Q σ H → Q' σ H) → g x σ H Q → g x σ H Q') : LcB K a g tYes te vs σ H1 Qd := by
  refine lc_sq q s0 fun D hD => ⟨fun i H => Same H1 H ∧ ∃ acc, H D = some (.lst acc) ∧ acc.length = i ∧ i ≤ xs.length ∧ ∀ j y, acc[j]? = some y → G j y (wo D H), ⟨sameUpd (Same.refl _) hD, [], upd_same, rfl, Nat.zero_le _, fun j y e => by cases e⟩, fun i H p => s0.trans p.1, ?_, ?_⟩
  · rintro i x H hi ⟨s1, acc, hd, al, _, ha⟩
    have lt : i < xs.length := (List.getElem?_eq_some_iff.mp hi).1
    refine gm _ _ _ _ _ (fun σ2 H2 z => ⟨z.1, ?_⟩) (step D i x H (fun y H4 => ∃ acc, H4 D = some (.lst acc) ∧ acc.length < sizeLine ∧ (Same H1 (upd H4 D (.lst (acc ++ [y]))) ∧ ∃ acc', upd H4 D (.lst (acc ++ [y])) D = some (.lst acc') ∧ acc'.length = i + 1 ∧ i + 1 ≤ xs.length ∧ ∀ j y', acc'[j]? = some y' → G j y' (wo D (upd H4 D (.lst (acc ++ [y])))))) hi hD s1 ⟨acc, hd⟩ fun y H4 s4 gy => ?_)
    · unfold tYes
      dsimp only
      rw [if_pos rfl]
      exact z.2
    · refine ⟨acc, s4 _ _ hd, line2 (by omega), woD hD s1 s4, acc ++ [y], upd_same, by simp [al], lt, fun j y' e => ?_⟩
      by_cases lj : j < acc.length
      · rw [List.getElem?_append_left lj] at e
        exact keep _ _ _ _ (ha j y' e) (woU s4)
      · have ej : j = i := by
          have := (List.getElem?_eq_some_iff.mp e).1
          simp at this
          omega
        subst ej
        rw [List.getElem?_append_right (by omega), al, Nat.sub_self] at e
        cases e
        exact keep _ _ _ _ gy (woU (Same.refl _))
  · rintro H ⟨s1, acc, hd, al, _, ha⟩
    exact after D acc H hD s1 hd al ha
end Kx
namespace Kx
open PySem L2
theorem call_lenK {X : Cx} {K : PySem.W.Frag} (h : X.K = K) : CallR X (.builtin "len") (fun xs H Q => ∃ p ys, xs = [.ref p] ∧ (SqL K H p ys ∨ SqT K H p ys) ∧ Q (.int ys.length) H) := by
  subst h
  exact call_len_seq
end Kx
namespace Kx
open PySem L2
theorem pr_of {α β : Type} {F : α → β → Prop} : ∀ {xs : List α} {ys : List β}, xs.length = ys.length → (∀ (i : Nat) (x : α) (y : β), xs[i]? = some x → ys[i]? = some y → F x y) → Paired F xs ys
  | [], [], _, _ => .nil
  | [], _ :: _, e, _ => by cases e
  | _ :: _, [], e, _ => by cases e
  | _ :: _, _ :: _, e, f => .cons (f 0 _ _ rfl rfl) (pr_of (Nat.succ.inj e) fun i x y e1 e2 => f (i + 1) x y e1 e2)
theorem call_tupK {X : Cx} {K : PySem.W.Frag} (h : X.K = K) : CallR X (.type "tuple") (fun xs H Q => ∃ p ys, xs = [.ref p] ∧ ((SqL K H p ys ∧ ∀ l, H l = none → Q (.ref l) (upd H l (.tup ys))) ∨ (SqT K H p ys ∧ Q (.ref p) H))) := by
  subst h
  exact call_tuple_of
end Kx
namespace Kx
open PySem L2
/-- what a comprehension over an enumerated list or tuple is to show -/
def LcE (J : It) (g : TG) (tt : TT) (te : TE) (vs : List Nat) (σ : L2.St) (H1 : Hp) (Qd : Addr → Hp → Prop) : Prop :=
  ∀ D, H1 D = none → ∃ W : Nat → Nat → Hp → Prop, (∃ m, W 0 m (upd H1 D (.lst []))) ∧ ∀ i m H, W i m H → (J.stop i H ∧ Qd D H) ∨ (J.go i H ∧ ∃ Nx : Hp → Prop, (∀ H', Nx H' → ∃ m', m' < m ∧ W (i + 1) m' H') ∧
      ∀ x H', J.yld i H x H' → g x (wipe σ vs) H' fun σ2 H2 => wipe σ2 vs = wipe σ vs ∧ tt σ2 H2 fun b H3 => if b = true then te σ2 H3 fun y H4 => ∃ acc, H4 D = some (.lst acc) ∧ acc.length < sizeLine ∧ Nx (upd H4 D (.lst (acc ++ [y]))) else Nx H3)
theorem lc_en {K : PySem.W.Frag} {a : Addr} {xs : List V} {g : TG} {tt : TT} {te : TE} {vs : List Nat} {σ : L2.St} {H0 H1 : Hp} {Qd : Addr → Hp → Prop} (q : IsSeq K H0 a xs) (s0 : Same H0 H1)
    (body : ∀ D, H1 D = none → ∃ Pv : Nat → Hp → Prop, Pv 0 (upd H1 D (.lst [])) ∧ (∀ i H, Pv i H → Same H0 H) ∧ (∀ i x H T, xs[i]? = some x → Pv i H → H T = none → g (.ref T) (wipe σ vs) (upd H T (.tup [.int (i : Nat), x])) fun σ2 H2 => wipe σ2 vs = wipe σ vs ∧ tt σ2 H2 fun b H3 =>
      if b = true then te σ2 H3 fun y H4 => ∃ acc, H4 D = some (.lst acc) ∧ acc.length < sizeLine ∧ Pv (i + 1) (upd H4 D (.lst (acc ++ [y]))) else Pv (i + 1) H3) ∧ ∀ H, Pv xs.length H → Qd D H) :
    (SqL K H1 a xs ∧ LcE (Ite K a) g tt te vs σ H1 Qd) ∨ (SqT K H1 a xs ∧ LcE (IteT K a) g tt te vs σ H1 Qd) := by
  rcases q.both with q | q
  · refine .inl ⟨q _ s0, fun D hD => ?_⟩
    obtain ⟨Pv, p0, st, tu, af⟩ := body D hD
    refine ⟨fun i m H => m + i = xs.length ∧ Pv i H, ⟨xs.length, by omega, p0⟩, fun i m H u => ?_⟩
    obtain ⟨e, u⟩ := u
    cases m with
    | zero =>
      obtain rfl : i = xs.length := by omega
      exact .inl ⟨⟨xs, q _ (st _ _ u), Nat.le_refl _⟩, af _ u⟩
    | succ m =>
      have lt : i < xs.length := by omega
      refine .inr ⟨⟨xs, xs[i], q _ (st _ _ u), List.getElem?_eq_getElem lt⟩, Pv (i + 1), fun H' u' => ⟨m, Nat.lt_succ_self _, by omega, u'⟩, fun x H' y => ?_⟩
      obtain ⟨T, z, rfl, free, rfl, same⟩ := y
      exact tu i z H T (same xs (q _ (st _ _ u))) u free
  · refine .inr ⟨q _ s0, fun D hD => ?_⟩
    obtain ⟨Pv, p0, st, tu, af⟩ := body D hD
    refine ⟨fun i m H => m + i = xs.length ∧ Pv i H, ⟨xs.length, by omega, p0⟩, fun i m H u => ?_⟩
    obtain ⟨e, u⟩ := u
    cases m with
    | zero =>
      obtain rfl : i = xs.length := by omega
      exact .inl ⟨⟨xs, q _ (st _ _ u), rfl⟩, af _ u⟩
    | succ m =>
      have lt : i < xs.length := by omega
      refine .inr ⟨⟨xs, xs[i], q _ (st _ _ u), List.getElem?_eq_getElem lt⟩, Pv (i + 1), fun H' u' => ⟨m, Nat.lt_succ_self _, by omega, u'⟩, fun x H' y => ?_⟩
      obtain ⟨T, z, rfl, free, rfl, same⟩ := y
      exact tu i z H T (same xs (q _ (st _ _ u))) u free
end Kx
namespace Kx
open PySem L2
/-! [x for x in xs if ..]: only whether anything is left is told -/
def okV (y : V) : Prop := flatV y = true ∨ ∃ c, y = .ref c
theorem lc_filt {K : PySem.W.Frag} {a : Addr} {xs : List V} {g : TG} {tt : TT} {te : TE} {vs : List Nat} {σ : L2.St} {H0 H1 : Hp} {Qd : Addr → Hp → Prop} (bad : Nat → Bool) (q : IsSeq K H0 a xs) (s0 : Same H0 H1) (hz : xs.length ≤ 2000000)
    (step : ∀ D i x H (kt : V → Hp → Prop) (kf : Hp → Prop), xs[i]? = some x → H1 D = none → Same H1 H → (∃ acc, H D = some (.lst acc)) → (bad i = true → ∀ y H4, okV y → Same H H4 → kt y H4) → (bad i = false → ∀ H4, Same H H4 → kf H4) →
      g x (wipe σ vs) H fun σ2 H2 => wipe σ2 vs = wipe σ vs ∧ tt σ2 H2 fun b H3 => if b = true then te σ2 H3 kt else kf H3)
    (after : ∀ D ys H, H1 D = none → Same H1 H → H D = some (.lst ys) → ys.length ≤ xs.length → (∀ z ∈ ys, okV z) → (ys = [] ↔ ∀ i, i < xs.length → bad i = false) → Qd D H) : LcB K a g tt te vs σ H1 Qd := by
  refine lc_sq q s0 fun D hD => ⟨fun i H => Same H1 H ∧ ∃ acc, H D = some (.lst acc) ∧ acc.length ≤ i ∧ i ≤ xs.length ∧ (∀ z ∈ acc, okV z) ∧ (acc = [] ↔ ∀ j, j < i → bad j = false), ⟨sameUpd (Same.refl _) hD, [], upd_same, Nat.le_refl _, Nat.zero_le _, (fun z h => nomatch h), ⟨fun _ j h => absurd h (Nat.not_lt_zero _), fun _ => rfl⟩⟩, fun i H p => s0.trans p.1, ?_, ?_⟩
  · rintro i x H hi ⟨s1, acc, hd, al, _, ok, ha⟩
    have lt : i < xs.length := (List.getElem?_eq_some_iff.mp hi).1
    refine step D i x H _ _ hi hD s1 ⟨acc, hd⟩ (fun hb y H4 oy s4 => ?_) (fun hb H4 s4 => ?_)
    · refine ⟨acc, s4 _ _ hd, line2 (by omega), woD hD s1 s4, acc ++ [y], upd_same, by simp; omega, lt, fun z hz => (List.mem_append.mp hz).elim (ok z) fun h => by rw [List.mem_singleton.mp h]; exact oy, ⟨fun e => by simp at e, fun e => ?_⟩⟩
      rw [e i (Nat.lt_succ_self _)] at hb
      cases hb
    · refine ⟨s1.trans s4, acc, s4 _ _ hd, by omega, lt, ok, ha.trans ⟨fun e j hj => ?_, fun e j hj => e j (by omega)⟩⟩
      by_cases ej : j = i
      · rw [ej]; exact hb
      · exact e j (by omega)
  · rintro H ⟨s1, acc, hd, al, _, ok, ha⟩
    exact after D acc H hD s1 hd al ok ha
theorem lc_filtE {K : PySem.W.Frag} {a : Addr} {xs : List V} {g : TG} {tt : TT} {te : TE} {vs : List Nat} {σ : L2.St} {H0 H1 : Hp} {Qd : Addr → Hp → Prop} (bad : Nat → Bool) (q : IsSeq K H0 a xs) (s0 : Same H0 H1) (hz : xs.length ≤ 2000000)
    (step : ∀ D i x H T (kt : V → Hp → Prop) (kf : Hp → Prop), xs[i]? = some x → H1 D = none → Same H1 H → H T = none → (bad i = true → ∀ y H4, okV y → Same (upd H T (.tup [.int (i : Nat), x])) H4 → kt y H4) → (bad i = false → ∀ H4, Same (upd H T (.tup [.int (i : Nat), x])) H4 → kf H4) →
      g (.ref T) (wipe σ vs) (upd H T (.tup [.int (i : Nat), x])) fun σ2 H2 => wipe σ2 vs = wipe σ vs ∧ tt σ2 H2 fun b H3 => if b = true then te σ2 H3 kt else kf H3)
    (after : ∀ D ys H, H1 D = none → Same H1 H → H D = some (.lst ys) → ys.length ≤ xs.length → (∀ z ∈ ys, okV z) → (ys = [] ↔ ∀ i, i < xs.length → bad i = false) → Qd D H) :
    (SqL K H1 a xs ∧ LcE (Ite K a) g tt te vs σ H1 Qd) ∨ (SqT K H1 a xs ∧ LcE (IteT K a) g tt te vs σ H1 Qd) := by
  refine lc_en q s0 fun D hD => ⟨fun i H => Same H1 H ∧ ∃ acc, H D = some (.lst acc) ∧ acc.length ≤ i ∧ i ≤ xs.length ∧ (∀ z ∈ acc, okV z) ∧ (acc = [] ↔ ∀ j, j < i → bad j = false), ⟨sameUpd (Same.refl _) hD, [], upd_same, Nat.le_refl _, Nat.zero_le _, (fun z h => nomatch h), ⟨fun _ j h => absurd h (Nat.not_lt_zero _), fun _ => rfl⟩⟩, fun i H p => s0.trans p.1, ?_, ?_⟩
  · rintro i x H T hi ⟨s1, acc, hd, al, _, ok, ha⟩ hT
    have lt : i < xs.length := (List.getElem?_eq_some_iff.mp hi).1
    have sT : Same H (upd H T (.tup [.int (i : Nat), x])) := sameUpd (Same.refl _) hT
    refine step D i x H T _ _ hi hD s1 hT (fun hb y H4 oy s4 => ?_) (fun hb H4 s4 => ?_)
    · refine ⟨acc, s4 _ _ (sT _ _ hd), line2 (by omega), woD hD s1 (sT.trans s4), acc ++ [y], upd_same, by simp; omega, lt, fun z hz => (List.mem_append.mp hz).elim (ok z) fun h => by rw [List.mem_singleton.mp h]; exact oy, ⟨fun e => by simp at e, fun e => ?_⟩⟩
      rw [e i (Nat.lt_succ_self _)] at hb
      cases hb
    · refine ⟨s1.trans (sT.trans s4), acc, s4 _ _ (sT _ _ hd), by omega, lt, ok, ha.trans ⟨fun e j hj => ?_, fun e j hj => e j (by omega)⟩⟩
      by_cases ej : j = i
      · rw [ej]; exact hb
      · exact e j (by omega)
  · rintro H ⟨s1, acc, hd, al, _, ok, ha⟩
    exact after D acc H hD s1 hd al ok ha
/-- xs != [] -/
theorem ne_nil {K : PySem.W.Frag} {H : Hp} {D : Addr} {ys : List V} {Q : VK} (hd : H D = some (.lst ys)) (ok : ∀ z ∈ ys, flatV z = true ∨ ∃ c, z = .ref c) (l : Addr) (hl : H l = some (.lst [])) (q : Q (.bl (!ys.isEmpty)) H) : rNeL K (.ref D) (.ref l) H Q := by
  refine ⟨D, l, ys, [], rfl, rfl, SqL.of hd, SqL.of hl, ?_⟩
  cases ys with
  | nil => exact .inr ⟨rfl, ok, q⟩
  | cons y ys => exact .inl ⟨by simp, q⟩
end Kx
namespace Kx
open PySem L2
theorem call_isiTK {X : Cx} {K : PySem.W.Frag} (h : X.K = K) : CallR X (.builtin "isinstance") (rIsiT K) := by
  subst h
  exact call_isiT
end Kx
namespace Kx
open PySem L2
theorem pe_fldK {X : Cx} {K : PySem.W.Frag} {e : Expr} {ta : TE} {f : Str} {pos : Pos} (h : X.K = K) (he : PE X e ta) (hb : attributeBase e f X.env (eval e X.env) = eval e X.env) : PE X (.Attribute e f pos) (tFld K ta f) := by
  subst h
  exact pe_fld he hb
end Kx
namespace Kx
open PySem L2
theorem pi_seqK {X : Cx} {K : PySem.W.Frag} (h : X.K = K) {tg l : Expr} {tl : TE} (hl : PE X l tl) : PI X tg l (iSeq K tl) := by
  subst h
  exact pi_seq hl
end Kx
namespace Kx
open PySem L2
/-! years as data; == of histories -/
theorem cut_take (xs : List V) (m : Nat) (h : m ≤ xs.length) : cutV xs none (some (m : Int)) = xs.take m := by
  unfold cutV
  have e1 : HT.sIx xs.length 0 none = 0 := rfl
  have e2 : HT.sIx xs.length xs.length (some (m : Int)) = m := by
    simp [HT.sIx]
    rw [if_neg (by omega)]
    omega
  rw [e1, e2]
  simp
theorem cut_drop (xs : List V) (m : Nat) (h : m ≤ xs.length) : cutV xs (some (m : Int)) none = xs.drop m := by
  unfold cutV
  have e1 : HT.sIx xs.length 0 (some (m : Int)) = m := by
    simp [HT.sIx]
    rw [if_neg (by omega)]
    omega
  have e2 : HT.sIx xs.length xs.length none = xs.length := rfl
  rw [e1, e2, List.take_of_length_le (by simp)]
end Kx
namespace Kx
open PySem PySem.Spec PyProof.Rows L2
section
variable {X : Cx}
/-- two lists, of other lengths or both empty -/
def rEqL (K : PySem.W.Frag) : R2 := fun x y H Q => ∃ a b xs ys, x = .ref a ∧ y = .ref b ∧ SqL K H a xs ∧ SqL K H b ys ∧ ((xs.length ≠ ys.length ∧ Q (.bl false) H) ∨ (xs = [] ∧ ys = [] ∧ Q (.bl true) H))
theorem op_eqL (hu : X.A.units + 64 < cLine) : OpR X (compareOp .Eq) (rEqL X.K) := by
  intro pins s σ H x y v u Q I rx ry h
  obtain ⟨a, b, xs, ys, rfl, rfl, ha, hb, h⟩ := h
  obtain rfl : v = Value.ref a := rx
  obtain rfl : u = Value.ref b := ry
  obtain ⟨its, rv, pl, hz⟩ := I.list ha
  obtain ⟨ius, ru, pu, hw⟩ := I.list hb
  have l1 := rv.length
  have l2 := ru.length
  rcases h with ⟨ne, q⟩ | ⟨rfl, rfl, q⟩
  · exact SeqAt.RcAt.lists_lengths pl.isList pu.isList (by simp only [List.size_toArray, bne_iff_ne, ne_eq]; omega) (by omega) X.prog X.w X.xe _ ⟨.bl false, H, I, rfl, q⟩
  · have e := SeqAt.RcAt.lists (e := fun _ => true) (A := X.A) pl.isList pu.isList (by simp only [List.size_toArray]; omega) (by omega) fun j h1 h2 => by
      simp only [List.size_toArray] at h1
      rw [← l1] at h1
      exact absurd h1 (Nat.not_lt_zero j)
    refine e X.prog X.w X.xe _ ⟨.bl true, H, I, ?_, q⟩
    show Value.bool _ = Value.bool true
    simp
end
theorem wo_comm {a b : Addr} {H : Hp} : Same (wo a (wo b H)) (wo b (wo a H)) := fun c u e => by
  obtain ⟨e1, n1⟩ := wo_get e
  obtain ⟨e2, n2⟩ := wo_get e1
  exact wo_at (wo_at e2 n1) n2
theorem cut_le (xs : List V) (lo hi : Option Int) : (cutV xs lo hi).length ≤ xs.length := by
  unfold cutV
  rw [List.length_take, List.length_drop]
  omega
theorem Fr.old {b p q : Addr} {ys : List V} {H0 Hs H : Hp} (f : Fr b p q ys H0 Hs H) : Same (wo p H0) (hid b p H) := fun c u e => by
  obtain ⟨h, n⟩ := wo_get e
  exact hid_at (f.kp c u h n) (fun z => by have q := f.b0; rw [← z, h] at q; cases q) n
end Kx

set_option maxHeartbeats 4000000
namespace Kx
open PySem L2
/-! stands: what they are made of, in plain words -/
def oV : Option Str → V
  | none => .non
  | some z => .str z
/-- whether it is a list or a tuple, also a written one -/
def SeqQ (K : PySem.W.Frag) (H : Hp) (y : V) (b : Bool) : Prop := ∃ n, n ∈ ["NoneType", "bool", "int", "str", "list", "tuple", "dict"] ∧ seqV n = b ∧ ∀ H', Same H H' → TyX K H' y (.type n)
theorem SeqQ.keep {K : PySem.W.Frag} {H H' : Hp} {y : V} {b : Bool} (h : SeqQ K H y b) (s : Same H H') : SeqQ K H' y b := by
  obtain ⟨n, h1, h2, h3⟩ := h
  exact ⟨n, h1, h2, fun H'' s' => h3 _ (s.trans s')⟩
theorem Kd.sq {K : PySem.W.Frag} {H : Hp} {y : V} {n : String} (h : Kd H y n) : SeqQ K H y (seqV n) := ⟨n, h.kits, rfl, fun H' s => (h.keep s).ty⟩
theorem IsSeq.sqQ {K : PySem.W.Frag} {H : Hp} {b : Addr} {xs : List V} (h : IsSeq K H b xs) : SeqQ K H (.ref b) true := h.ty
theorem IsSeq.off {K : PySem.W.Frag} {H : Hp} {b p : Addr} {xs : List V} {C dx : Addr} {fs : List (Str × V)} (h : IsSeq K H b xs) (hp : H p = some (.ins C dx fs)) : IsSeq K (wo p H) b xs := by
  cases h with
  | lst h => exact .lst (wo_at h fun e => by rw [e, hp] at h; cases h)
  | tup h => exact .tup (wo_at h fun e => by rw [e, hp] at h; cases h)
  | wr e c h => exact .wr e c h
def spSeqK (K : PySem.W.Frag) : Sp := fun vs H Q _ => ∃ (x : V) (b : Bool), vs = [x] ∧ SeqQ K H x b ∧ ∀ H', Same H H' → Q (.bl b) H'
theorem isSeq_of {K : PySem.W.Frag} {H : Hp} {b : Addr} {xs : List V} (h : H b = some (.lst xs) ∨ H b = some (.tup xs)) : IsSeq K H b xs := h.elim .lst .tup
/-- what is told as seats -/
inductive SeatsIs (K : PySem.W.Frag) (H : Hp) : V → Option (List V) → Prop where
  | seq {b : Addr} {xs : List V} (h : H b = some (.lst xs) ∨ H b = some (.tup xs)) (t : ∀ x ∈ xs, ∃ n, Thing H x n) (l : xs.length ≤ 2000) : SeatsIs K H (.ref b) (some xs)
  | oth {y : V} {n : String} (h : Kd H y n) (l : seqV n = false) : SeatsIs K H y none
theorem SeatsIs.keep {K : PySem.W.Frag} {H H' : Hp} {y : V} {r : Option (List V)} (h : SeatsIs K H y r) (s : Same H H') : SeatsIs K H' y r := by
  cases h with
  | seq h t l => exact .seq (h.imp (s _ _) (s _ _)) (fun x m => (t x m).imp fun n q => q.keep s) l
  | oth h l => exact .oth (h.keep s) l
theorem SeatsIs.sq {K : PySem.W.Frag} {H : Hp} {y : V} {r : Option (List V)} (h : SeatsIs K H y r) : SeqQ K H y r.isSome := by
  cases h with
  | seq h t l => exact (isSeq_of h).sqQ
  | oth h l => have q := h.sq (K := K); rw [l] at q; exact q
/-- what is told as clocks -/
inductive ClksIs (K : PySem.W.Frag) (H : Hp) : V → Option (List (Option (V × V))) → Prop where
  | seq {b : Addr} {xs : List V} {rs : List (Option (V × V))} (h : IsSeq K H b xs) (t : Paired (RowIs H) xs rs) (l : xs.length ≤ 2000) : ClksIs K H (.ref b) (some rs)
  | oth {y : V} {n : String} (h : Kd H y n) (l : seqV n = false) : ClksIs K H y none
theorem ClksIs.keep {K : PySem.W.Frag} {H H' : Hp} {y : V} {r : Option (List (Option (V × V)))} (h : ClksIs K H y r) (s : Same H H') : ClksIs K H' y r := by
  cases h with
  | seq h t l => exact .seq (h.keep s) (pr_imp t fun _ _ q => q.keep s) l
  | oth h l => exact .oth (h.keep s) l
theorem ClksIs.sq {K : PySem.W.Frag} {H : Hp} {y : V} {r : Option (List (Option (V × V)))} (h : ClksIs K H y r) : SeqQ K H y r.isSome := by
  cases h with
  | seq h t l => exact h.sqQ
  | oth h l => have q := h.sq (K := K); rw [l] at q; exact q
def isB : V → Bool
  | .bl _ => true
  | _ => false
/-- the word for a clock -/
def clockWord : Option (V × V) → Option Str
  | none => some "clock"
  | some (a, r) => if wholeV a 0 40 then (if isB r then none else some "running") else some "number"
def badS : V → Bool
  | .non => false
  | x => !labV x
/-- the first word that applies to clocks -/
def scanC : List (Option (V × V)) → Option Str
  | [] => none
  | r :: rs => match clockWord r with
    | some w => some w
    | none => scanC rs
def clocksDue : Option (List (Option (V × V))) → Option Str
  | none => some "clocks"
  | some rs => if rs.length ≤ 2 then scanC rs else some "clocks"
def seatsDue : Option (List V) → Option Str
  | none => some "seats"
  | some xs => if 1 ≤ xs.length ∧ xs.length ≤ 3 then (if xs.any badS then some "person" else none) else some "seats"
def restDue (so : Option (List V)) (co : Option (List (Option (V × V)))) : Option Str := match seatsDue so with
  | some w => some w
  | none => clocksDue co
theorem restDue_some {so : Option (List V)} {co : Option (List (Option (V × V)))} {w : Str} (h : seatsDue so = some w) : restDue so co = some w := by
  unfold restDue
  rw [h]
theorem restDue_none {so : Option (List V)} {co : Option (List (Option (V × V)))} (h : seatsDue so = none) : restDue so co = clocksDue co := by
  unfold restDue
  rw [h]
/-- the first word that applies to what a stand is to be made of -/
def standDue (room : V) (so : Option (List V)) (co : Option (List (Option (V × V)))) : Option Str :=
  if labV room then restDue so co else some "room"
/-- good parts -/
def GoodS (r : Str) (ss : List (Option Str)) (cs : List (Int × Bool)) : Prop := isLab r = true ∧ 1 ≤ ss.length ∧ ss.length ≤ 3 ∧ (∀ z, some z ∈ ss → isLab z = true) ∧ cs.length ≤ 2 ∧ ∀ c ∈ cs, 0 ≤ c.1 ∧ c.1 ≤ 40
def cR (cs : List (Int × Bool)) : List (Option (V × V)) := cs.map fun c => some (.int c.1, .bl c.2)
theorem badS_none : ∀ {xs : List V}, xs.any badS = false → ∃ ss : List (Option Str), xs = ss.map oV ∧ ∀ z, some z ∈ ss → isLab z = true
  | [], _ => ⟨[], rfl, fun z m => nomatch m⟩
  | x :: xs, h => by
    rw [List.any_cons, Bool.or_eq_false_iff] at h
    obtain ⟨ss, e, g⟩ := badS_none h.2
    by_cases n : x = .non
    · subst n
      exact ⟨none :: ss, by rw [e]; rfl, fun z m => by cases m with | tail _ m => exact g z m⟩
    · have l : labV x = true := by
        cases x with
        | non => exact absurd rfl n
        | _ => first | (have q := h.1; simp [badS] at q; exact q) | (have q := h.1; simp [badS, labV] at q)
      obtain ⟨z, rfl, hz⟩ := lab_str l
      refine ⟨some z :: ss, by rw [e]; rfl, fun y m => ?_⟩
      cases m with
      | head => exact hz
      | tail _ m => exact g y m
theorem clockWord_none {r : Option (V × V)} (h : clockWord r = none) : ∃ c : Int × Bool, r = some (.int c.1, .bl c.2) ∧ 0 ≤ c.1 ∧ c.1 ≤ 40 := by
  cases r with
  | none => cases h
  | some q =>
    obtain ⟨a, b⟩ := q
    have h : (if wholeV a 0 40 = true then (if isB b = true then none else some (Str.ofString "running")) else some (Str.ofString "number")) = none := h
    by_cases h1 : wholeV a 0 40 = true
    · rw [if_pos h1] at h
      by_cases h2 : isB b = true
      · cases a with
        | int i =>
          cases b with
          | bl b =>
            have h1 : (decide (0 ≤ i) && decide (i ≤ 40)) = true := h1
            rw [Bool.and_eq_true, decide_eq_true_eq, decide_eq_true_eq] at h1
            exact ⟨(i, b), rfl, h1⟩
          | _ => cases h2
        | _ => cases h1
      · rw [if_neg h2] at h; cases h
    · rw [if_neg h1] at h; cases h
theorem scanC_none : ∀ {rs : List (Option (V × V))}, scanC rs = none → ∃ cs : List (Int × Bool), rs = cR cs ∧ ∀ c ∈ cs, 0 ≤ c.1 ∧ c.1 ≤ 40
  | [], _ => ⟨[], rfl, fun c m => nomatch m⟩
  | r :: rs, h => by
    cases e : clockWord r with
    | some w =>
      have h : (match clockWord r with | some w => some w | none => scanC rs) = none := h
      rw [e] at h
      cases h
    | none =>
      have h2 : scanC rs = none := by
        have q : (match clockWord r with | some w => some w | none => scanC rs) = none := h
        rw [e] at q
        exact q
      obtain ⟨c, rfl, g⟩ := clockWord_none e
      obtain ⟨cs, e2, gs⟩ := scanC_none h2
      refine ⟨c :: cs, by rw [e2]; rfl, fun d m => ?_⟩
      cases m with
      | head => exact g
      | tail _ m => exact gs d m
theorem seatsDue_none {so : Option (List V)} (h : seatsDue so = none) : ∃ ss : List (Option Str), so = some (ss.map oV) ∧ 1 ≤ ss.length ∧ ss.length ≤ 3 ∧ ∀ z, some z ∈ ss → isLab z = true := by
  cases so with
  | none => cases h
  | some xs =>
    have h : (if 1 ≤ xs.length ∧ xs.length ≤ 3 then (if xs.any badS = true then some (Str.ofString "person") else none) else some (Str.ofString "seats")) = none := h
    by_cases h1 : 1 ≤ xs.length ∧ xs.length ≤ 3
    · rw [if_pos h1] at h
      cases e : xs.any badS with
      | true => rw [e, if_pos rfl] at h; cases h
      | false =>
        obtain ⟨ss, rfl, g⟩ := badS_none e
        rw [List.length_map] at h1
        exact ⟨ss, rfl, h1.1, h1.2, g⟩
    · rw [if_neg h1] at h; cases h
theorem clocksDue_none {co : Option (List (Option (V × V)))} (h : clocksDue co = none) : ∃ cs : List (Int × Bool), co = some (cR cs) ∧ cs.length ≤ 2 ∧ ∀ c ∈ cs, 0 ≤ c.1 ∧ c.1 ≤ 40 := by
  cases co with
  | none => cases h
  | some rs =>
    have h : (if rs.length ≤ 2 then scanC rs else some (Str.ofString "clocks")) = none := h
    by_cases h1 : rs.length ≤ 2
    · rw [if_pos h1] at h
      obtain ⟨cs, rfl, g⟩ := scanC_none h
      exact ⟨cs, rfl, by simpa [cR] using h1, g⟩
    · rw [if_neg h1] at h; cases h
/-- nothing to refuse: the parts are good -/
theorem standDue_none {room : V} {so : Option (List V)} {co : Option (List (Option (V × V)))} (h : standDue room so co = none) : ∃ r ss cs, room = .str r ∧ so = some (ss.map oV) ∧ co = some (cR cs) ∧ GoodS r ss cs := by
  unfold standDue at h
  cases e : labV room with
  | false => rw [e] at h; cases h
  | true =>
    rw [e, if_pos rfl] at h
    obtain ⟨r, rfl, hr⟩ := lab_str e
    cases e2 : seatsDue so with
    | some w => rw [restDue_some e2] at h; cases h
    | none =>
      rw [restDue_none e2] at h
      obtain ⟨ss, rfl, g1, g2, g3⟩ := seatsDue_none e2
      obtain ⟨cs, rfl, g4, g5⟩ := clocksDue_none h
      exact ⟨r, ss, cs, rfl, rfl, rfl, hr, g1, g2, g3, g4, g5⟩
structure Sm7 (mg : Str → Option Value) : Prop where
  seats : ∃ t, mg "MOST_SEATS" = some (.int 3 t)
  clocks : ∃ t, mg "MOST_CLOCKS" = some (.int 2 t)
  number : ∃ t, mg "GREATEST_NUMBER" = some (.int 40 t)
def spClockFault : Sp := fun vs H Q _ => ∃ (y : V) (r : Option (V × V)), vs = [y] ∧ RowIs H y r ∧ ∀ H', Same H H' → Q (wordV (clockWord r)) H'
section
variable {P : Program} {w : World} {K : PySem.W.Frag} {mg : Str → Option Value} {base : Heap}
theorem ok_seqK {f : Addr} {fd : FuncData} (F : Fun K "is_sequence" "is_sequence" sSeq f fd) (m : mg "is_sequence" = some (.ref f)) (B : Bm mg) : HasF P w K mg base "is_sequence" 1 ["thing"] (spSeqK K) := by
  refine ⟨f, fd, ?_, m, F.kp, F.binds fun _ _ _ _ _ _ us hl => match us, hl with | [_], _ => rfl⟩
  refine F.ok scSeq (fun vs H Q E h => ?_) (fun cdv A outer s H vs Q E hr h => ?_)
  · obtain ⟨a, b, rfl, _⟩ := h
    rfl
  · obtain ⟨x, b, rfl, ⟨n, hn, hb, ht⟩, k⟩ := h
    refine ⟨_, pss_one (ps_ret (pe_callB call_isiT (by rfl) B.isinstance (by decide +kernel) (pa_cons (pv 0) (pa_cons (pe_tup (pa_cons (pe_bltn (v := .ty "list") (by rfl) B.list (by decide +kernel) rfl) (pa_cons (pe_bltn (v := .ty "tuple") (by rfl) B.tuple (by decide +kernel) rfl) pa_nil))) pa_nil)))), ?_⟩
    refine ⟨_, rfl, by decide, fun t ht' => ?_⟩
    have s1 := sameUpd (o := .tup [.ty "list", .ty "tuple"]) (Same.refl H) ht'
    refine ⟨x, t, _, _, _, _, rfl, upd_same, .cons (.ty _) (.cons (.ty _) .nil), ht _ s1, kit_seq hn, ?_⟩
    rw [hb]
    exact k _ s1
theorem scClockFault : FnScope ["clock", "number", "running"] ["clock"] (defScope sClockFault) := ⟨rfl, rfl, rfl, by decide +kernel, rfl, by decide +kernel, by decide +kernel⟩
theorem ok_clockfault {f : Addr} {fd : FuncData} (F : Fun K "_clock_fault" "_clock_fault" sClockFault f fd) (m : mg "_clock_fault" = some (.ref f)) (T : Bl mg) (B : Bm mg) (M : Sm7 mg) (Sq : HasF P w K mg base "is_sequence" 1 ["thing"] spSeq) (W : HasF P w K mg base "is_whole" 1 ["thing", "low", "high"] spWhole) : HasF P w K mg base "_clock_fault" 2 ["clock"] spClockFault := by
  refine ⟨f, fd, ?_, m, F.kp, F.binds fun _ _ _ _ _ _ us hl => match us, hl with | [_], _ => rfl⟩
  obtain ⟨f1, fd1, Sq⟩ := Sq; obtain ⟨f3, fd3, W⟩ := W
  obtain ⟨t2, mA⟩ := M.number
  refine F.ok scClockFault (fun vs H Q E h => ?_) (fun cdv A outer s H vs Q E hr h => ?_)
  · obtain ⟨a, b, rfl, _⟩ := h
    rfl
  · obtain ⟨y, r, rfl, hy, k⟩ := h
    refine ⟨_, (C8.pss_cut (ps_if (PW.pt (pw_or (pt_not (pt_val (pe_call Sq.G hr (by rfl) Sq.m Sq.kp Sq.b .nil pass0 (pa_cons (pv 0) pa_nil)))) (pw_or1 (pt_cmpR op_ne (pe_callB call_len_seq (by rfl) T.len PySem.boot_len (pa_cons (pv 0) pa_nil)) pe_int (nomark _))))) (pss_one (ps_ret pe_str)) pss_nil)
    (C8.pss_cut (ps_asg (pv 0) (pg_or (pg_lst rfl (pgs_cons (pg_name (i := 1) scClockFault.nd rfl (.inl rfl)) (pgs_cons (pg_name (i := 2) scClockFault.nd rfl (.inl rfl)) pgs_nil))) (pg_tup rfl (pgs_cons (pg_name (i := 1) scClockFault.nd rfl (.inl rfl)) (pgs_cons (pg_name (i := 2) scClockFault.nd rfl (.inl rfl)) pgs_nil)))))
    (pss_cons (ps_if (pt_not (pt_val (pe_call W.G hr (by rfl) W.m W.kp W.b .nil pass0 (pa_cons (pv 1) (pa_cons pe_int (pa_cons (pe_glob (v := .int 40) rfl mA ⟨_, rfl⟩) pa_nil)))))) (pss_one (ps_ret pe_str)) pss_nil)
    (pss_cons (ps_if (pt_not (pt_val (pe_callB call_isi (by rfl) B.isinstance (by decide +kernel) (pa_cons (pv 2) (pa_cons (pe_bltn (v := .ty "bool") (by rfl) B.bool (by decide +kernel) rfl) pa_nil))))) (pss_one (ps_ret pe_str)) pss_nil)
    (pss_one (ps_ret pe_non)))))), ?_⟩
    refine ⟨fun σ H1 => ∃ (b : Addr) (n a : V) (t u : String), y = .ref b ∧ r = some (n, a) ∧ σ = [some y, none, none] ∧ Same H H1 ∧ (H1 b = some (.lst [n, a]) ∨ H1 b = some (.tup [n, a])) ∧ Thing H1 n t ∧ Thing H1 a u, ?_, ?_⟩
    · obtain ⟨n, kd, kn⟩ := hy.kd
      refine ⟨_, rfl, y, n, rfl, kd, fun H1 s1 => ⟨_, rfl, ?_⟩⟩
      have hy1 := hy.keep s1
      have bad : r = none → ∀ H', Same H H' → Q (.str "clock") H' := fun e H' s => by
        subst e
        exact k H' s
      cases e1 : seqV n with
      | false => exact iteT (bad (kn e1) _ s1)
      | true =>
        refine iteF ?_
        cases hy1 with
        | lst h hn ha => exact ⟨_, rfl, _, _, rfl, .inl (SqL.of h), rfl, _, rfl, iteF ⟨_, _, _, _, _, rfl, rfl, rfl, s1, .inl h, hn, ha⟩⟩
        | tup h hn ha => exact ⟨_, rfl, _, _, rfl, .inr (SqT.of h), rfl, _, rfl, iteF ⟨_, _, _, _, _, rfl, rfl, rfl, s1, .inr h, hn, ha⟩⟩
        | lstN h l =>
          refine ⟨_, rfl, _, _, rfl, .inl (SqL.of h), rfl, _, rfl, ?_⟩
          rw [decide_eq_false (fun e => l (by have := V.int.inj e; omega))]
          exact iteT (bad rfl _ s1)
        | tupN h l =>
          refine ⟨_, rfl, _, _, rfl, .inr (SqT.of h), rfl, _, rfl, ?_⟩
          rw [decide_eq_false (fun e => l (by have := V.int.inj e; omega))]
          exact iteT (bad rfl _ s1)
        | oth h l =>
          rw [← (kd.keep s1).uniq h, e1] at l
          cases l
    rintro σ H1 ⟨b, n, a, t, u, rfl, rfl, rfl, s1, hb, hn, ha⟩
    refine ⟨fun σ H' => σ = [some (.ref b), some n, some a] ∧ H' = H1, ?_, ?_⟩
    · refine ⟨_, rfl, ?_⟩
      rcases hb with hb | hb
      · exact .inl ⟨b, _, rfl, SqL.of hb, rfl, _, _, rfl, _, _, rfl, rfl, rfl, rfl⟩
      · exact .inr ⟨b, _, rfl, SqT.of hb, rfl, _, _, rfl, _, _, rfl, rfl, rfl, rfl⟩
    rintro σ H2 ⟨rfl, rfl⟩
    have word : ∀ w' : Option Str, (if wholeV n 0 40 = true then (if isB a = true then none else some (Str.ofString "running")) else some (Str.ofString "number")) = w' → Q (wordV w') H2 := fun w' e => by
      have q := k H2 s1
      have e3 : clockWord (some (n, a)) = w' := e
      rw [e3] at q
      exact q
    refine ⟨_, rfl, n, t, 0, 40, rfl, hn.kd, _, rfl, ?_⟩
    cases e5 : wholeV n 0 40 with
    | false => exact iteT (word (some "number") (by rw [e5]; rfl))
    | true =>
      refine iteF ⟨_, rfl, a, _, _, _, _, rfl, .ty _, ha.kd.ty, kit_ty (kit_bool ha.kd.kits), _, rfl, ?_⟩
      have e6 : (u == "bool") = isB a := by
        cases ha.kd <;> rfl
      rw [e6]
      cases e7 : isB a with
      | false => exact iteT (word (some "running") (by rw [e5, e7]; rfl))
      | true => exact iteF (word none (by rw [e5, e7]; rfl))
end
end Kx

set_option maxHeartbeats 4000000
namespace Kx
open PySem L2
/-- what is known of the class Stand -/
structure SC (K : PySem.W.Frag) (C : Addr) : Prop where
  cl : Cls K C
  nR : NoAttr K C "room"
  nS : NoAttr K C "seats"
  nC : NoAttr K C "clocks"
  ca : PySem.W.findIn K (.ref C) "__class__" = some (some (.builtin "object.__class__"))
  cg : PySem.W.specialIn K (.builtin "object.__class__") "__get__" = some (some (.builtin "getset_descriptor.__get__"))
  ct : PySem.W.takesIn K (.builtin "object.__class__") = some true
  cm : PySem.W.mroIn K C (.type "object") = some true
theorem s_rs : ¬ (Str.ofString "room") = Str.ofString "seats" := by decide +kernel
theorem s_rc : ¬ (Str.ofString "room") = Str.ofString "clocks" := by decide +kernel
theorem s_sc : ¬ (Str.ofString "seats") = Str.ofString "clocks" := by decide +kernel
def sFs (r : Str) (sa ca : Addr) : List (Str × V) := putF "clocks" (.ref ca) (putF "seats" (.ref sa) (putF "room" (.str r) []))
theorem sFs_r (r : Str) (sa ca : Addr) : (sFs r sa ca).lookup ("room" : Str) = some (.str r) := by
  unfold sFs
  rw [lookup_putF, if_neg s_rc, lookup_putF, if_neg s_rs, lookup_putF, if_pos rfl]
theorem sFs_s (r : Str) (sa ca : Addr) : (sFs r sa ca).lookup ("seats" : Str) = some (.ref sa) := by
  unfold sFs
  rw [lookup_putF, if_neg s_sc, lookup_putF, if_pos rfl]
theorem sFs_c (r : Str) (sa ca : Addr) : (sFs r sa ca).lookup ("clocks" : Str) = some (.ref ca) := by
  unfold sFs
  rw [lookup_putF, if_pos rfl]
theorem sFs_no (r : Str) (sa ca : Addr) {m : Str} (h1 : ¬ m = Str.ofString "room") (h2 : ¬ m = Str.ofString "seats") (h3 : ¬ m = Str.ofString "clocks") : (sFs r sa ca).lookup m = none := by
  unfold sFs
  rw [lookup_putF, if_neg h3, lookup_putF, if_neg h2, lookup_putF, if_neg h1]
  rfl
def ClkT (H : Hp) (x : V) (c : Int × Bool) : Prop := ∃ a, x = .ref a ∧ H a = some (.tup [.int c.1, .bl c.2])
theorem ClkT.keep {H H' : Hp} {x : V} {c : Int × Bool} (h : ClkT H x c) (s : Same H H') : ClkT H' x c := by
  obtain ⟨a, e, h⟩ := h
  exact ⟨a, e, s _ _ h⟩
/-- the stand at p -/
structure StandAt (C : Addr) (H : Hp) (p : Addr) (r : Str) (ss : List (Option Str)) (cs : List (Int × Bool)) : Prop where
  ob : ∃ dx sa ca xs, H p = some (.ins C dx (sFs r sa ca)) ∧ H sa = some (.tup (ss.map oV)) ∧ H ca = some (.tup xs) ∧ Paired (ClkT H) xs cs
  good : GoodS r ss cs
theorem StandAt.keep {C : Addr} {H H' : Hp} {p : Addr} {r : Str} {ss : List (Option Str)} {cs : List (Int × Bool)} (h : StandAt C H p r ss cs) (s : Same H H') : StandAt C H' p r ss cs := by
  obtain ⟨⟨dx, sa, ca, xs, h1, h2, h3, h4⟩, g⟩ := h
  exact ⟨⟨dx, sa, ca, xs, s _ _ h1, s _ _ h2, s _ _ h3, pr_imp h4 fun _ _ q => q.keep s⟩, g⟩
def whatF (w : Str) : List (Str × V) := [("what", .str w)]
def spStand (K : PySem.W.Frag) (C CB : Addr) : Sp := fun vs H Q E => ∃ (p dx : Addr) (room y z : V) (n : String) (so : Option (List V)) (co : Option (List (Option (V × V)))), vs = [.ref p, room, y, z] ∧ H p = some (.ins C dx []) ∧ Thing H room n ∧ SeatsIs K H y so ∧ ClksIs K H z co ∧
  match standDue room so co with
  | some w => ∀ d H', H d = none → Keep H H' p → H' d = some (.xd (whatF w)) → E (.ref CB) (some d) H'
  | none => ∀ r ss cs H', room = .str r → so = some (ss.map oV) → co = some (cR cs) → GoodS r ss cs → Keep H H' p → StandAt C H' p r ss cs → Q .non H'
section
variable {P : Program} {w : World} {K : PySem.W.Frag} {mg : Str → Option Value} {base : Heap}
abbrev nStand : List Str := ["self", "room", "seats", "clocks", "person", "clock", "word"]
theorem scStand : FnScope nStand ["self", "room", "seats", "clocks"] (defScope sStand_init) := ⟨rfl, rfl, rfl, by decide +kernel, rfl, by decide +kernel, by decide +kernel⟩
set_option maxHeartbeats 16000000 in
theorem ok_stand {f C CB fB : Addr} {fd fdB : FuncData} {dv : V} (F : FunD K "__init__" "Stand.__init__" (defArgs sStand_init) (defBody sStand_init) (defScope sStand_init) [dv] [] f fd) (T : Bl mg) (B : Bm mg) (M : Sm7 mg) (SX : SC K C) (Sq : HasF P w K mg base "is_sequence" 1 ["thing"] (spSeqK K)) (Lb : HasF P w K mg base "is_label" 1 ["thing"] spLabel) (CF : HasF P w K mg base "_clock_fault" 2 ["clock"] spClockFault)
    (EB : ErC P w K mg base "BadStand" ["self", "what"] CB fB fdB (spInit1 K CB "what")) (n1 : PySem.W.findIn K (.ref CB) "what" = some none) :
    FnOk P w K mg base (L2.CX P w) 4 f fd ["self", "room", "seats", "clocks"] (spStand K C CB) := by
  obtain ⟨f1, fd1, Sq⟩ := Sq; obtain ⟨f2, fd2, Lb⟩ := Lb; obtain ⟨f3, fd3, CF⟩ := CF
  obtain ⟨t1, mS⟩ := M.seats; obtain ⟨t2, mC⟩ := M.clocks
  refine F.ok scStand (fun vs H Q E h => ?_) (fun cdv A outer s H vs Q E hr h => ?_)
  · obtain ⟨a, b, c, d, e, g, i, j, rfl, _⟩ := h
    rfl
  · obtain ⟨p, dx, room, y, z, n, so, co, rfl, hp, tr, hs, hc, k⟩ := h
    have hr1 : Room 1 _ := hr.mono (by decide)
    have hr2 : Room 2 _ := hr.mono (by decide)
    refine ⟨_, (C8.pss_cut (ps_if (pt_not (pt_val (pe_call Lb.G hr1 (by rfl) Lb.m Lb.kp Lb.b .nil pass0 (pa_cons (pv 1) pa_nil)))) (pss_one (ps_raise rfl (takes_of rfl rfl rfl rfl) (pmk_oex EB.T EB.iC EB.tI EB.G hr2 EB.b .nil pass0 (by rfl) EB.gC (pa_cons pe_str pa_nil)))) pss_nil)
    (C8.pss_cut (ps_if (PW.pt (pw_or (pt_not (pt_val (pe_call Sq.G hr1 (by rfl) Sq.m Sq.kp Sq.b .nil pass0 (pa_cons (pv 2) pa_nil)))) (pw_or1 (pt_not (pt_chain op_le op_le pe_int (pe_callB call_len_seq (by rfl) T.len PySem.boot_len (pa_cons (pv 2) pa_nil)) (pe_glob (v := .int 3) rfl mS ⟨_, rfl⟩)))))) (pss_one (ps_raise rfl (takes_of rfl rfl rfl rfl) (pmk_oex EB.T EB.iC EB.tI EB.G hr2 EB.b .nil pass0 (by rfl) EB.gC (pa_cons pe_str pa_nil)))) pss_nil)
    (C8.pss_cut (ps_for (passes_of rfl) rfl (pi_seq (pv 2)) (pg_name (i := 4) scStand.nd rfl (Or.inl rfl))
        (pss_one (ps_if (PW.pt (pw_and (pt_cmpR op_notN (pv 4) pe_non (nomark _)) (pw_and1 (pt_not (pt_val (pe_call Lb.G hr1 (by rfl) Lb.m Lb.kp Lb.b .nil pass0 (pa_cons (pv 4) pa_nil))))))) (pss_one (ps_raise rfl (takes_of rfl rfl rfl rfl) (pmk_oex EB.T EB.iC EB.tI EB.G hr2 EB.b .nil pass0 (by rfl) EB.gC (pa_cons pe_str pa_nil)))) pss_nil)))
    (C8.pss_cut (ps_if (PW.pt (pw_or (pt_not (pt_val (pe_call Sq.G hr1 (by rfl) Sq.m Sq.kp Sq.b .nil pass0 (pa_cons (pv 3) pa_nil)))) (pw_or1 (pt_cmpR op_gt (pe_callB call_len_seq (by rfl) T.len PySem.boot_len (pa_cons (pv 3) pa_nil)) (pe_glob (v := .int 2) rfl mC ⟨_, rfl⟩) (nomark _))))) (pss_one (ps_raise rfl (takes_of rfl rfl rfl rfl) (pmk_oex EB.T EB.iC EB.tI EB.G hr2 EB.b .nil pass0 (by rfl) EB.gC (pa_cons pe_str pa_nil)))) pss_nil)
    (C8.pss_cut (ps_for (passes_of rfl) rfl (pi_seq (pv 3)) (pg_name (i := 5) scStand.nd rfl (Or.inl rfl))
        (pss_cons (ps_set (i := 6) scStand.nd rfl (Or.inl rfl) (pe_call CF.G hr2 (by rfl) CF.m CF.kp CF.b .nil pass0 (pa_cons (pv 5) pa_nil)))
    (pss_one (ps_if (pt_cmpR op_notN (pv 6) pe_non (nomark _)) (pss_one (ps_raise rfl (takes_of rfl rfl rfl rfl) (pmk_oex EB.T EB.iC EB.tI EB.G hr2 EB.b .nil pass0 (by rfl) EB.gC (pa_cons (pv 6) pa_nil)))) pss_nil))))
    (pss_cons (ps_fld (pv 0) (pv 1) rfl)
    (C8.pss_cut (ps_fld (pv 0) (pe_callTy (call_tupK (K := K) rfl) (by rfl) B.tuple (by decide +kernel) (pa_cons (pv 2) pa_nil)) rfl)
    (pss_one (ps_fld (pv 0) (pe_callTy call_tuple_of (by rfl) B.tuple (by decide +kernel) (pa_cons (pe_lc (own := [("clock", 5)]) (g := gName 5) (tt := tYes) (by rfl) scStand.nd (pi_seq (pv 3)) (blkOk_by (own := [("clock", 5)]) (N := nStand) (sc := defScope sStand_init) (by decide +kernel))
          (fun _ _ _ _ _ => pg_name (i := 5) scStand.nd rfl (Or.inl rfl)) (fun _ _ _ _ _ => pts_nil) (fun _ _ _ _ _ => (pe_callTy (call_tupK (K := K) rfl) (by rfl) B.tuple (by decide +kernel) (pa_cons (pv 5) pa_nil)))) pa_nil)) rfl))))))))), ?_⟩
    have bad : ∀ w', standDue room so co = some w' → ∀ d H', H d = none → Same H H' → H' d = some (.xd (whatF w')) → E (.ref CB) (some d) H' := fun w' e d H' hd s e2 => by
      rw [e] at k
      exact k d H' hd (Same.keep s) e2
    -- the room
    refine ⟨fun σ H1 => labV room = true ∧ σ = [some (.ref p), some room, some y, some z, none, none, none] ∧ H1 = H, ?_, ?_⟩
    · refine ⟨_, rfl, room, n, rfl, tr.kd, (fun z e => Nat.le_of_lt (small1000 (by have := (tr.fine z e).2; omega))), _, rfl, ?_⟩
      cases e1 : labV room with
      | false => exact iteT (fin1 EB.T n1 fun d H2 hd s2 e2 => bad _ (by unfold standDue; rw [e1]; rfl) d H2 hd s2 e2)
      | true => exact iteF ⟨rfl, rfl, rfl⟩
    rintro σ H1 ⟨e1, rfl, rfl⟩
    have sd1 : standDue room so co = restDue so co := if_pos e1
    rw [sd1] at bad k
    -- the seats
    refine ⟨fun σ H1' => ∃ b xs, y = .ref b ∧ so = some xs ∧ 1 ≤ xs.length ∧ xs.length ≤ 3 ∧ (H1 b = some (.lst xs) ∨ H1 b = some (.tup xs)) ∧ (∀ x ∈ xs, ∃ n, Thing H1 x n) ∧ σ = [some (.ref p), some room, some (.ref b), some z, none, none, none] ∧ Same H1 H1', ?_, ?_⟩
    · refine ⟨_, rfl, y, _, rfl, hs.sq, fun H2 s2 => ⟨_, rfl, ?_⟩⟩
      cases hs with
      | oth h l => exact iteT (fin1 EB.T n1 fun d H3 hd s3 e3 => bad _ (restDue_some rfl) d H3 (s2.free hd) (s2.trans s3) e3)
      | seq h t l =>
        rename_i b xs
        refine iteF ?_
        have q := (isSeq_of (K := K) (h.imp (s2 _ _) (s2 _ _))).sq
        have no : ¬ (1 ≤ xs.length ∧ xs.length ≤ 3) → restDue (some xs) co = some (Str.ofString "seats") := fun e => restDue_some (if_neg e)
        refine ⟨_, rfl, _, _, rfl, q, _, _, rfl, rfl, _, rfl, ?_⟩
        refine ite2 (fun h1 => ?_) (fun h1 => ?_)
        · have h1 := of_decide_eq_true h1
          refine ⟨_, _, rfl, rfl, _, rfl, ?_⟩
          refine ite2 (fun h2 => ?_) (fun h2 => ?_)
          · have h2 : ¬ ((xs.length : Nat) : Int) ≤ 3 := fun e => by rw [decide_eq_true e] at h2; cases h2
            exact fin1 EB.T n1 fun d H3 hd s3 e3 => bad _ (no (by omega)) d H3 (s2.free hd) (s2.trans s3) e3
          · have h2 : ((xs.length : Nat) : Int) ≤ 3 := by
              by_cases q : ((xs.length : Nat) : Int) ≤ 3
              · exact q
              · rw [decide_eq_false q] at h2
                exact absurd rfl h2
            exact ⟨b, xs, rfl, rfl, by omega, by omega, h, t, rfl, s2⟩
        · have h1 : ¬ (1 : Int) ≤ ((xs.length : Nat) : Int) := fun e => h1 (decide_eq_true e)
          exact ⟨_, rfl, iteT (fin1 EB.T n1 fun d H3 hd s3 e3 => bad _ (no (by omega)) d H3 (s2.free hd) (s2.trans s3) e3)⟩
    rintro σ H2 ⟨b, xs, rfl, rfl, l1, l3, hb, ht, rfl, s2⟩
    have sd2 : seatsDue (some xs) = (if xs.any badS then some (Str.ofString "person") else none) := if_pos ⟨l1, l3⟩
    have qs : IsSeq K H1 b xs := isSeq_of hb
    -- the persons
    refine ⟨fun σ H3 => ∃ v, xs.any badS = false ∧ σ = [some (.ref p), some room, some (.ref b), some z, v, none, none] ∧ Same H1 H3, ?_, ?_⟩
    · refine ⟨_, rfl, b, rfl, for_sq qs (fun i σ H3 => ∃ v, σ = [some (.ref p), some room, some (.ref b), some z, v, none, none] ∧ Same H1 H3 ∧ (xs.take i).any badS = false) ⟨none, rfl, s2, rfl⟩ (fun i σ H3 ⟨_, _, q, _⟩ => q) ?_ ?_⟩
      · rintro i x σ H3 hi ⟨v, rfl, s3, al⟩
        obtain ⟨m, tx⟩ := ht x (List.mem_of_getElem? hi)
        have stepB : badS x = false → (xs.take (i + 1)).any badS = false := fun e => by
          rw [List.take_add_one, hi, List.any_append, al]
          simp [e]
        have isBad : badS x = true → xs.any badS = true := fun e => List.any_eq_true.mpr ⟨x, List.mem_of_getElem? hi, e⟩
        by_cases xn : x = .non
        · subst xn
          refine ⟨_, rfl, rfl, _, rfl, iteF ?_⟩
          exact ⟨_, rfl, s3, stepB rfl⟩
        · have nf : decide (x = .non) = false := decide_eq_false xn
          have eb : badS x = !labV x := by
            cases x with
            | non => exact absurd rfl xn
            | _ => rfl
          have tx3 := tx.keep s3
          refine ⟨_, rfl, rfl, _, rfl, ?_⟩
          rw [nf]
          refine iteT ⟨_, rfl, x, m, rfl, tx3.kd, (fun z e => Nat.le_of_lt (small1000 (by have := (tx.fine z e).2; omega))), _, rfl, ?_⟩
          cases e5 : labV x with
          | false =>
            refine iteT (fin1 EB.T n1 fun d H4 hd s4 e4 => bad _ (restDue_some ?_) d H4 (s3.free hd) (s3.trans s4) e4)
            rw [sd2, if_pos (isBad (by rw [eb, e5]; rfl))]
          | true => exact iteF ⟨_, rfl, s3, stepB (by rw [eb, e5]; rfl)⟩
      · rintro σ H3 ⟨v, rfl, s3, al⟩
        rw [List.take_length] at al
        exact ⟨v, al, rfl, s3⟩
    rintro σ H3 ⟨v4, al, rfl, s3⟩
    have sd3 : restDue (some xs) co = clocksDue co := restDue_none (by rw [sd2, al]; rfl)
    rw [sd3] at bad k
    have hc3 := hc.keep s3
    -- the clocks
    refine ⟨fun σ H4 => ∃ c ys rs, z = .ref c ∧ co = some rs ∧ rs.length ≤ 2 ∧ IsSeq K H1 c ys ∧ Paired (RowIs H1) ys rs ∧ σ = [some (.ref p), some room, some (.ref b), some (.ref c), v4, none, none] ∧ Same H1 H4, ?_, ?_⟩
    · refine ⟨_, rfl, z, _, rfl, hc3.sq, fun H4 s4 => ⟨_, rfl, ?_⟩⟩
      have s14 := s3.trans s4
      cases hc with
      | oth h l => exact iteT (fin1 EB.T n1 fun d H5 hd s5 e5 => bad _ rfl d H5 (s14.free hd) (s14.trans s5) e5)
      | seq h t l =>
        rename_i c ys rs
        refine iteF ?_
        have ln := Paired.length t
        refine ⟨_, rfl, _, _, rfl, (h.keep s14).sq, _, _, rfl, rfl, _, rfl, ?_⟩
        refine ite2 (fun h1 => ?_) (fun h1 => ?_)
        · have h1 := of_decide_eq_true h1
          exact fin1 EB.T n1 fun d H5 hd s5 e5 => bad _ (if_neg (by omega)) d H5 (s14.free hd) (s14.trans s5) e5
        · have h1 : ¬ ((2 : Int) < ((ys.length : Nat) : Int)) := fun e => h1 (decide_eq_true e)
          exact ⟨c, ys, rs, rfl, rfl, by omega, h, t, rfl, s14⟩
    rintro σ H4 ⟨c, ys, rs, rfl, rfl, l2, hcq, hrs, rfl, s4⟩
    have sd4 : clocksDue (some rs) = scanC rs := if_pos l2
    rw [sd4] at bad k
    have ln := Paired.length hrs
    -- each clock
    refine ⟨fun σ H5 => ∃ v5 v6, scanC rs = none ∧ σ = [some (.ref p), some room, some (.ref b), some (.ref c), v4, v5, v6] ∧ Same H1 H5, ?_, ?_⟩
    · refine ⟨_, rfl, c, rfl, for_sq hcq (fun i σ H5 => ∃ v5 v6, σ = [some (.ref p), some room, some (.ref b), some (.ref c), v4, v5, v6] ∧ Same H1 H5 ∧ scanC rs = scanC (rs.drop i)) ⟨none, none, rfl, s4, rfl⟩ (fun i σ H5 ⟨_, _, _, q, _⟩ => q) ?_ ?_⟩
      · rintro i x σ H5 hi ⟨v5, v6, rfl, s5, sc⟩
        obtain ⟨r, hr', dx'⟩ := pr_get hrs hi
        have st : scanC (rs.drop i) = (match clockWord r with | some w => some w | none => scanC (rs.drop (i + 1))) := by
          rw [List.drop_eq_getElem_cons (List.getElem?_eq_some_iff.mp hr').1, (List.getElem?_eq_some_iff.mp hr').2]
          rfl
        rw [st] at sc
        refine ⟨_, rfl, x, r, rfl, dx'.keep s5, fun H6 s6 => ?_⟩
        have s16 := s5.trans s6
        cases e : clockWord r with
        | some w' =>
          rw [e] at sc
          exact ⟨_, rfl, rfl, _, rfl, iteT ⟨_, rfl, fin1 EB.T n1 fun d H7 hd s7 e7 => bad _ sc d H7 (s16.free hd) (s16.trans s7) e7⟩⟩
        | none =>
          rw [e] at sc
          exact ⟨_, rfl, rfl, _, rfl, iteF ⟨_, _, rfl, s16, sc⟩⟩
      · rintro σ H5 ⟨v5, v6, rfl, s5, sc⟩
        refine ⟨v5, v6, ?_, rfl, s5⟩
        rw [sc, ln, List.drop_length]
        rfl
    rintro σ H5 ⟨v5, v6, sc, rfl, s5⟩
    rw [sc] at k
    obtain ⟨r, ss, cs, rfl, er, ec, good⟩ := standDue_none (room := room) (so := some xs) (co := some rs) (by rw [sd1, sd3, sd4, sc])
    obtain rfl : xs = ss.map oV := Option.some.inj er
    obtain rfl : rs = cR cs := Option.some.inj ec
    have hp5 := s5 _ _ hp
    refine ⟨_, rfl, _, rfl, p, C, dx, [], rfl, hp5, SX.cl, SX.nR, (by show 0 < 1000; decide), ?_⟩
    obtain ⟨Ha, eHa⟩ : ∃ Ha, upd H5 p (.ins C dx (putF "room" (.str r) [])) = Ha := ⟨_, rfl⟩
    have hpa : Ha p = some (.ins C dx (putF "room" (.str r) [])) := by rw [← eHa]; exact upd_same
    have ka : Keep H1 Ha p := fun u o e ne => by rw [← eHa, upd_ne ne]; exact s5 _ _ e
    rw [show upd H5 p (.ins C dx (putF "room" (.str r) [])) = Ha from eHa]
    refine ⟨fun σ H6 => ∃ sa, σ = [some (.ref p), some (.str r), some (.ref b), some (.ref c), v4, v5, v6] ∧ H6 p = some (.ins C dx (putF "seats" (.ref sa) (putF "room" (.str r) []))) ∧ H6 sa = some (.tup (ss.map oV)) ∧ Keep H1 H6 p, ?_, ?_⟩
    · have bp : b ≠ p := fun e => by rcases hb with hb | hb <;> (rw [e, hp] at hb; cases hb)
      rcases hb with hb | hb
      · refine ⟨_, rfl, b, _, rfl, .inl ⟨SqL.of (ka _ _ hb bp), fun l hl => ?_⟩⟩
        have lp : l ≠ p := (ne_of_none hpa hl).symm
        refine ⟨_, rfl, p, C, dx, _, rfl, by rw [upd_ne lp.symm]; exact hpa, SX.cl, SX.nS, (by show 1 < 1000; decide), l, rfl, upd_same, by rw [upd_ne lp]; exact upd_same, fun u o e ne => ?_⟩
        rw [upd_ne ne, upd_ne (ne_of_none (ka u o e ne) hl)]
        exact ka u o e ne
      · refine ⟨_, rfl, b, _, rfl, .inr ⟨SqT.of (ka _ _ hb bp), ?_⟩⟩
        refine ⟨_, rfl, p, C, dx, _, rfl, hpa, SX.cl, SX.nS, (by show 1 < 1000; decide), b, rfl, upd_same, by rw [upd_ne bp]; exact ka _ _ hb bp, fun u o e ne => ?_⟩
        rw [upd_ne ne]
        exact ka u o e ne
    rintro σ H6 ⟨sa, rfl, hp6, hsa, k6⟩
    have s06 : Same (wo p H1) H6 := fun u o e => k6 u o (wo_same u o e) (fun z => by rw [z] at e; unfold wo at e; rw [if_pos rfl] at e; cases e)
    refine ⟨_, rfl, c, rfl, lc_pure (g := gName 5) (fun j y H' => ∀ d, cs[j]? = some d → ClkT H' y d) (fun j y H' H'' q s d e => (q d e).keep s) (hcq.off hp) s06 (by rw [ln]; omega) ?_ ?_ fun x σ H Q Q' q z => q _ _ z⟩
    · rintro D i x H7 k' hi hD s7 ⟨acc, hacc⟩ kk
      obtain ⟨r', hr', dx'⟩ := pr_get hrs hi
      obtain ⟨d, hd, rfl⟩ : ∃ d, cs[i]? = some d ∧ r' = some (V.int d.1, V.bl d.2) := by
        have hr' : (cs.map fun c => some (V.int c.1, V.bl c.2))[i]? = some r' := hr'
        rw [List.getElem?_map] at hr'
        cases e : cs[i]? with
        | none => rw [e] at hr'; cases hr'
        | some d => rw [e] at hr'; exact ⟨d, rfl, (Option.some.inj hr').symm⟩
      have only : ∀ {y : V} {H' : Hp}, ClkT H' y d → ∀ d', cs[i]? = some d' → ClkT H' y d' := fun q d' e => by rw [hd] at e; cases e; exact q
      cases dx' with
      | lst h hn ha =>
        rename_i b' _ _
        have h7 := s7 _ _ (k6 _ _ h fun e => by rw [e, hp] at h; cases h)
        refine ⟨rfl, _, rfl, b', _, rfl, .inl ⟨SqL.of h7, fun l hl => kk _ _ (sameUpd (Same.refl _) hl) (only ⟨l, rfl, wo_at upd_same fun e => ?_⟩)⟩⟩
        rw [e, hacc] at hl
        cases hl
      | tup h hn ha =>
        rename_i b' _ _
        have h7 := s7 _ _ (k6 _ _ h fun e => by rw [e, hp] at h; cases h)
        refine ⟨rfl, _, rfl, b', _, rfl, .inr ⟨SqT.of h7, kk _ _ (Same.refl _) (only ⟨b', rfl, wo_at h7 fun e => ?_⟩)⟩⟩
        rw [e, hacc] at h7
        cases h7
    · intro D ys' H7 hD s7 hd ly g
      have hp7 := s7 _ _ hp6
      have Dp : D ≠ p := fun e => by rw [e, hp7] at hd; cases hd
      refine ⟨D, ys', rfl, .inl ⟨SqL.of hd, fun l hl => ?_⟩⟩
      have lp : l ≠ p := (ne_of_none hp7 hl).symm
      refine ⟨_, rfl, p, C, dx, _, rfl, by rw [upd_ne lp.symm]; exact hp7, SX.cl, SX.nC, (by show 2 < 1000; decide), ?_⟩
      have fin : ∀ {u : Addr} {o : HO}, H7 u = some o → u ≠ p → upd (upd H7 l (.tup ys')) p (.ins C dx (sFs r sa l)) u = some o := fun {u o} e ne => by rw [upd_ne ne, upd_ne (ne_of_none e hl)]; exact e
      have nsp : sa ≠ p := fun e => by rw [e, hp6] at hsa; cases hsa
      refine k r ss cs _ rfl rfl rfl good (fun u o e ne => fin (s7 _ _ (k6 u o e ne)) ne) ⟨⟨dx, sa, l, ys', upd_same, fin (s7 _ _ hsa) nsp, by rw [upd_ne lp, upd_same], pr_of (by rw [ly, ln]; simp [cR]) fun i y d e1 e2 => ?_⟩, good⟩
      obtain ⟨a, e3, e4⟩ := (g i y e1 d e2).keep wo_same
      exact ⟨a, e3, fin e4 fun z => by rw [z, hp7] at e4; cases e4⟩
end
end Kx

set_option maxHeartbeats 8000000
namespace Kx
open PySem L2
def add1 (acc : List Str) (z : Str) : List Str := if z ∈ acc then acc else acc ++ [z]
def addAll (acc zs : List Str) : List Str := zs.foldl add1 acc
theorem addAll_len : ∀ (zs acc : List Str), (addAll acc zs).length ≤ acc.length + zs.length
  | [], acc => by simp [addAll]
  | z :: zs, acc => by
    have ih := addAll_len zs (add1 acc z)
    have e : addAll acc (z :: zs) = addAll (add1 acc z) zs := rfl
    have l : (add1 acc z).length ≤ acc.length + 1 := by
      unfold add1
      split
      · omega
      · simp
    rw [e, List.length_cons]
    omega
theorem addAll_app (acc xs ys : List Str) : addAll acc (xs ++ ys) = addAll (addAll acc xs) ys := List.foldl_append
theorem addAll_one (acc xs : List Str) (z : Str) : addAll acc (xs ++ [z]) = add1 (addAll acc xs) z := by
  rw [addAll_app]
  rfl
def pD (ls : List Str) : List (Key × V) := ls.map fun z => (Sum.inr z, V.bl true)
theorem pD_any (ls : List Str) (z : Str) : ((pD ls).any fun kv => decide (kv.1 = (Sum.inr z : Key))) = decide (z ∈ ls) := by
  unfold pD
  rw [List.any_map]
  induction ls with
  | nil => rfl
  | cons y ls ih =>
    rw [List.any_cons, ih]
    by_cases e : y = z
    · subst e
      simp
    · have e2 : ¬ z = y := fun h => e h.symm
      have e3 : ¬ (Sum.inr y : Key) = Sum.inr z := fun h => e (Sum.inr.inj h)
      simp [e2, e3]
theorem pD_put (ls : List Str) (z : Str) : putK (pD ls) (Sum.inr z : Key) (V.bl true) = pD (add1 ls z) := by
  unfold putK add1
  rw [pD_any]
  by_cases e : z ∈ ls
  · rw [if_pos (decide_eq_true e), if_pos e]
    unfold pD
    rw [List.map_map]
    refine List.map_congr_left fun y _ => ?_
    show (if (Sum.inr y : Key) = Sum.inr z then _ else _) = _
    split <;> rfl
  · rw [if_neg (by rw [decide_eq_false e]; decide), if_neg e]
    unfold pD
    rw [List.map_append]
    rfl
theorem pD_keys (ls : List Str) : ((pD ls).map fun kv => kV kv.1) = ls.map V.str := by
  unfold pD
  rw [List.map_map]
  rfl
theorem add1_mem (acc : List Str) (z y : Str) : y ∈ add1 acc z ↔ y ∈ acc ∨ y = z := by
  unfold add1
  by_cases e : z ∈ acc
  · rw [if_pos e]
    exact ⟨.inl, fun h => h.elim id fun q => by rw [q]; exact e⟩
  · rw [if_neg e]
    simp
theorem addAll_in : ∀ (zs acc : List Str) (y : Str), y ∈ addAll acc zs ↔ y ∈ acc ∨ y ∈ zs
  | [], acc, y => by simp [addAll]
  | z :: zs, acc, y => by
    have e : addAll acc (z :: zs) = addAll (add1 acc z) zs := rfl
    rw [e, addAll_in zs (add1 acc z) y, add1_mem]
    simp [or_assoc]
end Kx
namespace Kx
open PySem PyProof.Rows L2
/-- which keys a list of texts has -/
def has (xs : List Str) (k : Key) : Bool := xs.any fun x => decide (k = Sum.inr x)
theorem has_in (xs : List Str) (z : Str) : has xs (Sum.inr z) = decide (z ∈ xs) := by
  induction xs with
  | nil => rfl
  | cons x xs ih =>
    show (decide ((Sum.inr z : Key) = Sum.inr x) || has xs (Sum.inr z)) = decide (z ∈ x :: xs)
    rw [ih]
    by_cases e : z = x
    · subst e; simp
    · have e3 : ¬ (Sum.inr z : Key) = Sum.inr x := fun h => e (Sum.inr.inj h)
      simp [e, e3]
theorem has_take {xs : List Str} {i : Nat} {x : Str} (h : xs[i]? = some x) (k : Key) : (has (xs.take i) k || decide (k = Sum.inr x)) = has (xs.take (i + 1)) k := by
  unfold has
  rw [List.take_add_one, h, List.any_append]
  simp
section
variable {prog : Program} {w : World} {A : Around} {E : Value → Shared → Prop}
theorem add_text {S : Addr} {f : Key → Bool} {m : Nat} {x : Str} {t : Tok} {s : Shared} {Q : Bool → Shared → Prop} (hS : s.heap.SetOf (mixKind prog w) S f m) (room : m + 1 < scanBound)
    (next : ∀ h' b, Heap.SameBut S s.heap h' → h'.SetOf (mixKind prog w) S (fun k => f k || decide (k = Sum.inr x)) (if f (Sum.inr x) = true then m else m + 1) → Q b { s with heap := h', toks := s.toks + 1 }) : wpAny (model prog w) A (setAdd S (.str x t)) Q E s := by
  unfold setAdd
  refine wpAny_holding (wpAny_bind ((mixKind prog w).pyHash (k := Sum.inr x) (keyIs_str x t) (wpAny_setAddHashed_of (knd := mixKind prog w) (s := { s with toks := s.toks + 1 }) (keyIs_str x t) rfl hS room fun h' sb new => next h' _ sb new)))
variable {R : Result → Shared → Prop} {I : Addr} {fp wr : List Addr} {G : Array GenState → Array GenState → Prop} {n : Nat} {P : Nat → Value → Prop} {St : Nat → Shared → Prop}
theorem fill_texts (W : WalksS prog w A.in1 I fp wr G n P St) (S : Addr) (out : S ∉ fp) (xs : List Str) (size : xs.length = n) (room : n + 1 < scanBound) (text : ∀ i v, P i v → ∃ x t, xs[i]? = some x ∧ v = .str x t) :
    ∀ (left i : Nat) (s : Shared), i + left = n → St i s → s.heap.SetOf (mixKind prog w) S (has (xs.take i)) (addAll [] (xs.take i)).length →
      (∀ s', Moved (S :: wr) G s s' → s'.heap.SetOf (mixKind prog w) S (has xs) (addAll [] xs).length → R (.ok (.ret .none)) s') → codeAny (model prog w) A (.builtin "set.update.loop" ⟨[.ref S, .ref I], []⟩) R s := by
  have apart : S ∉ wr := fun z => out (W.sub _ z)
  have into : ∀ b ∈ wr, b ∈ S :: wr := fun _ z => .tail _ z
  have stay : ∀ {s s' : Shared} {f : Key → Bool} {m : Nat}, Moved wr G s s' → s.heap.SetOf (mixKind prog w) S f m → s'.heap.SetOf (mixKind prog w) S f m := fun mv h => setOf_at h fun o q => mv.heap S o apart q
  intro left
  induction left with
  | zero =>
    intro i s e st hS done
    obtain rfl : i = n := by omega
    refine codeAny_builtin F.entry_set_update_loop ?_
    rw [Around.under_plainId F.plain_set_update_loop _]
    show wpAny _ A.in1 (pyNext (.ref I) >>= _) _ _ s; refine wpAny_bind (W.done s _ _ st fun s' mv => ?_)
    show wpAny _ A.in1 (ret Value.none) _ _ s'; refine wpAny_pure (done s' (mv.mono into) ?_)
    have z := stay mv hS
    rw [← size, List.take_length] at z
    exact z
  | succ left ih =>
    intro i s e st hS done
    refine codeAny_builtin F.entry_set_update_loop ?_
    rw [Around.under_plainId F.plain_set_update_loop _]
    show wpAny _ A.in1 (pyNext (.ref I) >>= _) _ _ s; refine wpAny_bind (W.item i s _ _ (by omega) st fun v s' hP st' mv => ?_)
    obtain ⟨x, t, hx, rfl⟩ := text i v hP
    have few : (addAll [] (xs.take i)).length ≤ i := by
      have h := addAll_len (xs.take i) []
      rw [List.length_take] at h
      simp only [List.length_nil] at h
      omega
    have cnt : (if has (xs.take i) (Sum.inr x) = true then (addAll [] (xs.take i)).length else (addAll [] (xs.take i)).length + 1) = (addAll [] (xs.take (i + 1))).length := by
      rw [List.take_add_one, hx, Option.toList_some, addAll_one, has_in]
      unfold add1
      have q := addAll_in (xs.take i) [] x
      simp only [List.not_mem_nil, false_or] at q
      by_cases e : x ∈ xs.take i
      · rw [if_pos (decide_eq_true e), if_pos (q.mpr e)]
      · rw [if_neg (by rw [decide_eq_false e]; decide), if_neg (fun h => e (q.mp h)), List.length_append]
        rfl
    show wpAny _ A.in1 (holding [Value.str x t] (setAdd S (.str x t)) >>= _) _ _ s'; refine wpAny_bind (wpAny_holding (add_text (stay mv hS) (by omega) fun h' b sb new => ?_))
    have ef : (fun k => has (xs.take i) k || decide (k = Sum.inr x)) = has (xs.take (i + 1)) := funext (has_take hx)
    rw [ef, cnt] at new
    refine wpAny_pure ⟨plainId_quiet F.plain_set_update_loop _, ih (i + 1) _ (by omega) (W.frame _ s' _ _ st' (Nat.le_succ _) fun b hb o q => ?_) new fun s'' mv2 fin => done s'' ?_ fin⟩
    · have ne : b ≠ S := fun z => out (z ▸ hb)
      rw [sb.2 b ne]
      exact q
    · refine Moved.trans W.gtrans ((mv.mono into).then_heap (Nat.le_succ _) fun b o hb q => ?_) mv2
      have ne : b ≠ S := fun z => hb (z ▸ .head _)
      rw [sb.2 b ne]
      exact q
end
/-- a new set -/
abbrev emptySet (led : Bool) : Obj := { cls := .type "set", dict := none, data := .set #[] 0 (.fresh 0 0 led) }
section
variable {prog : Program} {w : World} {A : Around} {E : Value → Shared → Prop}

theorem setT_list {l : Addr} {items : Array Value} {xs : List Str} {s : Shared} {Q : Value → Shared → Prop} (calm : A.handled = none) (at_ : s.heap.IsList l items) (texts : StrsAre items.toList xs) (few : xs.length ≤ 1000)
    (next : ∀ h' tk, h'.SetOf (mixKind prog w) s.heap.objs.size (has xs) (addAll [] xs).length → (∀ b o, b < s.heap.objs.size → s.heap.get? b = some o → h'.get? b = some o) → Q (.ref s.heap.objs.size) { s with heap := h', toks := tk }) :
    wpAny (model prog w) A (call (.type "set") [.ref l]) Q E s := by
  have f1 := PySem.F.called_set.mro; have f2 := PySem.F.called_set.made; have f3 := PySem.F.called_set.sub; have f4 := PySem.F.called_set.notType
  have f5 := PySem.F.called_set.canCreate; have f6 := PySem.F.typeCall_set_1 (.ref l); have f7 := PySem.F.called_set.init.lookup; have f8 := PySem.F.called_set.init.bind (.ref s.heap.objs.size)
  obtain ⟨_, _, f1⟩ := f1
  refine wpAny_call (codeAny_of_tree ?_); show wpAny _ _ (callAny (.type "set") _) _ _ _
  refine wpAny_pure ⟨Code.quiet_builtin _ (by decide +kernel), codeAny_builtin PySem.F.entry_type_call ?_⟩; rw [Around.under_plain (weight_type_call_type "set" [.ref l] []) rfl]
  repeat (any_goals (first | assumption | wp_step))
  refine codeAny_mono (code_set_new_1 (.ref l) (E := E) (Q₁ := fun v t => ∃ led : Bool, v = .ref s.heap.objs.size ∧ t = { s with heap := s.heap.push (emptySet led) }) fun led => ⟨led, rfl, rfl⟩) fun r s1 got => ?_
  cases r with
  | error e => exact got
  | ok fl =>
    cases fl with
    | next => exact got.elim
    | brk => exact got.elim
    | cont => exact got.elim
    | ret v =>
      obtain ⟨led, rfl, rfl⟩ := got
      have at0 : (s.heap.push (emptySet led)).get? s.heap.objs.size = some (emptySet led) := Heap.get?_push_size _ rfl
      have ty0 : Shared.TypeIs { s with heap := s.heap.push (emptySet led) } (.ref s.heap.objs.size) "set" := ⟨_, at0, rfl⟩
      repeat (any_goals (first | assumption | wp_step))
      refine codeAny_mono (codeAny_call_builtin (R := wants (fun r t => r = .none ∧ ∃ h' tk, t = { s with heap := h', toks := tk } ∧ h'.SetOf (mixKind prog w) s.heap.objs.size (has xs) (addAll [] xs).length ∧ ∀ b o, b < s.heap.objs.size → s.heap.get? b = some o → h'.get? b = some o) E)
        PySem.F.called_set.init.plain PySem.F.entry_set_init (check_set_init_1 ty0 ?_)) fun r s2 got => ?_
      · obtain ⟨⟨ocls, od, odata, osl⟩, hol, hcl, nl, hdl⟩ := at_
        simp only at hcl hdl; subst hcl; subst hdl
        have hol' : (s.heap.push (emptySet led)).get? l = some { cls := .type "list", dict := od, data := .seq items nl, slots := osl } := Heap.get?_push_of_some _ hol
        have g1 := PySem.F.sub_list_set; have g2 := PySem.F.sub_list_frozenset; have g3 : (Value.type "list" == Value.type "dict") = false := by decide
        have at1 : (s.heap.push (emptySet led)).IsList l items := ⟨_, hol', rfl, nl, rfl⟩
        unfold emptySet at hol'
        unfold Builtin.«set.__init__» noKeywords Builtin.Frozenset.updateFrom emptySet
        generalize keepI : pyIter = it_
        wp_walk
        subst keepI
        refine wpAny_pyIter_list at1 (wpAny_bind (wpAny_runValue ?_))
        have lt : l < s.heap.objs.size := Heap.lt_size hol
        have size : xs.length = items.size := by rw [← StrsAre.len_eq texts, Array.length_toList]
        have room : (s.heap.push (emptySet led)).objs.size = s.heap.objs.size + 1 := Heap.size_push _ _
        have W := (Walks.list (prog := prog) (w := w) (A := A.in1.in1.in1) (by simp [calm]) (s.heap.push (emptySet led)).objs.size l (by rw [room]; exact Nat.ne_of_lt (Nat.lt_succ_of_lt lt)) items).toS
        refine fill_texts W s.heap.objs.size (by rw [room]; simp only [List.mem_cons, List.not_mem_nil, or_false, not_or]; exact ⟨Nat.ne_of_lt (Nat.lt_succ_self _), Nat.ne_of_gt lt⟩) xs size (by unfold scanBound; omega) (fun i v hv => ?_) items.size 0 _ (Nat.zero_add _) ⟨⟨_, Heap.get?_push_size _ rfl, rfl, rfl⟩, at1.push _⟩ ?_ fun s' mv fin => ?_
        · obtain ⟨t, e⟩ := SS.strs_at texts i v (by rw [Array.getElem?_toList]; exact hv)
          have lt2 : i < xs.length := by rw [size]; exact (Array.getElem?_eq_some_iff.mp hv).1
          exact ⟨_, t, by rw [List.getD_eq_getElem?_getD, List.getElem?_eq_getElem lt2]; rfl, e⟩
        · exact ⟨_, #[], 0, _, Heap.get?_push_of_some _ at0, ⟨rfl, rfl, rfl⟩, rfl, fun e he => by simp at he, fun k => by rw [List.take_zero]; simp [has], by unfold scanBound; decide, rfl, rfl⟩
        · obtain ⟨h', g', d', tk', os'⟩ := s'
          obtain rfl := mv.gens; obtain rfl := mv.drawn; obtain rfl := mv.os
          refine wpAny_pure (wpAny_pure ⟨rfl, h', tk', rfl, fin, fun b o hb e => ?_⟩)
          refine mv.heap b o ?_ (Heap.get?_push_of_some _ (Heap.get?_push_of_some _ e))
          rw [room]; simp only [List.mem_cons, List.not_mem_nil, or_false, not_or]; exact ⟨Nat.ne_of_lt hb, Nat.ne_of_lt (Nat.lt_succ_of_lt hb)⟩
      · cases r with
        | error e => exact got
        | ok fl =>
          cases fl with
          | next => exact got.elim
          | brk => exact got.elim
          | cont => exact got.elim
          | ret v =>
            obtain ⟨rfl, h', tk, rfl, fin, kp⟩ := got
            repeat (any_goals (first | assumption | wp_step))
            exact next h' tk fin kp

end
end Kx
namespace Kx
open PySem PySem.Spec PyProof.Rows L2
section
variable {X : Cx}
/-- set(xs), xs a list or a tuple of texts -/
def rSetT (K : PySem.W.Frag) (P : Program) (w : World) : List V → Hp → VK → Prop := fun xs H Q => ∃ (l : Addr) (ys : List Str), xs = [.ref l] ∧ SqL K H l (ys.map V.str) ∧ ys.length ≤ 1000 ∧
  ∀ p, H p = none → Q (.ref p) (upd H p (SetK P w p (has ys) (addAll [] ys).length))
theorem strs_of : ∀ {ys : List Str} {us : List Value}, Vals (ys.map V.str) us → StrsAre us ys
  | [], _, .nil => .nil
  | y :: ys, _, .cons ⟨k, e⟩ t => by subst e; exact .cons y k (strs_of t)
theorem cr_setT (hc : X.A.handled = none) : CallR X (.type "set") (rSetT X.K X.prog X.w) := by
  intro pins s σ H xs us Q I r h
  obtain ⟨l, ys, rfl, hq, few, q⟩ := h
  rw [Vals.ref1 r]
  obtain ⟨its, rv, pl, _⟩ := I.list hq
  exact setT_list hc pl.isList (by simpa using strs_of rv) few fun h' tk new kp =>
    ⟨.ref s.heap.objs.size, upd H s.heap.objs.size (SetK X.prog X.w s.heap.objs.size (has ys) (addAll [] ys).length), I.laid (t' := tk) (fun b o e => kp b o (Heap.lt_size e) e) (Nat.le_refl _) (setK_new new), rfl, q _ (I.hok.fresh (Nat.le_refl _))⟩
/-- len of a set of texts -/
def rLenS (P : Program) (w : World) : List V → Hp → VK → Prop := fun xs H Q => ∃ (a : Addr) (f : Key → Bool) (n : Nat), xs = [.ref a] ∧ H a = some (SetK P w a f n) ∧ Q (.int n) H
theorem call_lenS : CallR X (.builtin "len") (rLenS X.prog X.w) := by
  intro pins s σ H xs us Q I r h
  obtain ⟨a, f, n, rfl, ha, q⟩ := h
  rw [Vals.ref1 r]
  obtain ⟨o, es, ep, t, ho, hex, hd, _, _, hsz, hf, rfl⟩ := setK_get I ha
  refine call_len_set ho hex hd hf ?_ ⟨.int es.size, H, I.tok _, ⟨_, rfl⟩, q⟩
  have : scanBound < 2 ^ 62 := by unfold scanBound; decide
  omega
end
end Kx

set_option maxHeartbeats 4000000
namespace Kx
open PySem L2
/-! the parts of a stand, as data -/
def oD : Option Str → PyData
  | none => .none
  | some z => .str z
def cD (c : Int × Bool) : PyData := .tuple [.int c.1, .bool c.2]
def codeD (r : Str) (ss : List (Option Str)) (cs : List (Int × Bool)) : PyData := .tuple [.str r, .tuple (ss.map oD), .tuple (cs.map cD)]
theorem eqvAll_map {α : Type} [DecidableEq α] {f : α → PyData} (hf : ∀ a b, PyData.eqv (f a) (f b) = decide (a = b)) : ∀ xs ys : List α, PyData.eqvAll (xs.map f) (ys.map f) = decide (xs = ys)
  | [], [] => rfl
  | [], _ :: _ => rfl
  | _ :: _, [] => rfl
  | x :: xs, y :: ys => by
    show (PyData.eqv (f x) (f y) && PyData.eqvAll (xs.map f) (ys.map f)) = _
    rw [hf, eqvAll_map hf xs ys]
    by_cases h1 : x = y
    · by_cases h2 : xs = ys
      · simp [h1, h2]
      · simp [h1, h2]
    · simp [h1]
theorem eqv_str (a b : Str) : PyData.eqv (.str a) (.str b) = decide (a = b) := by
  by_cases h : a = b
  · subst h
    simp [PyData.eqv]
  · simp [PyData.eqv, h]
theorem eqv_oD : ∀ a b : Option Str, PyData.eqv (oD a) (oD b) = decide (a = b)
  | none, none => rfl
  | none, some b => rfl
  | some a, none => rfl
  | some a, some b => by
    show PyData.eqv (.str a) (.str b) = _
    rw [eqv_str]
    by_cases h : a = b
    · subst h; simp
    · simp [h]
theorem eqv_cD (a b : Int × Bool) : PyData.eqv (cD a) (cD b) = decide (a = b) := by
  obtain ⟨i, x⟩ := a
  obtain ⟨j, y⟩ := b
  show (PyData.eqv (.int i) (.int j) && (PyData.eqv (.bool x) (.bool y) && true)) = _
  by_cases h : i = j
  · subst h
    cases x <;> cases y <;> simp [PyData.eqv]
  · simp [PyData.eqv, h]
theorem eqv_seats (a b : List (Option Str)) : PyData.eqv (.tuple (a.map oD)) (.tuple (b.map oD)) = decide (a = b) := by
  show PyData.eqvAll (a.map oD) (b.map oD) = _
  exact eqvAll_map eqv_oD a b
theorem eqv_clocks (a b : List (Int × Bool)) : PyData.eqv (.tuple (a.map cD)) (.tuple (b.map cD)) = decide (a = b) := by
  show PyData.eqvAll (a.map cD) (b.map cD) = _
  exact eqvAll_map eqv_cD a b
theorem eqv_code (r r' : Str) (ss ss' : List (Option Str)) (cs cs' : List (Int × Bool)) : PyData.eqv (codeD r ss cs) (codeD r' ss' cs') = decide (r = r' ∧ ss = ss' ∧ cs = cs') := by
  show (PyData.eqv (.str r) (.str r') && (PyData.eqv (.tuple (ss.map oD)) (.tuple (ss'.map oD)) && (PyData.eqv (.tuple (cs.map cD)) (.tuple (cs'.map cD)) && true))) = _
  rw [eqv_str, eqv_seats, eqv_clocks]
  by_cases h1 : r = r' <;> by_cases h2 : ss = ss' <;> by_cases h3 : cs = cs' <;> simp [h1, h2, h3]
theorem lay_map {α : Type} {f : α → PyData} {n : Nat} : ∀ {xs : List α}, (∀ x ∈ xs, PyData.canLay0 (f x) = true ∧ PyData.depth (f x) ≤ n) → PyData.canLayAll0 (xs.map f) = true ∧ PyData.depthAll (xs.map f) ≤ n
  | [], _ => ⟨rfl, Nat.zero_le _⟩
  | x :: xs, h => by
    obtain ⟨h1, h2⟩ := h x (.head _)
    obtain ⟨h3, h4⟩ := lay_map (xs := xs) fun y m => h y (.tail _ m)
    refine ⟨?_, Nat.max_le.mpr ⟨h2, h4⟩⟩
    show (PyData.canLay0 (f x) && PyData.canLayAll0 (xs.map f)) = true
    rw [h1, h3]
    rfl
theorem lab_fine {z : Str} (h : isLab z = true) : PyData.strOk z = true := low_ok (lab_low h).1
theorem lay_oD {o : Option Str} (h : ∀ z, o = some z → isLab z = true) : PyData.canLay0 (oD o) = true ∧ PyData.depth (oD o) ≤ 0 := by
  cases o with
  | none => exact ⟨rfl, Nat.le_refl _⟩
  | some z => exact ⟨lab_fine (h z rfl), Nat.le_refl _⟩
theorem lay_cD {c : Int × Bool} (h : 0 ≤ c.1 ∧ c.1 ≤ 40) : PyData.canLay0 (cD c) = true ∧ PyData.depth (cD c) ≤ 1 := ⟨rfl, by show max 0 (max 0 0) + 1 ≤ 1; decide⟩
theorem GoodS.fine {r : Str} {ss : List (Option Str)} {cs : List (Int × Bool)} (g : GoodS r ss cs) : (∀ o ∈ ss, ∀ z, o = some z → isLab z = true) := fun o m z e => g.2.2.2.1 z (by rw [← e]; exact m)
theorem lay_seats {ss : List (Option Str)} (g : ∀ o ∈ ss, ∀ z, o = some z → isLab z = true) : PyData.canLay0 (.tuple (ss.map oD)) = true ∧ PyData.depth (.tuple (ss.map oD)) ≤ 1 := by
  obtain ⟨a, b⟩ := lay_map (f := oD) (n := 0) (xs := ss) fun o m => lay_oD (g o m)
  exact ⟨a, by show PyData.depthAll (ss.map oD) + 1 ≤ 1; omega⟩
theorem lay_clocks {cs : List (Int × Bool)} (g : ∀ c ∈ cs, 0 ≤ c.1 ∧ c.1 ≤ 40) : PyData.canLay0 (.tuple (cs.map cD)) = true ∧ PyData.depth (.tuple (cs.map cD)) ≤ 2 := by
  obtain ⟨a, b⟩ := lay_map (f := cD) (n := 1) (xs := cs) fun c m => lay_cD (g c m)
  exact ⟨a, by show PyData.depthAll (cs.map cD) + 1 ≤ 2; omega⟩
theorem shaped_seats {ss : List (Option Str)} (g : ∀ o ∈ ss, ∀ z, o = some z → isLab z = true) : SeqAt.shaped (.tuple (ss.map oD)) = true := by
  obtain ⟨a, b⟩ := lay_seats g
  unfold SeqAt.shaped
  rw [Bool.and_eq_true]
  exact ⟨a, decide_eq_true (by omega)⟩
theorem shaped_clocks {cs : List (Int × Bool)} (g : ∀ c ∈ cs, 0 ≤ c.1 ∧ c.1 ≤ 40) : SeqAt.shaped (.tuple (cs.map cD)) = true := by
  obtain ⟨a, b⟩ := lay_clocks g
  unfold SeqAt.shaped
  rw [Bool.and_eq_true]
  exact ⟨a, decide_eq_true (by omega)⟩
theorem shaped_code {r : Str} {ss : List (Option Str)} {cs : List (Int × Bool)} (g : GoodS r ss cs) : SeqAt.shaped (codeD r ss cs) = true := by
  obtain ⟨a1, b1⟩ := lay_seats g.fine
  obtain ⟨a2, b2⟩ := lay_clocks g.2.2.2.2.2
  unfold SeqAt.shaped
  rw [Bool.and_eq_true]
  refine ⟨?_, decide_eq_true ?_⟩
  · show (PyData.canLay0 (.str r) && (PyData.canLay0 (.tuple (ss.map oD)) && (PyData.canLay0 (.tuple (cs.map cD)) && true))) = true
    rw [a1, a2, show PyData.canLay0 (.str r) = true from lab_fine g.1]
    rfl
  · show max (PyData.depth (.str r)) (max (PyData.depth (.tuple (ss.map oD))) (max (PyData.depth (.tuple (cs.map cD))) 0)) + 1 ≤ 64
    have : PyData.depth (.str r) = 0 := rfl
    omega
/-- a tuple of a room, seats and clocks -/
structure CodeAt (H : Hp) (a : Addr) (r : Str) (ss : List (Option Str)) (cs : List (Int × Bool)) : Prop where
  ob : ∃ sa ca xs, H a = some (.tup [.str r, .ref sa, .ref ca]) ∧ H sa = some (.tup (ss.map oV)) ∧ H ca = some (.tup xs) ∧ Paired (ClkT H) xs cs
theorem CodeAt.keep {H H' : Hp} {a : Addr} {r : Str} {ss : List (Option Str)} {cs : List (Int × Bool)} (h : CodeAt H a r ss cs) (s : Same H H') : CodeAt H' a r ss cs := by
  obtain ⟨⟨sa, ca, xs, h1, h2, h3, h4⟩⟩ := h
  exact ⟨⟨sa, ca, xs, s _ _ h1, s _ _ h2, s _ _ h3, pr_imp h4 fun _ _ q => q.keep s⟩⟩
theorem dpAll_of {K : PySem.W.Frag} {H : Hp} {α : Type} {F : V → α → Prop} {f : α → PyData} (hf : ∀ x a, F x a → Dp K H x (f a)) {xs : List V} {as : List α} (h : Paired F xs as) : DpAll K H xs (as.map f) := by
  induction h with
  | nil => exact .nil
  | cons h t ih => exact .cons (hf _ _ h) ih
theorem dp_seats {K : PySem.W.Frag} {H : Hp} : ∀ ss : List (Option Str), DpAll K H (ss.map oV) (ss.map oD)
  | [] => .nil
  | none :: ss => .cons .non (dp_seats ss)
  | some z :: ss => .cons (.str z) (dp_seats ss)
theorem dpS {K : PySem.W.Frag} {H : Hp} {sa : Addr} {ss : List (Option Str)} (h : H sa = some (.tup (ss.map oV))) : Dp K H (.ref sa) (.tuple (ss.map oD)) := .tup (SqT.of h) (dp_seats ss)
theorem dpC {K : PySem.W.Frag} {H : Hp} {ca : Addr} {xs : List V} {cs : List (Int × Bool)} (h : H ca = some (.tup xs)) (p : Paired (ClkT H) xs cs) : Dp K H (.ref ca) (.tuple (cs.map cD)) := .tup (SqT.of h) (dpAll_of (fun x c q => by
  obtain ⟨a, rfl, h⟩ := q
  exact .tup (SqT.of h) (.cons (.int _) (.cons (.bl _) .nil))) p)
theorem CodeAt.dp {K : PySem.W.Frag} {H : Hp} {a : Addr} {r : Str} {ss : List (Option Str)} {cs : List (Int × Bool)} (h : CodeAt H a r ss cs) : Dp K H (.ref a) (codeD r ss cs) := by
  obtain ⟨⟨sa, ca, xs, h1, h2, h3, h4⟩⟩ := h
  exact .tup (SqT.of h1) (.cons (.str r) (.cons (dpS h2) (.cons (dpC h3 h4) .nil)))
def spCode (C : Addr) : Sp := fun vs H Q _ => ∃ (p : Addr) (r : Str) (ss : List (Option Str)) (cs : List (Int × Bool)), vs = [.ref p] ∧ StandAt C H p r ss cs ∧ ∀ q H', Same H H' → CodeAt H' q r ss cs → Q (.ref q) H'
def spSEq (C : Addr) : Sp := fun vs H Q _ => ∃ (p : Addr) (y : V) (r : Str) (ss : List (Option Str)) (cs : List (Int × Bool)), vs = [.ref p, y] ∧ StandAt C H p r ss cs ∧
  ((∃ b r' ss' cs', y = .ref b ∧ StandAt C H b r' ss' cs' ∧ ∀ H', Same H H' → Q (.bl (decide (r = r' ∧ ss = ss' ∧ cs = cs'))) H') ∨ ∃ (b : Addr) (zs : List V), y = .ref b ∧ H b = some (.tup zs) ∧ Q (.bl false) H)
def sitOf (ss : List (Option Str)) : List Str := addAll [] (ss.filterMap id)
def spSit : Sp := fun vs H Q _ => ∃ (b : Addr) (ss : List (Option Str)), vs = [.ref b] ∧ H b = some (.tup (ss.map oV)) ∧ ss.length ≤ 1000 ∧ ∀ q H', Same H H' → H q = none → H' q = some (.tup ((sitOf ss).map V.str)) → Q (.ref q) H'
def spSPers (C : Addr) : Sp := fun vs H Q _ => ∃ (p : Addr) (r : Str) (ss : List (Option Str)) (cs : List (Int × Bool)), vs = [.ref p] ∧ StandAt C H p r ss cs ∧ ∀ q H', Same H H' → H q = none → H' q = some (.tup ((sitOf ss).map V.str)) → Q (.ref q) H'
theorem StandAt.ty {K : PySem.W.Frag} {C : Addr} {H : Hp} {p : Addr} {r : Str} {ss : List (Option Str)} {cs : List (Int × Bool)} (h : StandAt C H p r ss cs) (k : SC K C) : TyX K H (.ref p) (.ref C) := by
  obtain ⟨⟨dx, sa, ca, xs, h1, _⟩, _⟩ := h
  exact .base (.ins h1 k.cl k.ca k.cg k.ct k.cm)
theorem kit_self {K : PySem.W.Frag} {c : Value} : PySem.W.kitOne K c c = some true := by
  unfold PySem.W.kitOne
  rw [beq_self_eq_true]
  rfl
section
variable {P : Program} {w : World} {K : PySem.W.Frag} {mg : Str → Option Value} {base : Heap}
theorem scCode : FnScope ["self"] ["self"] (defScope sStand_code) := ⟨rfl, rfl, rfl, by decide +kernel, rfl, by decide +kernel, by decide +kernel⟩
theorem ok_code {f C : Addr} {fd : FuncData} (F : Fun K "code" "Stand.code" sStand_code f fd) (SX : SC K C) : FnOk P w K mg base CX0 1 f fd ["self"] (spCode C) := by
  refine F.ok scCode (fun vs H Q E h => ?_) (fun cdv A outer s H vs Q E hr h => ?_)
  · obtain ⟨p, r, ss, cs, rfl, _⟩ := h
    rfl
  · obtain ⟨p, r, ss, cs, rfl, ⟨⟨dx, sa, ca, xs, h1, h2, h3, h4⟩, g⟩, k⟩ := h
    refine ⟨_, pss_one (ps_ret (pe_tup (pa_cons (pe_fld (pv 0) rfl) (pa_cons (pe_fld (pv 0) rfl) (pa_cons (pe_fld (pv 0) rfl) pa_nil))))), ?_⟩
    refine ⟨_, rfl, p, C, dx, _, _, rfl, h1, SX.cl, SX.nR, sFs_r _ _ _, _, rfl, p, C, dx, _, _, rfl, h1, SX.cl, SX.nS, sFs_s _ _ _, _, rfl, p, C, dx, _, _, rfl, h1, SX.cl, SX.nC, sFs_c _ _ _, (by show 3 ≤ sizeLine; decide), fun q hq => ?_⟩
    have s1 := sameUpd (o := .tup [.str r, .ref sa, .ref ca]) (Same.refl H) hq
    exact k q _ s1 ⟨⟨sa, ca, xs, upd_same, s1 _ _ h2, s1 _ _ h3, pr_imp h4 fun _ _ q => q.keep s1⟩⟩
theorem scSEq : FnScope ["self", "other"] ["self", "other"] (defScope sStand_eq) := ⟨rfl, rfl, rfl, by decide +kernel, rfl, by decide +kernel, by decide +kernel⟩
theorem ok_standeq {f C pC gC : Addr} {fd fdC : FuncData} (F : Fun K "__eq__" "Stand.__eq__" sStand_eq f fd) (B : Bm mg) (SX : SC K C) (mS : mg "Stand" = some (.ref C)) (isT : PySem.W.kitOne K (.type "tuple") (.ref C) = some false) (PC : PropOf K C "code" pC gC) (GC : FnOk P w K mg base CX0 1 gC fdC ["self"] (spCode C)) (bC : Binds K fdC ["self"] []) :
    FnOk P w K mg base CX0 3 f fd ["self", "other"] (spSEq C) := by
  refine F.ok scSEq (fun vs H Q E h => ?_) (fun cdv A outer s H vs Q E hr h => ?_)
  · obtain ⟨p, y, r, ss, cs, rfl, _⟩ := h
    rfl
  · obtain ⟨p, y, r, ss, cs, rfl, hp, h⟩ := h
    refine ⟨_, pss_one (ps_ret (pe_and (pe_callB call_isi (by rfl) B.isinstance (by decide +kernel) (pa_cons (pv 1) (pa_cons (pe_glob (v := .ref C) rfl mS rfl) pa_nil)))
      (pe_one (pe_cmpR (op_eqD hr.units) (pe_prop (pv 0) SX.cl PC GC hr bC .nil pass0 (by rfl)) (pe_prop (pv 1) SX.cl PC GC hr bC .nil pass0 (by rfl)) (nomark _))))), ?_⟩
    obtain ⟨dx, sa, ca, xs, h1, h2, h3, h4⟩ := hp.ob
    rcases h with ⟨b, r', ss', cs', rfl, hb, k⟩ | ⟨b, zs, rfl, hb, k⟩
    · obtain ⟨dx', sa', ca', xs', g1, g2, g3, g4⟩ := hb.ob
      refine ⟨_, rfl, _, _, _, _, _, rfl, .own C, hb.ty SX, kit_self, _, rfl, iteT ?_⟩
      refine ⟨_, rfl, p, dx, _, rfl, h1, p, r, ss, cs, rfl, hp, fun q H1 s1 c1 => ⟨_, rfl, b, dx', _, rfl, s1 _ _ g1, b, r', ss', cs', rfl, hb.keep s1, fun q' H2 s2 c2 => ?_⟩⟩
      refine ⟨codeD r ss cs, codeD r' ss' cs', (c1.keep s2).dp, c2.dp, shaped_code hp.good, shaped_code hb.good, ?_⟩
      rw [eqv_code]
      exact k _ (s1.trans s2)
    · exact ⟨_, rfl, _, _, _, _, _, rfl, .own C, .base (.tup hb), isT, _, rfl, iteF k⟩
theorem scSit : FnScope ["seats", "found", "person"] ["seats"] (defScope sSitters) := ⟨rfl, rfl, rfl, by decide +kernel, rfl, by decide +kernel, by decide +kernel⟩
theorem ok_sit {f : Addr} {fd : FuncData} (F : Fun K "sitters" "sitters" sSitters f fd) (m : mg "sitters" = some (.ref f)) (B : Bm mg) : HasF P w K mg base "sitters" 1 ["seats"] spSit := by
  refine ⟨f, fd, ?_, m, F.kp, F.binds fun _ _ _ _ _ _ us hl => match us, hl with | [_], _ => rfl⟩
  refine F.ok scSit (fun vs H Q E h => ?_) (fun cdv A outer s H vs Q E hr h => ?_)
  · obtain ⟨b, ss, rfl, _⟩ := h
    rfl
  · obtain ⟨b, ss, rfl, hb, l, k⟩ := h
    have hu := hu_of hr
    refine ⟨_, (pss_cons (ps_set (i := 1) scSit.nd rfl (Or.inl rfl) pe_dnewK)
    (pss_cons (ps_for PassesOwn.never rfl (pi_tup (pv 0)) (pg_name (i := 2) scSit.nd rfl (.inl rfl))
        (pss_one (ps_if (pt_cmpR op_notN (pv 2) pe_non (nomark _)) (pss_one (ps_dput hu (pv 1) (pv 2) pe_bl rfl)) pss_nil)))
    (pss_one (ps_ret (pe_callTy (call_tuple_dK rfl) (by rfl) B.tuple (by decide +kernel) (pa_cons (pv 1) pa_nil)))))), ?_⟩
    refine fun f hf => ?_
    have s0 : Same H (upd H f (.dK [])) := sameUpd (Same.refl _) hf
    refine ⟨_, rfl, b, rfl, ⟨_, SqT.of (s0 _ _ hb)⟩, for_tup (K := K) (a := b) (xs := ss.map oV) (fun i σ H2 => ∃ v2 : Option V, σ = [some (.ref b), some (.ref f), v2] ∧ Same H H2 ∧ H2 f = some (.dK (pD (addAll [] ((ss.take i).filterMap id)))))
      ⟨none, rfl, s0, upd_same⟩ (fun i σ H2 _ ⟨_, _, s, _⟩ => SqT.of (s _ _ hb)) ?_ ?_⟩
    · rintro i x σ H2 hi ⟨v2, rfl, s2, hd2⟩
      rw [List.getElem?_map] at hi
      obtain ⟨o, ho, rfl⟩ : ∃ o, ss[i]? = some o ∧ x = oV o := by
        cases e : ss[i]? with
        | none => rw [e] at hi; cases hi
        | some z => rw [e] at hi; exact ⟨z, rfl, (Option.some.inj hi).symm⟩
      have st : (ss.take (i + 1)).filterMap id = (ss.take i).filterMap id ++ o.toList := by
        rw [List.take_add_one, ho, List.filterMap_append]
        cases o <;> rfl
      cases o with
      | none =>
        refine ⟨_, rfl, rfl, _, rfl, iteF ⟨_, rfl, s2, ?_⟩⟩
        rw [st]
        simpa using hd2
      | some z =>
        have bound : (pD (addAll [] ((ss.take i).filterMap id))).length < sizeLine := by
          unfold pD
          rw [List.length_map]
          refine line2 ?_
          have b1 := addAll_len ((ss.take i).filterMap id) []
          have b2 : ((ss.take i).filterMap id).length ≤ (ss.take i).length := List.length_filterMap_le _ _
          rw [List.length_take] at b2
          simp only [List.length_nil] at b1
          omega
        refine ⟨_, rfl, rfl, _, rfl, iteT ⟨_, rfl, _, rfl, f, _, rfl, DPut.k (k := Sum.inr z) hd2 bound, some (.str z), rfl, fun c' o e => ?_, ?_⟩⟩
        · rw [upd_ne (ne_of_none e hf)]
          exact s2 c' o e
        · rw [upd_same, pD_put, st]
          show _ = some (HO.dK (pD (addAll [] ((ss.take i).filterMap id ++ [z]))))
          rw [addAll_one]
    · rintro σ H2 ⟨v2, rfl, s2, hd2⟩
      rw [List.length_map, List.take_length] at hd2
      refine ⟨_, rfl, f, _, rfl, hd2, fun q hq => k q _ (sameUpd s2 hq) (s2.free hq) ?_⟩
      rw [upd_same, pD_keys]
      rfl
theorem scSPers : FnScope ["self"] ["self"] (defScope sStand_persons) := ⟨rfl, rfl, rfl, by decide +kernel, rfl, by decide +kernel, by decide +kernel⟩
theorem ok_spers {f C : Addr} {fd : FuncData} (F : Fun K "persons" "Stand.persons" sStand_persons f fd) (SX : SC K C) (Si : HasF P w K mg base "sitters" 1 ["seats"] spSit) : FnOk P w K mg base CX0 2 f fd ["self"] (spSPers C) := by
  obtain ⟨f1, fd1, Si⟩ := Si
  refine F.ok scSPers (fun vs H Q E h => ?_) (fun cdv A outer s H vs Q E hr h => ?_)
  · obtain ⟨p, r, ss, cs, rfl, _⟩ := h
    rfl
  · obtain ⟨p, r, ss, cs, rfl, ⟨⟨dx, sa, ca, xs, h1, h2, h3, h4⟩, g⟩, k⟩ := h
    refine ⟨_, pss_one (ps_ret (pe_call Si.G hr (by rfl) Si.m Si.kp Si.b .nil pass0 (pa_cons (pe_fld (pv 0) rfl) pa_nil))), ?_⟩
    refine ⟨_, rfl, p, C, dx, _, _, rfl, h1, SX.cl, SX.nS, sFs_s _ _ _, sa, ss, rfl, h2, Nat.le_trans g.2.2.1 (by decide), fun q H' s e e2 => k q H' s e e2⟩
end
end Kx

set_option maxHeartbeats 4000000
namespace Kx
open PySem L2
/-! renamings: what is told as one -/
inductive NamesIs (H : Hp) : V → Option (List (Key × V)) → Prop where
  | dct {a : Addr} {kvs : List (Key × V)} (h : H a = some (.dK kvs)) (t : ∀ kv ∈ kvs, ∃ n, Thing H kv.2 n) : NamesIs H (.ref a) (some kvs)
  | oth {y : V} {n : String} (h : Kd H y n) (l : (n == "dict") = false) : NamesIs H y none
theorem NamesIs.keep {H H' : Hp} {y : V} {r : Option (List (Key × V))} (h : NamesIs H y r) (s : Same H H') : NamesIs H' y r := by
  cases h with
  | dct h t => exact .dct (s _ _ h) fun kv m => (t kv m).imp fun n q => q.keep s
  | oth h l => exact .oth (h.keep s) l
theorem NamesIs.kd {H : Hp} {y : V} {r : Option (List (Key × V))} (h : NamesIs H y r) : ∃ n, Kd H y n ∧ (n == "dict") = r.isSome := by
  cases h with
  | dct h t => exact ⟨_, .dct _ _ h, rfl⟩
  | oth h l => exact ⟨_, h, l⟩
theorem kit_dict {n : String} (h : n ∈ ["NoneType", "bool", "int", "str", "list", "tuple", "dict"]) : kitB n "dict" = some (n == "dict") := by
  simp only [List.mem_cons, List.not_mem_nil, or_false] at h
  rcases h with h | h | h | h | h | h | h <;> (subst h; decide +kernel)
structure Bd (mg : Str → Option Value) : Prop where
  dict : mg "dict" = none
  set : mg "set" = none
abbrev atN (kvs : List (Key × V)) (z : Str) : Option V := valV kvs (Sum.inr z : Key)
def labO : Option V → Bool
  | some v => labV v
  | none => false
def strO : Option V → Option Str
  | some (.str z) => some z
  | _ => none
theorem labO_str {o : Option V} (h : labO o = true) : ∃ z, o = some (.str z) ∧ isLab z = true ∧ strO o = some z := by
  cases o with
  | none => cases h
  | some v =>
    obtain ⟨z, rfl, hz⟩ := lab_str (show labV v = true from h)
    exact ⟨z, rfl, hz, rfl⟩
/-- what the persons are led to -/
def ledOf (kvs : List (Key × V)) (ps : List Str) : List Str := ps.filterMap fun z => strO (atN kvs z)
/-- the first word that applies to a renaming of these persons -/
def mapDue (no : Option (List (Key × V))) (ps : List Str) : Option Str := match no with
  | none => some "map"
  | some kvs => if ps.all (fun z => (atN kvs z).isSome) then (if ps.all (fun z => labO (atN kvs z)) then (if (addAll [] (ledOf kvs ps)).length < ps.length then some "merged" else none) else some "label") else some "person"
theorem led_len {kvs : List (Key × V)} : ∀ {ps : List Str}, ps.all (fun z => labO (atN kvs z)) = true → (ledOf kvs ps).length = ps.length ∧ ∀ (i : Nat) (z : Str), ps[i]? = some z → ∃ y, atN kvs z = some (.str y) ∧ (ledOf kvs ps)[i]? = some y ∧ isLab y = true
  | [], _ => ⟨rfl, fun i z e => by cases e⟩
  | z :: ps, h => by
    rw [List.all_cons, Bool.and_eq_true] at h
    obtain ⟨l, g⟩ := led_len h.2
    obtain ⟨y, e, hy, e2⟩ := labO_str h.1
    have e3 : ledOf kvs (z :: ps) = y :: ledOf kvs ps := by
      unfold ledOf
      rw [List.filterMap_cons, e2]
    refine ⟨by rw [e3, List.length_cons, List.length_cons, l], fun i x ex => ?_⟩
    rw [e3]
    cases i with
    | zero => cases ex; exact ⟨y, e, rfl, hy⟩
    | succ i => exact g i x ex
theorem val_thing {H : Hp} {kvs : List (Key × V)} (t : ∀ kv ∈ kvs, ∃ n, Thing H kv.2 n) {k : Key} {v : V} (h : valV kvs k = some v) : ∃ n, Thing H v n := by
  induction kvs with
  | nil => cases h
  | cons kv kvs ih =>
    by_cases e : kv.1 = k
    · rw [valV_pos e] at h
      cases h
      exact t kv (.head _)
    · rw [valV_neg e] at h
      exact ih (fun kv' m => t kv' (.tail _ m)) h
def spMapFault : Sp := fun vs H Q _ => ∃ (x : V) (no : Option (List (Key × V))) (b : Addr) (ps : List Str), vs = [x, .ref b] ∧ NamesIs H x no ∧ H b = some (.tup (ps.map V.str)) ∧ ps.length ≤ 900 ∧ ∀ H', Same H H' → Q (wordV (mapDue no ps)) H'
/-- led along -/
def renO (kvs : List (Key × V)) : Option Str → Option Str
  | none => none
  | some z => strO (atN kvs z)
def spRenamed (C CB : Addr) : Sp := fun vs H Q E => ∃ (p : Addr) (x : V) (no : Option (List (Key × V))) (r : Str) (ss : List (Option Str)) (cs : List (Int × Bool)), vs = [.ref p, x] ∧ StandAt C H p r ss cs ∧ NamesIs H x no ∧
  match mapDue no (sitOf ss) with
  | some w => ∀ d H', H d = none → Same H H' → H' d = some (.xd (whatF w)) → E (.ref CB) (some d) H'
  | none => ∀ q kvs H', no = some kvs → Same H H' → StandAt C H' q r (ss.map (renO kvs)) cs → Q (.ref q) H'
theorem sit_mem {ss : List (Option Str)} {z : Str} : z ∈ sitOf ss ↔ some z ∈ ss := by
  unfold sitOf
  rw [addAll_in]
  simp
theorem sit_len (ss : List (Option Str)) : (sitOf ss).length ≤ ss.length := by
  have h := addAll_len (ss.filterMap id) []
  have h2 : (ss.filterMap id).length ≤ ss.length := List.length_filterMap_le _ _
  simp only [List.length_nil] at h
  unfold sitOf
  omega
theorem mapDue_none {no : Option (List (Key × V))} {ps : List Str} (h : mapDue no ps = none) : ∃ kvs, no = some kvs ∧ ps.all (fun z => labO (atN kvs z)) = true ∧ ¬ (addAll [] (ledOf kvs ps)).length < ps.length := by
  cases no with
  | none => cases h
  | some kvs =>
    have h : (if ps.all (fun z => (atN kvs z).isSome) = true then (if ps.all (fun z => labO (atN kvs z)) = true then (if (addAll [] (ledOf kvs ps)).length < ps.length then some (Str.ofString "merged") else none) else some (Str.ofString "label")) else some (Str.ofString "person")) = none := h
    by_cases h1 : ps.all (fun z => (atN kvs z).isSome) = true
    · rw [if_pos h1] at h
      by_cases h2 : ps.all (fun z => labO (atN kvs z)) = true
      · rw [if_pos h2] at h
        by_cases h3 : (addAll [] (ledOf kvs ps)).length < ps.length
        · rw [if_pos h3] at h; cases h
        · exact ⟨kvs, rfl, h2, h3⟩
      · rw [if_neg h2] at h; cases h
    · rw [if_neg h1] at h; cases h
section
variable {P : Program} {w : World} {K : PySem.W.Frag} {mg : Str → Option Value} {base : Heap}
abbrev nMapFault : List Str := ["names", "persons", "person"]
theorem scMapFault : FnScope nMapFault ["names", "persons"] (defScope sMapFault) := ⟨rfl, rfl, rfl, by decide +kernel, rfl, by decide +kernel, by decide +kernel⟩
theorem ok_mapfault {f : Addr} {fd : FuncData} (F : Fun K "map_fault" "map_fault" sMapFault f fd) (m : mg "map_fault" = some (.ref f)) (T : Bl mg) (B : Bm mg) (D : Bd mg) (Lb : HasF P w K mg base "is_label" 1 ["thing"] spLabel) : HasF P w K mg base "map_fault" 2 ["names", "persons"] spMapFault := by
  refine ⟨f, fd, ?_, m, F.kp, F.binds fun _ _ _ _ _ _ us hl => match us, hl with | [_, _], _ => rfl⟩
  obtain ⟨f2, fd2, Lb⟩ := Lb
  refine F.ok scMapFault (fun vs H Q E h => ?_) (fun cdv A outer s H vs Q E hr h => ?_)
  · obtain ⟨x, no, b, ps, rfl, _⟩ := h
    rfl
  · obtain ⟨x, no, b, ps, rfl, hx, hb, l, k⟩ := h
    have hu := hu_of hr
    refine ⟨_, (pss_cons (ps_if (pt_not (pt_val (pe_callB call_isi (by rfl) B.isinstance (by decide +kernel) (pa_cons (pv 0) (pa_cons (pe_bltn (v := .ty "dict") (by rfl) D.dict (by decide +kernel) rfl) pa_nil))))) (pss_one (ps_ret pe_str)) pss_nil)
    (C8.pss_cut (ps_for PassesOwn.never rfl (pi_tup (pv 1)) (pg_name (i := 2) scMapFault.nd rfl (.inl rfl))
        (pss_one (ps_if (pt_cmp (pc_dnotin hu (pv 2) (pv 0))) (pss_one (ps_ret pe_str)) pss_nil)))
    (C8.pss_cut (ps_for PassesOwn.never rfl (pi_tup (pv 1)) (pg_name (i := 2) scMapFault.nd rfl (.inl rfl))
        (pss_one (ps_if (pt_not (pt_val (pe_call Lb.G hr (by rfl) Lb.m Lb.kp Lb.b .nil pass0 (pa_cons (pe_dget hu (pv 0) (pv 2) (fun _ _ => rfl)) pa_nil)))) (pss_one (ps_ret pe_str)) pss_nil)))
    (pss_cons (ps_if (pt_cmpR op_lt (pe_callB call_lenS (by rfl) T.len PySem.boot_len (pa_cons (pe_callTy (cr_setT hr.hd) (by rfl) D.set (by decide +kernel) (pa_cons
          (pe_lc (own := [("person", 2)]) (g := gName 2) (tt := tYes) (by rfl) scMapFault.nd (pi_seq (pv 1)) (blkOk_by (own := [("person", 2)]) (N := nMapFault) (sc := defScope sMapFault) (by decide +kernel))
          (fun _ _ _ _ _ => pg_name (i := 2) scMapFault.nd rfl (Or.inl rfl)) (fun _ _ _ _ _ => pts_nil) (fun _ _ _ _ _ => (pe_dget hu (pv 0) (pv 2) (fun _ _ => rfl)))) pa_nil)) pa_nil)) (pe_callB call_len_seq (by rfl) T.len PySem.boot_len (pa_cons (pv 1) pa_nil)) (nomark _)) (pss_one (ps_ret pe_str)) pss_nil)
    (pss_one (ps_ret pe_non)))))), ?_⟩
    obtain ⟨n, kd, kn⟩ := hx.kd
    refine ⟨_, rfl, x, _, _, _, _, rfl, .ty _, kd.ty, kit_ty (kit_dict kd.kits), _, rfl, ?_⟩
    rw [kn]
    cases hx with
    | oth h l' => exact iteT (k H (Same.refl _))
    | dct ha t =>
    rename_i a kvs
    refine iteF ?_
    have word : ∀ w', (if ps.all (fun z => (atN kvs z).isSome) = true then (if ps.all (fun z => labO (atN kvs z)) = true then (if (addAll [] (ledOf kvs ps)).length < ps.length then some (Str.ofString "merged") else none) else some (Str.ofString "label")) else some (Str.ofString "person")) = w' → ∀ H', Same H H' → Q (wordV w') H' := fun w' e H' s => by
      have q := k H' s
      have e2 : mapDue (some kvs) ps = w' := e
      rw [e2] at q
      exact q
    -- each is there
    refine ⟨fun σ H1 => ∃ v2 : Option V, ps.all (fun z => (atN kvs z).isSome) = true ∧ σ = [some (.ref a), some (.ref b), v2] ∧ H1 = H, ?_, ?_⟩
    · refine ⟨_, rfl, b, rfl, ⟨_, SqT.of hb⟩, for_tup (K := K) (a := b) (xs := ps.map V.str) (fun i σ H2 => ∃ v2 : Option V, σ = [some (.ref a), some (.ref b), v2] ∧ H2 = H ∧ (ps.take i).all (fun z => (atN kvs z).isSome) = true)
        ⟨none, rfl, rfl, rfl⟩ (fun i σ H2 _ ⟨_, _, e, _⟩ => by rw [e]; exact SqT.of hb) ?_ ?_⟩
      · rintro i y σ H2 hi ⟨v2, rfl, rfl, al⟩
        rw [List.getElem?_map] at hi
        obtain ⟨z, hz, rfl⟩ : ∃ z, ps[i]? = some z ∧ y = V.str z := by
          cases e : ps[i]? with
          | none => rw [e] at hi; cases hi
          | some z => rw [e] at hi; exact ⟨z, rfl, (Option.some.inj hi).symm⟩
        refine ⟨_, rfl, _, rfl, a, _, rfl, DGet.k (k := Sum.inr z) ha, _, rfl, ?_⟩
        cases e : valV kvs (Sum.inr z : Key) with
        | none =>
          refine iteT (word (some "person") (if_neg fun q => ?_) _ (Same.refl _))
          have q2 : (valV kvs (Sum.inr z : Key)).isSome = true := List.all_eq_true.mp q z (List.mem_of_getElem? hz)
          rw [e] at q2
          cases q2
        | some v =>
          refine iteF ⟨_, rfl, rfl, ?_⟩
          have e' : atN kvs z = some v := e
          rw [List.take_add_one, hz, List.all_append, al]
          simp [e']
      · rintro σ H2 ⟨v2, rfl, rfl, al⟩
        rw [List.length_map, List.take_length] at al
        exact ⟨v2, al, rfl, rfl⟩
    rintro σ H1 ⟨v2, al, rfl, rfl⟩
    have some_at : ∀ z ∈ ps, ∃ v n, atN kvs z = some v ∧ Thing H1 v n := fun z m => by
      have q := List.all_eq_true.mp al z m
      cases e : atN kvs z with
      | none => rw [e] at q; cases q
      | some v =>
        obtain ⟨n, tv⟩ := val_thing t e
        exact ⟨v, n, rfl, tv⟩
    -- each is led to a label
    refine ⟨fun σ H2 => ∃ v2 : Option V, ps.all (fun z => labO (atN kvs z)) = true ∧ σ = [some (.ref a), some (.ref b), v2] ∧ H2 = H1, ?_, ?_⟩
    · refine ⟨_, rfl, b, rfl, ⟨_, SqT.of hb⟩, for_tup (K := K) (a := b) (xs := ps.map V.str) (fun i σ H2 => ∃ v2 : Option V, σ = [some (.ref a), some (.ref b), v2] ∧ H2 = H1 ∧ (ps.take i).all (fun z => labO (atN kvs z)) = true)
        ⟨v2, rfl, rfl, rfl⟩ (fun i σ H2 _ ⟨_, _, e, _⟩ => by rw [e]; exact SqT.of hb) ?_ ?_⟩
      · rintro i y σ H2 hi ⟨v2, rfl, rfl, al2⟩
        rw [List.getElem?_map] at hi
        obtain ⟨z, hz, rfl⟩ : ∃ z, ps[i]? = some z ∧ y = V.str z := by
          cases e : ps[i]? with
          | none => rw [e] at hi; cases hi
          | some z => rw [e] at hi; exact ⟨z, rfl, (Option.some.inj hi).symm⟩
        obtain ⟨v, nv, ev, tv⟩ := some_at z (List.mem_of_getElem? hz)
        have get : DGet H2 a (.str z) (some v) := by rw [← ev]; exact DGet.k (k := Sum.inr z) ha
        refine ⟨_, rfl, _, rfl, a, v, rfl, get, v, nv, rfl, tv.kd, (fun y e => Nat.le_of_lt (small1000 (by have := (tv.fine y e).2; omega))), _, rfl, ?_⟩
        cases e : labV v with
        | false =>
          refine iteT (word (some "label") ?_ _ (Same.refl _))
          rw [if_pos al, if_neg fun q => ?_]
          have q2 := List.all_eq_true.mp q z (List.mem_of_getElem? hz)
          rw [ev] at q2
          have q2 : labV v = true := q2
          rw [e] at q2
          cases q2
        | true =>
          refine iteF ⟨_, rfl, rfl, ?_⟩
          rw [List.take_add_one, hz, List.all_append, al2]
          simp [ev, labO, e]
      · rintro σ H2 ⟨v2, rfl, rfl, al2⟩
        rw [List.length_map, List.take_length] at al2
        exact ⟨v2, al2, rfl, rfl⟩
    rintro σ H2 ⟨v2, al2, rfl, rfl⟩
    obtain ⟨ll, lg⟩ := led_len al2
    refine ⟨_, rfl, b, rfl, lc_pure (g := gName 2) (fun j y H' => ∀ z, (ledOf kvs ps)[j]? = some z → y = V.str z) (fun j y H' H'' q s => q) (IsSeq.tup hb) (Same.refl _) (by rw [List.length_map]; omega) ?_ ?_ fun x σ H Q Q' q z => q _ _ z⟩
    · rintro D' i y H3 k' hi hD s3 ⟨acc, hacc⟩ kk
      rw [List.getElem?_map] at hi
      obtain ⟨z, hz, rfl⟩ : ∃ z, ps[i]? = some z ∧ y = V.str z := by
        cases e : ps[i]? with
        | none => rw [e] at hi; cases hi
        | some z => rw [e] at hi; exact ⟨z, rfl, (Option.some.inj hi).symm⟩
      obtain ⟨u, eu, el, _⟩ := lg i z hz
      have get : DGet H3 a (.str z) (some (V.str u)) := by rw [← eu]; exact DGet.k (k := Sum.inr z) (s3 _ _ ha)
      refine ⟨rfl, _, rfl, _, rfl, a, _, rfl, get, kk _ _ (Same.refl _) fun z' e => ?_⟩
      rw [el] at e
      cases e
      rfl
    · intro D' ys H3 hD s3 hd ly g
      have ey : ys = (ledOf kvs ps).map V.str := by
        refine List.ext_getElem? fun i => ?_
        rw [List.getElem?_map]
        cases e : (ledOf kvs ps)[i]? with
        | none =>
          have h1 := List.getElem?_eq_none_iff.mp e
          rw [List.length_map] at ly
          exact List.getElem?_eq_none_iff.mpr (by omega)
        | some z =>
          have h1 := (List.getElem?_eq_some_iff.mp e).1
          rw [List.length_map] at ly
          have h2 : i < ys.length := by omega
          rw [List.getElem?_eq_getElem h2, g i _ (List.getElem?_eq_getElem h2) z e]
          rfl
      subst ey
      refine ⟨D', ledOf kvs ps, rfl, SqL.of hd, by omega, fun q hq => ⟨q, _, _, rfl, upd_same, ?_⟩⟩
      have s4 := sameUpd (o := SetK P w q (has (ledOf kvs ps)) (addAll [] (ledOf kvs ps)).length) s3 hq
      refine ⟨_, rfl, b, _, rfl, .inr (SqT.of (s4 _ _ hb)), _, _, rfl, rfl, _, rfl, ?_⟩
      refine ite2 (fun h1 => ?_) (fun h1 => ?_)
      · have h1 := of_decide_eq_true h1
        rw [List.length_map] at h1
        refine word (some "merged") ?_ _ s4
        rw [if_pos al, if_pos al2, if_pos (by omega)]
      · have h1 : ¬ (((addAll [] (ledOf kvs ps)).length : Int) < ((ps.map V.str).length : Int)) := fun e => h1 (decide_eq_true e)
        rw [List.length_map] at h1
        refine word none ?_ _ s4
        rw [if_pos al, if_pos al2, if_neg (by omega)]
end
end Kx

set_option maxHeartbeats 8000000
namespace Kx
open PySem L2
theorem renO_good {kvs : List (Key × V)} {r : Str} {ss : List (Option Str)} {cs : List (Int × Bool)} (g : GoodS r ss cs) (h : (sitOf ss).all (fun z => labO (atN kvs z)) = true) : GoodS r (ss.map (renO kvs)) cs := by
  refine ⟨g.1, by rw [List.length_map]; exact g.2.1, by rw [List.length_map]; exact g.2.2.1, fun z m => ?_, g.2.2.2.2⟩
  obtain ⟨o, mo, e⟩ := List.mem_map.mp m
  cases o with
  | none => cases e
  | some y =>
    obtain ⟨u, e1, hu, e2⟩ := labO_str (List.all_eq_true.mp h y (sit_mem.mpr mo))
    have e : strO (atN kvs y) = some z := e
    rw [e2] at e
    cases e
    exact hu
theorem renO_at {kvs : List (Key × V)} {ss : List (Option Str)} (h : (sitOf ss).all (fun z => labO (atN kvs z)) = true) {y : Str} (m : some y ∈ ss) : ∃ u, valV kvs (Sum.inr y : Key) = some (.str u) ∧ renO kvs (some y) = some u := by
  obtain ⟨u, e1, hu, e2⟩ := labO_str (List.all_eq_true.mp h y (sit_mem.mpr m))
  exact ⟨u, e1, e2⟩
theorem due_good {r : Str} {ss : List (Option Str)} {cs : List (Int × Bool)} (g : GoodS r ss cs) : standDue (.str r) (some (ss.map oV)) (some (cR cs)) = none := by
  have e1 : labV (.str r) = true := g.1
  unfold standDue
  rw [if_pos e1]
  have e2 : (ss.map oV).any badS = false := by
    refine List.any_eq_false.mpr fun x m => ?_
    obtain ⟨o, mo, rfl⟩ := List.mem_map.mp m
    cases o with
    | none => decide
    | some z =>
      have q : isLab z = true := g.2.2.2.1 z mo
      show ¬ (!isLab z) = true
      rw [q]
      decide
  rw [restDue_none (by show (if _ then _ else _) = _; rw [if_pos ⟨by rw [List.length_map]; exact g.2.1, by rw [List.length_map]; exact g.2.2.1⟩, e2]; rfl)]
  have l : (cR cs).length = cs.length := by simp [cR]
  show (if _ then _ else _) = _
  rw [if_pos (by rw [l]; exact g.2.2.2.2.1)]
  have gc := g.2.2.2.2.2
  clear e1 e2 l g
  induction cs with
  | nil => rfl
  | cons c cs ih =>
    have e : clockWord (some (.int c.1, .bl c.2)) = none := by
      show (if wholeV (.int c.1) 0 40 = true then _ else _) = _
      have q := gc c (.head _)
      have w : wholeV (.int c.1) 0 40 = true := by
        show (decide (0 ≤ c.1) && decide (c.1 ≤ 40)) = true
        rw [decide_eq_true q.1, decide_eq_true q.2]
        rfl
      rw [if_pos w]
      rfl
    show (match clockWord (some (.int c.1, .bl c.2)) with | some w => some w | none => scanC (cR cs)) = none
    rw [e]
    exact ih fun d m => gc d (.tail _ m)
theorem cR_inj : ∀ {a b : List (Int × Bool)}, cR a = cR b → a = b
  | [], [], _ => rfl
  | [], _ :: _, h => by cases h
  | _ :: _, [], h => by cases h
  | x :: a, y :: b, h => by
    have h1 := List.cons.inj h
    obtain ⟨i, u⟩ := x
    obtain ⟨j, v⟩ := y
    have e1 := h1.1
    simp only [Option.some.injEq, Prod.mk.injEq, V.int.injEq, V.bl.injEq] at e1
    rw [cR_inj (a := a) (b := b) h1.2, e1.1, e1.2]
theorem oV_inj : ∀ {a b : List (Option Str)}, a.map oV = b.map oV → a = b
  | [], [], _ => rfl
  | [], _ :: _, h => by cases h
  | _ :: _, [], h => by cases h
  | x :: a, y :: b, h => by
    have h1 := List.cons.inj h
    have e : x = y := by
      cases x with
      | none => cases y with
        | none => rfl
        | some z => cases h1.1
      | some z => cases y with
        | none => cases h1.1
        | some u => exact congrArg some (V.str.inj h1.1)
    rw [e, oV_inj (a := a) (b := b) h1.2]
/-- the things of good seats -/
theorem oV_thing {ss : List (Option Str)} (h : ∀ o ∈ ss, ∀ z, o = some z → isLab z = true) (H : Hp) : ∀ x ∈ ss.map oV, ∃ n, Thing H x n := fun x m => by
  obtain ⟨o, mo, rfl⟩ := List.mem_map.mp m
  cases o with
  | none => exact ⟨_, .non, fun z e => nomatch e⟩
  | some z => exact ⟨_, .str z, fun y e => by cases e; exact ⟨lab_fine (h _ mo z rfl), by have := (lab_low (h _ mo z rfl)).2; omega⟩⟩
theorem clkT_row {H : Hp} {x : V} {c : Int × Bool} (h : ClkT H x c) : RowIs H x (some (.int c.1, .bl c.2)) := by
  obtain ⟨a, rfl, h⟩ := h
  exact .tup h ⟨.int _, fun z e => nomatch e⟩ ⟨.bl _, fun z e => nomatch e⟩
theorem clksT {K : PySem.W.Frag} {H : Hp} {ca : Addr} {xs : List V} {cs : List (Int × Bool)} (h : H ca = some (.tup xs)) (p : Paired (ClkT H) xs cs) (l : cs.length ≤ 2) : ClksIs K H (.ref ca) (some (cR cs)) := by
  refine .seq (.tup h) ?_ (by rw [Paired.length p]; omega)
  clear h l
  induction p with
  | nil => exact .nil
  | cons q t ih => exact .cons (clkT_row q) ih
/-- a good stand is made, never refused -/
theorem mk_stand {K : PySem.W.Frag} {C CB : Addr} {H : Hp} {p dx : Addr} {y z : V} {r : Str} {ss : List (Option Str)} {cs : List (Int × Bool)} {Q : VK} {E : XK} (hp : H p = some (.ins C dx [])) (g : GoodS r ss cs) (hs : SeatsIs K H y (some (ss.map oV))) (hc : ClksIs K H z (some (cR cs)))
    (k : ∀ H', Keep H H' p → StandAt C H' p r ss cs → Q .non H') : spStand K C CB [.ref p, .str r, y, z] H Q E := by
  refine ⟨p, dx, .str r, y, z, "str", _, _, rfl, hp, ⟨.str r, fun y e => by cases e; exact ⟨lab_fine g.1, by have := (lab_low g.1).2; omega⟩⟩, hs, hc, ?_⟩
  rw [due_good g]
  intro r' ss' cs' H' e1 e2 e3 _ kp st
  cases e1
  obtain rfl := oV_inj (Option.some.inj e2)
  obtain rfl := cR_inj (Option.some.inj e3)
  exact k H' kp st
section
variable {P : Program} {w : World} {K : PySem.W.Frag} {mg : Str → Option Value} {base : Heap}
abbrev nRenamed : List Str := ["self", "names", "word", "seats", "person"]
theorem scRenamed : FnScope nRenamed ["self", "names"] (defScope sStand_renamed) := ⟨rfl, rfl, rfl, by decide +kernel, rfl, by decide +kernel, by decide +kernel⟩
theorem ok_renamed {f C CS CB fB fI gP pP : Addr} {fd fdB fdI fdP : FuncData} (F : Fun K "renamed" "Stand.renamed" sStand_renamed f fd) (SX : SC K C) (MF : HasF P w K mg base "map_fault" 2 ["names", "persons"] spMapFault) (PP : PropOf K C "persons" pP gP) (GP : FnOk P w K mg base CX0 2 gP fdP ["self"] (spSPers C)) (bP : Binds K fdP ["self"] [])
    (MK : Mk K C fI) (GI : FnOk P w K mg base (L2.CX P w) 4 fI fdI ["self", "room", "seats", "clocks"] (spStand K C CS)) (mS : mg "Stand" = some (.ref C)) (bI : Binds K fdI ["self", "room", "seats", "clocks"] [])
    (EB : ErC P w K mg base "BadMap" ["self", "what"] CB fB fdB (spInit1 K CB "what")) (n1 : PySem.W.findIn K (.ref CB) "what" = some none) :
    FnOk P w K mg base (L2.CX P w) 6 f fd ["self", "names"] (spRenamed C CB) := by
  obtain ⟨f1, fd1, MF⟩ := MF
  refine F.okX scRenamed (fun vs H Q E h => ?_) (fun cdv A outer s H vs Q E hr h => ?_)
  · obtain ⟨p, x, no, r, ss, cs, rfl, _⟩ := h
    rfl
  · obtain ⟨p, x, no, r, ss, cs, rfl, hp, hx, k⟩ := h
    have hu := hu_of hr
    have hr2 : Room 2 _ := hr.mono (by decide)
    have hr3 : Room 3 _ := hr.mono (by decide)
    refine ⟨_, (pss_cons (ps_set (i := 2) scRenamed.nd rfl (Or.inl rfl) (pe_call MF.G hr2 (by rfl) MF.m MF.kp MF.b .nil pass0 (pa_cons (pv 1) (pa_cons (pe_prop (pv 0) SX.cl PP GP hr3 bP .nil pass0 (by rfl)) pa_nil))))
    (pss_cons (ps_if (pt_cmpR op_notN (pv 2) pe_non (nomark _)) (pss_one (ps_raise rfl (takes_of rfl rfl rfl rfl) (pmk_oex EB.T EB.iC EB.tI EB.G hr2 EB.b .nil pass0 (by rfl) EB.gC (pa_cons (pv 2) pa_nil)))) pss_nil)
    (pss_cons (ps_setLc (i := 3) (own := [("person", 4)]) (g := gName 4) (tt := tYes) (by rfl) scRenamed.nd rfl rfl (sw_true rfl rfl rfl (by decide +kernel)) (pi_seq (pe_fld (pv 0) rfl)) (blkOk_by (own := [("person", 4)]) (N := nRenamed) (sc := defScope sStand_renamed) (by decide +kernel))
          (fun _ _ _ _ _ => pg_name (i := 4) scRenamed.nd rfl (Or.inl rfl)) (fun _ _ _ _ _ => pts_nil) (fun _ _ _ _ _ => pe_ifExp (pt_cmpR op_isN (pv 4) pe_non (nomark _)) pe_non (pe_dget hu (pv 1) (pv 4) (fun _ _ => rfl))))
    (pss_one (ps_ret (pe_makeS MK GI hr (by rfl) mS bI (passAt (takes_of rfl rfl rfl rfl)) (pa_cons (pe_fld (pv 0) rfl) (pa_cons (pv 3) (pa_cons (pe_fld (pv 0) rfl) pa_nil))))))))), ?_⟩
    obtain ⟨dx, sa, ca, xs, h1, h2, h3, h4⟩ := hp.ob
    refine ⟨_, rfl, _, rfl, p, dx, _, rfl, h1, p, r, ss, cs, rfl, hp, fun q H1 s1 hq0 hq => ?_⟩
    refine ⟨x, no, q, sitOf ss, rfl, hx.keep s1, hq, Nat.le_trans (sit_len ss) (Nat.le_trans hp.good.2.2.1 (by decide)), fun H2 s2 => ?_⟩
    have s02 := s1.trans s2
    cases e : mapDue no (sitOf ss) with
    | some w' =>
      rw [e] at k
      refine ⟨_, rfl, rfl, _, rfl, iteT ⟨_, rfl, fin1 EB.T n1 fun d H3 hd s3 e3 => k d H3 (s02.free hd) (s02.trans s3) e3⟩⟩
    | none =>
      rw [e] at k
      obtain ⟨kvs, rfl, al, _⟩ := mapDue_none e
      cases hx with
      | dct ha t =>
      rename_i a
      refine ⟨_, rfl, rfl, _, rfl, iteF ?_⟩
      refine ⟨_, rfl, p, C, dx, _, _, rfl, s02 _ _ h1, SX.cl, SX.nS, sFs_s _ _ _, sa, rfl, lc_pure (g := gName 4) (fun j y H' => ∀ o, ss[j]? = some o → y = oV (renO kvs o)) (fun j y H' H'' q s => q) (IsSeq.tup (s02 _ _ h2)) (Same.refl _) (by rw [List.length_map]; have := hp.good.2.2.1; omega) ?_ ?_ fun x σ H Q Q' q z => q _ _ z⟩
      · rintro D' i y H3 k' hi hD s3 ⟨acc, hacc⟩ kk
        rw [List.getElem?_map] at hi
        obtain ⟨o, ho, rfl⟩ : ∃ o, ss[i]? = some o ∧ y = oV o := by
          cases e : ss[i]? with
          | none => rw [e] at hi; cases hi
          | some z => rw [e] at hi; exact ⟨z, rfl, (Option.some.inj hi).symm⟩
        cases o with
        | none =>
          refine ⟨rfl, _, rfl, rfl, _, rfl, (if_pos rfl).mpr (kk _ _ (Same.refl _) fun o e => ?_)⟩
          rw [ho] at e
          cases e
          rfl
        | some z =>
          obtain ⟨u, e1, e2⟩ := renO_at al (List.mem_of_getElem? ho)
          have get : DGet H3 a (.str z) (some (V.str u)) := by rw [← e1]; exact DGet.k (k := Sum.inr z) ((s02.trans s3) _ _ ha)
          refine ⟨rfl, _, rfl, rfl, _, rfl, (if_neg (fun z => nomatch of_decide_eq_true z)).mpr ⟨_, rfl, _, rfl, a, _, rfl, get, kk _ _ (Same.refl _) fun o e => ?_⟩⟩
          rw [ho] at e
          cases e
          rw [e2]
          rfl
      · intro D' ys H3 hD s3 hd ly g
        have ey : ys = (ss.map (renO kvs)).map oV := by
          refine List.ext_getElem? fun i => ?_
          rw [List.getElem?_map, List.getElem?_map]
          rw [List.length_map] at ly
          cases e : ss[i]? with
          | none =>
            have h1 := List.getElem?_eq_none_iff.mp e
            exact List.getElem?_eq_none_iff.mpr (by omega)
          | some o =>
            have h1 := (List.getElem?_eq_some_iff.mp e).1
            have h2 : i < ys.length := by omega
            rw [List.getElem?_eq_getElem h2, g i _ (List.getElem?_eq_getElem h2) o e]
            rfl
        subst ey
        have s03 := s02.trans s3
        have g' := renO_good (kvs := kvs) hp.good al
        refine ⟨_, rfl, p, C, dx, _, _, rfl, s03 _ _ h1, SX.cl, SX.nR, sFs_r _ _ _, _, rfl, _, rfl, p, C, dx, _, _, rfl, s03 _ _ h1, SX.cl, SX.nC, sFs_c _ _ _, fun q' dx' hq' hdx' ne => ?_⟩
        have s4 := sameUpd (o := .own q') s03 hdx'
        have s5 := sameUpd (o := .ins C dx' []) s4 (by rw [upd_ne ne.symm]; exact hq')
        refine mk_stand upd_same g' (.seq (.inl ?_) (oV_thing g'.fine _) (by rw [List.length_map]; have := g'.2.2.1; omega)) (clksT (s5 _ _ h3) (pr_imp h4 fun _ _ q => q.keep s5) g'.2.2.2.2.1) fun H6 k6 st => ⟨rfl, k q' kvs H6 rfl (fun b o e => k6 b o (s5 b o e) ?_) st⟩
        · rw [upd_ne (ne_of_none hd hq'), upd_ne (ne_of_none hd hdx')]
          exact hd
        · exact ne_of_none (s03 b o e) hq'
end
end Kx

set_option maxHeartbeats 8000000
namespace Kx
open PySem L2
/-! questions -/
def noSeats : List Str := ["first", "second", "nobody"]
def seatV (x : V) : Bool := match x with
  | .str z => isLab z && !decide (z ∈ noSeats)
  | _ => false
theorem seatV_lab {x : V} (h : seatV x = true) : labV x = true := by
  cases x with
  | str z =>
    have h : (isLab z && !decide (z ∈ noSeats)) = true := h
    rw [Bool.and_eq_true] at h
    exact h.1
  | _ => cases h
/-- the names that are no seats -/
def Ns7 (K : PySem.W.Frag) (mg : Str → Option Value) : Prop := ∃ a, mg "NO_SEATS" = some (.ref a) ∧ ∀ H : Hp, SqT K H a (noSeats.map V.str)
def spSeatName : Sp := fun vs H Q _ => ∃ (x : V) (n : String), vs = [x] ∧ Thing H x n ∧ Q (.bl (seatV x)) H
/-- what is known of a question's class with these attributes -/
structure QC (K : PySem.W.Frag) (C : Addr) (fs : List Str) : Prop where
  cl : Cls K C
  no : ∀ f ∈ fs, NoAttr K C f
  ca : PySem.W.findIn K (.ref C) "__class__" = some (some (.builtin "object.__class__"))
  cg : PySem.W.specialIn K (.builtin "object.__class__") "__get__" = some (some (.builtin "getset_descriptor.__get__"))
  ct : PySem.W.takesIn K (.builtin "object.__class__") = some true
  cm : PySem.W.mroIn K C (.type "object") = some true
theorem QC.ty {K : PySem.W.Frag} {C : Addr} {gs : List Str} (k : QC K C gs) {H : Hp} {a dx : Addr} {fs : List (Str × V)} (h : H a = some (.ins C dx fs)) : TyX K H (.ref a) (.ref C) := .base (.ins h k.cl k.ca k.cg k.ct k.cm)
def spQ1 (C CB : Addr) : Sp := fun vs H Q E => ∃ (p dx : Addr) (x : V) (n : String), vs = [.ref p, x] ∧ H p = some (.ins C dx []) ∧ Thing H x n ∧
  (if seatV x = true then ∀ H', Keep H H' p → H' p = some (.ins C dx (putF "seat" x [])) → Q .non H' else ∀ d H', H d = none → Keep H H' p → H' d = some (.xd (whatF "seat")) → E (.ref CB) (some d) H')
/-- together: two seats that aren't the same -/
def togV (x y : V) : Bool := seatV x && (seatV y && !decide (x = y))
def spQ2 (C CB : Addr) : Sp := fun vs H Q E => ∃ (p dx : Addr) (x y : V) (n m : String), vs = [.ref p, x, y] ∧ H p = some (.ins C dx []) ∧ Thing H x n ∧ Thing H y m ∧
  (if togV x y = true then ∀ H', Keep H H' p → H' p = some (.ins C dx (putF "other" y (putF "seat" x []))) → Q .non H' else ∀ d H', H d = none → Keep H H' p → H' d = some (.xd (whatF "seat")) → E (.ref CB) (some d) H')
def rchWord (x y : V) : Option Str := if labV x then (if wholeV y 1 40 then none else some "number") else some "clock"
def spQ3 (C CB : Addr) : Sp := fun vs H Q E => ∃ (p dx : Addr) (x y : V) (n m : String), vs = [.ref p, x, y] ∧ H p = some (.ins C dx []) ∧ Thing H x n ∧ Thing H y m ∧
  match rchWord x y with
  | none => ∀ H', Keep H H' p → H' p = some (.ins C dx (putF "number" y (putF "clock" x []))) → Q .non H'
  | some w => ∀ d H', H d = none → Keep H H' p → H' d = some (.xd (whatF w)) → E (.ref CB) (some d) H'
section
variable {P : Program} {w : World} {K : PySem.W.Frag} {mg : Str → Option Value} {base : Heap}
theorem scIsSeatName : FnScope ["thing"] ["thing"] (defScope sIsSeatName) := ⟨rfl, rfl, rfl, by decide +kernel, rfl, by decide +kernel, by decide +kernel⟩
theorem ok_seatname {f : Addr} {fd : FuncData} (F : Fun K "is_seat_name" "is_seat_name" sIsSeatName f fd) (m : mg "is_seat_name" = some (.ref f)) (N : Ns7 K mg) (Lb : HasF P w K mg base "is_label" 1 ["thing"] spLabel) : HasF P w K mg base "is_seat_name" 2 ["thing"] spSeatName := by
  refine ⟨f, fd, ?_, m, F.kp, F.binds fun _ _ _ _ _ _ us hl => match us, hl with | [_], _ => rfl⟩
  obtain ⟨f1, fd1, Lb⟩ := Lb
  obtain ⟨na, mN, hN⟩ := N
  refine F.ok scIsSeatName (fun vs H Q E h => ?_) (fun cdv A outer s H vs Q E hr h => ?_)
  · obtain ⟨a, b, rfl, _⟩ := h
    rfl
  · obtain ⟨x, n, rfl, tx, k⟩ := h
    refine ⟨_, pss_one (ps_ret (pe_and (pe_call Lb.G hr (by rfl) Lb.m Lb.kp Lb.b .nil pass0 (pa_cons (pv 0) pa_nil)) (pe_one (pe_cmpR op_notIn_seq (pv 0) (pe_glob (v := .ref na) rfl mN rfl) (by rfl))))), ?_⟩
    refine ⟨_, rfl, x, n, rfl, tx.kd, (fun z e => Nat.le_of_lt (small1000 (by have := (tx.fine z e).2; omega))), _, rfl, ?_⟩
    cases e : labV x with
    | false =>
      have e2 : seatV x = false := by
        cases q : seatV x with
        | false => rfl
        | true => rw [seatV_lab q] at e; cases e
      rw [e2] at k
      exact iteF k
    | true =>
      obtain ⟨z, rfl, hz⟩ := lab_str e
      refine iteT ⟨_, rfl, na, noSeats.map V.str, rfl, .inr (hN H), rfl, by decide, ?_⟩
      have e2 : seatV (.str z) = !inV (.str z) (noSeats.map V.str) := by
        show (isLab z && !decide (z ∈ noSeats)) = _
        rw [hz, inV_strs]
        rfl
      rw [e2] at k
      exact k
theorem scWho : FnScope ["self", "seat"] ["self", "seat"] (defScope sWho_init) := ⟨rfl, rfl, rfl, by decide +kernel, rfl, by decide +kernel, by decide +kernel⟩
theorem ok_who {f C CB fB : Addr} {fd fdB : FuncData} (F : Fun K "__init__" "Who.__init__" sWho_init f fd) (QX : QC K C ["seat"]) (Sn : HasF P w K mg base "is_seat_name" 2 ["thing"] spSeatName) (EB : ErC P w K mg base "BadQuestion" ["self", "what"] CB fB fdB (spInit1 K CB "what")) (n1 : PySem.W.findIn K (.ref CB) "what" = some none) :
    FnOk P w K mg base (L2.CX P w) 3 f fd ["self", "seat"] (spQ1 C CB) := by
  obtain ⟨f1, fd1, Sn⟩ := Sn
  refine F.okX scWho (fun vs H Q E h => ?_) (fun cdv A outer s H vs Q E hr h => ?_)
  · obtain ⟨a, b, c, d, rfl, _⟩ := h
    rfl
  · obtain ⟨p, dx, x, n, rfl, hp, tx, k⟩ := h
    refine ⟨_, (pss_cons (ps_if (pt_not (pt_val (pe_call Sn.G hr (by rfl) Sn.m Sn.kp Sn.b .nil pass0 (pa_cons (pv 1) pa_nil)))) (pss_one (ps_raise rfl (takes_of rfl rfl rfl rfl) (pmk_oex EB.T EB.iC EB.tI EB.G hr EB.b .nil pass0 (by rfl) EB.gC (pa_cons pe_str pa_nil)))) pss_nil)
    (pss_one (ps_fld (pv 0) (pv 1) rfl))), ?_⟩
    refine ⟨_, rfl, x, n, rfl, tx, _, rfl, ?_⟩
    cases e : seatV x with
    | false =>
      rw [e, if_neg Bool.false_ne_true] at k
      exact iteT (fin1 EB.T n1 fun d H2 hd s2 e2 => k d H2 hd (Same.keep s2) e2)
    | true =>
      rw [e, if_pos rfl] at k
      refine iteF ⟨_, rfl, _, rfl, p, C, dx, [], rfl, hp, QX.cl, QX.no _ (.head _), (by show 0 < 1000; decide), ?_⟩
      exact k _ (Keep.upd Keep.refl) upd_same
theorem scFilled : FnScope ["self", "seat"] ["self", "seat"] (defScope sFilled_init) := ⟨rfl, rfl, rfl, by decide +kernel, rfl, by decide +kernel, by decide +kernel⟩
theorem ok_filled {f C CB fB : Addr} {fd fdB : FuncData} (F : Fun K "__init__" "Filled.__init__" sFilled_init f fd) (QX : QC K C ["seat"]) (Sn : HasF P w K mg base "is_seat_name" 2 ["thing"] spSeatName) (EB : ErC P w K mg base "BadQuestion" ["self", "what"] CB fB fdB (spInit1 K CB "what")) (n1 : PySem.W.findIn K (.ref CB) "what" = some none) :
    FnOk P w K mg base (L2.CX P w) 3 f fd ["self", "seat"] (spQ1 C CB) := by
  obtain ⟨f1, fd1, Sn⟩ := Sn
  refine F.okX scFilled (fun vs H Q E h => ?_) (fun cdv A outer s H vs Q E hr h => ?_)
  · obtain ⟨a, b, c, d, rfl, _⟩ := h
    rfl
  · obtain ⟨p, dx, x, n, rfl, hp, tx, k⟩ := h
    refine ⟨_, (pss_cons (ps_if (pt_not (pt_val (pe_call Sn.G hr (by rfl) Sn.m Sn.kp Sn.b .nil pass0 (pa_cons (pv 1) pa_nil)))) (pss_one (ps_raise rfl (takes_of rfl rfl rfl rfl) (pmk_oex EB.T EB.iC EB.tI EB.G hr EB.b .nil pass0 (by rfl) EB.gC (pa_cons pe_str pa_nil)))) pss_nil)
    (pss_one (ps_fld (pv 0) (pv 1) rfl))), ?_⟩
    refine ⟨_, rfl, x, n, rfl, tx, _, rfl, ?_⟩
    cases e : seatV x with
    | false =>
      rw [e, if_neg Bool.false_ne_true] at k
      exact iteT (fin1 EB.T n1 fun d H2 hd s2 e2 => k d H2 hd (Same.keep s2) e2)
    | true =>
      rw [e, if_pos rfl] at k
      refine iteF ⟨_, rfl, _, rfl, p, C, dx, [], rfl, hp, QX.cl, QX.no _ (.head _), (by show 0 < 1000; decide), ?_⟩
      exact k _ (Keep.upd Keep.refl) upd_same
theorem scTog : FnScope ["self", "seat", "other"] ["self", "seat", "other"] (defScope sTogether_init) := ⟨rfl, rfl, rfl, by decide +kernel, rfl, by decide +kernel, by decide +kernel⟩
theorem ok_tog {f C CB fB : Addr} {fd fdB : FuncData} (F : Fun K "__init__" "Together.__init__" sTogether_init f fd) (QX : QC K C ["seat", "other"]) (Sn : HasF P w K mg base "is_seat_name" 2 ["thing"] spSeatName) (EB : ErC P w K mg base "BadQuestion" ["self", "what"] CB fB fdB (spInit1 K CB "what")) (n1 : PySem.W.findIn K (.ref CB) "what" = some none) :
    FnOk P w K mg base (L2.CX P w) 3 f fd ["self", "seat", "other"] (spQ2 C CB) := by
  obtain ⟨f1, fd1, Sn⟩ := Sn
  refine F.okX scTog (fun vs H Q E h => ?_) (fun cdv A outer s H vs Q E hr h => ?_)
  · obtain ⟨a, b, c, d, e, g, rfl, _⟩ := h
    rfl
  · obtain ⟨p, dx, x, y, n, m, rfl, hp, tx, ty, k⟩ := h
    refine ⟨_, (C8.pss_cut (ps_if (PW.pt (pw_or (pt_not (pt_val (pe_call Sn.G hr (by rfl) Sn.m Sn.kp Sn.b .nil pass0 (pa_cons (pv 1) pa_nil)))) (pw_or (pt_not (pt_val (pe_call Sn.G hr (by rfl) Sn.m Sn.kp Sn.b .nil pass0 (pa_cons (pv 2) pa_nil)))) (pw_or1 (pt_cmpR op_eq (pv 1) (pv 2) (nomark _)))))) (pss_one (ps_raise rfl (takes_of rfl rfl rfl rfl) (pmk_oex EB.T EB.iC EB.tI EB.G hr EB.b .nil pass0 (by rfl) EB.gC (pa_cons pe_str pa_nil)))) pss_nil)
    (pss_cons (ps_fld (pv 0) (pv 1) rfl)
    (pss_one (ps_fld (pv 0) (pv 2) rfl)))), ?_⟩
    have bad : togV x y = false → ∀ d H', H d = none → Same H H' → H' d = some (.xd (whatF "seat")) → E (.ref CB) (some d) H' := fun e d H' hd s e2 => by
      rw [e, if_neg Bool.false_ne_true] at k
      exact k d H' hd (Same.keep s) e2
    refine ⟨fun σ H1 => togV x y = true ∧ σ = [some (.ref p), some x, some y] ∧ H1 = H, ?_, ?_⟩
    · refine ⟨_, rfl, x, n, rfl, tx, _, rfl, ?_⟩
      cases e1 : seatV x with
      | false => exact iteT (fin1 EB.T n1 fun d H2 hd s2 e2 => bad (by unfold togV; rw [e1]; rfl) d H2 hd s2 e2)
      | true =>
        refine iteF ⟨_, rfl, y, m, rfl, ty, _, rfl, ?_⟩
        cases e2 : seatV y with
        | false => exact iteT (fin1 EB.T n1 fun d H2 hd s2 e3 => bad (by unfold togV; rw [e1, e2]; rfl) d H2 hd s2 e3)
        | true =>
          obtain ⟨z, rfl, _⟩ := lab_str (seatV_lab e1)
          obtain ⟨u, rfl, _⟩ := lab_str (seatV_lab e2)
          refine iteF ⟨_, rfl, _, rfl, rfl, _, rfl, ?_⟩
          refine ite2 (fun h1 => ?_) (fun h1 => ?_)
          · have h1 : V.str z = V.str u := of_decide_eq_true h1
            exact fin1 EB.T n1 fun d H2 hd s2 e3 => bad (by unfold togV; rw [e1, e2, decide_eq_true h1]; rfl) d H2 hd s2 e3
          · have h1 : ¬ V.str z = V.str u := fun e => h1 (decide_eq_true e)
            exact ⟨by unfold togV; rw [e1, e2, decide_eq_false h1]; rfl, rfl, rfl⟩
    rintro σ H1 ⟨e, rfl, rfl⟩
    rw [if_pos e] at k
    refine ⟨_, rfl, _, rfl, p, C, dx, [], rfl, hp, QX.cl, QX.no _ (.head _), (by show 0 < 1000; decide), ?_⟩
    refine ⟨_, rfl, _, rfl, p, C, dx, _, rfl, upd_same, QX.cl, QX.no _ (.tail _ (.head _)), (by show 1 < 1000; decide), ?_⟩
    exact k _ (Keep.upd (Keep.upd Keep.refl)) upd_same
theorem scRch : FnScope ["self", "clock", "number"] ["self", "clock", "number"] (defScope sReached_init) := ⟨rfl, rfl, rfl, by decide +kernel, rfl, by decide +kernel, by decide +kernel⟩
theorem ok_rch {f C CB fB : Addr} {fd fdB : FuncData} (F : Fun K "__init__" "Reached.__init__" sReached_init f fd) (QX : QC K C ["clock", "number"]) (M : Sm7 mg) (Lb : HasF P w K mg base "is_label" 1 ["thing"] spLabel) (W : HasF P w K mg base "is_whole" 1 ["thing", "low", "high"] spWhole) (EB : ErC P w K mg base "BadQuestion" ["self", "what"] CB fB fdB (spInit1 K CB "what")) (n1 : PySem.W.findIn K (.ref CB) "what" = some none) :
    FnOk P w K mg base (L2.CX P w) 3 f fd ["self", "clock", "number"] (spQ3 C CB) := by
  obtain ⟨f1, fd1, Lb⟩ := Lb; obtain ⟨f2, fd2, W⟩ := W
  obtain ⟨t2, mA⟩ := M.number
  refine F.okX scRch (fun vs H Q E h => ?_) (fun cdv A outer s H vs Q E hr h => ?_)
  · obtain ⟨a, b, c, d, e, g, rfl, _⟩ := h
    rfl
  · obtain ⟨p, dx, x, y, n, m, rfl, hp, tx, ty, k⟩ := h
    have hr1 : Room 1 _ := hr.mono (by decide)
    refine ⟨_, (C8.pss_cut (ps_if (pt_not (pt_val (pe_call Lb.G hr1 (by rfl) Lb.m Lb.kp Lb.b .nil pass0 (pa_cons (pv 1) pa_nil)))) (pss_one (ps_raise rfl (takes_of rfl rfl rfl rfl) (pmk_oex EB.T EB.iC EB.tI EB.G hr EB.b .nil pass0 (by rfl) EB.gC (pa_cons pe_str pa_nil)))) pss_nil)
    (C8.pss_cut (ps_if (pt_not (pt_val (pe_call W.G hr1 (by rfl) W.m W.kp W.b .nil pass0 (pa_cons (pv 2) (pa_cons pe_int (pa_cons (pe_glob (v := .int 40) rfl mA ⟨_, rfl⟩) pa_nil)))))) (pss_one (ps_raise rfl (takes_of rfl rfl rfl rfl) (pmk_oex EB.T EB.iC EB.tI EB.G hr EB.b .nil pass0 (by rfl) EB.gC (pa_cons pe_str pa_nil)))) pss_nil)
    (pss_cons (ps_fld (pv 0) (pv 1) rfl)
    (pss_one (ps_fld (pv 0) (pv 2) rfl))))), ?_⟩
    have bad : ∀ w', rchWord x y = some w' → ∀ d H', H d = none → Same H H' → H' d = some (.xd (whatF w')) → E (.ref CB) (some d) H' := fun w' e d H' hd s e2 => by
      rw [e] at k
      exact k d H' hd (Same.keep s) e2
    refine ⟨fun σ H1 => labV x = true ∧ σ = [some (.ref p), some x, some y] ∧ H1 = H, ?_, ?_⟩
    · refine ⟨_, rfl, x, n, rfl, tx.kd, (fun z e => Nat.le_of_lt (small1000 (by have := (tx.fine z e).2; omega))), _, rfl, ?_⟩
      cases e1 : labV x with
      | false => exact iteT (fin1 EB.T n1 fun d H2 hd s2 e2 => bad _ (by unfold rchWord; rw [e1]; rfl) d H2 hd s2 e2)
      | true => exact iteF ⟨rfl, rfl, rfl⟩
    rintro σ H1 ⟨e1, rfl, rfl⟩
    refine ⟨fun σ H2 => wholeV y 1 40 = true ∧ σ = [some (.ref p), some x, some y] ∧ H2 = H1, ?_, ?_⟩
    · refine ⟨_, rfl, y, m, 1, 40, rfl, ty.kd, _, rfl, ?_⟩
      cases e2 : wholeV y 1 40 with
      | false => exact iteT (fin1 EB.T n1 fun d H2 hd s2 e3 => bad _ (by unfold rchWord; rw [e1, e2]; rfl) d H2 hd s2 e3)
      | true => exact iteF ⟨rfl, rfl, rfl⟩
    rintro σ H2 ⟨e2, rfl, rfl⟩
    rw [show rchWord x y = none by unfold rchWord; rw [e1, e2]; rfl] at k
    refine ⟨_, rfl, _, rfl, p, C, dx, [], rfl, hp, QX.cl, QX.no _ (.head _), (by show 0 < 1000; decide), ?_⟩
    refine ⟨_, rfl, _, rfl, p, C, dx, _, rfl, upd_same, QX.cl, QX.no _ (.tail _ (.head _)), (by show 1 < 1000; decide), ?_⟩
    exact k _ (Keep.upd (Keep.upd Keep.refl)) upd_same
end
end Kx

set_option maxHeartbeats 8000000
namespace Kx
open PySem L2
/-! words and labels that are drawn -/
theorem atI0 (x : V) (xs : List V) : atI (x :: xs) 0 = some x := by
  simp [atI, ixN]
theorem sub_len {α : Type} [DecidableEq α] : ∀ {l t : List α}, l.Nodup → (∀ x ∈ l, x ∈ t) → l.length ≤ t.length
  | [], _, _, _ => Nat.zero_le _
  | a :: l, t, nd, h => by
    have ha : a ∈ t := h a (.head _)
    rw [List.nodup_cons] at nd
    have ih := sub_len (l := l) (t := t.erase a) nd.2 fun x hx => (List.mem_erase_of_ne (fun e : x = a => nd.1 (by rw [← e]; exact hx))).mpr (h x (.tail _ hx))
    rw [List.length_erase_of_mem ha] at ih
    have := List.length_pos_of_mem ha
    rw [List.length_cons]
    omega
theorem flat_strs : ∀ ts : List Str, (ts.map V.str).all flatV = true
  | [] => rfl
  | t :: ts => by
    rw [List.map_cons, List.all_cons, flat_strs ts]
    rfl
theorem lab_of {z : Str} (l : Low z) (h1 : 1 ≤ z.length) (h6 : z.length ≤ 6) : isLab z = true := by
  unfold isLab
  rw [decide_eq_true h1, decide_eq_true h6]
  show z.cps.toList.all isLow = true
  refine List.all_eq_true.mpr fun c m => ?_
  have q := l c m
  unfold isLow
  rw [decide_eq_true q.1, decide_eq_true q.2]
  rfl
theorem lab_len {z : Str} (h : isLab z = true) : PyData.strOk z = true ∧ z.length ≤ 900 := ⟨lab_fine h, by have := (lab_low h).2; omega⟩
theorem nine_lab : ∀ c ∈ (Str.ofString "abcdefghi").cps.toList, isLab (SX.S [c]) = true := by decide +kernel
theorem nine_nd : ((Str.ofString "abcdefghi").cps.toList.map fun c => SX.S [c]).Nodup := by decide +kernel
def freeOf (ts : List Str) (l : List Nat) : List Nat := l.filter fun c => !decide (SX.S [c] ∈ ts)
theorem free_some {ts : List Str} (h : ts.length ≤ 8) : ∃ c cs, freeOf ts (Str.ofString "abcdefghi").cps.toList = c :: cs ∧ isLab (SX.S [c]) = true := by
  cases e : freeOf ts (Str.ofString "abcdefghi").cps.toList with
  | nil =>
    have all : ∀ z ∈ (Str.ofString "abcdefghi").cps.toList.map fun c => SX.S [c], z ∈ ts := fun z m => by
      obtain ⟨c, mc, rfl⟩ := List.mem_map.mp m
      have q := List.filter_eq_nil_iff.mp e c mc
      by_cases i : SX.S [c] ∈ ts
      · exact i
      · exact absurd (by rw [decide_eq_false i]; rfl) q
    have l := sub_len nine_nd all
    rw [List.length_map] at l
    have : (Str.ofString "abcdefghi").cps.toList.length = 9 := by decide +kernel
    omega
  | cons c cs =>
    have m : c ∈ freeOf ts (Str.ofString "abcdefghi").cps.toList := by rw [e]; exact .head _
    exact ⟨c, cs, rfl, nine_lab c (List.mem_filter.mp m).1⟩
def spLetters : Sp := fun vs H Q _ => ∃ (p q : Addr), vs = [.ref p] ∧ HandAt H p q ∧ ∀ z H', isLab z = true → HandAt H' p q → Keep H H' p → Q (.str z) H'
def spNew : Sp := fun vs H Q _ => ∃ (p q b : Addr) (ts : List Str), vs = [.ref p, .ref b] ∧ HandAt H p q ∧ H b = some (.lst (ts.map V.str)) ∧ b ≠ p ∧ ts.length ≤ 8 ∧ ∀ z H', isLab z = true → HandAt H' p q → Keep H H' p → Q (.str z) H'
/-- a new list of labels -/
def spLabels : Sp := fun vs H Q _ => ∃ (p q b : Addr) (m : Nat), vs = [.ref p, .int m, .ref b] ∧ HandAt H p q ∧ H b = some (.lst []) ∧ b ≠ p ∧ m ≤ 3 ∧ ∀ (r : Addr) (zs : List Str) H', nw H H' r = some (.lst (zs.map V.str)) → zs.length = m → (∀ z ∈ zs, isLab z = true) → HandAt H' p q → Keep H H' p → Q (.ref r) H'
def spPeople : Sp := fun vs H Q _ => ∃ (p q : Addr), vs = [.ref p] ∧ HandAt H p q ∧ ∀ (r : Addr) (zs : List Str) H', nw H H' r = some (.lst (zs.map V.str)) → zs.length = 3 → (∀ z ∈ zs, isLab z = true) → HandAt H' p q → Keep H H' p → Q (.ref r) H'
section
variable {P : Program} {w : World} {K : PySem.W.Frag} {mg : Str → Option Value} {base : Heap}
abbrev HDraw (P : Program) (w : World) (K : PySem.W.Frag) (mg : Str → Option Value) (base : Heap) : Prop := HasF P w K mg base "_law_draw" 2 ["_law_hand_here", "_law_many"] spDraw
theorem scLetters : FnScope ["_law_hand_here", "_law_word_here", "_law_k"] ["_law_hand_here"] (defScope sLLetters) := ⟨rfl, rfl, rfl, by decide +kernel, rfl, by decide +kernel, by decide +kernel⟩
theorem ok_letters {f : Addr} {fd : FuncData} (F : Fun K "_law_letters" "_law_letters" sLLetters f fd) (m : mg "_law_letters" = some (.ref f)) (T : Bl mg) (D : HDraw P w K mg base) : HasF P w K mg base "_law_letters" 3 ["_law_hand_here"] spLetters := by
  refine ⟨f, fd, ?_, m, F.kp, F.binds fun _ _ _ _ _ _ us hl => match us, hl with | [_], _ => rfl⟩
  obtain ⟨f1, fd1, D⟩ := D
  refine F.ok scLetters (fun vs H Q E h => ?_) (fun cdv A outer s H vs Q E hr h => ?_)
  · obtain ⟨a, b, rfl, _⟩ := h
    rfl
  · obtain ⟨p, q, rfl, hp, k⟩ := h
    refine ⟨_, pss_cons (ps_set (i := 1) scLetters.nd rfl (Or.inl rfl) pe_str)
      (pss_cons (ps_for PassesOwn.never rfl (pi_range1 (by rfl) T.range (pa_cons (pe_op op_add pe_int (pe_call D.G hr (by rfl) D.m D.kp D.b .nil pass0 (pa_cons (pv 0) (pa_cons pe_int pa_nil)))) pa_nil)) (pg_name (i := 2) scLetters.nd rfl (.inl rfl))
        (pss_one (ps_set (i := 1) scLetters.nd rfl (Or.inl rfl) (pe_op op_add_str (pv 1) (pe_ix ix_str pe_str (pe_call D.G hr (by rfl) D.m D.kp D.b .nil pass0 (pa_cons (pv 0) (pa_cons pe_int pa_nil))) (fun _ _ => rfl))))))
      (pss_one (ps_ret (pv 1)))), ?_⟩
    refine ⟨_, rfl, p, q, 6, rfl, hp, by decide, by decide, fun z H1 z0 z1 hp1 k1 => ?_⟩
    refine ⟨_, _, rfl, rfl, _, rfl, by omega, by omega, for_range (n := (1 + z).toNat) (fun i σ H2 => ∃ (t : Str) (x : Option V), σ = [some (.ref p), some (.str t), x] ∧ t.length = i ∧ Low t ∧ HandAt H2 p q ∧ Keep H H2 p)
      ⟨_, _, rfl, rfl, Low.nil, hp1, k1⟩ ?_ ?_⟩
    · rintro i σ H2 hi ⟨t, x, rfl, ht, lt, hp2, k2⟩
      refine ⟨_, rfl, _, rfl, p, q, 26, rfl, hp2, by decide, by decide, fun y H3 y0 y1 hp3 k3 => ?_⟩
      refine ⟨_, y, _, rfl, rfl, by decide, abc_ix y0 y1, _, _, rfl, rfl, ?_, ?_⟩
      · show t.length + 1 ≤ sizeLine
        exact small1000 (by omega)
      · exact ⟨_, _, rfl, by rw [len_app, ht]; rfl, lt.app (Low.one (by omega)), hp3, k2.trans k3⟩
    · rintro σ H2 ⟨t, x, rfl, ht, lt, hp2, k2⟩
      exact ⟨_, rfl, k t H2 (lab_of lt (by omega) (by omega)) hp2 k2⟩
abbrev nNew : List Str := ["_law_hand_here", "_law_taken", "_law_word_here", "_law_one_here"]
theorem scNew : FnScope nNew ["_law_hand_here", "_law_taken"] (defScope sLNew) := ⟨rfl, rfl, rfl, by decide +kernel, rfl, by decide +kernel, by decide +kernel⟩
theorem ok_new {f : Addr} {fd : FuncData} (F : Fun K "_law_new" "_law_new" sLNew f fd) (m : mg "_law_new" = some (.ref f)) (L : HasF P w K mg base "_law_letters" 3 ["_law_hand_here"] spLetters) : HasF P w K mg base "_law_new" 4 ["_law_hand_here", "_law_taken"] spNew := by
  refine ⟨f, fd, ?_, m, F.kp, F.binds fun _ _ _ _ _ _ us hl => match us, hl with | [_, _], _ => rfl⟩
  obtain ⟨f1, fd1, L⟩ := L
  refine F.ok scNew (fun vs H Q E h => ?_) (fun cdv A outer s H vs Q E hr h => ?_)
  · obtain ⟨a, b, c, d, rfl, _⟩ := h
    rfl
  · obtain ⟨p, q, b, ts, rfl, hp, hb, bp, tl, k⟩ := h
    refine ⟨_, (pss_cons (ps_set (i := 2) scNew.nd rfl (Or.inl rfl) (pe_call L.G hr (by rfl) L.m L.kp L.b .nil pass0 (pa_cons (pv 0) pa_nil)))
    (pss_cons (ps_if (pt_cmpR op_notIn_seq (pv 2) (pv 1) (by rfl)) (pss_one (ps_ret (pv 2))) pss_nil)
    (pss_one (ps_ret (pe_ix ix_list (pe_lc (own := [("_law_one_here", 3)]) (g := gName 3) (by rfl) scNew.nd (pi_str pe_str) (blkOk_by (own := [("_law_one_here", 3)]) (N := nNew) (sc := defScope sLNew) (by decide +kernel))
          (fun _ _ _ _ _ => pg_name (i := 3) scNew.nd rfl (Or.inl rfl)) (fun _ _ _ _ _ => pts_one (t := tTest (tOp (rIn K true) (tVar 3) (tVar 1))) (pt_cmpR (X := _) op_notIn_seq (pv 3) (pv 1) (by rfl))) (fun _ _ _ _ _ => pv 3)) pe_int (fun _ _ => rfl)))))), ?_⟩
    refine ⟨_, rfl, p, q, rfl, hp, fun z H1 hz hp1 k1 => ?_⟩
    have hb1 := k1 _ _ hb bp
    refine ⟨_, rfl, _, rfl, b, ts.map V.str, rfl, .inl (SqL.of hb1), rfl, flat_strs ts, _, rfl, ?_⟩
    refine ite2 (fun _ => ⟨_, rfl, k z H1 hz hp1 k1⟩) (fun _ => ?_)
    have tk : ∀ i c, (Str.ofString "abcdefghi").cps[i]? = some c → freeOf ts ((Str.ofString "abcdefghi").cps.toList.take (i + 1)) = freeOf ts ((Str.ofString "abcdefghi").cps.toList.take i) ++ (if SX.S [c] ∈ ts then [] else [c]) := fun i c hc => by
      unfold freeOf
      rw [List.take_add_one, Array.getElem?_toList, hc, List.filter_append]
      by_cases e : SX.S [c] ∈ ts <;> simp [e]
    have sz : (Str.ofString "abcdefghi").cps.toList.take (Str.ofString "abcdefghi").cps.size = (Str.ofString "abcdefghi").cps.toList := by rw [List.take_of_length_le (by simp)]
    refine ⟨_, rfl, fun D hD => lc_str (z := "abcdefghi") (fun i H3 => Same H1 H3 ∧ H3 D = some (.lst ((freeOf ts ((Str.ofString "abcdefghi").cps.toList.take i)).map cV))) ⟨sameUpd (Same.refl _) hD, upd_same⟩ ?_ ?_⟩
    · rintro i c H3 hc ⟨s3, hd⟩
      have t := tk i c hc
      refine ⟨rfl, _, rfl, _, rfl, b, ts.map V.str, rfl, .inl (SqL.of (s3 _ _ hb1)), rfl, flat_strs ts, _, rfl, ?_⟩
      show (if (!inV (.str (SX.S [c])) (ts.map V.str)) = true then _ else _)
      rw [inV_strs]
      by_cases e : SX.S [c] ∈ ts
      · rw [decide_eq_true e]
        rw [if_pos e] at t
        refine (if_neg (by decide)).mpr ⟨s3, ?_⟩
        rw [t, List.append_nil]
        exact hd
      · rw [decide_eq_false e]
        rw [if_neg e] at t
        refine (if_pos rfl).mpr ⟨_, rfl, _, hd, line2 ?_, ?_, ?_⟩
        · rw [List.length_map]
          have l1 : (freeOf ts ((Str.ofString "abcdefghi").cps.toList.take i)).length ≤ ((Str.ofString "abcdefghi").cps.toList.take i).length := List.length_filter_le _ _
          rw [List.length_take] at l1
          have : (Str.ofString "abcdefghi").cps.toList.length = 9 := by decide +kernel
          omega
        · intro b u e
          rw [upd_ne (ne_of_none e hD)]
          exact s3 b u e
        · rw [upd_same, t, List.map_append]
          rfl
    · rintro H3 ⟨s3, hd⟩
      have hd : H3 D = some (.lst ((freeOf ts ((Str.ofString "abcdefghi").cps.toList.take (Str.ofString "abcdefghi").cps.size)).map cV)) := hd
      rw [sz] at hd
      obtain ⟨c, cs, e, hc⟩ := free_some tl
      rw [e] at hd
      refine ⟨_, _, _, _, rfl, rfl, SqL.of hd, atI0 _ _, ?_⟩
      exact k _ H3 hc (hp1.same s3) (k1.trans (Same.keep s3))
abbrev nLabels : List Str := ["_law_hand_here", "_law_many", "_law_barred", "_law_row", "_law_k"]
theorem scLabels : FnScope nLabels ["_law_hand_here", "_law_many", "_law_barred"] (defScope sLLabels) := ⟨rfl, rfl, rfl, by decide +kernel, rfl, by decide +kernel, by decide +kernel⟩
theorem ok_labels {f : Addr} {fd : FuncData} (F : Fun K "_law_labels" "_law_labels" sLLabels f fd) (m : mg "_law_labels" = some (.ref f)) (T : Bl mg) (N : HasF P w K mg base "_law_new" 4 ["_law_hand_here", "_law_taken"] spNew) : HasF P w K mg base "_law_labels" 5 ["_law_hand_here", "_law_many", "_law_barred"] spLabels := by
  refine ⟨f, fd, ?_, m, F.kp, F.binds fun _ _ _ _ _ _ us hl => match us, hl with | [_, _, _], _ => rfl⟩
  obtain ⟨f1, fd1, N⟩ := N
  refine F.ok scLabels (fun vs H Q E h => ?_) (fun cdv A outer s H vs Q E hr h => ?_)
  · obtain ⟨a, b, c, d, rfl, _⟩ := h
    rfl
  · obtain ⟨p, q, b, m, rfl, hp, hb, bp, ml, k⟩ := h
    refine ⟨_, (pss_cons (ps_set (i := 3) scLabels.nd rfl (Or.inl rfl) (pe_lst pa_nil))
    (pss_cons (ps_for PassesOwn.never rfl (pi_range1 (by rfl) T.range (pa_cons (pv 1) pa_nil)) (pg_name (i := 4) scLabels.nd rfl (.inl rfl))
        (pss_one (ps_expr (pe_bm PySem.F.plainAttrs_list PySem.F.slot_list_append PySem.F.type_list_append mt_append (pv 3) (pa_cons (pe_call N.G hr (by rfl) N.m N.kp N.b .nil pass0 (pa_cons (pv 0) (pa_cons (pe_op op_cat (pv 2) (pv 3)) pa_nil))) pa_nil)))))
    (pss_one (ps_ret (pv 3))))), ?_⟩
    refine ⟨Nat.zero_le _, fun r hr' => ?_⟩
    have fr0 : Fr r p q [] H H (upd H r (.lst [])) := ⟨upd_same, hp.ap hr', hp.upd (hp.ap hr') (hp.aq hr'), keepUpd Keep.refl hr', hid_keep (keepUpd Keep.refl hr'), hr', hp.aq hr'⟩
    refine ⟨_, rfl, _, rfl, by omega, by omega, for_range (n := (m : Int).toNat) (fun i σ H2 => ∃ (ys : List Str) (v : Option V), σ = [some (.ref p), some (.int m), some (.ref b), some (.ref r), v] ∧ ys.length = i ∧ (∀ y ∈ ys, isLab y = true) ∧ Fr r p q (ys.map V.str) H H H2)
      ⟨[], none, rfl, rfl, (fun y hy => nomatch hy), fr0⟩ ?_ ?_⟩
    · rintro i σ H2 hi ⟨ys, v, rfl, yl, fy, fr2⟩
      refine ⟨_, rfl, .inl ⟨rfl, _, SqL.of fr2.hb⟩, _, rfl, _, rfl, _, rfl, b, r, _, _, rfl, rfl, fr2.kp _ _ hb bp, fr2.hb, ?_, fun c hc => ?_⟩
      · exact Nat.le_of_lt (line2 (by simp; omega))
      obtain ⟨fr3, at3, _⟩ := fr2.new (o := .lst ([] ++ ys.map V.str)) hc
      refine ⟨p, q, c, ys, rfl, fr3.hp, upd_same, fr2.hp.ap hc, by omega, fun z H3 hz hp3 k3 => ?_⟩
      obtain ⟨fr4, _⟩ := fr3.draw k3 hp3
      refine ⟨r, _, _, rfl, rfl, fr4.hb, line2 (by simp; omega), ys ++ [z], _, rfl, by simp [yl], (fun t ht => (List.mem_append.mp ht).elim (fy t) fun e => by rw [List.mem_singleton.mp e]; exact hz), ?_⟩
      exact ⟨by rw [upd_same, List.map_append]; rfl, fr4.bp, fr4.hp.upd fr4.bp fr4.bq, keepUpd fr4.kp hr', fr4.sm.trans hid_b, fr4.b0, fr4.bq⟩
    · rintro σ H2 ⟨ys, v, rfl, yl, fy, fr2⟩
      exact ⟨_, rfl, k r ys H2 (nw_at fr2.b0 fr2.hb) (by omega) fy fr2.hp fr2.kp⟩
theorem scPeople : FnScope ["_law_hand_here"] ["_law_hand_here"] (defScope sLPeople) := ⟨rfl, rfl, rfl, by decide +kernel, rfl, by decide +kernel, by decide +kernel⟩
theorem ok_people {f : Addr} {fd : FuncData} (F : Fun K "_law_people" "_law_people" sLPeople f fd) (m : mg "_law_people" = some (.ref f)) (T : Bl mg) (D : HDraw P w K mg base) (L : HasF P w K mg base "_law_labels" 5 ["_law_hand_here", "_law_many", "_law_barred"] spLabels) : HasF P w K mg base "_law_people" 6 ["_law_hand_here"] spPeople := by
  refine ⟨f, fd, ?_, m, F.kp, F.binds fun _ _ _ _ _ _ us hl => match us, hl with | [_], _ => rfl⟩
  obtain ⟨f1, fd1, D⟩ := D; obtain ⟨f2, fd2, L⟩ := L
  refine F.ok scPeople (fun vs H Q E h => ?_) (fun cdv A outer s H vs Q E hr h => ?_)
  · obtain ⟨a, b, rfl, _⟩ := h
    rfl
  · obtain ⟨p, q, rfl, hp, k⟩ := h
    have hr2 : Room 2 _ := hr.mono (by decide)
    refine ⟨_, pss_one (ps_ret (pe_ifExp (pt_cmpR op_eq (pe_call D.G hr2 (by rfl) D.m D.kp D.b .nil pass0 (pa_cons (pv 0) (pa_cons pe_int pa_nil))) pe_int (nomark _)) (pe_lst (pa_cons pe_str (pa_cons pe_str (pa_cons pe_str pa_nil)))) (pe_call L.G hr (by rfl) L.m L.kp L.b .nil pass0 (pa_cons (pv 0) (pa_cons pe_int (pa_cons (pe_lst pa_nil) pa_nil)))))), ?_⟩
    refine ⟨_, rfl, p, q, 2, rfl, hp, by decide, by decide, fun z H1 z0 z1 hp1 k1 => ?_⟩
    refine ⟨rfl, _, rfl, ?_⟩
    refine ite2 (fun _ => ?_) (fun _ => ?_)
    · refine ⟨(by show 3 ≤ sizeLine; decide), fun r hr' => ?_⟩
      have r0 : H r = none := by
        cases e : H r with
        | none => rfl
        | some u => exact absurd hr' (by rw [k1 r u e (hp1.ap hr')]; exact fun z => nomatch z)
      refine k r ["ann", "bob", "cy"] _ (nw_at r0 upd_same) rfl (fun z m => ?_) (hp1.upd (hp1.ap hr') (hp1.aq hr')) (keepUpd k1 r0)
      simp only [List.mem_cons, List.not_mem_nil, or_false] at m
      rcases m with e | e | e <;> subst e <;> decide +kernel
    · refine ⟨_, rfl, Nat.zero_le _, fun b hb => ?_⟩
      have kb : Keep H1 (upd H1 b (.lst [])) p := keepUpd Keep.refl hb
      refine ⟨p, q, b, 3, rfl, hp1.upd (hp1.ap hb) (hp1.aq hb), upd_same, hp1.ap hb, by decide, fun r zs H2 hr' l3 fz hp2 k2 => ?_⟩
      obtain ⟨e0, e1⟩ := nw_get hr'
      have r1 : H1 r = none := by
        by_cases h : r = b
        · rw [h]; exact hb
        · rw [upd_ne h] at e0; exact e0
      have r0 : H r = none := by
        cases e : H r with
        | none => rfl
        | some u => exact absurd r1 (by rw [k1 r u e (hp1.ap r1)]; exact fun z => nomatch z)
      exact k r zs H2 (nw_at r0 e1) l3 fz hp2 (k1.trans (kb.trans k2))
end
end Kx

set_option maxHeartbeats 8000000
namespace Kx
open PySem L2
def intV (x : V) : Bool := match x with
  | .int _ => true
  | _ => false
def spLWhole : Sp := fun vs H Q _ => ∃ (x : V) (n : String), vs = [x] ∧ Kd H x n ∧ Q (.bl (intV x)) H
def spIsStand (C : Addr) : Sp := fun vs H Q _ => ∃ (p a : Addr) (r : Str) (ss : List (Option Str)) (cs : List (Int × Bool)), vs = [.ref p, .ref a] ∧ StandAt C H p r ss cs ∧ CodeAt H a r ss cs ∧ ∀ H', Same H H' → Q (.bl true) H'
theorem atI1 (x y : V) (xs : List V) : atI (x :: y :: xs) 1 = some y := by
  simp [atI, ixN]
  rw [if_pos (by omega)]
  rfl
theorem atI2 (x y z : V) (xs : List V) : atI (x :: y :: z :: xs) 2 = some z := by
  simp [atI, ixN]
  rw [if_pos (by omega)]
  rfl
section
variable {P : Program} {w : World} {K : PySem.W.Frag} {mg : Str → Option Value} {base : Heap}
theorem scLWhole : FnScope ["_law_thing"] ["_law_thing"] (defScope sLWhole) := ⟨rfl, rfl, rfl, by decide +kernel, rfl, by decide +kernel, by decide +kernel⟩
theorem ok_lwhole {f : Addr} {fd : FuncData} (F : Fun K "_law_whole" "_law_whole" sLWhole f fd) (m : mg "_law_whole" = some (.ref f)) (T : Bl mg) (B : Bm mg) : HasF P w K mg base "_law_whole" 1 ["_law_thing"] spLWhole := by
  refine ⟨f, fd, ?_, m, F.kp, F.binds fun _ _ _ _ _ _ us hl => match us, hl with | [_], _ => rfl⟩
  refine F.ok scLWhole (fun vs H Q E h => ?_) (fun cdv A outer s H vs Q E hr h => ?_)
  · obtain ⟨a, b, rfl, _⟩ := h
    rfl
  · obtain ⟨x, n, rfl, hk, k⟩ := h
    refine ⟨_, pss_one (ps_ret (pe_and (pe_callB call_isi (by rfl) B.isinstance (by decide +kernel) (pa_cons (pv 0) (pa_cons (pe_bltn (v := .ty "int") (by rfl) T.int (by decide +kernel) rfl) pa_nil))) (pe_one (pe_not (pe_callB call_isi (by rfl) B.isinstance (by decide +kernel) (pa_cons (pv 0) (pa_cons (pe_bltn (v := .ty "bool") (by rfl) B.bool (by decide +kernel) rfl) pa_nil))))))), ?_⟩
    refine ⟨_, rfl, x, _, _, _, _, rfl, .ty _, hk.ty, kit_ty (kit_int hk.kits), _, rfl, ?_⟩
    cases hk with
    | int i => exact iteT ⟨_, rfl, .int i, _, _, _, _, rfl, .ty _, (Kd.int (H := H) i).ty, kit_ty (kit_bool (Kd.int (H := H) i).kits), _, rfl, k⟩
    | bl b => exact iteT ⟨_, rfl, .bl b, _, _, _, _, rfl, .ty _, (Kd.bl (H := H) b).ty, kit_ty (kit_bool (Kd.bl (H := H) b).kits), _, rfl, k⟩
    | non => exact iteF k
    | str z => exact iteF k
    | lst a xs h => exact iteF k
    | tup a xs h => exact iteF k
    | dct a xs h => exact iteF k
abbrev nIsStand : List Str := ["_law_told", "_law_stand", "_law_number", "_law_running"]
theorem scIsStand : FnScope nIsStand ["_law_told", "_law_stand"] (defScope sLIsStand) := ⟨rfl, rfl, rfl, by decide +kernel, rfl, by decide +kernel, by decide +kernel⟩
theorem ok_isstand {f C pC gC : Addr} {fd fdC : FuncData} (F : Fun K "_law_is_stand" "_law_is_stand" sLIsStand f fd) (m : mg "_law_is_stand" = some (.ref f)) (T : Bl mg) (B : Bm mg) (SX : SC K C) (mS : mg "Stand" = some (.ref C)) (PC : PropOf K C "code" pC gC) (GC : FnOk P w K mg base CX0 1 gC fdC ["self"] (spCode C)) (bC : Binds K fdC ["self"] []) (W : HasF P w K mg base "_law_whole" 1 ["_law_thing"] spLWhole) : HasF P w K mg base "_law_is_stand" 4 ["_law_told", "_law_stand"] (spIsStand C) := by
  refine ⟨f, fd, ?_, m, F.kp, F.binds fun _ _ _ _ _ _ us hl => match us, hl with | [_, _], _ => rfl⟩
  obtain ⟨f1, fd1, W⟩ := W
  refine F.ok scIsStand (fun vs H Q E h => ?_) (fun cdv A outer s H vs Q E hr h => ?_)
  · obtain ⟨a, b, c, d, e, rfl, _⟩ := h
    rfl
  · obtain ⟨p, a, r, ss, cs, rfl, hp, hc, k⟩ := h
    have hr2 : Room 2 _ := hr.mono (by decide)
    have hr1 : Room 1 _ := hr.mono (by decide)
    refine ⟨_, (C8.pss_cut (ps_if (PW.pt (pw_or (pt_not (pt_val (pe_callB call_isi (by rfl) B.isinstance (by decide +kernel) (pa_cons (pv 0) (pa_cons (pe_glob (v := .ref C) rfl mS rfl) pa_nil))))) (pw_or (pt_cmpR (op_neD hr.units) (pe_prop (pv 0) SX.cl PC GC hr2 bC .nil pass0 (by rfl)) (pv 1) (nomark _)) (pw_or (pt_cmpR op_ne (pe_fld (pv 0) rfl) (pe_ix ix_seq (pv 1) pe_int (fun _ _ => rfl)) (nomark _)) (pw_or1 (pt_cmpR (op_neD hr.units) (pe_fld (pv 0) rfl) (pe_ix ix_seq (pv 1) pe_int (fun _ _ => rfl)) (nomark _))))))) (pss_one ps_never) pss_nil)
    (C8.pss_cut (ps_if (PW.pt (pw_or (pt_not (pt_val (pe_callB call_isi (by rfl) B.isinstance (by decide +kernel) (pa_cons (pe_fld (pv 0) rfl) (pa_cons (pe_bltn (v := .ty "tuple") (by rfl) B.tuple (by decide +kernel) rfl) pa_nil))))) (pw_or (pt_not (pt_val (pe_callB call_isi (by rfl) B.isinstance (by decide +kernel) (pa_cons (pe_fld (pv 0) rfl) (pa_cons (pe_bltn (v := .ty "tuple") (by rfl) B.tuple (by decide +kernel) rfl) pa_nil))))) (pw_or1 (pt_cmpR (op_neD hr.units) (pe_fld (pv 0) rfl) (pe_ix ix_seq (pv 1) pe_int (fun _ _ => rfl)) (nomark _)))))) (pss_one ps_never) pss_nil)
    (pss_cons (ps_for PassesOwn.never rfl (pi_tup (pe_fld (pv 0) rfl)) (pg_tup rfl (pgs_cons (pg_name (i := 2) scIsStand.nd rfl (.inl rfl)) (pgs_cons (pg_name (i := 3) scIsStand.nd rfl (.inl rfl)) pgs_nil)))
        (pss_one (ps_if (PW.pt (pw_or (pt_not (pt_val (pe_call W.G hr1 (by rfl) W.m W.kp W.b .nil pass0 (pa_cons (pv 2) pa_nil)))) (pw_or1 (pt_not (pt_val (pe_callB call_isi (by rfl) B.isinstance (by decide +kernel) (pa_cons (pv 3) (pa_cons (pe_bltn (v := .ty "bool") (by rfl) B.bool (by decide +kernel) rfl) pa_nil)))))))) (pss_one ps_never) pss_nil)))
    (pss_one (ps_ret pe_bl))))), ?_⟩
    obtain ⟨dx, sa, ca, xs, h1, h2, h3, h4⟩ := hp.ob
    obtain ⟨sa', ca', xs', g1, g2, g3, g4⟩ := hc.ob
    have g := hp.good
    refine ⟨fun σ H1 => σ = [some (.ref p), some (.ref a), none, none] ∧ Same H H1, ?_, ?_⟩
    · refine ⟨_, rfl, _, _, _, _, _, rfl, .own C, hp.ty SX, kit_self, _, rfl, iteF ?_⟩
      refine ⟨_, rfl, p, dx, _, rfl, h1, p, r, ss, cs, rfl, hp, fun q H1 s1 c1 => ?_⟩
      have a1 := s1 _ _ g1
      have ix : ∀ {H' : Hp} {i : Int} {v : V} {Q' : V → Hp → Prop}, H' a = some (.tup [.str r, .ref sa', .ref ca']) → atI [V.str r, V.ref sa', V.ref ca'] i = some v → Q' v H' → rIx K (.ref a) (.int i) H' Q' := fun h e q => .inr (.inl ⟨_, _, _, _, rfl, rfl, SqT.of h, e, q⟩)
      refine ⟨_, rfl, codeD r ss cs, codeD r ss cs, c1.dp, (hc.keep s1).dp, shaped_code g, shaped_code g, _, rfl, ?_⟩
      rw [eqv_code, decide_eq_true ⟨rfl, rfl, rfl⟩]
      refine iteF ⟨_, rfl, p, C, dx, _, _, rfl, s1 _ _ h1, SX.cl, SX.nR, sFs_r _ _ _, _, rfl, ix a1 (atI0 _ _) ?_⟩
      refine ⟨rfl, _, rfl, ?_⟩
      rw [decide_eq_true rfl]
      refine iteF ⟨_, rfl, p, C, dx, _, _, rfl, s1 _ _ h1, SX.cl, SX.nS, sFs_s _ _ _, _, rfl, ix a1 (atI1 _ _ _) ?_⟩
      refine ⟨.tuple (ss.map oD), .tuple (ss.map oD), dpS (s1 _ _ h2), dpS (s1 _ _ g2), shaped_seats g.fine, shaped_seats g.fine, _, rfl, ?_⟩
      rw [eqv_seats, decide_eq_true rfl]
      exact iteF ⟨rfl, s1⟩
    rintro σ H1 ⟨rfl, s1⟩
    have ix : ∀ {i : Int} {v : V} {Q' : V → Hp → Prop}, atI [V.str r, V.ref sa', V.ref ca'] i = some v → Q' v H1 → rIx K (.ref a) (.int i) H1 Q' := fun e q => .inr (.inl ⟨_, _, _, _, rfl, rfl, SqT.of (s1 _ _ g1), e, q⟩)
    refine ⟨fun σ H2 => σ = [some (.ref p), some (.ref a), none, none] ∧ Same H H2, ?_, ?_⟩
    · refine ⟨_, rfl, p, C, dx, _, _, rfl, s1 _ _ h1, SX.cl, SX.nS, sFs_s _ _ _, .ref sa, _, _, _, _, rfl, .ty _, (Kd.tup sa _ (s1 _ _ h2)).ty, kit_ty (kit_tuple (Kd.tup sa _ (s1 _ _ h2)).kits), _, rfl, iteF ?_⟩
      refine ⟨_, rfl, p, C, dx, _, _, rfl, s1 _ _ h1, SX.cl, SX.nC, sFs_c _ _ _, .ref ca, _, _, _, _, rfl, .ty _, (Kd.tup ca _ (s1 _ _ h3)).ty, kit_ty (kit_tuple (Kd.tup ca _ (s1 _ _ h3)).kits), _, rfl, iteF ?_⟩
      refine ⟨_, rfl, p, C, dx, _, _, rfl, s1 _ _ h1, SX.cl, SX.nC, sFs_c _ _ _, _, rfl, ix (atI2 _ _ _ _) ?_⟩
      refine ⟨.tuple (cs.map cD), .tuple (cs.map cD), dpC (s1 _ _ h3) (pr_imp h4 fun _ _ q => q.keep s1), dpC (s1 _ _ g3) (pr_imp g4 fun _ _ q => q.keep s1), shaped_clocks g.2.2.2.2.2, shaped_clocks g.2.2.2.2.2, _, rfl, ?_⟩
      rw [eqv_clocks, decide_eq_true rfl]
      exact iteF ⟨rfl, s1⟩
    rintro σ H2 ⟨rfl, s2⟩
    refine ⟨_, rfl, p, C, dx, _, _, rfl, s2 _ _ h1, SX.cl, SX.nC, sFs_c _ _ _, ca, rfl, ⟨_, SqT.of (s2 _ _ h3)⟩, for_tup (K := K) (a := ca) (xs := xs) (fun i σ H3 => ∃ v2 v3 : Option V, σ = [some (.ref p), some (.ref a), v2, v3] ∧ Same H H3)
      ⟨none, none, rfl, s2⟩ (fun i σ H3 _ ⟨_, _, _, s⟩ => SqT.of (s _ _ h3)) ?_ ?_⟩
    · rintro i x σ H3 hi ⟨v2, v3, rfl, s3⟩
      obtain ⟨c, hc', t, rfl, ht⟩ := pr_get h4 hi
      refine ⟨t, _, rfl, SqT.of (s3 _ _ ht), rfl, _, _, rfl, _, _, rfl, rfl, ?_⟩
      refine ⟨_, rfl, _, _, rfl, .int c.1, _, rfl, iteF ?_⟩
      exact ⟨_, rfl, .bl c.2, _, _, _, _, rfl, .ty _, (Kd.bl (H := H3) c.2).ty, kit_ty (kit_bool (Kd.bl (H := H3) c.2).kits), _, rfl, iteF ⟨_, _, rfl, s3⟩⟩
    · rintro σ H3 ⟨v2, v3, rfl, s3⟩
      exact k H3 s3
end
end Kx

set_option maxHeartbeats 8000000
namespace Kx
open PySem L2
def spProgStand (C : Addr) : Sp := fun vs H Q _ => ∃ (a : Addr) (r : Str) (ss : List (Option Str)) (cs : List (Int × Bool)), vs = [.ref a] ∧ CodeAt H a r ss cs ∧ GoodS r ss cs ∧ ∀ q H', Same H H' → StandAt C H' q r ss cs → Q (.ref q) H'
/-- one of the odd things, new -/
def spOdd : Sp := fun vs H Q _ => ∃ p q : Addr, vs = [.ref p] ∧ HandAt H p q ∧ ∀ (x : V) (n : String) (H' : Hp), Thing (nw H H') x n → HandAt H' p q → Keep H H' p → Q x H'
/-- the class Stand as it is made -/
structure SMk (P : Program) (w : World) (K : PySem.W.Frag) (mg : Str → Option Value) (base : Heap) (C CS fI : Addr) (fdI : FuncData) : Prop where
  MK : Mk K C fI
  GI : FnOk P w K mg base (L2.CX P w) 4 fI fdI ["self", "room", "seats", "clocks"] (spStand K C CS)
  mS : mg "Stand" = some (.ref C)
  bI : Binds K fdI ["self", "room", "seats", "clocks"] []
section
variable {P : Program} {w : World} {K : PySem.W.Frag} {mg : Str → Option Value} {base : Heap}
theorem scProgStand : FnScope ["_law_stand", "_law_clock"] ["_law_stand"] (defScope sLProgramStand) := ⟨rfl, rfl, rfl, by decide +kernel, rfl, by decide +kernel, by decide +kernel⟩
theorem ok_progstand {f C CS fI : Addr} {fd fdI : FuncData} (F : Fun K "_law_program_stand" "_law_program_stand" sLProgramStand f fd) (m : mg "_law_program_stand" = some (.ref f)) (B : Bm mg) (S : SMk P w K mg base C CS fI fdI) : HasF P w K mg base "_law_program_stand" 6 ["_law_stand"] (spProgStand C) := by
  refine ⟨f, fd, ?_, m, F.kp, F.binds fun _ _ _ _ _ _ us hl => match us, hl with | [_], _ => rfl⟩
  refine F.ok scProgStand (fun vs H Q E h => ?_) (fun cdv A outer s H vs Q E hr h => ?_)
  · obtain ⟨a, r, ss, cs, rfl, _⟩ := h
    rfl
  · obtain ⟨a, r, ss, cs, rfl, hc, g, k⟩ := h
    refine ⟨_, pss_one (ps_ret (pe_make S.MK S.GI hr (by rfl) S.mS S.bI .nil passL (pa_cons (pe_ix ix_seq (pv 0) pe_int (fun _ _ => rfl)) (pa_cons (pe_callTy (call_lstK (K := K) rfl) (by rfl) B.list (by decide +kernel) (pa_cons (pe_ix ix_seq (pv 0) pe_int (fun _ _ => rfl)) pa_nil)) (pa_cons
      (pe_lc (own := [("_law_clock", 1)]) (g := gName 1) (tt := tYes) (by rfl) scProgStand.nd (pi_seq (pe_ix ix_seq (pv 0) pe_int (fun _ _ => rfl))) (blkOk_by (own := [("_law_clock", 1)]) (N := ["_law_stand", "_law_clock"]) (sc := defScope sLProgramStand) (by decide +kernel))
          (fun _ _ _ _ _ => pg_name (i := 1) scProgStand.nd rfl (Or.inl rfl)) (fun _ _ _ _ _ => pts_nil) (fun _ _ _ _ _ => (pe_callTy (call_lstK (K := K) rfl) (by rfl) B.list (by decide +kernel) (pa_cons (pv 1) pa_nil)))) pa_nil))))), ?_⟩
    obtain ⟨sa, ca, xs, g1, g2, g3, g4⟩ := hc.ob
    have ix : ∀ {H' : Hp} {i : Int} {v : V} {Q' : V → Hp → Prop}, Same H H' → atI [V.str r, V.ref sa, V.ref ca] i = some v → Q' v H' → rIx K (.ref a) (.int i) H' Q' := fun s e q => .inr (.inl ⟨_, _, _, _, rfl, rfl, SqT.of (s _ _ g1), e, q⟩)
    refine ⟨_, rfl, ix (Same.refl _) (atI0 _ _) ⟨_, rfl, ix (Same.refl _) (atI1 _ _ _) ⟨sa, _, rfl, .inr (SqT.of g2), fun l hl => ?_⟩⟩⟩
    have s1 := sameUpd (o := .lst (ss.map oV)) (Same.refl H) hl
    have ln := Paired.length g4
    refine ⟨_, rfl, ix s1 (atI2 _ _ _ _) ⟨ca, rfl, lc_pure (g := gName 1) (fun j y H' => ∀ d, cs[j]? = some d → ∃ a, y = .ref a ∧ H' a = some (.lst [.int d.1, .bl d.2])) (fun j y H' H'' q s d e => (q d e).imp fun a q => ⟨q.1, s _ _ q.2⟩) (IsSeq.tup (s1 _ _ g3)) (Same.refl _) (by rw [ln]; have := g.2.2.2.2.1; omega) ?_ ?_ fun x σ H Q Q' q z => q _ _ z⟩⟩
    · rintro D i x H3 k' hi hD s3 ⟨acc, hacc⟩ kk
      obtain ⟨d, hd, t, rfl, ht⟩ := pr_get g4 hi
      refine ⟨rfl, _, rfl, t, _, rfl, .inr (SqT.of ((s1.trans s3) _ _ ht)), fun l' hl' => kk _ _ (sameUpd (Same.refl _) hl') fun d' e => ?_⟩
      rw [hd] at e
      cases e
      exact ⟨l', rfl, wo_at upd_same fun e => by rw [e, hacc] at hl'; cases hl'⟩
    · intro D ys H3 hD s3 hd ly gy q dx hq hdx ne
      have s03 := s1.trans s3
      have s4 := sameUpd (o := .own q) s03 hdx
      have s5 := sameUpd (o := .ins C dx []) s4 (by rw [upd_ne ne.symm]; exact hq)
      have up : ∀ {b : Addr} {o : HO}, H3 b = some o → upd (upd H3 dx (.own q)) q (.ins C dx []) b = some o := fun {b o} e => by
        rw [upd_ne (ne_of_none e hq), upd_ne (ne_of_none e hdx)]
        exact e
      refine mk_stand upd_same g (.seq (.inl (up (s3 _ _ upd_same))) (oV_thing g.fine _) (by rw [List.length_map]; have := g.2.2.1; omega)) (.seq (.lst (up hd)) (pr_of (by rw [ly, ln]; simp [cR]) fun i y rw' e1 e2 => ?_) (by rw [ly, ln]; have := g.2.2.2.2.1; omega)) fun H6 k6 st => ⟨rfl, k q H6 (fun b o e => k6 b o (s5 b o e) (ne_of_none (s03 b o e) hq)) st⟩
      obtain ⟨d, hd', rfl⟩ : ∃ d, cs[i]? = some d ∧ rw' = some (V.int d.1, V.bl d.2) := by
        have e2 : (cs.map fun c => some (V.int c.1, V.bl c.2))[i]? = some rw' := e2
        rw [List.getElem?_map] at e2
        cases e : cs[i]? with
        | none => rw [e] at e2; cases e2
        | some d => rw [e] at e2; exact ⟨d, rfl, (Option.some.inj e2).symm⟩
      obtain ⟨a', rfl, ha'⟩ := gy i y e1 d hd'
      exact .lst (up (wo_same _ _ ha')) ⟨.int _, fun z e => nomatch e⟩ ⟨.bl _, fun z e => nomatch e⟩
theorem scOdd : FnScope ["_law_hand_here"] ["_law_hand_here"] (defScope sOdd) := ⟨rfl, rfl, rfl, by decide +kernel, rfl, by decide +kernel, by decide +kernel⟩
theorem ok_odd {f : Addr} {fd : FuncData} (F : Fun K "_law_odd" "_law_odd" sOdd f fd) (m : mg "_law_odd" = some (.ref f)) (O : HasF P w K mg base "_law_one" 3 ["_law_hand_here", "_law_rows"] spOne) : HasF P w K mg base "_law_odd" 4 ["_law_hand_here"] spOdd := by
  refine ⟨f, fd, ?_, m, F.kp, F.binds fun _ _ _ _ _ _ us hl => match us, hl with | [_], _ => rfl⟩
  obtain ⟨f1, fd1, O⟩ := O
  refine F.ok scOdd (fun vs H Q E h => ?_) (fun cdv A outer s H vs Q E hr h => ?_)
  · obtain ⟨a, b, rfl, _⟩ := h
    rfl
  · obtain ⟨p, q, rfl, hp, k⟩ := h
    refine ⟨_, pss_one (ps_ret (pe_call O.G hr (by rfl) O.m O.kp O.b .nil pass0 (pa_cons (pv 0) (pa_cons (pe_lst (pa_cons pe_str (pa_cons pe_str (pa_cons pe_str (pa_cons pe_str (pa_cons pe_str (pa_cons pe_non (pa_cons pe_int (pa_cons pe_bl (pa_cons (pe_lst (pa_cons pe_str pa_nil)) (pa_cons (pe_tup (pa_cons pe_str pa_nil)) (pa_cons pe_dnewK pa_nil)))))))))))) pa_nil)))), ?_⟩
    refine ⟨_, rfl, (by show 1 ≤ sizeLine; decide), fun a1 h1 => ⟨(by show 1 ≤ sizeLine; decide), fun t1 h2 => fun d1 h3 => ⟨(by show 11 ≤ sizeLine; decide), fun r hr' => ?_⟩⟩⟩
    have s1 := sameUpd (o := .lst [V.str "a"]) (Same.refl H) h1
    have s2 := sameUpd (o := .tup [V.str "a"]) s1 h2
    have s3 := sameUpd (o := .dK []) s2 h3
    have s4 := sameUpd (o := .lst [V.str "", V.str "A", V.str "abcdefg", V.str "a b", V.str "a1", V.non, V.int 5, V.bl true, V.ref a1, V.ref t1, V.ref d1]) s3 hr'
    have hp4 := hp.same s4
    have f2 := s1.free h2
    have f3 := s2.free h3
    refine ⟨p, q, r, _, rfl, hp4, upd_same, (hp.same s3).ap hr', (by show 0 < 11; decide), (by show 11 ≤ 1000; decide), fun x H' hx hp' k' => ?_⟩
    have kk : Keep H H' p := (Same.keep s4).trans k'
    have old : ∀ {b : Addr} {o : HO}, H b = none → upd (upd (upd (upd H a1 (.lst [V.str "a"])) t1 (.tup [V.str "a"])) d1 (.dK [])) r (.lst [V.str "", V.str "A", V.str "abcdefg", V.str "a b", V.str "a1", V.non, V.int 5, V.bl true, V.ref a1, V.ref t1, V.ref d1]) b = some o → nw H H' b = some o := fun {b o} e0 e => nw_at e0 (k' b o e fun z => by
      obtain ⟨o', hpo⟩ := hp.at_
      rw [z, hpo] at e0
      cases e0)
    have a1at : upd (upd (upd (upd H a1 (.lst [V.str "a"])) t1 (.tup [V.str "a"])) d1 (.dK [])) r (.lst [V.str "", V.str "A", V.str "abcdefg", V.str "a b", V.str "a1", V.non, V.int 5, V.bl true, V.ref a1, V.ref t1, V.ref d1]) a1 = some (.lst [V.str "a"]) := by
      rw [upd_ne (ne_of_none (b := r) (by rw [upd_ne (ne_of_none (b := d1) (by rw [upd_ne (ne_of_none upd_same h2)]; exact upd_same) h3), upd_ne (ne_of_none upd_same h2)]; exact upd_same) hr'), upd_ne (ne_of_none (b := d1) (by rw [upd_ne (ne_of_none upd_same h2)]; exact upd_same) h3), upd_ne (ne_of_none upd_same h2)]
      exact upd_same
    have t1at : upd (upd (upd (upd H a1 (.lst [V.str "a"])) t1 (.tup [V.str "a"])) d1 (.dK [])) r (.lst [V.str "", V.str "A", V.str "abcdefg", V.str "a b", V.str "a1", V.non, V.int 5, V.bl true, V.ref a1, V.ref t1, V.ref d1]) t1 = some (.tup [V.str "a"]) := by
      rw [upd_ne (ne_of_none (b := r) (by rw [upd_ne (ne_of_none upd_same h3)]; exact upd_same) hr'), upd_ne (ne_of_none upd_same h3)]
      exact upd_same
    have d1at : upd (upd (upd (upd H a1 (.lst [V.str "a"])) t1 (.tup [V.str "a"])) d1 (.dK [])) r (.lst [V.str "", V.str "A", V.str "abcdefg", V.str "a b", V.str "a1", V.non, V.int 5, V.bl true, V.ref a1, V.ref t1, V.ref d1]) d1 = some (.dK []) := by
      rw [upd_ne (ne_of_none upd_same hr')]
      exact upd_same
    have strT : ∀ z : Str, (PyData.strOk z && decide (z.length ≤ 900)) = true → Thing (nw H H') (.str z) "str" := fun z h => ⟨.str z, fun y e => by
      cases e
      rw [Bool.and_eq_true, decide_eq_true_eq] at h
      exact h⟩
    simp only [List.mem_cons, List.not_mem_nil, or_false] at hx
    rcases hx with e | e | e | e | e | e | e | e | e | e | e <;> subst e
    · exact k _ _ H' (strT _ (by decide +kernel)) hp' kk
    · exact k _ _ H' (strT _ (by decide +kernel)) hp' kk
    · exact k _ _ H' (strT _ (by decide +kernel)) hp' kk
    · exact k _ _ H' (strT _ (by decide +kernel)) hp' kk
    · exact k _ _ H' (strT _ (by decide +kernel)) hp' kk
    · exact k _ _ H' ⟨.non, fun z e => nomatch e⟩ hp' kk
    · exact k _ _ H' ⟨.int _, fun z e => nomatch e⟩ hp' kk
    · exact k _ _ H' ⟨.bl _, fun z e => nomatch e⟩ hp' kk
    · exact k _ _ H' ⟨.lst _ _ (old h1 a1at), fun z e => nomatch e⟩ hp' kk
    · exact k _ _ H' ⟨.tup _ _ (old f2 t1at), fun z e => nomatch e⟩ hp' kk
    · exact k _ _ H' ⟨.dct _ _ (old f3 d1at), fun z e => nomatch e⟩ hp' kk
end
end Kx

set_option maxHeartbeats 8000000
namespace Kx
open PySem L2
/-! the parts of a stand that are drawn: new things, lists alone -/
inductive LRow (N : Hp) : V → Option (V × V) → Prop where
  | lst {b : Addr} {x y : V} {t u : String} (h : N b = some (.lst [x, y])) (hx : Thing N x t) (hy : Thing N y u) : LRow N (.ref b) (some (x, y))
  | lstN {b : Addr} {xs : List V} (h : N b = some (.lst xs)) (l : xs.length ≠ 2) : LRow N (.ref b) none
  | oth {y : V} {n : String} (h : Kd N y n) (l : seqV n = false) : LRow N y none
theorem LRow.keep {N N' : Hp} {y : V} {r : Option (V × V)} (h : LRow N y r) (s : Same N N') : LRow N' y r := by
  cases h with
  | lst h hx hy => exact .lst (s _ _ h) (hx.keep s) (hy.keep s)
  | lstN h l => exact .lstN (s _ _ h) l
  | oth h l => exact .oth (h.keep s) l
theorem LRow.row {N : Hp} {y : V} {r : Option (V × V)} (h : LRow N y r) : RowIs N y r := by
  cases h with
  | lst h hx hy => exact .lst h hx hy
  | lstN h l => exact .lstN h l
  | oth h l => exact .oth h l
inductive LSeats (N : Hp) : V → Option (List V) → Prop where
  | lst {b : Addr} {xs : List V} (h : N b = some (.lst xs)) (t : ∀ x ∈ xs, ∃ n, Thing N x n) (l : xs.length ≤ 9) : LSeats N (.ref b) (some xs)
  | oth {y : V} {n : String} (h : Kd N y n) (l : seqV n = false) : LSeats N y none
theorem LSeats.keep {N N' : Hp} {y : V} {r : Option (List V)} (h : LSeats N y r) (s : Same N N') : LSeats N' y r := by
  cases h with
  | lst h t l => exact .lst (s _ _ h) (fun x m => (t x m).imp fun n q => q.keep s) l
  | oth h l => exact .oth (h.keep s) l
theorem LSeats.is {K : PySem.W.Frag} {N : Hp} {y : V} {r : Option (List V)} (h : LSeats N y r) : SeatsIs K N y r := by
  cases h with
  | lst h t l => exact .seq (.inl h) t (by omega)
  | oth h l => exact .oth h l
inductive LClks (N : Hp) : V → Option (List (Option (V × V))) → Prop where
  | lst {b : Addr} {xs : List V} {rs : List (Option (V × V))} (h : N b = some (.lst xs)) (t : Paired (LRow N) xs rs) (l : rs.length ≤ 9) : LClks N (.ref b) (some rs)
  | oth {y : V} {n : String} (h : Kd N y n) (l : seqV n = false) : LClks N y none
theorem LClks.keep {N N' : Hp} {y : V} {r : Option (List (Option (V × V)))} (h : LClks N y r) (s : Same N N') : LClks N' y r := by
  cases h with
  | lst h t l => exact .lst (s _ _ h) (pr_imp t fun _ _ q => q.keep s) l
  | oth h l => exact .oth (h.keep s) l
theorem LClks.is {K : PySem.W.Frag} {N : Hp} {y : V} {r : Option (List (Option (V × V)))} (h : LClks N y r) : ClksIs K N y r := by
  cases h with
  | lst h t l => exact .seq (.lst h) (pr_imp t fun _ _ q => q.row) (by rw [Paired.length t]; omega)
  | oth h l => exact .oth h l
/-- room, seats, clocks -/
structure PartsAt (N : Hp) (a : Addr) (room sv cv : V) (so : Option (List V)) (co : Option (List (Option (V × V)))) : Prop where
  at_ : N a = some (.lst [room, sv, cv])
  room0 : ∃ n, Thing (wo a N) room n
  seats0 : LSeats (wo a N) sv so
  clocks0 : LClks (wo a N) cv co
theorem PartsAt.room {N : Hp} {a : Addr} {room sv cv : V} {so : Option (List V)} {co : Option (List (Option (V × V)))} (h : PartsAt N a room sv cv so co) : ∃ n, Thing N room n := h.room0.imp fun _ q => q.keep wo_same
theorem PartsAt.seats {N : Hp} {a : Addr} {room sv cv : V} {so : Option (List V)} {co : Option (List (Option (V × V)))} (h : PartsAt N a room sv cv so co) : LSeats N sv so := h.seats0.keep wo_same
theorem PartsAt.clocks {N : Hp} {a : Addr} {room sv cv : V} {so : Option (List V)} {co : Option (List (Option (V × V)))} (h : PartsAt N a room sv cv so co) : LClks N cv co := h.clocks0.keep wo_same
theorem PartsAt.keep {N N' : Hp} {a : Addr} {room sv cv : V} {so : Option (List V)} {co : Option (List (Option (V × V)))} (h : PartsAt N a room sv cv so co) (s : Same N N') : PartsAt N' a room sv cv so co :=
  ⟨s _ _ h.at_, h.room0.imp fun _ q => q.keep (wo_mono s), h.seats0.keep (wo_mono s), h.clocks0.keep (wo_mono s)⟩
def spParts : Sp := fun vs H Q _ => ∃ p q : Addr, vs = [.ref p] ∧ HandAt H p q ∧ ∀ a room sv cv so co H', PartsAt (nw H H') a room sv cv so co → HandAt H' p q → Keep H H' p → Q (.ref a) H'
/-- what is new since H0 but for two lists -/
def N2 (b1 b2 : Addr) (H0 H : Hp) : Hp := wo b1 (wo b2 (nw H0 H))
theorem N2_get {b1 b2 c : Addr} {H0 H : Hp} {o : HO} (h : N2 b1 b2 H0 H c = some o) : c ≠ b1 ∧ c ≠ b2 ∧ H0 c = none ∧ H c = some o := by
  obtain ⟨h1, n1⟩ := wo_get h
  obtain ⟨h2, n2⟩ := wo_get h1
  obtain ⟨h3, h4⟩ := nw_get h2
  exact ⟨n1, n2, h3, h4⟩
theorem N2_at {b1 b2 c : Addr} {H0 H : Hp} {o : HO} (h : H c = some o) (n1 : c ≠ b1) (n2 : c ≠ b2) (h0 : H0 c = none) : N2 b1 b2 H0 H c = some o := wo_at (wo_at (nw_at h0 h) n2) n1
theorem N2_nw {b1 b2 : Addr} {H0 H : Hp} : Same (N2 b1 b2 H0 H) (nw H0 H) := fun c o e => by
  obtain ⟨_, _, h0, h⟩ := N2_get e
  exact nw_at h0 h
structure Two (b1 b2 p q : Addr) (xs ys : List V) (H0 Hs H : Hp) : Prop where
  h1 : H b1 = some (.lst xs)
  h2 : H b2 = some (.lst ys)
  n12 : b1 ≠ b2
  hp : HandAt H p q
  kp : Keep H0 H p
  z1 : H0 b1 = none
  z2 : H0 b2 = none
  hp0 : HandAt H0 p q
  sm : Same (N2 b1 b2 H0 Hs) (N2 b1 b2 H0 H)
theorem HandAt.atq {H : Hp} {p q : Addr} (h : HandAt H p q) : ∃ o, H q = some o := by
  obtain ⟨cs, a, b, c, h1, h2⟩ := h
  exact ⟨_, h2⟩
theorem ne_new {H : Hp} {a b : Addr} (h : H a = none) (h' : ∃ o, H b = some o) : a ≠ b := fun e => by
  obtain ⟨o, h'⟩ := h'
  rw [e, h'] at h
  cases h
section
variable {b1 b2 p q : Addr} {xs ys : List V} {H0 Hs H : Hp}
theorem Two.fresh (t : Two b1 b2 p q xs ys H0 Hs H) {l : Addr} (hl : H l = none) : H0 l = none ∧ l ≠ b1 ∧ l ≠ b2 ∧ l ≠ p ∧ l ≠ q := by
  have lp := t.hp.ap hl
  refine ⟨?_, (ne_of_none t.h1 hl).symm, (ne_of_none t.h2 hl).symm, lp, t.hp.aq hl⟩
  cases e : H0 l with
  | none => rfl
  | some u => exact absurd hl (by rw [t.kp l u e lp]; exact fun z => nomatch z)
theorem Two.draw (t : Two b1 b2 p q xs ys H0 Hs H) {H' : Hp} (k : Keep H H' p) (h : HandAt H' p q) : Two b1 b2 p q xs ys H0 Hs H' :=
  ⟨k _ _ t.h1 (ne_new t.z1 t.hp0.at_), k _ _ t.h2 (ne_new t.z2 t.hp0.at_), t.n12, h, t.kp.trans k, t.z1, t.z2, t.hp0, fun c o e => by
    obtain ⟨n1, n2, c0, hc⟩ := N2_get (t.sm c o e)
    exact N2_at (k c o hc (ne_new c0 t.hp0.at_)) n1 n2 c0⟩
theorem Two.new (t : Two b1 b2 p q xs ys H0 Hs H) {l : Addr} {o : HO} (hl : H l = none) : Two b1 b2 p q xs ys H0 Hs (upd H l o) ∧ N2 b1 b2 H0 (upd H l o) l = some o := by
  obtain ⟨l0, l1, l2, lp, lq⟩ := t.fresh hl
  refine ⟨⟨by rw [upd_ne l1.symm]; exact t.h1, by rw [upd_ne l2.symm]; exact t.h2, t.n12, t.hp.upd lp lq, keepUpd t.kp l0, t.z1, t.z2, t.hp0, fun c u e => ?_⟩, N2_at upd_same l1 l2 l0⟩
  obtain ⟨n1, n2, c0, hc⟩ := N2_get (t.sm c u e)
  exact N2_at (by rw [upd_ne (ne_of_none hc hl)]; exact hc) n1 n2 c0
theorem Two.sub (t : Two b1 b2 p q xs ys H0 Hs H) {H' : Hp} : Same (nw H H') (N2 b1 b2 H0 H') := fun c o e => by
  obtain ⟨e0, e1⟩ := nw_get e
  obtain ⟨c0, n1, n2, _, _⟩ := t.fresh e0
  exact N2_at e1 n1 n2 c0
theorem Two.put1 (t : Two b1 b2 p q xs ys H0 Hs H) (xs' : List V) : Two b1 b2 p q xs' ys H0 Hs (upd H b1 (.lst xs')) :=
  ⟨upd_same, by rw [upd_ne t.n12.symm]; exact t.h2, t.n12, t.hp.upd (ne_new t.z1 t.hp0.at_) (ne_new t.z1 t.hp0.atq), keepUpd t.kp t.z1, t.z1, t.z2, t.hp0, fun c o e => by
    obtain ⟨n1, n2, c0, hc⟩ := N2_get (t.sm c o e)
    exact N2_at (by rw [upd_ne n1]; exact hc) n1 n2 c0⟩
theorem Two.put2 (t : Two b1 b2 p q xs ys H0 Hs H) (ys' : List V) : Two b1 b2 p q xs ys' H0 Hs (upd H b2 (.lst ys')) :=
  ⟨by rw [upd_ne t.n12]; exact t.h1, upd_same, t.n12, t.hp.upd (ne_new t.z2 t.hp0.at_) (ne_new t.z2 t.hp0.atq), keepUpd t.kp t.z2, t.z1, t.z2, t.hp0, fun c o e => by
    obtain ⟨n1, n2, c0, hc⟩ := N2_get (t.sm c o e)
    exact N2_at (by rw [upd_ne n2]; exact hc) n1 n2 c0⟩
theorem Two.start (t : Two b1 b2 p q xs ys H0 Hs H) : Two b1 b2 p q xs ys H0 H H := ⟨t.h1, t.h2, t.n12, t.hp, t.kp, t.z1, t.z2, t.hp0, Same.refl _⟩
/-- a thing that is new since Hs may be changed -/
theorem Two.chg (t : Two b1 b2 p q xs ys H0 Hs H) {c : Addr} {o : HO} (hs : Hs c = none) (c0 : H0 c = none) (n1 : c ≠ b1) (n2 : c ≠ b2) (cp : c ≠ p) (cq : c ≠ q) : Two b1 b2 p q xs ys H0 Hs (upd H c o) :=
  ⟨by rw [upd_ne n1.symm]; exact t.h1, by rw [upd_ne n2.symm]; exact t.h2, t.n12, t.hp.upd cp cq, keepUpd t.kp c0, t.z1, t.z2, t.hp0, fun d u e => by
    obtain ⟨m1, m2, d0, hd⟩ := N2_get (t.sm d u e)
    have dc : d ≠ c := fun z => by
      have := (N2_get e).2.2.2
      rw [z, hs] at this
      cases this
    exact N2_at (by rw [upd_ne dc]; exact hd) m1 m2 d0⟩
end
/-- a thing without an address -/
def FlatT (x : V) : Prop := ∃ n, ∀ N : Hp, Thing N x n
theorem flat_str {z : Str} (h : (PyData.strOk z && decide (z.length ≤ 900)) = true) : FlatT (.str z) := ⟨"str", fun N => ⟨.str z, fun y e => by
  cases e
  rw [Bool.and_eq_true, decide_eq_true_eq] at h
  exact h⟩⟩
theorem flat_non : FlatT .non := ⟨_, fun N => ⟨.non, fun z e => nomatch e⟩⟩
theorem flat_int (i : Int) : FlatT (.int i) := ⟨_, fun N => ⟨.int i, fun z e => nomatch e⟩⟩
theorem flat_bl (b : Bool) : FlatT (.bl b) := ⟨_, fun N => ⟨.bl b, fun z e => nomatch e⟩⟩
def tInts : List Int → TA
  | [] => tNil
  | i :: is => tCons (tC (V.int i)) (tInts is)
theorem ints_run : ∀ {is : List Int} {σ : St} {H : Hp} {Q : List V → Hp → Prop}, Q (is.map V.int) H → tInts is σ H Q
  | [], _, _, _, h => h
  | i :: is, σ, H, Q, h => ints_run (is := is) (σ := σ) (H := H) (Q := fun vs H' => Q (V.int i :: vs) H') h
theorem pick2 (is js : List Int) {i : Nat} {o : Bool} {σ : St} {H : Hp} {Q : VK} (e : σ[i]? = some (some (.bl o))) (li : is.length ≤ 900) (lj : js.length ≤ 900) (h : ∀ l ns, H l = none → (ns = is ∨ ns = js) → Q (.ref l) (upd H l (.lst (ns.map V.int)))) : tIf (tB (tVar i)) (tLst (tInts is)) (tLst (tInts js)) σ H Q := by
  have one : ∀ ns : List Int, ns.length ≤ 900 → (ns = is ∨ ns = js) → tLst (tInts ns) σ H Q := fun ns ln hn => ints_run ⟨Nat.le_of_lt (small1000 (by rw [List.length_map]; omega)), fun l hl => h l ns hl hn⟩
  cases o with
  | true => exact ⟨_, e, _, rfl, iteT (one is li (.inl rfl))⟩
  | false => exact ⟨_, e, _, rfl, iteF (one js lj (.inr rfl))⟩
theorem odd_test {i : Nat} {m : Int} {o : Bool} {p q : Addr} {σ : St} {H : Hp} {R : Bool → Hp → Prop} (e0 : σ[0]? = some (some (.ref p))) (e : σ[i]? = some (some (.bl o))) (hp : HandAt H p q) (m0 : 0 < m) (mb : m.natAbs < 2 ^ 200) (h : ∀ b H', HandAt H' p q → Keep H H' p → R b H') :
    tAnd (tB (tVar i)) (tTest (tOp rEq (tCall spDraw [] E0 (tCons (tVar 0) (tCons (tC (V.int m)) tNil))) (tC (V.int 0)))) σ H R := by
  cases o with
  | false => exact ⟨_, e, _, rfl, iteF (h false H hp Keep.refl)⟩
  | true => exact ⟨_, e, _, rfl, iteT ⟨_, e0, p, q, m, rfl, hp, m0, mb, fun z H' _ _ hp' k' => ⟨rfl, _, rfl, h _ H' hp' k'⟩⟩⟩
theorem odd_if {i : Nat} {m : Int} {o : Bool} {p q : Addr} {σ : St} {H : Hp} {Q : VK} {ta tb : TE} (e0 : σ[0]? = some (some (.ref p))) (e : σ[i]? = some (some (.bl o))) (hp : HandAt H p q) (m0 : 0 < m) (mb : m.natAbs < 2 ^ 200) (h : ∀ H', HandAt H' p q → Keep H H' p → ta σ H' Q ∧ tb σ H' Q) :
    tIf (tAnd (tB (tVar i)) (tTest (tOp rEq (tCall spDraw [] E0 (tCons (tVar 0) (tCons (tC (V.int m)) tNil))) (tC (V.int 0))))) ta tb σ H Q :=
  odd_test e0 e hp m0 mb fun b H' h' k' => by
    cases b with
    | true => exact (if_pos rfl).mpr (h H' h' k').1
    | false => exact (if_neg Bool.false_ne_true).mpr (h H' h' k').2
theorem odd_ifS {i : Nat} {m : Int} {o : Bool} {p q : Addr} {σ : St} {H : Hp} {D : Ends} {ta tb : TS} (e0 : σ[0]? = some (some (.ref p))) (e : σ[i]? = some (some (.bl o))) (hp : HandAt H p q) (m0 : 0 < m) (mb : m.natAbs < 2 ^ 200) (h : ∀ H', HandAt H' p q → Keep H H' p → ta D σ H' ∧ tb D σ H') :
    tIfS (tAnd (tB (tVar i)) (tTest (tOp rEq (tCall spDraw [] E0 (tCons (tVar 0) (tCons (tC (V.int m)) tNil))) (tC (V.int 0))))) ta tb D σ H :=
  odd_test e0 e hp m0 mb fun b H' h' k' => by
    cases b with
    | true => exact (if_pos rfl).mpr (h H' h' k').1
    | false => exact (if_neg Bool.false_ne_true).mpr (h H' h' k').2
section
variable {P : Program} {w : World} {K : PySem.W.Frag} {mg : Str → Option Value} {base : Heap}
abbrev nParts : List Str := ["_law_hand_here", "_law_odd_here", "_law_people_here", "_law_room", "_law_seats", "_law_clocks", "_law_k", "_law_clock"]
theorem scParts : FnScope nParts ["_law_hand_here"] (defScope sLParts) := ⟨rfl, rfl, rfl, by decide +kernel, rfl, by decide +kernel, by decide +kernel⟩
theorem ok_parts {f : Addr} {fd : FuncData} (F : Fun K "_law_parts" "_law_parts" sLParts f fd) (m : mg "_law_parts" = some (.ref f)) (T : Bl mg) (D : HDraw P w K mg base) (L : HasF P w K mg base "_law_letters" 3 ["_law_hand_here"] spLetters) (O : HasF P w K mg base "_law_one" 3 ["_law_hand_here", "_law_rows"] spOne) (Pe : HasF P w K mg base "_law_people" 6 ["_law_hand_here"] spPeople) (Od : HasF P w K mg base "_law_odd" 4 ["_law_hand_here"] spOdd) : HasF P w K mg base "_law_parts" 7 ["_law_hand_here"] spParts := by
  refine ⟨f, fd, ?_, m, F.kp, F.binds fun _ _ _ _ _ _ us hl => match us, hl with | [_], _ => rfl⟩
  obtain ⟨f1, fd1, D⟩ := D; obtain ⟨f2, fd2, L⟩ := L; obtain ⟨f3, fd3, O⟩ := O; obtain ⟨f4, fd4, Pe⟩ := Pe; obtain ⟨f5, fd5, Od⟩ := Od
  refine F.ok scParts (fun vs H Q E h => ?_) (fun cdv A outer s H vs Q E hr h => ?_)
  · obtain ⟨a, b, rfl, _⟩ := h
    rfl
  · obtain ⟨p, q, rfl, hp, k⟩ := h
    have hr2 : Room 2 _ := hr.mono (by decide)
    have hr3 : Room 3 _ := hr.mono (by decide)
    have hr4 : Room 4 _ := hr.mono (by decide)
    refine ⟨_, (pss_cons (ps_set (i := 1) scParts.nd rfl (Or.inl rfl) (pe_cmpR op_eq (pe_call D.G hr2 (by rfl) D.m D.kp D.b .nil pass0 (pa_cons (pv 0) (pa_cons pe_int pa_nil))) pe_int (nomark _)))
    (pss_cons (ps_set (i := 2) scParts.nd rfl (Or.inl rfl) (pe_call Pe.G hr (by rfl) Pe.m Pe.kp Pe.b .nil pass0 (pa_cons (pv 0) pa_nil)))
    (C8.pss_cut (ps_set (i := 3) scParts.nd rfl (Or.inl rfl) (pe_ifExp (PW.pt (pw_and (pt_val (pv 1)) (pw_and1 (pt_cmpR op_eq (pe_call D.G hr2 (by rfl) D.m D.kp D.b .nil pass0 (pa_cons (pv 0) (pa_cons pe_int pa_nil))) pe_int (nomark _))))) (pe_call Od.G hr4 (by rfl) Od.m Od.kp Od.b .nil pass0 (pa_cons (pv 0) pa_nil)) (pe_call L.G hr3 (by rfl) L.m L.kp L.b .nil pass0 (pa_cons (pv 0) pa_nil))))
    (C8.pss_cut (ps_par (i := 4) (j := 5) rfl scParts.nd rfl rfl (by decide) rfl rfl (pa_cons (pe_lst pa_nil) (pa_cons (pe_lst pa_nil) pa_nil)) (by rfl))
    (C8.pss_cut (ps_for PassesOwn.never rfl (pi_range1 (by rfl) T.range (pa_cons (pe_call O.G hr3 (by rfl) O.m O.kp O.b .nil pass0 (pa_cons (pv 0) (pa_cons (pe_ifExp (pt_val (pv 1)) (pe_lst (pa_cons pe_int (pa_cons pe_int (pa_cons pe_int (pa_cons pe_int (pa_cons pe_int (pa_cons pe_int pa_nil))))))) (pe_lst (pa_cons pe_int (pa_cons pe_int (pa_cons pe_int pa_nil))))) pa_nil))) pa_nil)) (pg_name (i := 6) scParts.nd rfl (.inl rfl))
        (pss_one (ps_expr (pe_bm PySem.F.plainAttrs_list PySem.F.slot_list_append PySem.F.type_list_append mt_append (pv 4) (pa_cons (pe_ifExp (PW.pt (pw_and (pt_val (pv 1)) (pw_and1 (pt_cmpR op_eq (pe_call D.G hr2 (by rfl) D.m D.kp D.b .nil pass0 (pa_cons (pv 0) (pa_cons pe_int pa_nil))) pe_int (nomark _))))) (pe_call Od.G hr4 (by rfl) Od.m Od.kp Od.b .nil pass0 (pa_cons (pv 0) pa_nil)) (pe_call O.G hr3 (by rfl) O.m O.kp O.b .nil pass0 (pa_cons (pv 0) (pa_cons (pe_op op_cat (pe_lst (pa_cons pe_non pa_nil)) (pv 2)) pa_nil)))) pa_nil)))))
    (C8.pss_cut (ps_for PassesOwn.never rfl (pi_range1 (by rfl) T.range (pa_cons (pe_call O.G hr3 (by rfl) O.m O.kp O.b .nil pass0 (pa_cons (pv 0) (pa_cons (pe_ifExp (pt_val (pv 1)) (pe_lst (pa_cons pe_int (pa_cons pe_int (pa_cons pe_int (pa_cons pe_int pa_nil))))) (pe_lst (pa_cons pe_int (pa_cons pe_int (pa_cons pe_int pa_nil))))) pa_nil))) pa_nil)) (pg_name (i := 6) scParts.nd rfl (.inl rfl))
        (C8.pss_cut (ps_set (i := 7) scParts.nd rfl (Or.inl rfl) (pe_lst (pa_cons (pe_call D.G hr2 (by rfl) D.m D.kp D.b .nil pass0 (pa_cons (pv 0) (pa_cons pe_int pa_nil))) (pa_cons (pe_cmpR op_eq (pe_call D.G hr2 (by rfl) D.m D.kp D.b .nil pass0 (pa_cons (pv 0) (pa_cons pe_int pa_nil))) pe_int (nomark _)) pa_nil))))
    (C8.pss_cut (ps_if (PW.pt (pw_and (pt_val (pv 1)) (pw_and1 (pt_cmpR op_eq (pe_call D.G hr2 (by rfl) D.m D.kp D.b .nil pass0 (pa_cons (pv 0) (pa_cons pe_int pa_nil))) pe_int (nomark _))))) (pss_one (ps_asg (pe_call O.G hr3 (by rfl) O.m O.kp O.b .nil pass0 (pa_cons (pv 0) (pa_cons (pe_lst (pa_cons (pe_un un_neg pe_int) (pa_cons pe_int (pa_cons pe_non (pa_cons pe_bl (pa_cons pe_int (pa_cons pe_int (pa_cons pe_str pa_nil)))))))) pa_nil))) (pg_sub (pv 7) (pe_call D.G hr2 (by rfl) D.m D.kp D.b .nil pass0 (pa_cons (pv 0) (pa_cons pe_int pa_nil))) set_list))) pss_nil)
    (C8.pss_cut (ps_if (PW.pt (pw_and (pt_val (pv 1)) (pw_and1 (pt_cmpR op_eq (pe_call D.G hr2 (by rfl) D.m D.kp D.b .nil pass0 (pa_cons (pv 0) (pa_cons pe_int pa_nil))) pe_int (nomark _))))) (pss_one (ps_set (i := 7) scParts.nd rfl (Or.inl rfl) (pe_call O.G hr3 (by rfl) O.m O.kp O.b .nil pass0 (pa_cons (pv 0) (pa_cons (pe_lst (pa_cons (pe_slice sl_list (pv 7) po_none (po_some pe_int)) (pa_cons pe_non (pa_cons pe_int (pa_cons pe_str (pa_cons (pe_op op_cat (pv 7) (pe_lst (pa_cons pe_bl pa_nil))) (pa_cons pe_dnewK pa_nil))))))) pa_nil))))) pss_nil)
    (pss_one (ps_expr (pe_bm PySem.F.plainAttrs_list PySem.F.slot_list_append PySem.F.type_list_append mt_append (pv 5) (pa_cons (pv 7) pa_nil))))))))
    (C8.pss_cut (ps_if (PW.pt (pw_and (pt_val (pv 1)) (pw_and1 (pt_cmpR op_eq (pe_call D.G hr2 (by rfl) D.m D.kp D.b .nil pass0 (pa_cons (pv 0) (pa_cons pe_int pa_nil))) pe_int (nomark _))))) (pss_one (ps_set (i := 4) scParts.nd rfl (Or.inl rfl) (pe_call O.G hr3 (by rfl) O.m O.kp O.b .nil pass0 (pa_cons (pv 0) (pa_cons (pe_lst (pa_cons pe_non (pa_cons pe_str (pa_cons pe_int (pa_cons pe_dnewK pa_nil))))) pa_nil))))) pss_nil)
    (C8.pss_cut (ps_if (PW.pt (pw_and (pt_val (pv 1)) (pw_and1 (pt_cmpR op_eq (pe_call D.G hr2 (by rfl) D.m D.kp D.b .nil pass0 (pa_cons (pv 0) (pa_cons pe_int pa_nil))) pe_int (nomark _))))) (pss_one (ps_set (i := 5) scParts.nd rfl (Or.inl rfl) (pe_call O.G hr3 (by rfl) O.m O.kp O.b .nil pass0 (pa_cons (pv 0) (pa_cons (pe_lst (pa_cons pe_non (pa_cons pe_str (pa_cons pe_int (pa_cons pe_dnewK (pa_cons pe_str pa_nil)))))) pa_nil))))) pss_nil)
    (pss_one (ps_ret (pe_lst (pa_cons (pv 3) (pa_cons (pv 4) (pa_cons (pv 5) pa_nil)))))))))))))), ?_⟩
    refine ⟨_, rfl, p, q, 3, rfl, hp, by decide, by decide, fun z1 H1 _ _ hp1 k1 => ⟨rfl, ?_⟩⟩
    generalize decide (V.int z1 = V.int 0) = o
    refine ⟨_, rfl, p, q, rfl, hp1, fun r zs H2 hr' l3 fz hp2 k2 => ?_⟩
    have k02 := k1.trans k2
    have r0 : nw H H2 r = some (.lst (zs.map V.str)) := by
      obtain ⟨e0, e1⟩ := nw_get hr'
      refine nw_at ?_ e1
      cases e : H r with
      | none => rfl
      | some u => exact absurd e0 (by rw [k1 r u e (hp1.ap e0)]; exact fun z => nomatch z)
    have nk : ∀ {Ha Hb : Hp}, Keep Ha Hb p → Same (nw H Ha) (nw H Hb) := fun kk c u e => by
      obtain ⟨e0, e1⟩ := nw_get e
      exact nw_at e0 (kk c u e1 (ne_new e0 hp.at_))
    have ns : ∀ {Ha Hb : Hp}, Keep H Ha p → HandAt Ha p q → Same (nw Ha Hb) (nw H Hb) := fun {Ha Hb} kk hh c u e => by
      obtain ⟨e0, e1⟩ := nw_get e
      refine nw_at ?_ e1
      cases e2 : H c with
      | none => rfl
      | some u => exact absurd e0 (by rw [kk c u e2 (hh.ap e0)]; exact fun z => nomatch z)
    -- the room
    refine ⟨fun σ H3 => ∃ room, σ = [some (.ref p), some (.bl o), some (.ref r), some room, none, none, none, none] ∧ HandAt H3 p q ∧ Keep H H3 p ∧ nw H H3 r = some (.lst (zs.map V.str)) ∧ ∃ n, Thing (nw H H3) room n, ?_, ?_⟩
    · have letter : ∀ H3, HandAt H3 p q → Keep H H3 p → Keep H2 H3 p → spLetters [.ref p] H3 (fun v H' => ∃ room, [some (V.ref p), some (.bl o), some (.ref r), some v, none, none, none, none] = [some (.ref p), some (.bl o), some (.ref r), some room, none, none, none, none] ∧ HandAt H' p q ∧ Keep H H' p ∧ nw H H' r = some (.lst (zs.map V.str)) ∧ ∃ n, Thing (nw H H') room n) (fun _ _ _ => False) := fun H3 h3 k3 k23 => ⟨p, q, rfl, h3, fun z H4 hz h4 k4 => ⟨_, rfl, h4, k3.trans k4, nk (k23.trans k4) _ _ r0, _, .str z, fun y e => by cases e; exact lab_len hz⟩⟩
      cases o with
      | false => exact ⟨_, rfl, _, rfl, iteF ⟨_, rfl, letter H2 hp2 k02 Keep.refl⟩⟩
      | true =>
        refine ⟨_, rfl, _, rfl, iteT ⟨_, rfl, p, q, 6, rfl, hp2, by decide, by decide, fun z2 H3 _ _ hp3 k3 => ⟨rfl, _, rfl, ?_⟩⟩⟩
        refine ite2 (fun _ => ?_) (fun _ => ?_)
        · refine ⟨_, rfl, p, q, rfl, hp3, fun x n H4 tx hp4 k4 => ?_⟩
          exact ⟨x, rfl, hp4, (k02.trans k3).trans k4, nk (k3.trans k4) _ _ r0, n, tx.keep (ns (k02.trans k3) hp3)⟩
        · exact ⟨_, rfl, letter H3 hp3 (k02.trans k3) k3⟩
    rintro σ H3 ⟨room, rfl, hp3, k3, r3, nr, tr⟩
    -- two new lists
    refine ⟨fun σ H4 => ∃ b1 b2, σ = [some (.ref p), some (.bl o), some (.ref r), some room, some (.ref b1), some (.ref b2), none, none] ∧ Two b1 b2 p q [] [] H H4 H4 ∧ N2 b1 b2 H H4 r = some (.lst (zs.map V.str)) ∧ ∃ n, Thing (N2 b1 b2 H H4) room n, ?_, ?_⟩
    · refine ⟨Nat.zero_le _, fun b1 h1 => ⟨Nat.zero_le _, fun b2 h2 => ⟨_, _, rfl, b1, b2, rfl, ?_⟩⟩⟩
      have n12 : b1 ≠ b2 := ne_of_none upd_same h2
      have free : ∀ {c : Addr}, H3 c = none → H c = none := fun {c} h => by
        cases e : H c with
        | none => rfl
        | some u => exact absurd h (by rw [k3 c u e (hp3.ap h)]; exact fun z => nomatch z)
      have h2' : H3 b2 = none := by rw [upd_ne n12.symm] at h2; exact h2
      have kk : Same H3 (upd (upd H3 b1 (.lst [])) b2 (.lst [])) := sameUpd (sameUpd (Same.refl _) h1) h2
      have up : ∀ {c : Addr} {u : HO}, nw H H3 c = some u → N2 b1 b2 H (upd (upd H3 b1 (.lst [])) b2 (.lst [])) c = some u := fun {c u} e => by
        obtain ⟨e0, e1⟩ := nw_get e
        exact N2_at (kk _ _ e1) (ne_of_none e1 h1) (ne_of_none e1 h2') e0
      exact ⟨⟨by rw [upd_ne n12]; exact upd_same, upd_same, n12, hp3.same kk, k3.trans (Same.keep kk), free h1, free h2', hp, Same.refl _⟩, up r3, nr, tr.keep fun c u e => up e⟩
    rintro σ H4 ⟨b1, b2, rfl, t4, r4, nr4, tr4⟩
    -- an odd one or one of the persons
    have stand : ∀ {xs ys : List V} {Ha Hb Hc : Hp}, Two b1 b2 p q xs ys H Ha Hb → Keep Hb Hc p → HandAt Hc p q → Two b1 b2 p q xs ys H Ha Hc := fun t k h => t.draw k h
    -- the seats
    refine ⟨fun σ H5 => ∃ xs v6, σ = [some (.ref p), some (.bl o), some (.ref r), some room, some (.ref b1), some (.ref b2), v6, none] ∧ Two b1 b2 p q xs [] H H5 H5 ∧ xs.length ≤ 4 ∧ (∀ x ∈ xs, ∃ n, Thing (N2 b1 b2 H H5) x n) ∧ Thing (N2 b1 b2 H H5) room nr4, ?_, ?_⟩
    · refine ⟨_, rfl, pick2 (o := o) [1, 2, 3, 3, 0, 4] [1, 2, 3] rfl (by decide) (by decide) fun l ns hl hn => ?_⟩
      obtain ⟨n0, n9, nb⟩ : 0 < ns.length ∧ ns.length ≤ 9 ∧ ∀ i ∈ ns, 0 ≤ i ∧ i ≤ 4 := by
        rcases hn with e | e <;> subst e <;> decide
      obtain ⟨t4', _⟩ := t4.new (o := .lst (ns.map V.int)) hl
      refine ⟨p, q, l, _, rfl, t4'.hp, upd_same, (t4.fresh hl).2.2.2.1, by rw [List.length_map]; exact n0, by rw [List.length_map]; omega, fun x H6 hx h6 k6 => ?_⟩
      obtain ⟨n, mn, rfl⟩ := List.mem_map.mp hx
      have nn := nb n mn
      have t6 := t4'.draw k6 h6
      refine ⟨n, rfl, by omega, by omega, for_range (n := n.toNat) (fun i σ H7 => ∃ xs v6, σ = [some (.ref p), some (.bl o), some (.ref r), some room, some (.ref b1), some (.ref b2), v6, none] ∧ Two b1 b2 p q xs [] H H4 H7 ∧ xs.length = i ∧ ∀ x ∈ xs, ∃ n, Thing (N2 b1 b2 H H7) x n)
        ⟨[], none, rfl, t6, rfl, fun x m => nomatch m⟩ ?_ ?_⟩
      · rintro i σ H7 hi ⟨xs, v6, rfl, t7, xl, tx⟩
        refine ⟨_, rfl, .inl ⟨rfl, _, SqL.of t7.h1⟩, odd_if (o := o) (p := p) (q := q) rfl rfl t7.hp (by decide) (by decide) fun H8 h8 k8 => ?_⟩
        have t8 := t7.draw k8 h8
        have app : ∀ (x : V) (H9 : Hp), (∃ n, Thing (N2 b1 b2 H H9) x n) → Two b1 b2 p q xs [] H H7 H9 → rAppend (.ref b1) [x] H9 (fun v H' => ∃ xs v6', [some (V.ref p), some (.bl o), some (.ref r), some room, some (.ref b1), some (.ref b2), some (V.int (0 + (i : Nat))), none] = [some (V.ref p), some (.bl o), some (.ref r), some room, some (.ref b1), some (.ref b2), v6', none] ∧ Two b1 b2 p q xs [] H H4 H' ∧ xs.length = i + 1 ∧ ∀ x ∈ xs, ∃ n, Thing (N2 b1 b2 H H') x n) := fun x H9 hx t9 => by
          have t10 := t9.put1 (xs ++ [x])
          have s910 : Same (N2 b1 b2 H H9) (N2 b1 b2 H (upd H9 b1 (.lst (xs ++ [x])))) := (t9.start.put1 (xs ++ [x])).sm
          refine ⟨b1, xs, x, rfl, rfl, t9.h1, line2 (by omega), xs ++ [x], _, rfl, ⟨t10.h1, t10.h2, t10.n12, t10.hp, t10.kp, t10.z1, t10.z2, t10.hp0, t7.sm.trans t10.sm⟩, by simp [xl], fun y m => ?_⟩
          rcases List.mem_append.mp m with m | m
          · obtain ⟨n, ty⟩ := tx y m
            exact ⟨n, ty.keep t10.sm⟩
          · rw [List.mem_singleton.mp m]
            obtain ⟨n, ty⟩ := hx
            exact ⟨n, ty.keep s910⟩
        refine ⟨⟨_, rfl, p, q, rfl, h8, fun x n H9 tx9 h9 k9 => app x H9 ⟨n, tx9.keep t8.sub⟩ (t7.start.draw (k8.trans k9) h9)⟩, ?_⟩
        refine ⟨_, rfl, (by show 1 ≤ sizeLine; decide), fun l' hl' => ?_⟩
        obtain ⟨t9, at9⟩ := t8.new (o := .lst [V.non]) hl'
        have r9 := (N2_get (t9.sm _ _ r4)).2.2.2
        refine ⟨_, rfl, l', r, _, _, rfl, rfl, upd_same, r9, Nat.le_of_lt (line2 (by simp; omega)), fun c hc => ?_⟩
        obtain ⟨t10, at10⟩ := t9.new (o := .lst ([V.non] ++ zs.map V.str)) hc
        refine ⟨p, q, c, _, rfl, t10.hp, upd_same, (t9.fresh hc).2.2.2.1, by simp, by simp; omega, fun x H11 hx h11 k11 => ?_⟩
        have fx : FlatT x := by
          rcases List.mem_append.mp hx with m | m
          · rw [List.mem_singleton.mp m]; exact flat_non
          · obtain ⟨z, mz, rfl⟩ := List.mem_map.mp m
            exact flat_str (by rw [(lab_len (fz z mz)).1, decide_eq_true (lab_len (fz z mz)).2]; rfl)
        obtain ⟨n', tx'⟩ := fx
        exact app x H11 ⟨n', tx' _⟩ ((((t7.start.draw k8 h8).new hl').1.new hc).1.draw k11 h11)
      · rintro σ H7 ⟨xs, v6, rfl, t7, xl, tx⟩
        exact ⟨xs, v6, rfl, t7.start, by omega, tx, tr4.keep t7.sm⟩
    rintro σ H5 ⟨xs, v6, rfl, t5, lx, tx, tr5⟩
    -- the clocks
    refine ⟨fun σ H6 => ∃ ys rs v6 v7, σ = [some (.ref p), some (.bl o), some (.ref r), some room, some (.ref b1), some (.ref b2), v6, v7] ∧ Two b1 b2 p q xs ys H H6 H6 ∧ ys.length ≤ 4 ∧ Paired (LRow (N2 b1 b2 H H6)) ys rs ∧ (∀ x ∈ xs, ∃ n, Thing (N2 b1 b2 H H6) x n) ∧ Thing (N2 b1 b2 H H6) room nr4, ?_, ?_⟩
    · refine ⟨_, rfl, pick2 (o := o) [0, 1, 2, 3] [0, 1, 2] rfl (by decide) (by decide) fun l ns hl hn => ?_⟩
      obtain ⟨n0, n9, nb⟩ : 0 < ns.length ∧ ns.length ≤ 9 ∧ ∀ i ∈ ns, 0 ≤ i ∧ i ≤ 4 := by
        rcases hn with e | e <;> subst e <;> decide
      obtain ⟨t5', _⟩ := t5.new (o := .lst (ns.map V.int)) hl
      refine ⟨p, q, l, _, rfl, t5'.hp, upd_same, (t5.fresh hl).2.2.2.1, by rw [List.length_map]; exact n0, by rw [List.length_map]; omega, fun x H6 hx h6 k6 => ?_⟩
      obtain ⟨n, mn, rfl⟩ := List.mem_map.mp hx
      have nn := nb n mn
      have t6 := t5'.draw k6 h6
      refine ⟨n, rfl, by omega, by omega, for_range (n := n.toNat) (fun i σ H7 => ∃ ys rs v6 v7, σ = [some (.ref p), some (.bl o), some (.ref r), some room, some (.ref b1), some (.ref b2), v6, v7] ∧ Two b1 b2 p q xs ys H H5 H7 ∧ ys.length = i ∧ Paired (LRow (N2 b1 b2 H H7)) ys rs)
        ⟨[], [], v6, none, rfl, t6, rfl, .nil⟩ ?_ ?_⟩
      · rintro i σ H7 hi ⟨ys, rs, v6, v7, rfl, t7, yl, pr⟩
        have t77 := t7.start
        -- a clock
        refine ⟨fun σ H8 => ∃ c a b, σ = [some (.ref p), some (.bl o), some (.ref r), some room, some (.ref b1), some (.ref b2), some (V.int (0 + (i : Nat))), some (.ref c)] ∧ Two b1 b2 p q xs ys H H7 H8 ∧ H7 c = none ∧ H8 c = some (.lst [a, b]) ∧ FlatT a ∧ FlatT b, ?_, ?_⟩
        · refine ⟨_, rfl, p, q, 41, rfl, t77.hp, by decide, by decide, fun z1 H8 _ _ h8 k8 => ⟨_, rfl, p, q, 2, rfl, h8, by decide, by decide, fun z2 H9 _ _ h9 k9 => ⟨rfl, (by show 2 ≤ sizeLine; decide), fun c hc => ?_⟩⟩⟩
          have t9 := t77.draw (k8.trans k9) h9
          refine ⟨c, _, _, rfl, (t9.new hc).1, ?_, upd_same, flat_int z1, flat_bl _⟩
          cases e : H7 c with
          | none => rfl
          | some u => exact absurd hc (by rw [(k8.trans k9) c u e (t9.fresh hc).2.2.2.1]; exact fun z => nomatch z)
        rintro σ H8 ⟨c, a, b, rfl, t8, c7, c8, fa, fb⟩
        refine ⟨fun σ H9 => ∃ a b, σ = [some (.ref p), some (.bl o), some (.ref r), some room, some (.ref b1), some (.ref b2), some (V.int (0 + (i : Nat))), some (.ref c)] ∧ Two b1 b2 p q xs ys H H7 H9 ∧ H9 c = some (.lst [a, b]) ∧ FlatT a ∧ FlatT b, ?_, ?_⟩
        · obtain ⟨c0, cb1, cb2, cp, cq⟩ := t77.fresh c7
          refine odd_ifS (o := o) (p := p) (q := q) rfl rfl t8.hp (by decide) (by decide) fun H9 h9 k9 => ⟨?_, a, b, rfl, t8.draw k9 h9, k9 _ _ c8 cp, fa, fb⟩
          have t9 := t8.draw k9 h9
          have c9 := k9 _ _ c8 cp
          refine ⟨_, rfl, _, rfl, (by show 7 ≤ sizeLine; decide), fun l hl => ?_⟩
          obtain ⟨t10, _⟩ := t9.new (o := .lst [V.int (-1), V.int 41, V.non, V.bl true, V.int 0, V.int 1, V.str "a"]) hl
          refine ⟨p, q, l, _, rfl, t10.hp, upd_same, (t9.fresh hl).2.2.2.1, (by show 0 < 7; decide), (by show 7 ≤ 1000; decide), fun x H11 hx h11 k11 => ?_⟩
          have fx : FlatT x := by
            simp only [List.mem_cons, List.not_mem_nil, or_false] at hx
            rcases hx with e | e | e | e | e | e | e <;> subst e
            · exact flat_int _
            · exact flat_int _
            · exact flat_non
            · exact flat_bl _
            · exact flat_int _
            · exact flat_int _
            · exact flat_str (by decide +kernel)
          have t11 := t10.draw k11 h11
          have c11 := k11 _ _ (show upd H9 l _ c = some (.lst [a, b]) by rw [upd_ne (ne_of_none c9 hl)]; exact c9) cp
          refine ⟨_, rfl, _, rfl, p, q, 2, rfl, h11, by decide, by decide, fun j H12 j0 j1 h12 k12 => ?_⟩
          have t12 := t11.draw k12 h12
          have c12 := k12 _ _ c11 cp
          rcases (by omega : j = 0 ∨ j = 1) with e | e <;> subst e
          · exact ⟨c, _, 0, 0, rfl, rfl, c12, (by show ixN 2 0 = some 0; decide), x, b, rfl, t12.chg c7 c0 cb1 cb2 cp cq, upd_same, fx, fb⟩
          · exact ⟨c, _, 1, 1, rfl, rfl, c12, (by show ixN 2 1 = some 1; decide), a, x, rfl, t12.chg c7 c0 cb1 cb2 cp cq, upd_same, fa, fx⟩
        rintro σ H9 ⟨a, b, rfl, t9, c9, fa, fb⟩
        refine ⟨fun σ H10 => ∃ y rw', σ = [some (.ref p), some (.bl o), some (.ref r), some room, some (.ref b1), some (.ref b2), some (V.int (0 + (i : Nat))), some y] ∧ Two b1 b2 p q xs ys H H7 H10 ∧ LRow (N2 b1 b2 H H10) y rw', ?_, ?_⟩
        · obtain ⟨c0, cb1, cb2, cp, cq⟩ := t77.fresh c7
          obtain ⟨na, ta⟩ := fa
          obtain ⟨nb', tb⟩ := fb
          refine odd_ifS (o := o) (p := p) (q := q) rfl rfl t9.hp (by decide) (by decide) fun H10 h10 k10 => ⟨?_, .ref c, some (a, b), rfl, t9.draw k10 h10, .lst (N2_at (k10 _ _ c9 cp) cb1 cb2 c0) (ta _) (tb _)⟩
          have t10 := t9.draw k10 h10
          have c10 := k10 _ _ c9 cp
          have e1 : cutV [a, b] none (some 1) = [a] := cut_take [a, b] 1 (by simp)
          refine ⟨_, rfl, _, rfl, _, rfl, c, _, rfl, SqL.of c10, fun s1 hs1 => ?_⟩
          rw [e1]
          obtain ⟨u1, at1⟩ := t10.new (o := .lst [a]) hs1
          refine ⟨_, rfl, (by show 1 ≤ sizeLine; decide), fun l1 hl1 => ⟨c, l1, [a, b], [V.bl true], rfl, rfl, ?_, upd_same, (by show 3 ≤ sizeLine; decide), fun l2 hl2 => fun d hd => ⟨(by show 6 ≤ sizeLine; decide), fun l hl => ?_⟩⟩⟩
          · rw [upd_ne (ne_of_none (b := l1) (by rw [upd_ne (ne_of_none c10 hs1)]; exact c10) hl1), upd_ne (ne_of_none c10 hs1)]
            exact c10
          obtain ⟨u2, at2⟩ := u1.new (o := .lst [V.bl true]) hl1
          obtain ⟨u3, at3⟩ := u2.new (o := .lst ([a, b] ++ [V.bl true])) hl2
          obtain ⟨u4, at4⟩ := u3.new (o := .dK []) hd
          obtain ⟨u5, at5⟩ := u4.new (o := .lst [V.ref s1, V.non, V.int 3, V.str "ab", V.ref l2, V.ref d]) hl
          refine ⟨p, q, l, _, rfl, u5.hp, upd_same, (u4.fresh hl).2.2.2.1, (by show 0 < 6; decide), (by show 6 ≤ 1000; decide), fun x H11 hx h11 k11 => ?_⟩
          have t11 := u5.draw k11 h11
          have a1 : N2 b1 b2 H H11 s1 = some (.lst [a]) := ((((((u1.start.new hl1).1.new hl2).1.new hd).1.new hl).1.draw k11 h11).sm) _ _ at1
          have a3 : N2 b1 b2 H H11 l2 = some (.lst ([a, b] ++ [V.bl true])) := ((((u3.start.new hd).1.new hl).1.draw k11 h11).sm) _ _ at3
          have a4 : N2 b1 b2 H H11 d = some (.dK []) := (((u4.start.new hl).1.draw k11 h11).sm) _ _ at4
          simp only [List.mem_cons, List.not_mem_nil, or_false] at hx
          rcases hx with e | e | e | e | e | e <;> subst e
          · exact ⟨_, none, rfl, t11, .lstN a1 (by show 1 ≠ 2; decide)⟩
          · exact ⟨_, none, rfl, t11, .oth .non rfl⟩
          · exact ⟨_, none, rfl, t11, .oth (.int _) rfl⟩
          · exact ⟨_, none, rfl, t11, .oth (.str _) rfl⟩
          · exact ⟨_, none, rfl, t11, .lstN a3 (by show 3 ≠ 2; decide)⟩
          · exact ⟨_, none, rfl, t11, .oth (.dct _ _ a4) rfl⟩
        rintro σ H10 ⟨y, rw', rfl, t10, ly⟩
        have t11 := t10.put2 (ys ++ [y])
        refine ⟨_, rfl, .inl ⟨rfl, _, SqL.of t10.h2⟩, _, rfl, b2, ys, y, rfl, rfl, t10.h2, line2 (by omega), ys ++ [y], rs ++ [rw'], _, _, rfl, ⟨t11.h1, t11.h2, t11.n12, t11.hp, t11.kp, t11.z1, t11.z2, t11.hp0, t7.sm.trans t11.sm⟩, by simp [yl], pr_app (pr_imp pr fun _ _ q => q.keep t11.sm) (.cons (ly.keep (t10.start.put2 (ys ++ [y])).sm) .nil)⟩
      · rintro σ H7 ⟨ys, rs, v6, v7, rfl, t7, yl, pr⟩
        exact ⟨ys, rs, v6, v7, rfl, t7.start, by omega, pr, (fun x m => (tx x m).imp fun n q => q.keep t7.sm), tr5.keep t7.sm⟩
    rintro σ H6 ⟨ys, rs, v6, v7, rfl, t6, ly, pr, tx, tr6⟩
    -- one may be no list at all
    have nS : LSeats (nw H H6) (.ref b1) (some xs) := .lst (nw_at t6.z1 t6.h1) (fun x m => (tx x m).imp fun n q => q.keep N2_nw) (by omega)
    have nC : LClks (nw H H6) (.ref b2) (some rs) := .lst (nw_at t6.z2 t6.h2) (pr_imp pr fun _ _ q => q.keep N2_nw) (by rw [← Paired.length pr]; omega)
    have nR : Thing (nw H H6) room nr4 := tr6.keep N2_nw
    have kp6 := t6.kp
    have hp6 := t6.hp
    clear t6 tx tr6 pr
    refine ⟨fun σ H7 => ∃ sv so, σ = [some (.ref p), some (.bl o), some (.ref r), some room, some sv, some (.ref b2), v6, v7] ∧ HandAt H7 p q ∧ Keep H H7 p ∧ LSeats (nw H H7) sv so ∧ LClks (nw H H7) (.ref b2) (some rs) ∧ Thing (nw H H7) room nr4, ?_, ?_⟩
    · refine odd_ifS (o := o) (p := p) (q := q) rfl rfl hp6 (by decide) (by decide) fun H7 h7 k7 => ⟨?_, _, _, rfl, h7, kp6.trans k7, nS.keep (nk k7), nC.keep (nk k7), nR.keep (nk k7)⟩
      refine ⟨_, rfl, fun d hd => ⟨(by show 4 ≤ sizeLine; decide), fun l hl => ?_⟩⟩
      have s1 := sameUpd (o := .dK []) (Same.refl H7) hd
      have s2 := sameUpd (o := .lst [V.non, V.str "ab", V.int 3, V.ref d]) s1 hl
      have h8 := h7.same s2
      have dat : upd (upd H7 d (.dK [])) l (.lst [V.non, V.str "ab", V.int 3, V.ref d]) d = some (.dK []) := by rw [upd_ne (ne_of_none upd_same hl)]; exact upd_same
      refine ⟨p, q, l, _, rfl, h8, upd_same, (h7.same s1).ap hl, (by show 0 < 4; decide), (by show 4 ≤ 1000; decide), fun x H9 hx h9 k9 => ?_⟩
      have k69 : Keep H6 H9 p := k7.trans ((Same.keep s2).trans k9)
      have dN : nw H H9 d = some (.dK []) := by
        refine ns (kp6.trans k7) h7 d _ (nw_at hd (k9 _ _ dat (h7.ap hd)))
      have fin : LSeats (nw H H9) x none := by
        simp only [List.mem_cons, List.not_mem_nil, or_false] at hx
        rcases hx with e | e | e | e <;> subst e
        · exact .oth .non rfl
        · exact .oth (.str _) rfl
        · exact .oth (.int _) rfl
        · exact .oth (.dct _ _ dN) rfl
      exact ⟨x, none, rfl, h9, kp6.trans k69, fin, nC.keep (nk k69), nR.keep (nk k69)⟩
    rintro σ H7 ⟨sv, so, rfl, h7, k7, nS7, nC7, nR7⟩
    refine ⟨fun σ H8 => ∃ cv co, σ = [some (.ref p), some (.bl o), some (.ref r), some room, some sv, some cv, v6, v7] ∧ HandAt H8 p q ∧ Keep H H8 p ∧ LSeats (nw H H8) sv so ∧ LClks (nw H H8) cv co ∧ Thing (nw H H8) room nr4, ?_, ?_⟩
    · refine odd_ifS (o := o) (p := p) (q := q) rfl rfl h7 (by decide) (by decide) fun H8 h8 k8 => ⟨?_, _, _, rfl, h8, k7.trans k8, nS7.keep (nk k8), nC7.keep (nk k8), nR7.keep (nk k8)⟩
      refine ⟨_, rfl, fun d hd => ⟨(by show 5 ≤ sizeLine; decide), fun l hl => ?_⟩⟩
      have s1 := sameUpd (o := .dK []) (Same.refl H8) hd
      have s2 := sameUpd (o := .lst [V.non, V.str "ab", V.int 3, V.ref d, V.str "use"]) s1 hl
      have h9 := h8.same s2
      have dat : upd (upd H8 d (.dK [])) l (.lst [V.non, V.str "ab", V.int 3, V.ref d, V.str "use"]) d = some (.dK []) := by rw [upd_ne (ne_of_none upd_same hl)]; exact upd_same
      refine ⟨p, q, l, _, rfl, h9, upd_same, (h8.same s1).ap hl, (by show 0 < 5; decide), (by show 5 ≤ 1000; decide), fun x H10 hx h10 k10 => ?_⟩
      have k710 : Keep H7 H10 p := k8.trans ((Same.keep s2).trans k10)
      have dN : nw H H10 d = some (.dK []) := by
        refine ns (k7.trans k8) h8 d _ (nw_at hd (k10 _ _ dat (h8.ap hd)))
      have fin : LClks (nw H H10) x none := by
        simp only [List.mem_cons, List.not_mem_nil, or_false] at hx
        rcases hx with e | e | e | e | e <;> subst e
        · exact .oth .non rfl
        · exact .oth (.str _) rfl
        · exact .oth (.int _) rfl
        · exact .oth (.dct _ _ dN) rfl
        · exact .oth (.str _) rfl
      exact ⟨x, none, rfl, h10, k7.trans k710, nS7.keep (nk k710), fin, nR7.keep (nk k710)⟩
    rintro σ H8 ⟨cv, co, rfl, h8, k8, nS8, nC8, nR8⟩
    refine ⟨_, rfl, _, rfl, _, rfl, (by show 3 ≤ sizeLine; decide), fun a ha => ?_⟩
    have s1 := sameUpd (o := .lst [room, sv, cv]) (Same.refl H8) ha
    have a0 : H a = none := by
      cases e : H a with
      | none => rfl
      | some u => exact absurd ha (by rw [k8 a u e (h8.ap ha)]; exact fun z => nomatch z)
    have nn := nk (Same.keep (p := p) s1)
    have nw' : Same (nw H H8) (wo a (nw H (upd H8 a (.lst [room, sv, cv])))) := fun c u e => wo_at (nn c u e) (ne_of_none (nw_get e).2 ha)
    exact k a room sv cv so co _ ⟨nw_at a0 upd_same, ⟨_, nR8.keep nw'⟩, nS8.keep nw', nC8.keep nw'⟩ (h8.same s1) (k8.trans (Same.keep s1))
end
end Kx

set_option maxHeartbeats 8000000
namespace Kx
open PySem L2
theorem LSeats.kd {N : Hp} {y : V} {r : Option (List V)} (h : LSeats N y r) : ∃ n, Kd N y n ∧ (n == "list") = r.isSome := by
  cases h with
  | lst h t l => exact ⟨_, .lst _ _ h, rfl⟩
  | oth h l =>
    refine ⟨_, h, ?_⟩
    cases h <;> first | rfl | cases l
theorem LClks.kd {N : Hp} {y : V} {r : Option (List (Option (V × V)))} (h : LClks N y r) : ∃ n, Kd N y n ∧ (n == "list") = r.isSome := by
  cases h with
  | lst h t l => exact ⟨_, .lst _ _ h, rfl⟩
  | oth h l =>
    refine ⟨_, h, ?_⟩
    cases h <;> first | rfl | cases l
theorem kd_okV {N : Hp} {y : V} {n : String} (h : Kd N y n) : okV y := by
  cases h with
  | non => exact .inl rfl
  | bl b => exact .inl rfl
  | int i => exact .inl rfl
  | str z => exact .inl rfl
  | lst a xs h => exact .inr ⟨a, rfl⟩
  | tup a xs h => exact .inr ⟨a, rfl⟩
  | dct a xs h => exact .inr ⟨a, rfl⟩
theorem any_at {xs : List V} {f : V → Bool} : (∀ i, i < xs.length → (match xs[i]? with | some x => f x | none => false) = false) ↔ xs.any f = false := by
  constructor
  · intro h
    refine List.any_eq_false.mpr fun x m => ?_
    obtain ⟨i, hi⟩ := List.mem_iff_getElem?.mp m
    have q := h i (List.getElem?_eq_some_iff.mp hi).1
    rw [hi] at q
    have q : f x = false := q
    rw [q]
    decide
  · intro h i hi
    rw [List.getElem?_eq_getElem hi]
    exact Bool.eq_false_iff.mpr (List.any_eq_false.mp h _ (List.getElem_mem hi))
def spWordL : Sp := fun vs H Q _ => ∃ (a : Addr) (room sv cv : V) (so : Option (List V)) (co : Option (List (Option (V × V)))), vs = [.ref a] ∧ PartsAt H a room sv cv so co ∧ ∀ H', Same H H' → Q (wordV (standDue room so co)) H'
section
variable {P : Program} {w : World} {K : PySem.W.Frag} {mg : Str → Option Value} {base : Heap}
abbrev nWord : List Str := ["_law_parts_here", "_law_clock", "_law_one_here"]
theorem scWordL : FnScope nWord ["_law_parts_here"] (defScope sWord) := ⟨rfl, rfl, rfl, by decide +kernel, rfl, by decide +kernel, by decide +kernel⟩
theorem ok_wordL {f : Addr} {fd : FuncData} (F : Fun K "_law_word" "_law_word" sWord f fd) (m : mg "_law_word" = some (.ref f)) (T : Bl mg) (B : Bm mg) (L : HasF P w K mg base "_law_label" 1 ["_law_thing"] spLLab) (W : HasF P w K mg base "_law_whole" 1 ["_law_thing"] spLWhole) : HasF P w K mg base "_law_word" 4 ["_law_parts_here"] spWordL := by
  refine ⟨f, fd, ?_, m, F.kp, F.binds fun _ _ _ _ _ _ us hl => match us, hl with | [_], _ => rfl⟩
  obtain ⟨f1, fd1, L⟩ := L; obtain ⟨f2, fd2, W⟩ := W
  refine F.ok scWordL (fun vs H Q E h => ?_) (fun cdv A outer s H vs Q E hr h => ?_)
  · obtain ⟨a, b, c, d, e, g, rfl, _⟩ := h
    rfl
  · obtain ⟨a, room, sv, cv, so, co, rfl, hp, k⟩ := h
    have hr1 : Room 1 _ := hr.mono (by decide)
    refine ⟨_, (C8.pss_cut (ps_if (pt_not (pt_val (pe_call L.G hr1 (by rfl) L.m L.kp L.b .nil pass0 (pa_cons (pe_ix ix_seq (pv 0) pe_int (fun _ _ => rfl)) pa_nil)))) (pss_one (ps_ret pe_str)) pss_nil)
    (C8.pss_cut (ps_if (PW.pt (pw_or (pt_not (pt_val (pe_callB call_isi (by rfl) B.isinstance (by decide +kernel) (pa_cons (pe_ix ix_seq (pv 0) pe_int (fun _ _ => rfl)) (pa_cons (pe_bltn (v := .ty "list") (by rfl) B.list (by decide +kernel) rfl) pa_nil))))) (pw_or1 (pt_not (pt_chain op_le op_le pe_int (pe_callB call_len_seq (by rfl) T.len PySem.boot_len (pa_cons (pe_ix ix_seq (pv 0) pe_int (fun _ _ => rfl)) pa_nil)) pe_int))))) (pss_one (ps_ret pe_str)) pss_nil)
    (C8.pss_cut (ps_if (pt_cmpR (op_neL hr.units) (pe_lc (own := [("_law_one_here", 2)]) (g := gName 2) (by rfl) scWordL.nd (pi_seq (pe_ix ix_seq (pv 0) pe_int (fun _ _ => rfl))) (blkOk_by (own := [("_law_one_here", 2)]) (N := nWord) (sc := defScope sWord) (by decide +kernel))
            (fun _ _ _ _ _ => pg_name (i := 2) scWordL.nd rfl (Or.inl rfl)) (fun _ _ _ _ _ => pts_one (PW.pt (pw_and (pt_cmpR op_notN (pv 2) pe_non (nomark _)) (pw_and1 (pt_not (pt_val (pe_call L.G hr1 (by rfl) L.m L.kp L.b .nil pass0 (pa_cons (pv 2) pa_nil)))))))) (fun _ _ _ _ _ => (pv 2))) (pe_lst pa_nil) (nomark _)) (pss_one (ps_ret pe_str)) pss_nil)
    (C8.pss_cut (ps_if (PW.pt (pw_or (pt_not (pt_val (pe_callB call_isi (by rfl) B.isinstance (by decide +kernel) (pa_cons (pe_ix ix_seq (pv 0) pe_int (fun _ _ => rfl)) (pa_cons (pe_bltn (v := .ty "list") (by rfl) B.list (by decide +kernel) rfl) pa_nil))))) (pw_or1 (pt_cmpR op_gt (pe_callB call_len_seq (by rfl) T.len PySem.boot_len (pa_cons (pe_ix ix_seq (pv 0) pe_int (fun _ _ => rfl)) pa_nil)) pe_int (nomark _))))) (pss_one (ps_ret pe_str)) pss_nil)
    (pss_cons (ps_for PassesOwn.never rfl (pi_seq (pe_ix ix_seq (pv 0) pe_int (fun _ _ => rfl))) (pg_name (i := 1) scWordL.nd rfl (.inl rfl))
        (C8.pss_cut (ps_if (PW.pt (pw_or (pt_not (pt_val (pe_callB call_isiT (by rfl) B.isinstance (by decide +kernel) (pa_cons (pv 1) (pa_cons (pe_tup (pa_cons (pe_bltn (v := .ty "list") (by rfl) B.list (by decide +kernel) rfl) (pa_cons (pe_bltn (v := .ty "tuple") (by rfl) B.tuple (by decide +kernel) rfl) pa_nil))) pa_nil))))) (pw_or1 (pt_cmpR op_ne (pe_callB call_len_seq (by rfl) T.len PySem.boot_len (pa_cons (pv 1) pa_nil)) pe_int (nomark _))))) (pss_one (ps_ret pe_str)) pss_nil)
    (C8.pss_cut (ps_if (PW.pt (pw_or (pt_not (pt_val (pe_call W.G hr1 (by rfl) W.m W.kp W.b .nil pass0 (pa_cons (pe_ix ix_seq (pv 1) pe_int (fun _ _ => rfl)) pa_nil)))) (pw_or1 (pt_not (pt_chain op_le op_le pe_int (pe_ix ix_seq (pv 1) pe_int (fun _ _ => rfl)) pe_int))))) (pss_one (ps_ret pe_str)) pss_nil)
    (pss_one (ps_if (pt_not (pt_val (pe_callB call_isi (by rfl) B.isinstance (by decide +kernel) (pa_cons (pe_ix ix_seq (pv 1) pe_int (fun _ _ => rfl)) (pa_cons (pe_bltn (v := .ty "bool") (by rfl) B.bool (by decide +kernel) rfl) pa_nil))))) (pss_one (ps_ret pe_str)) pss_nil)))))
    (pss_one (ps_ret pe_non))))))), ?_⟩
    obtain ⟨nr, tr⟩ := hp.room
    have ix : ∀ {H' : Hp} {i : Int} {v : V} {Q' : V → Hp → Prop}, Same H H' → atI [room, sv, cv] i = some v → Q' v H' → rIx K (.ref a) (.int i) H' Q' := fun s e q => .inl ⟨_, _, _, _, rfl, rfl, SqL.of (s _ _ hp.at_), e, q⟩
    -- the room
    refine ⟨fun σ H1 => labV room = true ∧ σ = [some (.ref a), none, none] ∧ Same H H1, ?_, ?_⟩
    · refine ⟨_, rfl, ix (Same.refl _) (atI0 _ _) ⟨room, nr, rfl, tr.kd, tr.fine, fun H1 s1 => ⟨_, rfl, ?_⟩⟩⟩
      cases e1 : labV room with
      | false => exact iteT (by have q := k H1 s1; rw [show standDue room so co = some "room" by unfold standDue; rw [e1]; rfl] at q; exact q)
      | true => exact iteF ⟨rfl, rfl, s1⟩
    rintro σ H1 ⟨e1, rfl, s1⟩
    rw [show standDue room so co = restDue so co from if_pos e1] at k
    -- the seats
    refine ⟨fun σ H2 => ∃ b xs, sv = .ref b ∧ so = some xs ∧ 1 ≤ xs.length ∧ xs.length ≤ 3 ∧ H b = some (.lst xs) ∧ (∀ x ∈ xs, ∃ n, Thing H x n) ∧ σ = [some (.ref a), none, none] ∧ Same H H2, ?_, ?_⟩
    · obtain ⟨n, kd, en⟩ := hp.seats.kd
      have kd1 := kd.keep s1
      refine ⟨_, rfl, ix s1 (atI1 _ _ _) ⟨sv, _, _, _, _, rfl, .ty _, kd1.ty, kit_ty (kit_list kd1.kits), _, rfl, ?_⟩⟩
      rw [en]
      cases hp.seats with
      | oth h l => exact iteT (by have q := k H1 s1; rw [restDue_some rfl] at q; exact q)
      | lst h t l =>
        rename_i b xs
        refine iteF ⟨_, rfl, ix s1 (atI1 _ _ _) ⟨_, _, rfl, .inl (SqL.of (s1 _ _ h)), _, _, rfl, rfl, _, rfl, ?_⟩⟩
        have no : ¬ (1 ≤ xs.length ∧ xs.length ≤ 3) → Q (.str "seats") H1 := fun e => by
          have q := k H1 s1
          rw [restDue_some (show seatsDue (some xs) = some (Str.ofString "seats") from if_neg e)] at q
          exact q
        refine ite2 (fun h1 => ?_) (fun h1 => ?_)
        · have h1 := of_decide_eq_true h1
          refine ⟨_, _, rfl, rfl, _, rfl, ?_⟩
          refine ite2 (fun h2 => ?_) (fun h2 => ?_)
          · have h2 : ¬ ((xs.length : Nat) : Int) ≤ 3 := fun e => by rw [decide_eq_true e] at h2; cases h2
            exact no (by omega)
          · have h2 : ((xs.length : Nat) : Int) ≤ 3 := by
              by_cases q : ((xs.length : Nat) : Int) ≤ 3
              · exact q
              · rw [decide_eq_false q] at h2
                exact absurd rfl h2
            exact ⟨b, xs, rfl, rfl, by omega, by omega, h, t, rfl, s1⟩
        · have h1 : ¬ (1 : Int) ≤ ((xs.length : Nat) : Int) := fun e => h1 (decide_eq_true e)
          exact ⟨_, rfl, iteT (no (by omega))⟩
    rintro σ H2 ⟨b, xs, rfl, rfl, l1, l3, hb, ht, rfl, s2⟩
    have sd2 : seatsDue (some xs) = (if xs.any badS then some (Str.ofString "person") else none) := if_pos ⟨l1, l3⟩
    -- the persons
    refine ⟨fun σ H3 => xs.any badS = false ∧ σ = [some (.ref a), none, none] ∧ Same H H3, ?_, ?_⟩
    · refine ⟨_, rfl, ix s2 (atI1 _ _ _) ⟨b, rfl, lc_filt (g := gName 2) (fun j => match xs[j]? with | some x => badS x | none => false) (IsSeq.lst (s2 _ _ hb)) (Same.refl _) (by omega) ?_ ?_⟩⟩
      · intro D2 j x H6 kt kf hj hD2 s6 _ kt' kf'
        rw [hj] at kt' kf'
        obtain ⟨nx, tx⟩ := ht x (List.mem_of_getElem? hj)
        have tx6 := tx.keep (s2.trans s6)
        by_cases xn : x = .non
        · subst xn
          exact ⟨rfl, _, rfl, rfl, _, rfl, iteF ((if_neg (by decide)).mpr (kf' rfl _ (Same.refl _)))⟩
        · have nf : decide (x = .non) = false := decide_eq_false xn
          have eb : badS x = !labV x := by
            cases x with
            | non => exact absurd rfl xn
            | _ => rfl
          refine ⟨rfl, _, rfl, rfl, _, rfl, ?_⟩
          rw [nf]
          refine iteT ⟨_, rfl, x, nx, rfl, tx6.kd, tx6.fine, fun H7 s7 => ⟨_, rfl, ?_⟩⟩
          have bx : badS x = !labV x := eb
          cases e5 : labV x with
          | false => exact (if_pos rfl).mpr ⟨_, rfl, kt' (by show badS x = true; rw [bx, e5]; rfl) _ _ (kd_okV tx6.kd) s7⟩
          | true => exact (if_neg (by decide)).mpr (kf' (by show badS x = false; rw [bx, e5]; rfl) _ s7)
      · intro D2 ys H6 hD2 s6 hd6 ly ok ey
        refine ⟨Nat.zero_le _, fun l hl => ne_nil (K := K) (by rw [upd_ne (ne_of_none hd6 hl)]; exact hd6) ok l upd_same ⟨_, rfl, ?_⟩⟩
        have s7 : Same H (upd H6 l (.lst [])) := sameUpd (s2.trans s6) hl
        have all : (ys = [] ↔ xs.any badS = false) := ey.trans any_at
        cases ys with
        | nil => exact iteF ⟨all.mp rfl, rfl, s7⟩
        | cons y ys =>
          have e : xs.any badS = true := by
            cases q : xs.any badS with
            | true => rfl
            | false => exact absurd (all.mpr q) (by simp)
          have q := k _ s7
          rw [restDue_some (by rw [sd2, e]; rfl)] at q
          exact iteT q
    rintro σ H3 ⟨al, rfl, s3⟩
    rw [restDue_none (by rw [sd2, al]; rfl)] at k
    -- the clocks
    refine ⟨fun σ H4 => ∃ c ys rs, cv = .ref c ∧ co = some rs ∧ rs.length ≤ 2 ∧ H c = some (.lst ys) ∧ Paired (LRow H) ys rs ∧ σ = [some (.ref a), none, none] ∧ Same H H4, ?_, ?_⟩
    · obtain ⟨n, kd, en⟩ := hp.clocks.kd
      have kd1 := kd.keep s3
      refine ⟨_, rfl, ix s3 (atI2 _ _ _ _) ⟨cv, _, _, _, _, rfl, .ty _, kd1.ty, kit_ty (kit_list kd1.kits), _, rfl, ?_⟩⟩
      rw [en]
      cases hp.clocks with
      | oth h l => exact iteT (k H3 s3)
      | lst h t l =>
        rename_i c ys rs
        have ln := Paired.length t
        refine iteF ⟨_, rfl, ix s3 (atI2 _ _ _ _) ⟨_, _, rfl, .inl (SqL.of (s3 _ _ h)), _, _, rfl, rfl, _, rfl, ?_⟩⟩
        refine ite2 (fun h1 => ?_) (fun h1 => ?_)
        · have h1 := of_decide_eq_true h1
          have q := k H3 s3
          rw [show clocksDue (some rs) = some (Str.ofString "clocks") from if_neg (by omega)] at q
          exact q
        · have h1 : ¬ ((2 : Int) < ((ys.length : Nat) : Int)) := fun e => h1 (decide_eq_true e)
          exact ⟨c, ys, rs, rfl, rfl, by omega, h, t, rfl, s3⟩
    rintro σ H4 ⟨c, ys, rs, rfl, rfl, l2, hc, hrs, rfl, s4⟩
    rw [show clocksDue (some rs) = scanC rs from if_pos l2] at k
    have ln := Paired.length hrs
    refine ⟨_, rfl, ix s4 (atI2 _ _ _ _) ⟨c, rfl, for_sq (IsSeq.lst hc) (fun i σ H5 => ∃ v1, σ = [some (.ref a), v1, none] ∧ Same H H5 ∧ scanC rs = scanC (rs.drop i)) ⟨none, rfl, s4, rfl⟩ (fun i σ H5 ⟨_, _, q, _⟩ => q) ?_ ?_⟩⟩
    · rintro i x σ H5 hi ⟨v1, rfl, s5, sc⟩
      obtain ⟨r, hr', dx'⟩ := pr_get hrs hi
      have st : scanC (rs.drop i) = (match clockWord r with | some w => some w | none => scanC (rs.drop (i + 1))) := by
        rw [List.drop_eq_getElem_cons (List.getElem?_eq_some_iff.mp hr').1, (List.getElem?_eq_some_iff.mp hr').2]
        rfl
      rw [st] at sc
      have bad : ∀ w', clockWord r = some w' → ∀ H', Same H H' → Q (.str w') H' := fun w' e H' s => by
        have q := k H' s
        rw [sc, e] at q
        exact q
      have good : clockWord r = none → scanC rs = scanC (rs.drop (i + 1)) := fun e => by rw [sc, e]
      -- a pair
      refine ⟨fun σ H6 => ∃ c2 u v t1 t2, x = .ref c2 ∧ r = some (u, v) ∧ H c2 = some (.lst [u, v]) ∧ Thing H u t1 ∧ Thing H v t2 ∧ σ = [some (.ref a), some (.ref c2), none] ∧ Same H H6, ?_, ?_⟩
      · obtain ⟨n, kd, kn⟩ := dx'.row.kd
        have kd5 := kd.keep s5
        refine ⟨_, rfl, (by show 2 ≤ sizeLine; decide), fun t ht' => ?_⟩
        have s6 := sameUpd (o := .tup [.ty "list", .ty "tuple"]) s5 ht'
        refine ⟨x, t, _, _, _, _, rfl, upd_same, .cons (.ty _) (.cons (.ty _) .nil), (kd.keep s6).ty, kit_seq kd.kits, _, rfl, ?_⟩
        cases e : seqV n with
        | false =>
          have er := kn e
          exact iteT (bad _ (by rw [er]; rfl) _ s6)
        | true =>
          refine iteF ?_
          cases dx' with
          | lst h hx hy => exact ⟨_, rfl, _, _, rfl, .inl (SqL.of (s6 _ _ h)), rfl, _, rfl, iteF ⟨_, _, _, _, _, rfl, rfl, h, hx, hy, rfl, s6⟩⟩
          | lstN h l =>
            refine ⟨_, rfl, _, _, rfl, .inl (SqL.of (s6 _ _ h)), rfl, _, rfl, ?_⟩
            rw [decide_eq_false (fun e => l (by have := V.int.inj e; omega))]
            exact iteT (bad _ rfl _ s6)
          | oth h l =>
            rw [← kd.uniq h, e] at l
            cases l
      rintro σ H6 ⟨c2, u, v, t1, t2, rfl, rfl, h2, hu, hv, rfl, s6⟩
      have ixc : ∀ {H' : Hp} {i : Int} {y : V} {Q' : V → Hp → Prop}, Same H H' → atI [u, v] i = some y → Q' y H' → rIx K (.ref c2) (.int i) H' Q' := fun s e q => .inl ⟨_, _, _, _, rfl, rfl, SqL.of (s _ _ h2), e, q⟩
      have cw : clockWord (some (u, v)) = (if wholeV u 0 40 = true then (if isB v = true then none else some (Str.ofString "running")) else some (Str.ofString "number")) := rfl
      -- the number
      refine ⟨fun σ H7 => wholeV u 0 40 = true ∧ σ = [some (.ref a), some (.ref c2), none] ∧ Same H H7, ?_, ?_⟩
      · refine ⟨_, rfl, ixc s6 (atI0 _ _) ⟨u, t1, rfl, (hu.keep s6).kd, _, rfl, ?_⟩⟩
        cases u with
        | int j =>
          refine iteF ⟨_, rfl, ixc s6 (atI0 _ _) ⟨_, _, rfl, rfl, _, rfl, ?_⟩⟩
          refine ite2 (fun q1 => ?_) (fun q1 => ?_)
          · have q1 : 0 ≤ j := of_decide_eq_true q1
            refine ⟨_, _, rfl, rfl, _, rfl, ?_⟩
            have ew : wholeV (.int j) 0 40 = decide (j ≤ 40) := by simp [wholeV, q1]
            refine ite2 (fun q2 => ?_) (fun q2 => ?_)
            · have q2 : ¬ j ≤ 40 := fun e => by rw [decide_eq_true e] at q2; cases q2
              exact bad _ (by rw [cw, ew, decide_eq_false q2]; rfl) _ s6
            · have q2 : j ≤ 40 := by
                by_cases z : j ≤ 40
                · exact z
                · rw [decide_eq_false z] at q2
                  exact absurd rfl q2
              exact ⟨by rw [ew, decide_eq_true q2], rfl, s6⟩
          · have q1 : ¬ 0 ≤ j := fun e => q1 (decide_eq_true e)
            have ew : wholeV (.int j) 0 40 = false := by simp [wholeV, q1]
            exact ⟨_, rfl, iteT (bad _ (by rw [cw, ew]; rfl) _ s6)⟩
        | _ => exact iteT (bad _ (by rw [cw]; rfl) _ s6)
      rintro σ H7 ⟨wu, rfl, s7⟩
      refine ⟨_, rfl, ixc s7 (atI1 _ _ _) ⟨v, _, _, _, _, rfl, .ty _, (hv.keep s7).kd.ty, kit_ty (kit_bool hv.kd.kits), _, rfl, ?_⟩⟩
      have e6 : (t2 == "bool") = isB v := by
        cases hv.kd <;> rfl
      rw [e6]
      cases e7 : isB v with
      | false => exact iteT (bad _ (by rw [cw, wu, e7]; rfl) _ s7)
      | true => exact iteF ⟨_, rfl, s7, good (by rw [cw, wu, e7]; rfl)⟩
    · rintro σ H5 ⟨v1, rfl, s5, sc⟩
      have q := k H5 s5
      rw [sc, ln, List.drop_length] at q
      exact q
end
end Kx

set_option maxHeartbeats 8000000
namespace Kx
open PySem L2
/-- what is known of an own error that is caught: of its kind, of SearchError, ValueError, not of another -/
structure ErX (K : PySem.W.Frag) (mg : Str → Option Value) (x : Str) (CB CS CO : Addr) (y : Str) : Prop where
  m : mg x = some (.ref CB)
  mS : mg "SearchError" = some (.ref CS)
  mO : mg y = some (.ref CO)
  XB : XfC K CB
  EB : ExcC K CB
  n1 : PySem.W.findIn K (.ref CB) "what" = some none
  tB : PySem.W.exmOne K (.ref CB) (.ref CB) = some true
  kS : PySem.W.kitOne K (.ref CB) (.ref CS) = some true
  kV : PySem.W.kitOne K (.ref CB) (.type "ValueError") = some true
  kO : PySem.W.kitOne K (.ref CB) (.ref CO) = some false
def spLTry (K : PySem.W.Frag) (C : Addr) : Sp := fun vs H Q _ => ∃ (a : Addr) (room sv cv : V) (n : String) (so : Option (List V)) (co : Option (List (Option (V × V)))), vs = [.ref a] ∧ H a = some (.lst [room, sv, cv]) ∧ Thing H room n ∧ SeatsIs K H sv so ∧ ClksIs K H cv co ∧
  match standDue room so co with
  | some w => ∀ H', Same H H' → Q (.str w) H'
  | none => ∀ q r ss cs H', room = .str r → so = some (ss.map oV) → co = some (cR cs) → Same H H' → StandAt C H' q r ss cs → Q (.ref q) H'
def spLRenamed (C : Addr) : Sp := fun vs H Q _ => ∃ (p : Addr) (x : V) (no : Option (List (Key × V))) (r : Str) (ss : List (Option Str)) (cs : List (Int × Bool)), vs = [.ref p, x] ∧ StandAt C H p r ss cs ∧ NamesIs H x no ∧
  match mapDue no (sitOf ss) with
  | some w => ∀ H', Same H H' → Q (.str w) H'
  | none => ∀ q kvs H', no = some kvs → Same H H' → StandAt C H' q r (ss.map (renO kvs)) cs → Q (.ref q) H'
section
variable {P : Program} {w : World} {K : PySem.W.Frag} {mg : Str → Option Value} {base : Heap}
theorem scLTry : FnScope ["_law_parts_here", "e"] ["_law_parts_here"] (defScope sLTry) := ⟨rfl, rfl, rfl, by decide +kernel, rfl, by decide +kernel, by decide +kernel⟩
theorem ok_ltry {f C CB CS CO fI : Addr} {fd fdI : FuncData} (F : Fun K "_law_try" "_law_try" sLTry f fd) (m : mg "_law_try" = some (.ref f)) (B : Bm mg) (mV : mg "ValueError" = none) (S : SMk P w K mg base C CB fI fdI) (X : ErX K mg "BadStand" CB CS CO "BadMap") :
    HasF P w K mg base "_law_try" 6 ["_law_parts_here"] (spLTry K C) := by
  refine ⟨f, fd, ?_, m, F.kp, F.binds fun _ _ _ _ _ _ us hl => match us, hl with | [_], _ => rfl⟩
  refine F.ok scLTry (fun vs H Q E h => ?_) (fun cdv A outer s H vs Q E hr h => ?_)
  · obtain ⟨a, b, c, d, e, g, i, rfl, _⟩ := h
    rfl
  · obtain ⟨a, room, sv, cv, n, so, co, rfl, ha, tr, hs, hc, k⟩ := h
    refine ⟨_, pss_one (ps_try_as (i := 1) (Wout := fun _ _ _ _ => False) rfl rfl scLTry.nd rfl rfl ⟨rfl, by decide, .inl X.m⟩ takes0
        (fun W pn xe tk _ => pss_one (ps_ret (pe_makeS S.MK S.GI hr (by rfl) S.mS S.bI (fun σ => passAt tk σ) (pa_cons (pe_ix (ix_seqK (K := K) rfl) (pv 0) pe_int (fun _ _ => rfl)) (pa_cons (pe_ix (ix_seqK (K := K) rfl) (pv 0) pe_int (fun _ _ => rfl)) (pa_cons (pe_ix (ix_seqK (K := K) rfl) (pv 0) pe_int (fun _ _ => rfl)) pa_nil))))))
        (fun a oe cls d pn hz hf => pss_one (ps_ret (pe_ifExp (PW.pt (pw_and (pt_val (pe_callB (call_isEd (K := K) (D := CB) rfl X.EB hz hf) (by rfl) B.isinstance (by decide +kernel) (pa_cons (pv 1) (pa_cons (pe_glob (v := .ref CS) rfl X.mS rfl) pa_nil)))) (pw_and (pt_val (pe_callB (call_isEd (K := K) (D := CB) rfl X.EB hz hf) (by rfl) B.isinstance (by decide +kernel) (pa_cons (pv 1) (pa_cons (pe_bltn (v := .ty "ValueError") (by rfl) mV (by decide +kernel) rfl) pa_nil)))) (pw_and1 (pt_not (pt_val (pe_callB (call_isEd (K := K) (D := CB) rfl X.EB hz hf) (by rfl) B.isinstance (by decide +kernel) (pa_cons (pv 1) (pa_cons (pe_glob (v := .ref CO) rfl X.mO rfl) pa_nil))))))))) (pe_xf X.XB X.n1 hz hf (pv 1)) pe_int)))), ?_⟩
    have ix : ∀ {i : Int} {v : V} {Q' : V → Hp → Prop}, atI [room, sv, cv] i = some v → Q' v H → rIx K (.ref a) (.int i) H Q' := fun e q => .inl ⟨_, _, _, _, rfl, rfl, SqL.of ha, e, q⟩
    refine ⟨_, rfl, ix (atI0 _ _) ⟨_, rfl, ix (atI1 _ _ _) ⟨_, rfl, ix (atI2 _ _ _ _) fun x dx hx hdx ne => ?_⟩⟩⟩
    have s0 : Same H (upd (upd H dx (.own x)) x (.ins C dx [])) := (sameUpd (Same.refl _) hdx).trans (sameUpd (Same.refl _) (by rw [upd_ne ne.symm]; exact hx))
    refine ⟨x, dx, room, sv, cv, n, so, co, rfl, upd_same, tr.keep s0, hs.keep s0, hc.keep s0, ?_⟩
    cases e : standDue room so co with
    | none =>
      rw [e] at k
      exact fun r ss cs H' e1 e2 e3 g kp st => ⟨rfl, k x r ss cs H' e1 e2 e3 (fun b o hb => kp b o (s0 b o hb) (ne_of_none hb hx)) st⟩
    | some w' =>
      rw [e] at k
      refine fun d H' hd kp ed => ⟨true, X.tB, fun _ a' ha' => ?_, fun q => nomatch q⟩
      have s2 : Same H H' := fun b o hb => kp b o (s0 b o hb) (ne_of_none hb hx)
      refine ⟨_, rfl, rfl, .inr ⟨d, _, rfl, ed⟩, .ref CS, .ref CS, true, rfl, fun u e => e, X.kS, _, rfl, iteT ?_⟩
      refine ⟨_, rfl, rfl, .inr ⟨d, _, rfl, ed⟩, .ty "ValueError", .type "ValueError", true, rfl, fun u e => e, X.kV, _, rfl, iteT ?_⟩
      refine ⟨_, rfl, rfl, .inr ⟨d, _, rfl, ed⟩, .ref CO, .ref CO, false, rfl, fun u e => e, X.kO, _, rfl, iteT ?_⟩
      exact ⟨_, rfl, rfl, rfl, d, _, .str w', rfl, ed, rfl, k H' s2⟩
theorem scLRenamed : FnScope ["_law_made", "_law_names", "e"] ["_law_made", "_law_names"] (defScope sLRenamed) := ⟨rfl, rfl, rfl, by decide +kernel, rfl, by decide +kernel, by decide +kernel⟩
theorem ok_lrenamed {f C CM CS CO gR : Addr} {fd fdR : FuncData} (F : Fun K "_law_renamed" "_law_renamed" sLRenamed f fd) (m : mg "_law_renamed" = some (.ref f)) (B : Bm mg) (SX : SC K C) (MR : Meth K C "renamed" gR) (GR : FnOk P w K mg base (L2.CX P w) 6 gR fdR ["self", "names"] (spRenamed C CM)) (bR : Binds K fdR ["self", "names"] []) (X : ErX K mg "BadMap" CM CS CO "BadStand") :
    HasF P w K mg base "_law_renamed" 7 ["_law_made", "_law_names"] (spLRenamed C) := by
  refine ⟨f, fd, ?_, m, F.kp, F.binds fun _ _ _ _ _ _ us hl => match us, hl with | [_, _], _ => rfl⟩
  refine F.ok scLRenamed (fun vs H Q E h => ?_) (fun cdv A outer s H vs Q E hr h => ?_)
  · obtain ⟨a, b, c, d, e, g, rfl, _⟩ := h
    rfl
  · obtain ⟨p, x, no, r, ss, cs, rfl, hp, hx, k⟩ := h
    refine ⟨_, pss_one (ps_try_as (i := 2) (Wout := fun _ _ _ _ => False) rfl rfl scLRenamed.nd rfl rfl ⟨rfl, by decide, .inl X.m⟩ takes0
        (fun W pn xe tk _ => pss_one (ps_ret (pe_methW (pv 0) SX.cl MR GR hr bR (fun σ => passAt tk σ) (pa_cons (pv 1) pa_nil))))
        (fun a oe cls d pn hz hf => pss_one (ps_ret (pe_ifExp (PW.pt (pw_and (pt_val (pe_callB (call_isEd (K := K) (D := CM) rfl X.EB hz hf) (by rfl) B.isinstance (by decide +kernel) (pa_cons (pv 2) (pa_cons (pe_glob (v := .ref CS) rfl X.mS rfl) pa_nil)))) (pw_and1 (pt_not (pt_val (pe_callB (call_isEd (K := K) (D := CM) rfl X.EB hz hf) (by rfl) B.isinstance (by decide +kernel) (pa_cons (pv 2) (pa_cons (pe_glob (v := .ref CO) rfl X.mO rfl) pa_nil)))))))) (pe_xf X.XB X.n1 hz hf (pv 2)) pe_int)))), ?_⟩
    obtain ⟨dx, sa, ca, xs, h1, h2, h3, h4⟩ := hp.ob
    refine ⟨_, rfl, p, dx, _, rfl, h1, sFs_no _ _ _ (by decide +kernel) (by decide +kernel) (by decide +kernel), _, rfl, p, x, no, r, ss, cs, rfl, hp, hx, ?_⟩
    cases e : mapDue no (sitOf ss) with
    | none =>
      rw [e] at k
      exact fun q kvs H' e1 s st => k q kvs H' e1 s st
    | some w' =>
      rw [e] at k
      refine fun d H' hd s ed => ⟨true, X.tB, fun _ a' ha' => ?_, fun q => nomatch q⟩
      refine ⟨_, rfl, rfl, .inr ⟨d, _, rfl, ed⟩, .ref CS, .ref CS, true, rfl, fun u e => e, X.kS, _, rfl, iteT ?_⟩
      refine ⟨_, rfl, rfl, .inr ⟨d, _, rfl, ed⟩, .ref CO, .ref CO, false, rfl, fun u e => e, X.kO, _, rfl, iteT ?_⟩
      exact ⟨_, rfl, rfl, rfl, d, _, .str w', rfl, ed, rfl, k H' s⟩
end
end Kx

set_option maxHeartbeats 16000000
namespace Kx
open PySem L2
theorem put_len {kvs : List (Key × V)} {k : Key} {v : V} : (putK kvs k v).length ≤ kvs.length + 1 := by
  unfold putK
  split
  · rw [List.length_map]; omega
  · simp
theorem put_vals {F : V → Prop} {kvs : List (Key × V)} {k : Key} {v : V} (h : ∀ kv ∈ kvs, F kv.2) (hv : F v) : ∀ kv ∈ putK kvs k v, F kv.2 := by
  unfold putK
  split
  · intro kv m
    obtain ⟨kv', m', rfl⟩ := List.mem_map.mp m
    split
    · exact hv
    · exact h kv' m'
  · intro kv m
    rcases List.mem_append.mp m with m | m
    · exact h kv m
    · rw [List.mem_singleton.mp m]; exact hv
/-- a new dict at n while things are drawn -/
structure Dc (n p q : Addr) (kvs : List (Key × V)) (m : Nat) (H0 H : Hp) : Prop where
  dn : H n = some (.dK kvs)
  n0 : H0 n = none
  hp : HandAt H p q
  hp0 : HandAt H0 p q
  kp : Keep H0 H p
  vals : ∀ kv ∈ kvs, ∃ t, Thing (hn n H0 H) kv.2 t
  len : kvs.length ≤ m
section
variable {n p q : Addr} {kvs : List (Key × V)} {m : Nat} {H0 H : Hp}
theorem Dc.fresh (d : Dc n p q kvs m H0 H) {l : Addr} (hl : H l = none) : H0 l = none ∧ l ≠ n ∧ l ≠ p ∧ l ≠ q := by
  have lp := d.hp.ap hl
  refine ⟨?_, (ne_of_none d.dn hl).symm, lp, d.hp.aq hl⟩
  cases e : H0 l with
  | none => rfl
  | some u => exact absurd hl (by rw [d.kp l u e lp]; exact fun z => nomatch z)
theorem Dc.up (d : Dc n p q kvs m H0 H) {H' : Hp} (k : Keep H H' p) : Same (hn n H0 H) (hn n H0 H') := fun c u e => by
  obtain ⟨h, cn, c0⟩ := hn_get e
  exact hn_at (k c u h (ne_new c0 d.hp0.at_)) cn c0
theorem Dc.draw (d : Dc n p q kvs m H0 H) {H' : Hp} (k : Keep H H' p) (h : HandAt H' p q) : Dc n p q kvs m H0 H' :=
  ⟨k _ _ d.dn (ne_new d.n0 d.hp0.at_), d.n0, h, d.hp0, d.kp.trans k, fun kv m => (d.vals kv m).imp fun t q => q.keep (d.up k), d.len⟩
theorem Dc.new (d : Dc n p q kvs m H0 H) {l : Addr} {o : HO} (hl : H l = none) : Dc n p q kvs m H0 (upd H l o) := by
  obtain ⟨l0, ln, lp, lq⟩ := d.fresh hl
  exact d.draw (keepUpd Keep.refl hl) (d.hp.upd lp lq)
theorem Dc.sub (d : Dc n p q kvs m H0 H) {H' : Hp} : Same (nw H H') (hn n H0 H') := fun c u e => by
  obtain ⟨e0, e1⟩ := nw_get e
  obtain ⟨c0, cn, _, _⟩ := d.fresh e0
  exact hn_at e1 cn c0
theorem Dc.put (d : Dc n p q kvs m H0 H) (k : Key) {v : V} (hv : ∃ t, Thing (hn n H0 H) v t) : Dc n p q (putK kvs k v) (m + 1) H0 (upd H n (.dK (putK kvs k v))) :=
  ⟨upd_same, d.n0, d.hp.upd (ne_new d.n0 d.hp0.at_) (ne_new d.n0 d.hp0.atq), d.hp0, keepUpd d.kp d.n0, put_vals (F := fun x => ∃ t, Thing (hn n H0 (upd H n (.dK (putK kvs k v)))) x t) (fun kv m => (d.vals kv m).imp fun t q => q.keep hn_b) (hv.imp fun t q => q.keep hn_b), Nat.le_trans put_len (Nat.succ_le_succ d.len)⟩
theorem Dc.names (d : Dc n p q kvs m H0 H) : NamesIs (nw H0 H) (.ref n) (some kvs) := .dct (nw_at d.n0 d.dn) fun kv m => (d.vals kv m).imp fun t q => q.keep hn_nw
end
theorem Dc.hnew {n p q l : Addr} {kvs : List (Key × V)} {m : Nat} {H0 H : Hp} {o : HO} (d : Dc n p q kvs m H0 H) (hl : H l = none) : hn n H0 (upd H l o) l = some o := hn_at upd_same (d.fresh hl).2.1 (d.fresh hl).1
theorem Dc.sup {n p q l : Addr} {kvs : List (Key × V)} {m : Nat} {H0 H : Hp} {o : HO} (d : Dc n p q kvs m H0 H) (hl : H l = none) : Same (hn n H0 H) (hn n H0 (upd H l o)) := d.up (keepUpd Keep.refl hl)
theorem Dc.le {n p q : Addr} {kvs : List (Key × V)} {m m' : Nat} {H0 H : Hp} (d : Dc n p q kvs m H0 H) (h : m ≤ m') : Dc n p q kvs m' H0 H := ⟨d.dn, d.n0, d.hp, d.hp0, d.kp, d.vals, Nat.le_trans d.len h⟩
/-- where the map stands -/
structure MapSt (p q b r : Addr) (ps zs : List Str) (v4 v5 : Option V) (w : Int) (c : Prop) (m : Nat) (H0 : Hp) (σ : St) (H : Hp) : Prop where
  ex : ∃ n kvs v7, σ = [some (.ref p), some (.ref b), some (.ref n), some (.ref r), v4, v5, some (.int w), v7] ∧ Dc n p q kvs m H0 H ∧ hn n H0 H r = some (.lst (zs.map V.str)) ∧ (c → ∀ z ∈ ps, (atN kvs z).isSome = true)
theorem atI_nat {xs : List V} {i : Nat} (h : i < xs.length) : atI xs (i : Nat) = xs[i]? := by
  unfold atI ixN
  simp [h]
theorem at_put {kvs : List (Key × V)} {z y : Str} {v : V} (h : (atN kvs z).isSome = true ∨ z = y) : (atN (putK kvs (Sum.inr y : Key) v) z).isSome = true := by
  show (valV (putK kvs (Sum.inr y : Key) v) (Sum.inr z : Key)).isSome = true
  rw [valV_put]
  by_cases e : (Sum.inr z : Key) = Sum.inr y
  · rw [if_pos e]; rfl
  · rw [if_neg e]
    rcases h with h | h
    · exact h
    · exact absurd (congrArg Sum.inr h) e
theorem way_test {K : PySem.W.Frag} {w c : Int} {b : Addr} {ps : List Str} {σ : St} {H : Hp} {R : Bool → Hp → Prop} (e6 : σ[6]? = some (some (.int w))) (e1 : σ[1]? = some (some (.ref b))) (hb : H b = some (.lst (ps.map V.str))) (h1 : w = c → ps ≠ [] → ∀ H', Same H H' → R true H') (h0 : ∀ H', Same H H' → R false H') :
    tAnd (tTest (tOp rEq (tVar 6) (tC (V.int c)))) (tTest (tOp (rNeL K) (tVar 1) (tLst tNil))) σ H R := by
  refine ⟨_, e6, rfl, _, rfl, ?_⟩
  refine ite2 (fun e => ?_) (fun _ => h0 H (Same.refl _))
  have e : w = c := V.int.inj (of_decide_eq_true e)
  refine ⟨_, e1, Nat.zero_le _, fun l hl => ne_nil (K := K) (by rw [upd_ne (ne_of_none hb hl)]; exact hb) (fun z m => ?_) l upd_same ⟨_, rfl, ?_⟩⟩
  · obtain ⟨y, _, rfl⟩ := List.mem_map.mp m
    exact .inl rfl
  · have s := sameUpd (o := .lst []) (Same.refl H) hl
    cases ps with
    | nil => exact h0 _ s
    | cons z zs => exact h1 e (by simp) _ s
theorem first_at {ys : List Str} {y : Str} (h : y ∈ ys) : ∃ j, j < ys.length ∧ (ys.map V.str)[j]? = some (V.str y) ∧ ∀ m z', m < j → (ys.map V.str)[m]? = some z' → eqV z' (.str y) = false := by
  induction ys with
  | nil => cases h
  | cons x xs ih =>
    by_cases e : x = y
    · subst e
      exact ⟨0, Nat.succ_pos _, rfl, fun m z' h => absurd h (Nat.not_lt_zero _)⟩
    · obtain ⟨j, l, a, g⟩ := ih (by cases h with | head => exact absurd rfl e | tail _ h => exact h)
      refine ⟨j + 1, Nat.succ_lt_succ l, a, fun m z' hm hz => ?_⟩
      cases m with
      | zero =>
        cases hz
        simp [eqV, e]
      | succ m => exact g m z' (Nat.lt_of_succ_lt_succ hm) hz
theorem merge_len : ∀ (more kvs : List (Key × V)), (mergeK kvs more).length ≤ kvs.length + more.length
  | [], kvs => Nat.le_refl _
  | kv :: more, kvs => by
    have ih := merge_len more (putK kvs kv.1 kv.2)
    have l := put_len (kvs := kvs) (k := kv.1) (v := kv.2)
    show (mergeK (putK kvs kv.1 kv.2) more).length ≤ _
    rw [List.length_cons]
    omega
theorem merge_vals {F : V → Prop} : ∀ {more kvs : List (Key × V)}, (∀ kv ∈ kvs, F kv.2) → (∀ kv ∈ more, F kv.2) → ∀ kv ∈ mergeK kvs more, F kv.2
  | [], _, h, _ => h
  | kv :: more, _, h, g => merge_vals (more := more) (put_vals h (g kv (.head _))) fun kv' m => g kv' (.tail _ m)
def spLMap : Sp := fun vs H Q _ => ∃ (p q b : Addr) (ps : List Str), vs = [.ref p, .ref b] ∧ HandAt H p q ∧ H b = some (.lst (ps.map V.str)) ∧ b ≠ p ∧ (∀ z ∈ ps, isLab z = true) ∧ ps.length ≤ 3 ∧ ∀ x no H', NamesIs (nw H H') x no → HandAt H' p q → Keep H H' p → Q x H'
section
variable {P : Program} {w : World} {K : PySem.W.Frag} {mg : Str → Option Value} {base : Heap}
abbrev nMap : List Str := ["_law_hand_here", "_law_persons", "_law_names", "_law_labels_here", "_law_k", "_law_person", "_law_way", "_law_del_person"]
theorem scLMap : FnScope nMap ["_law_hand_here", "_law_persons"] (defScope sLMap) := ⟨rfl, rfl, rfl, by decide +kernel, rfl, by decide +kernel, by decide +kernel⟩
theorem ok_lmap {f : Addr} {fd : FuncData} (F : Fun K "_law_map" "_law_map" sLMap f fd) (m : mg "_law_map" = some (.ref f)) (T : Bl mg) (Db : Bd mg) (D : HDraw P w K mg base) (O : HasF P w K mg base "_law_one" 3 ["_law_hand_here", "_law_rows"] spOne) (L : HasF P w K mg base "_law_labels" 5 ["_law_hand_here", "_law_many", "_law_barred"] spLabels) (Od : HasF P w K mg base "_law_odd" 4 ["_law_hand_here"] spOdd) : HasF P w K mg base "_law_map" 6 ["_law_hand_here", "_law_persons"] spLMap := by
  refine ⟨f, fd, ?_, m, F.kp, F.binds fun _ _ _ _ _ _ us hl => match us, hl with | [_, _], _ => rfl⟩
  obtain ⟨f1, fd1, D⟩ := D; obtain ⟨f2, fd2, L⟩ := L; obtain ⟨f3, fd3, O⟩ := O; obtain ⟨f5, fd5, Od⟩ := Od
  refine F.ok scLMap (fun vs H Q E h => ?_) (fun cdv A outer s H vs Q E hr h => ?_)
  · obtain ⟨a, b, c, d, rfl, _⟩ := h
    rfl
  · obtain ⟨p, q, b, ps, rfl, hp, hb, bp, lab, l3, k⟩ := h
    have hu := hu_of hr
    have hr2 : Room 2 _ := hr.mono (by decide)
    have hr3 : Room 3 _ := hr.mono (by decide)
    have hr4 : Room 4 _ := hr.mono (by decide)
    refine ⟨_, (pss_cons (ps_set (i := 2) scLMap.nd rfl (Or.inr rfl) pe_dnewK)
    (C8.pss_cut (ps_set (i := 3) scLMap.nd rfl (Or.inl rfl) (pe_call L.G hr (by rfl) L.m L.kp L.b .nil pass0 (pa_cons (pv 0) (pa_cons pe_int (pa_cons (pe_lst pa_nil) pa_nil)))))
    (C8.pss_cut (ps_for PassesOwn.never rfl (pi_enumB (by rfl) T.enumerate (pa_cons (pv 1) pa_nil)) (pg_tup rfl (pgs_cons (pg_name (i := 4) scLMap.nd rfl (.inl rfl)) (pgs_cons (pg_name (i := 5) scLMap.nd rfl (.inl rfl)) pgs_nil)))
        (pss_one (ps_dput hu (pv 2) (pv 5) (pe_ix ix_seq (pv 3) (pv 4) (fun _ _ => rfl)) rfl)))
    (C8.pss_cut (ps_set (i := 6) scLMap.nd rfl (Or.inl rfl) (pe_call D.G hr2 (by rfl) D.m D.kp D.b .nil pass0 (pa_cons (pv 0) (pa_cons pe_int pa_nil))))
    (C8.pss_cut (ps_if (pt_cmpR op_eq (pv 6) pe_int (nomark _)) (pss_one (ps_ret (pe_call O.G hr3 (by rfl) O.m O.kp O.b .nil pass0 (pa_cons (pv 0) (pa_cons (pe_lst (pa_cons pe_non (pa_cons (pe_lst pa_nil) (pa_cons pe_str (pa_cons pe_int (pa_cons (pe_lst (pa_cons (pe_tup (pa_cons pe_str (pa_cons pe_str pa_nil))) pa_nil)) pa_nil)))))) pa_nil))))) pss_nil)
    (C8.pss_cut (ps_if (pt_cmpR op_eq (pv 6) pe_int (nomark _)) (pss_one (ps_dput hu (pv 2) pe_str (pe_call O.G hr3 (by rfl) O.m O.kp O.b .nil pass0 (pa_cons (pv 0) (pa_cons (pe_lst (pa_cons pe_non (pa_cons pe_int (pa_cons pe_str (pa_cons (pe_ix ix_seq (pv 3) pe_int (fun _ _ => rfl)) pa_nil))))) pa_nil))) rfl)) pss_nil)
    (C8.pss_cut (ps_if (PW.pt (pw_and (pt_cmpR op_eq (pv 6) pe_int (nomark _)) (pw_and1 (pt_cmpR (op_neL hr.units) (pv 1) (pe_lst pa_nil) (nomark _))))) (pss_one (ps_dput hu (pv 2) (pe_call O.G hr3 (by rfl) O.m O.kp O.b .nil pass0 (pa_cons (pv 0) (pa_cons (pv 1) pa_nil))) (pe_call Od.G hr4 (by rfl) Od.m Od.kp Od.b .nil pass0 (pa_cons (pv 0) pa_nil)) rfl)) pss_nil)
    (C8.pss_cut (ps_if (PW.pt (pw_and (pt_cmpR op_eq (pv 6) pe_int (nomark _)) (pw_and1 (pt_cmpR (op_neL hr.units) (pv 1) (pe_lst pa_nil) (nomark _))))) (pss_cons (ps_set (i := 7) scLMap.nd rfl (Or.inr rfl) (pe_call O.G hr3 (by rfl) O.m O.kp O.b .nil pass0 (pa_cons (pv 0) (pa_cons (pv 1) pa_nil))))
    (pss_one (ps_set (i := 2) scLMap.nd rfl (Or.inr rfl) (pe_callTy (call_dictP rfl) (by rfl) Db.dict (by decide +kernel) (pa_cons (pe_lc (own := [("_law_person", 5)]) (g := gName 5) (by rfl) scLMap.nd (pi_seq (pv 1)) (blkOk_by (own := [("_law_person", 5)]) (N := nMap) (sc := defScope sLMap) (by decide +kernel))
            (fun _ _ _ _ _ => pg_name (i := 5) scLMap.nd rfl (Or.inl rfl)) (fun _ _ _ _ _ => pts_one (pt_cmpR op_ne (pv 5) (pv 7) (nomark _))) (fun _ _ _ _ _ => (pe_tup (pa_cons (pv 5) (pa_cons (pe_dget hu (pv 2) (pv 5) (fun _ _ => rfl)) pa_nil))))) pa_nil))))) pss_nil)
    (C8.pss_cut (ps_if (PW.pt (pw_and (pt_cmpR op_eq (pv 6) pe_int (nomark _)) (pw_and1 (pt_cmpR (op_neL hr.units) (pv 1) (pe_lst pa_nil) (nomark _))))) (pss_one (ps_dput hu (pv 2) (pe_call O.G hr3 (by rfl) O.m O.kp O.b .nil pass0 (pa_cons (pv 0) (pa_cons (pv 1) pa_nil))) (pe_dget hu (pv 2) (pe_call O.G hr3 (by rfl) O.m O.kp O.b .nil pass0 (pa_cons (pv 0) (pa_cons (pv 1) pa_nil))) (fun _ _ => rfl)) rfl)) pss_nil)
    (C8.pss_cut (ps_if (pt_cmpR op_eq (pv 6) pe_int (nomark _)) (pss_one (ps_for PassesOwn.never rfl (pi_seq (pv 1)) (pg_name (i := 5) scLMap.nd rfl (.inl rfl))
          (pss_one (ps_dput hu (pv 2) (pv 5) (pe_ix ix_seq (pv 1) (pe_op op_mod (pe_op op_add (pe_bm PySem.F.plainAttrs_list PySem.F.slot_list_index PySem.F.type_list_index mt_index (pv 1) (pa_cons (pv 5) pa_nil)) pe_int) (pe_callB call_len_seq (by rfl) T.len PySem.boot_len (pa_cons (pv 1) pa_nil))) (fun _ _ => rfl)) rfl)))) pss_nil)
    (pss_one (ps_ret (pv 2))))))))))))), ?_⟩
    refine fun n hn0 => ?_
    have d0 : Dc n p q [] 0 H (upd H n (.dK [])) := ⟨upd_same, hn0, hp.upd (hp.ap hn0) (hp.aq hn0), hp, keepUpd Keep.refl hn0, (fun kv m => nomatch m), Nat.le_refl _⟩
    -- the labels
    refine ⟨fun σ H1 => ∃ (r : Addr) (zs : List Str), σ = [some (.ref p), some (.ref b), some (.ref n), some (.ref r), none, none, none, none] ∧ Dc n p q [] 0 H H1 ∧ hn n H H1 r = some (.lst (zs.map V.str)) ∧ zs.length = 3 ∧ (∀ z ∈ zs, isLab z = true), ?_, ?_⟩
    · refine ⟨_, rfl, Nat.zero_le _, fun b0 hb0 => ⟨p, q, b0, 3, rfl, (d0.new hb0).hp, upd_same, (d0.fresh hb0).2.2.1, by decide, fun r zs H1 hr1 zl fz hp1 k1 => ?_⟩⟩
      exact ⟨r, zs, rfl, (d0.new hb0).draw k1 hp1, (d0.new hb0).sub _ _ hr1, zl, fz⟩
    rintro σ H1 ⟨r, zs, rfl, d1, hr1, zl, fz⟩
    have bat : ∀ {n' : Addr} {kvs : List (Key × V)} {m : Nat} {H' : Hp}, Dc n' p q kvs m H H' → H' b = some (.lst (ps.map V.str)) := fun d => d.kp b _ hb bp
    -- each person gets one
    refine ⟨fun σ H2 => ∃ (v4 v5 : Option V) (kvs : List (Key × V)), σ = [some (.ref p), some (.ref b), some (.ref n), some (.ref r), v4, v5, none, none] ∧ Dc n p q kvs 3 H H2 ∧ hn n H H2 r = some (.lst (zs.map V.str)) ∧ ∀ z ∈ ps, (atN kvs z).isSome = true, ?_, ?_⟩
    · refine ⟨_, rfl, b, ps.map V.str, rfl, for_enumB (K := K) (a := b) (xs := ps.map V.str) (fun i σ H2 => ∃ (v4 v5 : Option V) (kvs : List (Key × V)), σ = [some (.ref p), some (.ref b), some (.ref n), some (.ref r), v4, v5, none, none] ∧ Dc n p q kvs i H H2 ∧ hn n H H2 r = some (.lst (zs.map V.str)) ∧ ∀ z ∈ ps.take i, (atN kvs z).isSome = true)
        ⟨none, none, [], rfl, d1, hr1, fun z m => by rw [List.take_zero] at m; cases m⟩ (.inl fun i σ H2 ⟨_, _, _, _, d, _⟩ => SqL.of (bat d)) ?_ ?_⟩
      · rintro i x σ H2 t hi ⟨v4, v5, kvs, rfl, d2, hr2', pr⟩ ht
        rw [List.getElem?_map] at hi
        obtain ⟨z, hz, rfl⟩ : ∃ z, ps[i]? = some z ∧ x = V.str z := by
          cases e : ps[i]? with
          | none => rw [e] at hi; cases hi
          | some z => rw [e] at hi; exact ⟨z, rfl, (Option.some.inj hi).symm⟩
        have lt : i < ps.length := (List.getElem?_eq_some_iff.mp hz).1
        have d3 := d2.new (o := .tup [.int (i : Nat), .str z]) ht
        have r3 := d2.up (keepUpd Keep.refl ht) _ _ hr2' (H' := upd H2 t (.tup [.int (i : Nat), .str z]))
        have ltz : i < (zs.map V.str).length := by rw [List.length_map]; omega
        refine ⟨t, _, rfl, SqT.of upd_same, rfl, _, _, rfl, _, _, rfl, rfl, ?_⟩
        refine ⟨_, rfl, _, rfl, .inl ⟨_, _, _, _, rfl, rfl, SqL.of (hn_get r3).1, (atI_nat ltz).trans (List.getElem?_eq_getElem ltz), ?_⟩⟩
        have lz : i < zs.length := by omega
        have fl : ∃ tt, Thing (hn n H (upd H2 t (.tup [.int (i : Nat), .str z]))) (zs.map V.str)[i] tt := by
          rw [List.getElem_map]
          exact ⟨"str", .str _, fun y e => by cases e; exact lab_len (fz _ (List.getElem_mem lz))⟩
        refine ⟨_, rfl, _, rfl, n, _, rfl, DPut.k (k := Sum.inr z) d3.dn (line2 (by have := d3.len; omega)), _, _, _, rfl, d3.put (Sum.inr z) fl, ?_, fun y m => ?_⟩
        · exact hn_b _ _ r3
        · rw [List.take_add_one, hz] at m
          rcases List.mem_append.mp m with m | m
          · exact at_put (.inl (pr y m))
          · exact at_put (.inr (List.mem_singleton.mp m))
      · rintro σ H2 ⟨v4, v5, kvs, rfl, d2, hr2', pr⟩
        rw [List.length_map, List.take_length] at pr
        rw [List.length_map] at d2
        exact ⟨v4, v5, kvs, rfl, d2.le l3, hr2', pr⟩
    rintro σ H2 ⟨v4, v5, kvs, rfl, d2, hr2', pr⟩
    -- the way
    refine ⟨fun σ H3 => ∃ w, MapSt p q b r ps zs v4 v5 w True 3 H σ H3, ?_, ?_⟩
    · refine ⟨_, rfl, p, q, 8, rfl, d2.hp, by decide, by decide, fun w H3 _ _ h3 k3 => ⟨w, ⟨n, kvs, none, rfl, d2.draw k3 h3, d2.up k3 _ _ hr2', fun _ => pr⟩⟩⟩
    clear hr2' pr d2 hr1 d1
    rintro σ H3 ⟨w, ⟨n, kvs, v7, rfl, d3, r3, pr⟩⟩
    -- no map at all
    refine ⟨fun σ H4 => MapSt p q b r ps zs v4 v5 w True 3 H σ H4, ?_, ?_⟩
    · refine ⟨_, rfl, rfl, _, rfl, ?_⟩
      refine ite2 (fun _ => ?_) (fun _ => ⟨n, kvs, v7, rfl, d3, r3, pr⟩)
      refine ⟨_, rfl, Nat.zero_le _, fun l1 h1 => ⟨(by show 2 ≤ sizeLine; decide), fun t1 h2 => ⟨(by show 1 ≤ sizeLine; decide), fun l2 h3 => ⟨(by show 5 ≤ sizeLine; decide), fun l hl => ?_⟩⟩⟩⟩
      have e1 := d3.new (o := .lst []) h1
      have e2 := e1.new (o := .tup [V.str "ann", V.str "bob"]) h2
      have e3 := e2.new (o := .lst [V.ref t1]) h3
      have e4 := e3.new (o := .lst [V.non, V.ref l1, V.str "a", V.int 3, V.ref l2]) hl
      refine ⟨p, q, l, _, rfl, e4.hp, upd_same, (e3.fresh hl).2.2.1, (by show 0 < 5; decide), (by show 5 ≤ 1000; decide), fun x H5 hx h5 k5 => ?_⟩
      have a1 := e4.up k5 _ _ (e3.sup hl (o := .lst [V.non, V.ref l1, V.str "a", V.int 3, V.ref l2]) _ _ (e2.sup h3 (o := .lst [V.ref t1]) _ _ (e1.sup h2 (o := .tup [V.str "ann", V.str "bob"]) _ _ (d3.hnew h1))))
      have a2 := e4.up k5 _ _ (e3.sup hl (o := .lst [V.non, V.ref l1, V.str "a", V.int 3, V.ref l2]) _ _ (e2.hnew h3))
      have fin : NamesIs (nw H H5) x none := by
        simp only [List.mem_cons, List.not_mem_nil, or_false] at hx
        rcases hx with e | e | e | e | e <;> subst e
        · exact .oth .non rfl
        · exact .oth (.lst _ _ (hn_nw _ _ a1)) rfl
        · exact .oth (.str _) rfl
        · exact .oth (.int _) rfl
        · exact .oth (.lst _ _ (hn_nw _ _ a2)) rfl
      exact k x none H5 fin h5 (e4.kp.trans k5)
    clear pr r3 d3
    rintro σ H4 ⟨n, kvs, v7, rfl, d4, r4, pr⟩
    -- a further name
    refine ⟨fun σ H5 => MapSt p q b r ps zs v4 v5 w True 4 H σ H5, ?_, ?_⟩
    · refine ⟨_, rfl, rfl, _, rfl, ?_⟩
      refine ite2 (fun _ => ?_) (fun _ => ⟨n, kvs, v7, rfl, d4.le (by decide), r4, pr⟩)
      have lz : 0 < zs.length := by omega
      have ltz : 0 < (zs.map V.str).length := by rw [List.length_map]; exact lz
      refine ⟨_, rfl, _, rfl, .inl ⟨_, _, _, _, rfl, rfl, SqL.of (hn_get r4).1, (atI_nat ltz).trans (List.getElem?_eq_getElem ltz), (by show 4 ≤ sizeLine; decide), fun l hl => ?_⟩⟩
      have e1 := d4.new (o := .lst [V.non, V.int 5, V.str "bob", (zs.map V.str)[0]]) hl
      refine ⟨p, q, l, _, rfl, e1.hp, upd_same, (d4.fresh hl).2.2.1, (by show 0 < 4; decide), (by show 4 ≤ 1000; decide), fun x H6 hx h6 k6 => ?_⟩
      have e2 := e1.draw k6 h6
      have r6 := e1.up k6 _ _ (d4.sup hl _ _ r4)
      have fx : FlatT x := by
        simp only [List.mem_cons, List.not_mem_nil, or_false] at hx
        rcases hx with e | e | e | e <;> subst e
        · exact flat_non
        · exact flat_int _
        · exact flat_str (by decide +kernel)
        · rw [List.getElem_map]
          have q := lab_len (fz _ (List.getElem_mem lz))
          exact flat_str (by rw [q.1, decide_eq_true q.2]; rfl)
      refine ⟨_, rfl, n, _, rfl, DPut.k (k := Sum.inr "other") e2.dn (line2 (by have := e2.len; omega)), n, _, v7, rfl, e2.put _ (fx.imp fun t q => q _), hn_b _ _ r6, fun _ z m => at_put (.inl (pr trivial z m))⟩
    clear pr r4 d4
    rintro σ H5 ⟨n, kvs, v7, rfl, d5, r5, pr⟩
    have one : ∀ {n' : Addr} {kvs' : List (Key × V)} {m' : Nat} {H' : Hp} {Qk : V → Hp → Prop}, Dc n' p q kvs' m' H H' → ps ≠ [] → (∀ z H'', z ∈ ps → HandAt H'' p q → Keep H' H'' p → Qk (.str z) H'') → spOne [.ref p, .ref b] H' Qk (fun _ _ _ => False) := fun {n' kvs' m' H' Qk} d ne kq => by
      refine ⟨p, q, b, _, rfl, d.hp, bat d, bp, ?_, by rw [List.length_map]; omega, fun x H'' hx h'' k'' => ?_⟩
      · cases ps with
        | nil => exact absurd rfl ne
        | cons z zs => simp
      · obtain ⟨z, mz, rfl⟩ := List.mem_map.mp hx
        exact kq z H'' mz h'' k''
    -- an odd thing
    refine ⟨fun σ H6 => MapSt p q b r ps zs v4 v5 w True 5 H σ H6, ?_, ?_⟩
    · refine way_test (w := w) rfl rfl (bat d5) (fun _ ne H6 s6 => iteT ?_) fun H6 s6 => iteF ⟨n, kvs, v7, rfl, (d5.draw (Same.keep s6) (d5.hp.same s6)).le (by decide), d5.up (Same.keep s6) _ _ r5, pr⟩
      have d6 := d5.draw (Same.keep s6) (d5.hp.same s6)
      have r6 := d5.up (Same.keep s6) _ _ r5
      refine ⟨_, rfl, p, q, rfl, d6.hp, fun x t H7 tx h7 k7 => ⟨_, rfl, _, rfl, _, rfl, one (d6.draw k7 h7) ne fun z H8 mz h8 k8 => ?_⟩⟩
      have d8 := (d6.draw k7 h7).draw k8 h8
      have r8 := (d6.draw k7 h7).up k8 _ _ (d6.up k7 _ _ r6)
      have tx8 : ∃ t, Thing (hn n H H8) x t := ⟨t, (tx.keep d6.sub).keep ((d6.draw k7 h7).up k8)⟩
      exact ⟨n, _, rfl, DPut.k (k := Sum.inr z) d8.dn (line2 (by have := d8.len; omega)), n, _, v7, rfl, d8.put _ tx8, hn_b _ _ r8, fun _ z' m => at_put (.inl (pr trivial z' m))⟩
    clear pr r5 d5
    rintro σ H6 ⟨n, kvs, v7, rfl, d6, r6, pr⟩
    -- one left out
    refine ⟨fun σ H7 => MapSt p q b r ps zs v4 v5 w (w ≠ 3) 5 H σ H7, ?_, ?_⟩
    · refine way_test (w := w) rfl rfl (bat d6) (fun w3 ne H7 s7 => iteT ?_) fun H7 s7 => iteF ⟨n, kvs, v7, rfl, d6.draw (Same.keep s7) (d6.hp.same s7), d6.up (Same.keep s7) _ _ r6, fun _ => pr trivial⟩
      have d7 := d6.draw (Same.keep s7) (d6.hp.same s7)
      have r7 := d6.up (Same.keep s7) _ _ r6
      refine ⟨_, rfl, _, rfl, one d7 ne fun z0 H8 mz h8 k8 => ?_⟩
      have d8 := d7.draw k8 h8
      have r8 := d7.up k8 _ _ r7
      refine ⟨_, rfl, b, rfl, lc_sq (g := gName 5) (IsSeq.lst (bat d8)) (Same.refl _) fun D' hD => ⟨fun i H9 => Same H8 H9 ∧ ∃ (as : List Addr) (kvl : List (Key × V)), H9 D' = some (.lst (as.map V.ref)) ∧ Paired (fun a kv => wo D' H9 a = some (.tup [kV kv.1, kv.2])) as kvl ∧ kvl.length ≤ i ∧ i ≤ ps.length ∧ ∀ kv ∈ kvl, ∃ t, Thing (hn n H H8) kv.2 t,
        ⟨sameUpd (Same.refl _) hD, [], [], upd_same, .nil, Nat.le_refl _, Nat.zero_le _, fun kv m => nomatch m⟩, fun i H9 q => q.1, ?_, ?_⟩⟩
      · rintro i x H9 hi ⟨s9, as, kvl, hd9, pr9, l9, _, v9⟩
        rw [List.getElem?_map] at hi
        obtain ⟨z, hz, rfl⟩ : ∃ z, ps[i]? = some z ∧ x = V.str z := by
          cases e : ps[i]? with
          | none => rw [e] at hi; cases hi
          | some z => rw [e] at hi; exact ⟨z, rfl, (Option.some.inj hi).symm⟩
        have lt : i < ps.length := (List.getElem?_eq_some_iff.mp hz).1
        refine ⟨rfl, _, rfl, _, rfl, rfl, _, rfl, ?_⟩
        cases e : !decide (V.str z = V.str z0) with
        | false => exact (if_neg Bool.false_ne_true).mpr ⟨s9, as, kvl, hd9, pr9, by omega, lt, v9⟩
        | true =>
          have pz := pr trivial z (List.mem_of_getElem? hz)
          cases ev : atN kvs z with
          | none => rw [ev] at pz; cases pz
          | some v =>
            have get : DGet H9 n (.str z) (some v) := by rw [← ev]; exact DGet.k (k := Sum.inr z) (s9 _ _ d8.dn)
            have tv : ∃ t, Thing (hn n H H8) v t := by
              have hv : ∀ kv ∈ kvs, ∃ t, Thing (hn n H H8) kv.2 t := d8.vals
              exact val_thing hv ev
            refine (if_pos rfl).mpr ⟨_, rfl, _, rfl, _, rfl, n, v, rfl, get, (by show 2 ≤ sizeLine; decide), fun T' hT => ?_⟩
            have TD : T' ≠ D' := (ne_of_none hd9 hT).symm
            have sT := sameUpd (o := .tup [V.str z, v]) (Same.refl H9) hT
            refine ⟨as.map V.ref, by rw [upd_ne TD.symm]; exact hd9, line2 (by rw [List.length_map, Paired.length pr9]; omega), ?_, as ++ [T'], kvl ++ [(Sum.inr z, v)], by rw [upd_same, List.map_append]; rfl, ?_, by simp; omega, lt, fun kv m => ?_⟩
            · exact woD hD s9 sT
            · refine pr_app (pr_imp pr9 fun a kv q => ?_) (.cons ?_ .nil)
              · obtain ⟨q1, q2⟩ := wo_get q
                exact wo_at (by rw [upd_ne q2]; exact sT _ _ q1) q2
              · exact wo_at (by rw [upd_ne TD]; exact upd_same) TD
            · rcases List.mem_append.mp m with m | m
              · exact v9 kv m
              · rw [List.mem_singleton.mp m]; exact tv
      · rintro H9 ⟨s9, as, kvl, hd9, pr9, l9, _, v9⟩
        rw [List.length_map] at l9
        refine ⟨D', as, kvl, rfl, SqL.of hd9, pr_imp pr9 fun a kv q => SqT.of (wo_same _ _ q), fun n' hn' => ?_⟩
        have d9 := d8.draw (Same.keep s9) (d8.hp.same s9)
        obtain ⟨n0', nn', np', nq'⟩ := d9.fresh hn'
        have swap : Same (hn n H H8) (hn n' H (upd H9 n' (.dK (mergeK [] kvl)))) := fun c u e => by
          obtain ⟨e1, cn, c0⟩ := hn_get e
          have c9 := s9 _ _ e1
          have cn' := ne_of_none c9 hn'
          exact hn_at (by rw [upd_ne cn']; exact c9) cn' c0
        refine ⟨n', mergeK [] kvl, some (.str z0), rfl, ⟨upd_same, n0', d9.hp.upd np' nq', hp, keepUpd d9.kp n0', merge_vals (F := fun x => ∃ t, Thing (hn n' H (upd H9 n' (.dK (mergeK [] kvl)))) x t) (fun kv m => nomatch m) (fun kv m => (v9 kv m).imp fun t q => q.keep swap), ?_⟩, swap _ _ r8, fun h => absurd w3 h⟩
        have := merge_len kvl []
        simp only [List.length_nil] at this
        omega
    clear pr r6 d6
    rintro σ H7 ⟨n, kvs, v7, rfl, d7, r7, pr⟩
    -- two merged
    refine ⟨fun σ H8 => MapSt p q b r ps zs v4 v5 w False 6 H σ H8, ?_, ?_⟩
    · refine way_test (w := w) rfl rfl (bat d7) (fun w4 ne H8 s8 => iteT ?_) fun H8 s8 => iteF ⟨n, kvs, v7, rfl, (d7.draw (Same.keep s8) (d7.hp.same s8)).le (by decide), d7.up (Same.keep s8) _ _ r7, fun h => h.elim⟩
      have d8 := d7.draw (Same.keep s8) (d7.hp.same s8)
      have r8 := d7.up (Same.keep s8) _ _ r7
      have pres := pr (by omega)
      refine ⟨_, rfl, _, rfl, _, rfl, one d8 ne fun z H9 mz h9 k9 => ?_⟩
      have d9 := d8.draw k9 h9
      have r9 := d8.up k9 _ _ r8
      have pz := pres z mz
      cases ev : atN kvs z with
      | none => rw [ev] at pz; cases pz
      | some v =>
        have get : DGet H9 n (.str z) (some v) := by rw [← ev]; exact DGet.k (k := Sum.inr z) d9.dn
        have tv : ∃ t, Thing (hn n H H9) v t := val_thing d9.vals ev
        refine ⟨n, v, rfl, get, _, rfl, _, rfl, _, rfl, one d9 ne fun z' H10 mz' h10 k10 => ?_⟩
        have d10 := d9.draw k10 h10
        exact ⟨n, _, rfl, DPut.k (k := Sum.inr z') d10.dn (line2 (by have := d10.len; omega)), n, _, v7, rfl, d10.put _ (tv.imp fun t q => q.keep (d9.up k10)), hn_b _ _ (d9.up k10 _ _ r9), fun h => h.elim⟩
    clear pr r7 d7
    rintro σ H8 ⟨n, kvs, v7, rfl, d8, r8, _⟩
    -- turned about
    refine ⟨fun σ H9 => ∃ n kvs v5' v7, σ = [some (.ref p), some (.ref b), some (.ref n), some (.ref r), v4, v5', some (.int w), v7] ∧ Dc n p q kvs 99 H H9, ?_, ?_⟩
    · refine ⟨_, rfl, rfl, _, rfl, ?_⟩
      refine ite2 (fun _ => ?_) (fun _ => ⟨n, kvs, v5, v7, rfl, d8.le (by decide)⟩)
      have s0 : Same (wo n H8) H8 := wo_same
      have bn : b ≠ n := fun e => by
        have := bat d8
        rw [e, d8.dn] at this
        cases this
      refine ⟨_, rfl, b, rfl, for_sq (K := K) (a := b) (xs := ps.map V.str) (H0 := wo p (wo n H8)) (IsSeq.lst (wo_at (wo_at (bat d8) bn) bp)) (fun i σ H9 => ∃ kvs v5', σ = [some (.ref p), some (.ref b), some (.ref n), some (.ref r), v4, v5', some (.int w), v7] ∧ Dc n p q kvs (6 + i) H H9 ∧ Same (wo p (wo n H8)) H9) ⟨kvs, v5, rfl, d8, wo_same.trans wo_same⟩ (fun i σ H9 ⟨_, _, _, _, q⟩ => q) ?_ ?_⟩
      · rintro i x σ H9 hi ⟨kvs, v5', rfl, d9, s9⟩
        rw [List.getElem?_map] at hi
        obtain ⟨z, hz, rfl⟩ : ∃ z, ps[i]? = some z ∧ x = V.str z := by
          cases e : ps[i]? with
          | none => rw [e] at hi; cases hi
          | some z => rw [e] at hi; exact ⟨z, rfl, (Option.some.inj hi).symm⟩
        have lt : i < ps.length := (List.getElem?_eq_some_iff.mp hz).1
        have b9 := bat d9
        obtain ⟨j, jl, ja, jm⟩ := first_at (List.mem_of_getElem? hz)
        have pos : 0 < ps.length := by omega
        have tl : (j + 1) % ps.length < ps.length := Nat.mod_lt _ pos
        have et : ((j : Nat) + 1 : Int) % ((ps.map V.str).length : Nat) = (((j + 1) % ps.length : Nat) : Int) := by
          rw [List.length_map]
          push_cast
          rfl
        have tl2 : (j + 1) % ps.length < (ps.map V.str).length := by rw [List.length_map]; exact tl
        refine ⟨_, rfl, _, rfl, .inl ⟨rfl, _, SqL.of b9⟩, _, rfl, b, ps.map V.str, .str z, j, .str z, rfl, rfl, SqL.of b9, rfl, flat_strs ps, ja, by simp [eqV], jm, ?_⟩
        refine ⟨_, _, rfl, rfl, _, rfl, b, _, rfl, .inl (SqL.of b9), _, _, rfl, rfl, (by rw [List.length_map]; omega), ?_⟩
        refine .inl ⟨_, _, _, _, rfl, congrArg V.int et, SqL.of b9, (atI_nat tl2).trans (List.getElem?_eq_getElem tl2), ?_⟩
        have fx : FlatT (ps.map V.str)[(j + 1) % ps.length] := by
          rw [List.getElem_map]
          have q := lab_len (lab _ (List.getElem_mem tl))
          exact flat_str (by rw [q.1, decide_eq_true q.2]; rfl)
        refine ⟨_, rfl, _, rfl, n, _, rfl, DPut.k (k := Sum.inr z) d9.dn (line2 (by have := d9.len; omega)), _, _, rfl, d9.put (Sum.inr z) (fx.imp fun t q => q _), fun c u e => ?_⟩
        have cn : c ≠ n := fun q => by
          have := (wo_get (wo_same _ _ e)).2
          exact this q
        rw [upd_ne cn]
        exact s9 c u e
      · rintro σ H9 ⟨kvs, v5', rfl, d9, s9⟩
        rw [List.length_map] at d9
        exact ⟨n, kvs, v5', v7, rfl, d9.le (by omega)⟩
    rintro σ H9 ⟨n, kvs, v5', v7, rfl, d9⟩
    exact ⟨_, rfl, k (.ref n) (some kvs) H9 d9.names d9.hp d9.kp⟩
end
end Kx

set_option maxHeartbeats 16000000
namespace Kx
open PySem L2
/-- whether the k-th stands already ahead -/
def dupAt (ls : List Str) (k : Nat) : Bool := match ls[k]? with
  | some x => decide (x ∈ ls.take k)
  | none => false
theorem dup_pre (ls : List Str) : ∀ i, i ≤ ls.length → ((∀ k, k < i → dupAt ls k = false) ↔ (addAll [] (ls.take i)).length = i)
  | 0, _ => ⟨fun _ => rfl, fun _ k h => absurd h (Nat.not_lt_zero k)⟩
  | i + 1, h => by
    have ih := dup_pre ls i (by omega)
    have lt : i < ls.length := by omega
    have le := addAll_len (ls.take i) []
    rw [List.length_take] at le
    simp only [List.length_nil] at le
    have e : addAll [] (ls.take (i + 1)) = add1 (addAll [] (ls.take i)) ls[i] := by
      rw [List.take_add_one, List.getElem?_eq_getElem lt, Option.toList_some, addAll_one]
    have mem : ls[i] ∈ addAll [] (ls.take i) ↔ ls[i] ∈ ls.take i := by
      have q := addAll_in (ls.take i) [] ls[i]
      simp only [List.not_mem_nil, false_or] at q
      exact q
    have de : dupAt ls i = decide (ls[i] ∈ ls.take i) := by
      unfold dupAt
      rw [List.getElem?_eq_getElem lt]
    rw [e]
    unfold add1
    by_cases m : ls[i] ∈ ls.take i
    · rw [if_pos (mem.mpr m)]
      constructor
      · intro g
        have := g i (Nat.lt_succ_self _)
        rw [de, decide_eq_true m] at this
        cases this
      · intro g
        omega
    · rw [if_neg fun q => m (mem.mp q), List.length_append]
      constructor
      · intro g
        have := ih.mp fun k hk => g k (by omega)
        simp
        omega
      · intro g k hk
        simp at g
        by_cases ek : k = i
        · rw [ek, de, decide_eq_false m]
        · exact ih.mpr (by omega) k (by omega)
theorem dup_all (ls : List Str) : (∀ k, k < ls.length → dupAt ls k = false) ↔ ¬ (addAll [] ls).length < ls.length := by
  have h := dup_pre ls ls.length (Nat.le_refl _)
  rw [List.take_length] at h
  have le := addAll_len ls []
  simp only [List.length_nil] at le
  rw [h]
  omega
def spMapWord : Sp := fun vs H Q _ => ∃ (x : V) (no : Option (List (Key × V))) (b : Addr) (ps : List Str), vs = [x, .ref b] ∧ NamesIs H x no ∧ H b = some (.lst (ps.map V.str)) ∧ ps.length ≤ 900 ∧ ∀ H', Same H H' → Q (wordV (mapDue no ps)) H'
section
variable {P : Program} {w : World} {K : PySem.W.Frag} {mg : Str → Option Value} {base : Heap}
abbrev nMapWord : List Str := ["_law_names", "_law_persons", "_law_led", "_law_person", "_law_k"]
theorem scMapWord : FnScope nMapWord ["_law_names", "_law_persons"] (defScope sLMapWord) := ⟨rfl, rfl, rfl, by decide +kernel, rfl, by decide +kernel, by decide +kernel⟩
theorem ok_mapword {f : Addr} {fd : FuncData} (F : Fun K "_law_map_word" "_law_map_word" sLMapWord f fd) (m : mg "_law_map_word" = some (.ref f)) (T : Bl mg) (B : Bm mg) (Db : Bd mg) (L : HasF P w K mg base "_law_label" 1 ["_law_thing"] spLLab) : HasF P w K mg base "_law_map_word" 4 ["_law_names", "_law_persons"] spMapWord := by
  refine ⟨f, fd, ?_, m, F.kp, F.binds fun _ _ _ _ _ _ us hl => match us, hl with | [_, _], _ => rfl⟩
  obtain ⟨f1, fd1, L⟩ := L
  refine F.ok scMapWord (fun vs H Q E h => ?_) (fun cdv A outer s H vs Q E hr h => ?_)
  · obtain ⟨a, b, c, d, rfl, _⟩ := h
    rfl
  · obtain ⟨x, no, b, ps, rfl, hx, hb, l9, k⟩ := h
    have hu := hu_of hr
    have hr1 : Room 1 _ := hr.mono (by decide)
    refine ⟨_, (pss_cons (ps_if (pt_not (pt_val (pe_callB call_isi (by rfl) B.isinstance (by decide +kernel) (pa_cons (pv 0) (pa_cons (pe_bltn (v := .ty "dict") (by rfl) Db.dict (by decide +kernel) rfl) pa_nil))))) (pss_one (ps_ret pe_str)) pss_nil)
    (C8.pss_cut (ps_if (pt_cmpR (op_neL hr.units) (pe_lc (own := [("_law_person", 3)]) (g := gName 3) (by rfl) scMapWord.nd (pi_seq (pv 1)) (blkOk_by (own := [("_law_person", 3)]) (N := nMapWord) (sc := defScope sLMapWord) (by decide +kernel))
            (fun _ _ _ _ _ => pg_name (i := 3) scMapWord.nd rfl (Or.inl rfl)) (fun _ _ _ _ _ => pts_one (pt_cmp (pc_dnotin hu (pv 3) (pv 0)))) (fun _ _ _ _ _ => (pv 3))) (pe_lst pa_nil) (nomark _)) (pss_one (ps_ret pe_str)) pss_nil)
    (C8.pss_cut (ps_if (pt_cmpR (op_neL hr.units) (pe_lc (own := [("_law_person", 3)]) (g := gName 3) (by rfl) scMapWord.nd (pi_seq (pv 1)) (blkOk_by (own := [("_law_person", 3)]) (N := nMapWord) (sc := defScope sLMapWord) (by decide +kernel))
            (fun _ _ _ _ _ => pg_name (i := 3) scMapWord.nd rfl (Or.inl rfl)) (fun _ _ _ _ _ => pts_one (pt_not (pt_val (pe_call L.G hr1 (by rfl) L.m L.kp L.b .nil pass0 (pa_cons (pe_dget hu (pv 0) (pv 3) (fun _ _ => rfl)) pa_nil))))) (fun _ _ _ _ _ => (pv 3))) (pe_lst pa_nil) (nomark _)) (pss_one (ps_ret pe_str)) pss_nil)
    (C8.pss_cut (ps_set (i := 2) scMapWord.nd rfl (Or.inr rfl) (pe_lc (own := [("_law_person", 3)]) (g := gName 3) (tt := tYes) (by rfl) scMapWord.nd (pi_seq (pv 1)) (blkOk_by (own := [("_law_person", 3)]) (N := nMapWord) (sc := defScope sLMapWord) (by decide +kernel))
            (fun _ _ _ _ _ => pg_name (i := 3) scMapWord.nd rfl (Or.inl rfl)) (fun _ _ _ _ _ => pts_nil) (fun _ _ _ _ _ => (pe_dget hu (pv 0) (pv 3) (fun _ _ => rfl)))))
    (pss_one (ps_ret (pe_ifExp (pt_cmpR (op_neL hr.units) (pe_lc (own := [("_law_k", 4)]) (g := gName 4) (by rfl) scMapWord.nd (pi_range1 (by rfl) T.range (pa_cons (pe_callB call_len_seq (by rfl) T.len PySem.boot_len (pa_cons (pv 2) pa_nil)) pa_nil)) (blkOk_by (own := [("_law_k", 4)]) (N := nMapWord) (sc := defScope sLMapWord) (by decide +kernel))
            (fun _ _ _ _ _ => pg_name (i := 4) scMapWord.nd rfl (Or.inl rfl)) (fun _ _ _ _ _ => pts_one (t := tTest (tOp (rIn K false) (tOp (rIx K) (tVar 2) (tVar 4)) (tSl (rSlL K) (tVar 2) tNoPart (tPart (tVar 4))))) (pt_cmpR (X := _) op_in_seq (pe_ix ix_seq (pv 2) (pv 4) (fun _ _ => rfl)) (pe_slice sl_list (pv 2) po_none (po_some (pv 4))) (by rfl))) (fun _ _ _ _ _ => (pv 4))) (pe_lst pa_nil) (nomark _)) pe_str pe_non))))))), ?_⟩
    obtain ⟨n, kd, kn⟩ := hx.kd
    refine ⟨_, rfl, x, _, _, _, _, rfl, .ty _, kd.ty, kit_ty (kit_dict kd.kits), _, rfl, ?_⟩
    rw [kn]
    cases hx with
    | oth h l' => exact iteT (k H (Same.refl _))
    | dct ha t =>
    rename_i a kvs
    refine iteF ?_
    have word : ∀ w', (if ps.all (fun z => (atN kvs z).isSome) = true then (if ps.all (fun z => labO (atN kvs z)) = true then (if (addAll [] (ledOf kvs ps)).length < ps.length then some (Str.ofString "merged") else none) else some (Str.ofString "label")) else some (Str.ofString "person")) = w' → ∀ H', Same H H' → Q (wordV w') H' := fun w' e H' s => by
      have q := k H' s
      have e2 : mapDue (some kvs) ps = w' := e
      rw [e2] at q
      exact q
    have at_ : ∀ {i : Nat} {y : V}, (ps.map V.str)[i]? = some y → ∃ z, ps[i]? = some z ∧ y = V.str z := fun {i y} hi => by
      rw [List.getElem?_map] at hi
      cases e : ps[i]? with
      | none => rw [e] at hi; cases hi
      | some z => rw [e] at hi; exact ⟨z, rfl, (Option.some.inj hi).symm⟩
    have allOf : ∀ {f : Str → Bool}, (∀ i, i < (ps.map V.str).length → (match ps[i]? with | some z => !f z | none => false) = false) ↔ ps.all f = true := fun {f} => by
      constructor
      · intro h
        refine List.all_eq_true.mpr fun z m => ?_
        obtain ⟨i, hi⟩ := List.mem_iff_getElem?.mp m
        have q := h i (by rw [List.length_map]; exact (List.getElem?_eq_some_iff.mp hi).1)
        rw [hi] at q
        have q : (!f z) = false := q
        cases e : f z with
        | true => rfl
        | false => rw [e] at q; cases q
      · intro h i _
        cases e : ps[i]? with
        | none => rfl
        | some z =>
          have q := List.all_eq_true.mp h z (List.mem_of_getElem? e)
          show (!f z) = false
          rw [q]
          rfl
    -- each is there
    refine ⟨fun σ H1 => ps.all (fun z => (atN kvs z).isSome) = true ∧ σ = [some (.ref a), some (.ref b), none, none, none] ∧ Same H H1, ?_, ?_⟩
    · refine ⟨_, rfl, b, rfl, lc_filt (g := gName 3) (fun j => match ps[j]? with | some z => !(atN kvs z).isSome | none => false) (IsSeq.lst hb) (Same.refl _) (by rw [List.length_map]; omega) ?_ ?_⟩
      · intro D2 j y H6 kt kf hj hD2 s6 _ kt' kf'
        obtain ⟨z, hz, rfl⟩ := at_ hj
        rw [hz] at kt' kf'
        refine ⟨rfl, _, rfl, _, rfl, a, _, rfl, DGet.k (k := Sum.inr z) (s6 _ _ ha), _, rfl, ?_⟩
        cases e : valV kvs (Sum.inr z : Key) with
        | none => exact (if_pos rfl).mpr ⟨_, rfl, kt' (by show (!(valV kvs (Sum.inr z : Key)).isSome) = true; rw [e]; rfl) _ _ (.inl rfl) (Same.refl _)⟩
        | some v => exact (if_neg (show ¬ (!true) = true by decide)).mpr (kf' (by show (!(valV kvs (Sum.inr z : Key)).isSome) = false; rw [e]; rfl) _ (Same.refl _))
      · intro D2 ys H6 hD2 s6 hd6 ly ok ey
        refine ⟨Nat.zero_le _, fun l hl => ne_nil (K := K) (by rw [upd_ne (ne_of_none hd6 hl)]; exact hd6) ok l upd_same ⟨_, rfl, ?_⟩⟩
        have s7 : Same H (upd H6 l (.lst [])) := sameUpd s6 hl
        have all := ey.trans allOf
        cases ys with
        | nil => exact iteF ⟨all.mp rfl, rfl, s7⟩
        | cons y ys => exact iteT (word (some "person") (if_neg fun q => by have := all.mpr q; simp at this) _ s7)
    rintro σ H1 ⟨al, rfl, s1⟩
    have some_at : ∀ z ∈ ps, ∃ v n, atN kvs z = some v ∧ Thing H v n := fun z m => by
      have q := List.all_eq_true.mp al z m
      cases e : atN kvs z with
      | none => rw [e] at q; cases q
      | some v =>
        obtain ⟨n, tv⟩ := val_thing t e
        exact ⟨v, n, rfl, tv⟩
    -- each is led to a label
    refine ⟨fun σ H2 => ps.all (fun z => labO (atN kvs z)) = true ∧ σ = [some (.ref a), some (.ref b), none, none, none] ∧ Same H H2, ?_, ?_⟩
    · refine ⟨_, rfl, b, rfl, lc_filt (g := gName 3) (fun j => match ps[j]? with | some z => !labO (atN kvs z) | none => false) (IsSeq.lst (s1 _ _ hb)) (Same.refl _) (by rw [List.length_map]; omega) ?_ ?_⟩
      · intro D2 j y H6 kt kf hj hD2 s6 _ kt' kf'
        obtain ⟨z, hz, rfl⟩ := at_ hj
        rw [hz] at kt' kf'
        have s16 := s1.trans s6
        obtain ⟨v, nv, ev, tv⟩ := some_at z (List.mem_of_getElem? hz)
        have get : DGet H6 a (.str z) (some v) := by rw [← ev]; exact DGet.k (k := Sum.inr z) (s16 _ _ ha)
        refine ⟨rfl, _, rfl, _, rfl, a, v, rfl, get, v, nv, rfl, (tv.keep s16).kd, tv.fine, fun H7 s7 => ⟨_, rfl, ?_⟩⟩
        have el : labO (atN kvs z) = labV v := by rw [ev]; rfl
        cases e : labV v with
        | false => exact (if_pos rfl).mpr ⟨_, rfl, kt' (by show (!labO (atN kvs z)) = true; rw [el, e]; rfl) _ _ (.inl rfl) s7⟩
        | true => exact (if_neg (by decide)).mpr (kf' (by show (!labO (atN kvs z)) = false; rw [el, e]; rfl) _ s7)
      · intro D2 ys H6 hD2 s6 hd6 ly ok ey
        refine ⟨Nat.zero_le _, fun l hl => ne_nil (K := K) (by rw [upd_ne (ne_of_none hd6 hl)]; exact hd6) ok l upd_same ⟨_, rfl, ?_⟩⟩
        have s7 : Same H (upd H6 l (.lst [])) := sameUpd (s1.trans s6) hl
        have all := ey.trans allOf
        cases ys with
        | nil => exact iteF ⟨all.mp rfl, rfl, s7⟩
        | cons y ys => exact iteT (word (some "label") (by rw [if_pos al, if_neg fun q => by have := all.mpr q; simp at this]) _ s7)
    rintro σ H2 ⟨al2, rfl, s2⟩
    obtain ⟨ll, lg⟩ := led_len al2
    -- what they are led to
    refine ⟨fun σ H3 => ∃ c, σ = [some (.ref a), some (.ref b), some (.ref c), none, none] ∧ Same H H3 ∧ H3 c = some (.lst ((ledOf kvs ps).map V.str)), ?_, ?_⟩
    · refine ⟨_, rfl, b, rfl, lc_pure (g := gName 3) (fun j y H' => ∀ z, (ledOf kvs ps)[j]? = some z → y = V.str z) (fun j y H' H'' q s => q) (IsSeq.lst (s2 _ _ hb)) (Same.refl _) (by rw [List.length_map]; omega) ?_ ?_ fun x σ H Q Q' q z => q _ _ z⟩
      · rintro D' i y H3 k' hi hD s3 ⟨acc, hacc⟩ kk
        obtain ⟨z, hz, rfl⟩ := at_ hi
        obtain ⟨u, eu, el, _⟩ := lg i z hz
        have get : DGet H3 a (.str z) (some (V.str u)) := by rw [← eu]; exact DGet.k (k := Sum.inr z) ((s2.trans s3) _ _ ha)
        refine ⟨rfl, _, rfl, _, rfl, a, _, rfl, get, kk _ _ (Same.refl _) fun z' e => ?_⟩
        rw [el] at e
        cases e
        rfl
      · intro D' ys H3 hD s3 hd ly g
        have ey : ys = (ledOf kvs ps).map V.str := by
          refine List.ext_getElem? fun i => ?_
          rw [List.getElem?_map]
          rw [List.length_map] at ly
          cases e : (ledOf kvs ps)[i]? with
          | none =>
            have h1 := List.getElem?_eq_none_iff.mp e
            exact List.getElem?_eq_none_iff.mpr (by omega)
          | some z =>
            have h1 := (List.getElem?_eq_some_iff.mp e).1
            have h2 : i < ys.length := by omega
            rw [List.getElem?_eq_getElem h2, g i _ (List.getElem?_eq_getElem h2) z e]
            rfl
        subst ey
        exact ⟨D', rfl, s2.trans s3, hd⟩
    rintro σ H3 ⟨c, rfl, s3, hc⟩
    generalize hls : ledOf kvs ps = ls at *
    refine ⟨_, rfl, c, _, rfl, .inl (SqL.of hc), _, rfl, by omega, by rw [List.length_map]; omega, fun D' hD => lc_range (lo := 0) (n := ((ls.map V.str).length : Int).toNat) (fun i H4 => Same H3 H4 ∧ ∃ acc, H4 D' = some (.lst acc) ∧ acc.length ≤ i ∧ (∀ z ∈ acc, okV z) ∧ (acc = [] ↔ ∀ j, j < i → dupAt ls j = false)) ⟨sameUpd (Same.refl _) hD, [], upd_same, Nat.le_refl _, (fun z h => nomatch h), ⟨fun _ j h => absurd h (Nat.not_lt_zero _), fun _ => rfl⟩⟩ ?_ ?_⟩
    · rintro i H4 hi ⟨s4, acc, hd4, la, ok, ea⟩
      have li : i < ls.length := by rw [List.length_map] at hi; omega
      have lm : i < (ls.map V.str).length := by rw [List.length_map]; exact li
      have c4 := s4 _ _ hc
      rw [show (0 + (i : Nat) : Int) = (i : Nat) from Int.zero_add _]
      refine ⟨rfl, _, rfl, _, rfl, .inl ⟨c, _, _, _, rfl, rfl, SqL.of c4, (atI_nat lm).trans (List.getElem?_eq_getElem lm), _, rfl, _, rfl, _, rfl, c, _, rfl, SqL.of c4, fun q hq => ?_⟩⟩
      rw [cut_take (ls.map V.str) i (by omega)]
      have s5 : Same H4 (upd H4 q (.lst ((ls.map V.str).take i))) := sameUpd (Same.refl _) hq
      have et : (ls.map V.str).take i = (ls.take i).map V.str := by rw [List.map_take]
      rw [et, List.getElem_map]
      rw [et] at s5
      refine ⟨q, _, rfl, .inl (SqL.of upd_same), rfl, flat_strs _, _, rfl, ?_⟩
      have dv : (if false = true then !inV (V.str ls[i]) ((ls.take i).map V.str) else inV (V.str ls[i]) ((ls.take i).map V.str)) = dupAt ls i := by
        rw [if_neg Bool.false_ne_true, inV_strs]
        unfold dupAt
        rw [List.getElem?_eq_getElem li]
      rw [dv]
      have s35 := s4.trans s5
      have d5 := s5 _ _ hd4
      cases e : dupAt ls i with
      | true =>
        refine (if_pos rfl).mpr ⟨_, rfl, acc, d5, line2 (by omega), woD hD s35 (Same.refl _), acc ++ [V.int (i : Nat)], upd_same, by simp; omega, fun z hz => ?_, ⟨fun q => by simp at q, fun q => ?_⟩⟩
        · rcases List.mem_append.mp hz with m | m
          · exact ok z m
          · rw [List.mem_singleton.mp m]; exact .inl rfl
        · rw [q i (Nat.lt_succ_self _)] at e
          cases e
      | false =>
        refine (if_neg Bool.false_ne_true).mpr ⟨s35, acc, d5, by omega, ok, ea.trans ⟨fun q j hj => ?_, fun q j hj => q j (by omega)⟩⟩
        by_cases ej : j = i
        · rw [ej]; exact e
        · exact q j (by omega)
    · rintro H4 ⟨s4, acc, hd4, la, ok, ea⟩
      refine ⟨Nat.zero_le _, fun l hl => ne_nil (K := K) (by rw [upd_ne (ne_of_none hd4 hl)]; exact hd4) ok l upd_same ⟨_, rfl, ?_⟩⟩
      have s7 : Same H (upd H4 l (.lst [])) := sameUpd (s3.trans s4) hl
      have ln : ((ls.map V.str).length : Int).toNat = ls.length := by rw [List.length_map]; omega
      rw [ln] at ea
      have ed := ea.trans (dup_all ls)
      rw [ll] at ed
      cases acc with
      | nil => exact iteF (word none (by rw [if_pos al, if_pos al2, if_neg (ed.mp rfl)]) _ s7)
      | cons y ys =>
        refine iteT (word (some "merged") ?_ _ s7)
        rw [if_pos al, if_pos al2, if_pos (Classical.byContradiction fun q => by have := ed.mpr q; simp at this)]
end
end Kx

set_option maxHeartbeats 8000000
namespace Kx
open PySem L2
/-! there and back -/
theorem inj_led {kvs : List (Key × V)} {ps : List Str} (al : ps.all (fun z => labO (atN kvs z)) = true) (nd : ¬ (addAll [] (ledOf kvs ps)).length < ps.length) {z z' y : Str} (m : z ∈ ps) (m' : z' ∈ ps) (e : atN kvs z = some (.str y)) (e' : atN kvs z' = some (.str y)) : z = z' := by
  obtain ⟨ll, lg⟩ := led_len al
  rw [← ll] at nd
  have dup := (dup_all _).mpr nd
  obtain ⟨i, hi⟩ := List.mem_iff_getElem?.mp m
  obtain ⟨j, hj⟩ := List.mem_iff_getElem?.mp m'
  obtain ⟨u, eu, li, _⟩ := lg i z hi
  obtain ⟨u', eu', lj, _⟩ := lg j z' hj
  rw [e] at eu
  rw [e'] at eu'
  cases eu
  cases eu'
  have no : ∀ {a b : Nat}, (ledOf kvs ps)[a]? = some y → (ledOf kvs ps)[b]? = some y → ¬ a < b := fun {a b} ha hb lt => by
    have d := dup b (List.getElem?_eq_some_iff.mp hb).1
    unfold dupAt at d
    rw [hb] at d
    have d : decide (y ∈ (ledOf kvs ps).take b) = false := d
    refine absurd (List.mem_of_getElem? (i := a) ?_) (of_decide_eq_false d)
    rw [List.getElem?_take_of_lt lt]
    exact ha
  have : i = j := by
    have h1 := no li lj
    have h2 := no lj li
    omega
  subst this
  rw [hi] at hj
  cases hj
  rfl
def backOf (kvs : List (Key × V)) (ss : List (Option Str)) : List (Key × V) := ss.filterMap fun o => match o with
  | none => none
  | some z => (renO kvs (some z)).map fun y => ((Sum.inr y : Key), V.str z)
theorem merge_at {k : Key} {v : V} : ∀ {more acc : List (Key × V)}, (∀ kv ∈ more, kv.1 = k → kv.2 = v) → ((∃ kv ∈ more, kv.1 = k) ∨ valV acc k = some v) → valV (mergeK acc more) k = some v
  | [], acc, _, h => by
    rcases h with ⟨_, m, _⟩ | h
    · cases m
    · exact h
  | kv :: more, acc, f, h => by
    show valV (mergeK (putK acc kv.1 kv.2) more) k = some v
    refine merge_at (fun kv' m => f kv' (.tail _ m)) ?_
    by_cases e : k = kv.1
    · refine .inr ?_
      rw [valV_put, if_pos e, f kv (.head _) e.symm]
    · rcases h with ⟨kv', m, e'⟩ | h
      · cases m with
        | head => exact absurd e'.symm e
        | tail _ m => exact .inl ⟨kv', m, e'⟩
      · exact .inr (by rw [valV_put, if_neg e]; exact h)
section
variable {kvs : List (Key × V)} {ss : List (Option Str)}
theorem back_mem {kv : Key × V} (m : kv ∈ backOf kvs ss) : ∃ z y, some z ∈ ss ∧ renO kvs (some z) = some y ∧ kv = ((Sum.inr y : Key), V.str z) := by
  obtain ⟨o, mo, e⟩ := List.mem_filterMap.mp m
  cases o with
  | none => cases e
  | some z =>
    cases er : renO kvs (some z) with
    | none =>
      have e : (renO kvs (some z)).map (fun y => ((Sum.inr y : Key), V.str z)) = some kv := e
      rw [er] at e
      cases e
    | some y =>
      have e : (renO kvs (some z)).map (fun y => ((Sum.inr y : Key), V.str z)) = some kv := e
      rw [er] at e
      cases e
      exact ⟨z, y, mo, er, rfl⟩
theorem back_in {z y : Str} (m : some z ∈ ss) (e : renO kvs (some z) = some y) : ((Sum.inr y : Key), V.str z) ∈ backOf kvs ss :=
  List.mem_filterMap.mpr ⟨some z, m, by show (renO kvs (some z)).map _ = _; rw [e]; rfl⟩
theorem ren_str {z y : Str} (e : renO kvs (some z) = some y) : atN kvs z = some (.str y) := by
  have e : strO (atN kvs z) = some y := e
  cases h : atN kvs z with
  | none => rw [h] at e; cases e
  | some v =>
    rw [h] at e
    cases v with
    | str u => cases e; rfl
    | _ => cases e
variable (al : (sitOf ss).all (fun z => labO (atN kvs z)) = true) (nd : ¬ (addAll [] (ledOf kvs (sitOf ss))).length < (sitOf ss).length)
theorem back_at (al : (sitOf ss).all (fun z => labO (atN kvs z)) = true) (nd : ¬ (addAll [] (ledOf kvs (sitOf ss))).length < (sitOf ss).length) {z y : Str} (m : some z ∈ ss) (e : renO kvs (some z) = some y) : atN (mergeK [] (backOf kvs ss)) y = some (.str z) := by
  refine merge_at (fun kv mk ek => ?_) (.inl ⟨_, back_in m e, rfl⟩)
  obtain ⟨z', y', m', e', rfl⟩ := back_mem mk
  have ey : y' = y := Sum.inr.inj ek
  subst ey
  have := inj_led al nd (sit_mem.mpr m') (sit_mem.mpr m) (ren_str e') (ren_str e)
  rw [this]
theorem ren_some (al : (sitOf ss).all (fun z => labO (atN kvs z)) = true) {z : Str} (m : some z ∈ ss) : ∃ y, renO kvs (some z) = some y ∧ isLab y = true := by
  obtain ⟨y, e, hy, e2⟩ := labO_str (List.all_eq_true.mp al z (sit_mem.mpr m))
  exact ⟨y, e2, hy⟩
theorem back_ren (al : (sitOf ss).all (fun z => labO (atN kvs z)) = true) (nd : ¬ (addAll [] (ledOf kvs (sitOf ss))).length < (sitOf ss).length) : (ss.map (renO kvs)).map (renO (mergeK [] (backOf kvs ss))) = ss := by
  rw [List.map_map]
  have h : ∀ o ∈ ss, (renO (mergeK [] (backOf kvs ss)) ∘ renO kvs) o = id o := fun o m => by
    cases o with
    | none => rfl
    | some z =>
      obtain ⟨y, e, _⟩ := ren_some al m
      show renO (mergeK [] (backOf kvs ss)) (renO kvs (some z)) = some z
      rw [e]
      show strO (atN (mergeK [] (backOf kvs ss)) y) = some z
      rw [back_at al nd m e]
      rfl
  rw [List.map_congr_left h, List.map_id]
theorem sit_nodup (ss : List (Option Str)) : (sitOf ss).Nodup := by
  have h : ∀ (zs acc : List Str), acc.Nodup → (addAll acc zs).Nodup := fun zs => by
    induction zs with
    | nil => exact fun acc h => h
    | cons z zs ih =>
      intro acc h
      have e : addAll acc (z :: zs) = addAll (add1 acc z) zs := rfl
      rw [e]
      refine ih _ ?_
      unfold add1
      split
      · exact h
      · rename_i n
        exact List.nodup_append.mpr ⟨h, by simp, fun a ha b hb e => by rw [List.mem_singleton.mp hb] at e; exact n (e ▸ ha)⟩
  exact h _ [] List.nodup_nil
theorem back_due (g : ∀ z, some z ∈ ss → isLab z = true) (al : (sitOf ss).all (fun z => labO (atN kvs z)) = true) (nd : ¬ (addAll [] (ledOf kvs (sitOf ss))).length < (sitOf ss).length) : mapDue (some (mergeK [] (backOf kvs ss))) (sitOf (ss.map (renO kvs))) = none := by
  have at_ : ∀ y ∈ sitOf (ss.map (renO kvs)), ∃ z, some z ∈ ss ∧ renO kvs (some z) = some y ∧ atN (mergeK [] (backOf kvs ss)) y = some (.str z) := fun y my => by
    obtain ⟨o, mo, e⟩ := List.mem_map.mp (sit_mem.mp my)
    cases o with
    | none => cases e
    | some z => exact ⟨z, mo, e, back_at al nd mo e⟩
  have a1 : (sitOf (ss.map (renO kvs))).all (fun z => (atN (mergeK [] (backOf kvs ss)) z).isSome) = true := List.all_eq_true.mpr fun y my => by
    obtain ⟨z, _, _, e⟩ := at_ y my
    rw [e]
    rfl
  have a2 : (sitOf (ss.map (renO kvs))).all (fun z => labO (atN (mergeK [] (backOf kvs ss)) z)) = true := List.all_eq_true.mpr fun y my => by
    obtain ⟨z, mz, _, e⟩ := at_ y my
    rw [e]
    exact g z mz
  obtain ⟨ll, lg⟩ := led_len a2
  have nd2 : ¬ (addAll [] (ledOf (mergeK [] (backOf kvs ss)) (sitOf (ss.map (renO kvs))))).length < (sitOf (ss.map (renO kvs))).length := by
    rw [← ll]
    refine (dup_all _).mp fun k hk => ?_
    unfold dupAt
    rw [List.getElem?_eq_getElem hk]
    refine decide_eq_false fun mem => ?_
    obtain ⟨i, hi⟩ := List.mem_iff_getElem?.mp mem
    have ilt : i < k := by
      have := (List.getElem?_eq_some_iff.mp hi).1
      rw [List.length_take] at this
      omega
    rw [List.getElem?_take_of_lt ilt] at hi
    have hkp : k < (sitOf (ss.map (renO kvs))).length := by omega
    have hip : i < (sitOf (ss.map (renO kvs))).length := by omega
    obtain ⟨u, e1, l1, _⟩ := lg k _ (List.getElem?_eq_getElem hkp)
    obtain ⟨u', e2, l2, _⟩ := lg i _ (List.getElem?_eq_getElem hip)
    rw [List.getElem?_eq_getElem hk] at l1
    rw [hi] at l2
    obtain ⟨z1, _, r1, b1⟩ := at_ _ (List.getElem_mem hkp)
    obtain ⟨z2, _, r2, b2⟩ := at_ _ (List.getElem_mem hip)
    rw [e1] at b1
    rw [e2] at b2
    have q1 : u = z1 := V.str.inj (Option.some.inj b1)
    have q2 : u' = z2 := V.str.inj (Option.some.inj b2)
    have q3 : u = u' := (Option.some.inj l1).symm.trans (Option.some.inj l2)
    rw [← q1] at r1
    rw [← q2, ← q3] at r2
    rw [r1] at r2
    have q4 := Option.some.inj r2
    exact absurd ((List.getElem_inj (sit_nodup _)).mp q4) (by omega)
  show (if _ then _ else _) = _
  rw [if_pos a1, if_pos a2, if_neg nd2]
end
end Kx

set_option maxHeartbeats 16000000
namespace Kx
open PySem L2
/-- no instance, no tuple stands there -/
def Other (H : Hp) (n : Addr) : Prop := (∀ C dx fs, H n ≠ some (.ins C dx fs)) ∧ ∀ xs, H n ≠ some (.tup xs)
theorem other_lst {H : Hp} {n : Addr} {xs : List V} (h : H n = some (.lst xs)) : Other H n := ⟨(fun _ _ _ e => by rw [h] at e; cases e), (fun _ e => by rw [h] at e; cases e)⟩
theorem other_dct {H : Hp} {n : Addr} {xs : List (Key × V)} (h : H n = some (.dK xs)) : Other H n := ⟨(fun _ _ _ e => by rw [h] at e; cases e), (fun _ e => by rw [h] at e; cases e)⟩
theorem other_hand {H : Hp} {p q : Addr} (h : HandAt H p q) : Other H p := by
  obtain ⟨cs, a, b, c, h1, h2⟩ := h
  exact other_lst h1
theorem StandAt.hide {C : Addr} {H : Hp} {p n : Addr} {r : Str} {ss : List (Option Str)} {cs : List (Int × Bool)} (h : StandAt C H p r ss cs) (o : Other H n) : StandAt C (wo n H) p r ss cs := by
  obtain ⟨⟨dx, sa, ca, xs, h1, h2, h3, h4⟩, g⟩ := h
  have t : ∀ {a : Addr} {ys : List V}, H a = some (.tup ys) → wo n H a = some (.tup ys) := fun e => wo_at e fun z => o.2 _ (z ▸ e)
  exact ⟨⟨dx, sa, ca, xs, wo_at h1 fun z => o.1 _ _ _ (z ▸ h1), t h2, t h3, pr_imp h4 fun x c ⟨a, e, ha⟩ => ⟨a, e, t ha⟩⟩, g⟩
theorem CodeAt.hide {H : Hp} {p n : Addr} {r : Str} {ss : List (Option Str)} {cs : List (Int × Bool)} (h : CodeAt H p r ss cs) (o : Other H n) : CodeAt (wo n H) p r ss cs := by
  obtain ⟨⟨sa, ca, xs, h1, h2, h3, h4⟩⟩ := h
  have t : ∀ {a : Addr} {ys : List V}, H a = some (.tup ys) → wo n H a = some (.tup ys) := fun e => wo_at e fun z => o.2 _ (z ▸ e)
  exact ⟨⟨sa, ca, xs, t h1, t h2, t h3, pr_imp h4 fun x c ⟨a, e, ha⟩ => ⟨a, e, t ha⟩⟩⟩
theorem StandAt.draw {C : Addr} {H H' : Hp} {m p q : Addr} {r : Str} {ss : List (Option Str)} {cs : List (Int × Bool)} (h : StandAt C H m r ss cs) (hp : HandAt H p q) (k : Keep H H' p) : StandAt C H' m r ss cs :=
  ((h.hide (other_hand hp)).keep (wo_keep k)).keep wo_same
theorem CodeAt.draw {H H' : Hp} {m p q : Addr} {r : Str} {ss : List (Option Str)} {cs : List (Int × Bool)} (h : CodeAt H m r ss cs) (hp : HandAt H p q) (k : Keep H H' p) : CodeAt H' m r ss cs :=
  ((h.hide (other_hand hp)).keep (wo_keep k)).keep wo_same
theorem shaped_tupS {ys : List Str} (ok : Ok ys) : SeqAt.shaped (.tuple (dS ys)) = true := by
  have h := lay_strs ok
  have h2 := deep_strs ys
  have h3 : PyData.depth (.tuple (dS ys)) ≤ 64 := by
    show PyData.depthAll (dS ys) + 1 ≤ 64
    omega
  unfold SeqAt.shaped
  rw [decide_eq_true h3, Bool.and_true]
  exact h
theorem eqv_tupS (ys : List Str) : PyData.eqv (.tuple (dS ys)) (.tuple (dS ys)) = true := by
  show PyData.eqvAll (ys.map PyData.str) (ys.map PyData.str) = true
  rw [eqvAll_map eqv_str]
  exact decide_eq_true rfl
def spRenames (C : Addr) : Sp := fun vs H Q _ => ∃ (p q m a : Addr) (r : Str) (ss : List (Option Str)) (cs : List (Int × Bool)), vs = [.ref p, .ref m, .ref a] ∧ HandAt H p q ∧ StandAt C H m r ss cs ∧ CodeAt H a r ss cs ∧ ∀ H', HandAt H' p q → Keep H H' p → Q (.bl true) H'
section
variable {P : Program} {w : World} {K : PySem.W.Frag} {mg : Str → Option Value} {base : Heap}
abbrev nRenames : List Str := ["_law_hand_here", "_law_made", "_law_stand", "_law_persons", "_law_person", "_law_names", "_law_due", "_law_told", "_law_seats", "_law_back", "_law_k"]
theorem scRenames : FnScope nRenames ["_law_hand_here", "_law_made", "_law_stand"] (defScope sLRenames) := ⟨rfl, rfl, rfl, by decide +kernel, rfl, by decide +kernel, by decide +kernel⟩
theorem ok_renames {f C CM pP gP gR gE : Addr} {fd fdP fdR fdE : FuncData} (F : Fun K "_law_renames" "_law_renames" sLRenames f fd) (m : mg "_law_renames" = some (.ref f)) (T : Bl mg) (B : Bm mg) (Db : Bd mg) (SX : SC K C) (PP : PropOf K C "persons" pP gP) (GP : FnOk P w K mg base CX0 2 gP fdP ["self"] (spSPers C)) (bP : Binds K fdP ["self"] [])
    (MR : Meth K C "renamed" gR) (GR : FnOk P w K mg base (L2.CX P w) 6 gR fdR ["self", "names"] (spRenamed C CM)) (bR : Binds K fdR ["self", "names"] []) (OE : OwnM P w K mg base C "__eq__" 3 ["self", "other"] (spSEq C) gE fdE) (nf : PySem.W.notFirst K C (.ref C) = true)
    (Ma : HasF P w K mg base "_law_map" 6 ["_law_hand_here", "_law_persons"] spLMap) (MW : HasF P w K mg base "_law_map_word" 4 ["_law_names", "_law_persons"] spMapWord) (LR : HasF P w K mg base "_law_renamed" 7 ["_law_made", "_law_names"] (spLRenamed C)) (IS : HasF P w K mg base "_law_is_stand" 4 ["_law_told", "_law_stand"] (spIsStand C)) :
    HasF P w K mg base "_law_renames" 8 ["_law_hand_here", "_law_made", "_law_stand"] (spRenames C) := by
  refine ⟨f, fd, ?_, m, F.kp, F.binds fun _ _ _ _ _ _ us hl => match us, hl with | [_, _, _], _ => rfl⟩
  obtain ⟨f1, fd1, Ma⟩ := Ma; obtain ⟨f2, fd2, MW⟩ := MW; obtain ⟨f3, fd3, LR⟩ := LR; obtain ⟨f4, fd4, IS⟩ := IS
  refine F.ok scRenames (fun vs H Q E h => ?_) (fun cdv A outer s H vs Q E hr h => ?_)
  · obtain ⟨a, b, c, d, e, g, i, rfl, _⟩ := h
    rfl
  · obtain ⟨p, q, mm, a, r, ss, cs, rfl, hp, hm, ha, k⟩ := h
    have hu := hu_of hr
    have hr3 : Room 3 _ := hr.mono (by decide)
    have hr4 : Room 4 _ := hr.mono (by decide)
    have hr6 : Room 6 _ := hr.mono (by decide)
    refine ⟨_, (pss_cons (ps_set (i := 3) scRenames.nd rfl (Or.inl rfl) (pe_lst pa_nil))
    (C8.pss_cut (ps_for PassesOwn.never rfl (pi_seq (pe_ix ix_seq (pv 2) pe_int (fun _ _ => rfl))) (pg_name (i := 4) scRenames.nd rfl (.inl rfl))
        (pss_one (ps_if (PW.pt (pw_and (pt_cmpR op_notN (pv 4) pe_non (nomark _)) (pw_and1 (pt_cmpR op_notIn_seq (pv 4) (pv 3) (by rfl))))) (pss_one (ps_expr (pe_bm PySem.F.plainAttrs_list PySem.F.slot_list_append PySem.F.type_list_append mt_append (pv 3) (pa_cons (pv 4) pa_nil)))) pss_nil)))
    (C8.pss_cut (ps_if (pt_cmpR (op_neD hr.units) (pe_prop (pv 1) SX.cl PP GP hr3 bP .nil pass0 (by rfl)) (pe_callTy (call_tupK (K := K) rfl) (by rfl) B.tuple (by decide +kernel) (pa_cons (pv 3) pa_nil)) (nomark _)) (pss_one ps_never) pss_nil)
    (C8.pss_cut (ps_set (i := 5) scRenames.nd rfl (Or.inr rfl) (pe_call Ma.G hr6 (by rfl) Ma.m Ma.kp Ma.b .nil pass0 (pa_cons (pv 0) (pa_cons (pv 3) pa_nil))))
    (C8.pss_cut (ps_par (i := 6) (j := 7) rfl scRenames.nd rfl rfl (by decide) rfl rfl (pa_cons (pe_call MW.G hr4 (by rfl) MW.m MW.kp MW.b .nil pass0 (pa_cons (pv 5) (pa_cons (pv 3) pa_nil))) (pa_cons (pe_call LR.G hr (by rfl) LR.m LR.kp LR.b .nil pass0 (pa_cons (pv 1) (pa_cons (pv 5) pa_nil))) pa_nil)) (by rfl))
    (C8.pss_cut (ps_if (pt_cmpR op_notN (pv 6) pe_non (nomark _)) (pss_one (ps_ret (pe_cmpR op_eq (pv 7) (pv 6) (nomark _)))) pss_nil)
    (C8.pss_cut (ps_set (i := 8) scRenames.nd rfl (Or.inr rfl) (pe_lc (own := [("_law_person", 4)]) (g := gName 4) (tt := tYes) (by rfl) scRenames.nd (pi_seq (pe_ix ix_seq (pv 2) pe_int (fun _ _ => rfl))) (blkOk_by (own := [("_law_person", 4)]) (N := nRenames) (sc := defScope sLRenames) (by decide +kernel))
          (fun _ _ _ _ _ => pg_name (i := 4) scRenames.nd rfl (Or.inl rfl)) (fun _ _ _ _ _ => pts_nil) (fun _ _ _ _ _ => pe_ifExp (pt_cmpR op_isN (pv 4) pe_non (nomark _)) pe_non (pe_dget hu (pv 5) (pv 4) (fun _ _ => rfl)))))
    (C8.pss_cut (ps_if (pt_not (pt_val (pe_call IS.G hr4 (by rfl) IS.m IS.kp IS.b .nil pass0 (pa_cons (pv 7) (pa_cons (pe_tup (pa_cons (pe_ix ix_seq (pv 2) pe_int (fun _ _ => rfl)) (pa_cons (pe_callTy (call_tupK (K := K) rfl) (by rfl) B.tuple (by decide +kernel) (pa_cons (pv 8) pa_nil)) (pa_cons (pe_ix ix_seq (pv 2) pe_int (fun _ _ => rfl)) pa_nil)))) pa_nil))))) (pss_one ps_never) pss_nil)
    (C8.pss_cut (ps_expr (pe_dclear (pv 5)))
    (C8.pss_cut (ps_set (i := 9) scRenames.nd rfl (Or.inl rfl) (pe_callTy (call_dictP rfl) (by rfl) Db.dict (by decide +kernel) (pa_cons (pe_lc (own := [("_law_k", 10)]) (g := gName 10) (by rfl) scRenames.nd (pi_range1 (by rfl) T.range (pa_cons (pe_callB call_len_seq (by rfl) T.len PySem.boot_len (pa_cons (pv 8) pa_nil)) pa_nil)) (blkOk_by (own := [("_law_k", 10)]) (N := nRenames) (sc := defScope sLRenames) (by decide +kernel))
            (fun _ _ _ _ _ => pg_name (i := 10) scRenames.nd rfl (Or.inl rfl)) (fun _ _ _ _ _ => pts_one (t := tTest (tOp (fun x y H Q => y = .non ∧ Q (.bl (!decide (x = .non))) H) (tOp (rIx K) (tVar 8) (tVar 10)) (tC .non))) (pt_cmpR (X := _) op_notN (pe_ix ix_seq (pv 8) (pv 10) (fun _ _ => rfl)) pe_non (nomark _))) (fun _ _ _ _ _ => pe_tup (t := tCons (tOp (rIx K) (tVar 8) (tVar 10)) (tCons (tOp (rIx K) (tOp (rIx K) (tVar 2) (tC (.int 1))) (tVar 10)) tNil)) (pa_cons (pe_ix ix_seq (pv 8) (pv 10) (fun _ _ => rfl)) (pa_cons (pe_ix ix_seq (pe_ix ix_seq (pv 2) pe_int (fun _ _ => rfl)) (pv 10) (fun _ _ => rfl)) pa_nil)))) pa_nil)))
    (pss_one (ps_ret (pe_and (pe_call IS.G hr4 (by rfl) IS.m IS.kp IS.b .nil pass0 (pa_cons (pe_meth (pv 7) SX.cl MR GR hr6 bR .nil passL (pa_cons (pv 9) pa_nil)) (pa_cons (pv 2) pa_nil))) (pe_one (pe_cmpR (op_eqOwn OE.M.at_ OE.M.fn OE.raw hr3 pass0) (pe_meth (pv 7) SX.cl MR GR hr6 bR .nil passL (pa_cons (pv 9) pa_nil)) (pv 1) (nomark _)))))))))))))))), ?_⟩
    obtain ⟨sa, ca, xs, g1, g2, g3, g4⟩ := ha.ob
    have g := hm.good
    obtain ⟨dx, msa, mca, mxs, m1, m2, m3, m4⟩ := hm.ob
    have ix : ∀ {H' : Hp} {i : Int} {v : V} {Q' : V → Hp → Prop}, H' a = some (.tup [.str r, .ref sa, .ref ca]) → atI [V.str r, V.ref sa, V.ref ca] i = some v → Q' v H' → rIx K (.ref a) (.int i) H' Q' := fun h e q => .inr (.inl ⟨_, _, _, _, rfl, rfl, SqT.of h, e, q⟩)
    refine ⟨Nat.zero_le _, fun b hb => ?_⟩
    have s0 : Same H (upd H b (.lst [])) := sameUpd (Same.refl _) hb
    have nos : Same H (upd H b (.lst [])) := s0
    -- the persons
    refine ⟨fun σ H1 => ∃ v4, σ = [some (.ref p), some (.ref mm), some (.ref a), some (.ref b), v4, none, none, none, none, none, none] ∧ Same H H1 ∧ H1 b = some (.lst ((sitOf ss).map V.str)), ?_, ?_⟩
    · refine ⟨_, rfl, ix (s0 _ _ g1) (atI1 _ _ _) ⟨sa, rfl, for_sq (K := K) (a := sa) (xs := ss.map oV) (IsSeq.tup g2) (fun i σ H2 => ∃ v4, σ = [some (.ref p), some (.ref mm), some (.ref a), some (.ref b), v4, none, none, none, none, none, none] ∧ Same H H2 ∧ H2 b = some (.lst ((addAll [] ((ss.take i).filterMap id)).map V.str))) ⟨none, rfl, s0, upd_same⟩ (fun i σ H2 ⟨_, _, s, _⟩ => s) ?_ ?_⟩⟩
      · rintro i x σ H2 hi ⟨v4, rfl, s2, hb2⟩
        rw [List.getElem?_map] at hi
        obtain ⟨o, ho, rfl⟩ : ∃ o, ss[i]? = some o ∧ x = oV o := by
          cases e : ss[i]? with
          | none => rw [e] at hi; cases hi
          | some z => rw [e] at hi; exact ⟨z, rfl, (Option.some.inj hi).symm⟩
        have lt : i < ss.length := (List.getElem?_eq_some_iff.mp ho).1
        have st : (ss.take (i + 1)).filterMap id = (ss.take i).filterMap id ++ o.toList := by
          rw [List.take_add_one, ho, List.filterMap_append]
          cases o <;> rfl
        rw [st]
        cases o with
        | none => exact ⟨_, rfl, rfl, _, rfl, iteF ⟨_, rfl, s2, by simpa using hb2⟩⟩
        | some z =>
          refine ⟨_, rfl, rfl, _, rfl, iteT ⟨_, rfl, _, rfl, b, _, rfl, .inl (SqL.of hb2), rfl, flat_strs _, _, rfl, ?_⟩⟩
          show (if (!inV (.str z) ((addAll [] ((ss.take i).filterMap id)).map V.str)) = true then _ else _)
          rw [inV_strs, show (some z : Option Str).toList = [z] from rfl, addAll_one]
          unfold add1
          by_cases e : z ∈ addAll [] ((ss.take i).filterMap id)
          · rw [decide_eq_true e]
            refine (if_neg (by decide)).mpr ⟨_, rfl, s2, ?_⟩
            rw [if_pos e]
            exact hb2
          · rw [decide_eq_false e]
            have b1 := addAll_len ((ss.take i).filterMap id) []
            have b2 : ((ss.take i).filterMap id).length ≤ (ss.take i).length := List.length_filterMap_le _ _
            rw [List.length_take] at b2
            simp only [List.length_nil] at b1
            have := g.2.2.1
            refine (if_pos rfl).mpr ⟨_, rfl, .inl ⟨rfl, _, SqL.of hb2⟩, _, rfl, b, _, _, rfl, rfl, hb2, line2 (by rw [List.length_map]; omega), _, rfl, fun c o' e' => ?_, ?_⟩
            · rw [upd_ne (ne_of_none e' hb)]
              exact s2 c o' e'
            · rw [upd_same, if_neg e, List.map_append]
              rfl
      · rintro σ H2 ⟨v4, rfl, s2, hb2⟩
        rw [List.length_map, List.take_length] at hb2
        exact ⟨v4, rfl, s2, hb2⟩
    rintro σ H1 ⟨v4, rfl, s1, hb1⟩
    -- the same as the program's
    refine ⟨fun σ H2 => σ = [some (.ref p), some (.ref mm), some (.ref a), some (.ref b), v4, none, none, none, none, none, none] ∧ Same H1 H2, ?_, ?_⟩
    · refine ⟨_, rfl, mm, dx, _, rfl, s1 _ _ m1, mm, r, ss, cs, rfl, hm.keep s1, fun q2 H2 s2 q20 hq2 => ?_⟩
      refine ⟨_, rfl, b, _, rfl, .inl ⟨SqL.of (s2 _ _ hb1), fun l hl => ?_⟩⟩
      have okp : Ok (sitOf ss) := fun y my => lab_fine (g.2.2.2.1 y (sit_mem.mp my))
      have s3 := sameUpd (o := .tup ((sitOf ss).map V.str)) s2 hl
      refine ⟨.tuple (dS (sitOf ss)), .tuple (dS (sitOf ss)), .tup (SqT.of ((sameUpd (Same.refl _) hl) _ _ hq2)) (dp_strs _), .tup (SqT.of upd_same) (dp_strs _), shaped_tupS okp, shaped_tupS okp, _, rfl, ?_⟩
      rw [eqv_tupS]
      exact iteF ⟨rfl, s3⟩
    rintro σ H2 ⟨rfl, s2⟩
    have s02 := s1.trans s2
    have hb2 := s2 _ _ hb1
    have hp2 := hp.same s02
    have bp : b ≠ p := hp.ap hb
    -- the map
    refine ⟨fun σ H3 => ∃ x no, σ = [some (.ref p), some (.ref mm), some (.ref a), some (.ref b), v4, some x, none, none, none, none, none] ∧ HandAt H3 p q ∧ Keep H2 H3 p ∧ NamesIs (nw H2 H3) x no, ?_, ?_⟩
    · refine ⟨_, rfl, _, rfl, p, q, b, sitOf ss, rfl, hp2, hb2, bp, (fun z mz => g.2.2.2.1 z (sit_mem.mp mz)), Nat.le_trans (sit_len ss) g.2.2.1, fun x no H3 nm h3 k3 => ⟨x, no, rfl, h3, k3, nm⟩⟩
    rintro σ H3 ⟨x, no, rfl, h3, k3, nm⟩
    have nm3 : NamesIs H3 x no := nm.keep fun c u e => (nw_get e).2
    have hm3 := (hm.keep s02).draw hp2 k3
    have ha3 := (ha.keep s02).draw hp2 k3
    have hb3 := k3 _ _ hb2 bp
    have kH3 : Keep H H3 p := (Same.keep s02).trans k3
    have lp : (sitOf ss).length ≤ 900 := Nat.le_trans (sit_len ss) (Nat.le_trans g.2.2.1 (by decide))
    -- what is due, what is told
    refine ⟨fun σ H4 => Same H3 H4 ∧ ((∃ w' : Str, σ = [some (.ref p), some (.ref mm), some (.ref a), some (.ref b), v4, some x, some (.str w'), some (.str w'), none, none, none]) ∨ ∃ t kvs, no = some kvs ∧ mapDue no (sitOf ss) = none ∧ σ = [some (.ref p), some (.ref mm), some (.ref a), some (.ref b), v4, some x, some .non, some (.ref t), none, none, none] ∧ StandAt C H4 t r (ss.map (renO kvs)) cs), ?_, ?_⟩
    · refine ⟨_, rfl, _, rfl, x, no, b, sitOf ss, rfl, nm3, hb3, lp, fun H4 s4 => ⟨_, rfl, _, rfl, mm, x, no, r, ss, cs, rfl, hm3.keep s4, nm3.keep s4, ?_⟩⟩
      cases e : mapDue no (sitOf ss) with
      | some w' => exact fun H5 s5 => ⟨_, _, rfl, s4.trans s5, .inl ⟨w', rfl⟩⟩
      | none => exact fun t kvs H5 en s5 st => ⟨_, _, rfl, s4.trans s5, .inr ⟨t, kvs, en, rfl, rfl, st⟩⟩
    rintro σ H4 ⟨s4, hh⟩
    refine ⟨fun σ H5 => H5 = H4 ∧ ∃ t kvs, no = some kvs ∧ mapDue no (sitOf ss) = none ∧ σ = [some (.ref p), some (.ref mm), some (.ref a), some (.ref b), v4, some x, some .non, some (.ref t), none, none, none] ∧ StandAt C H4 t r (ss.map (renO kvs)) cs, ?_, ?_⟩
    · rcases hh with ⟨w', rfl⟩ | ⟨t, kvs, en, em, rfl, st⟩
      · refine ⟨_, rfl, rfl, _, rfl, iteT ⟨_, rfl, _, rfl, rfl, ?_⟩⟩
        have fin := k H4 (h3.same s4) (kH3.trans (Same.keep s4))
        have ed : decide (V.str w' = V.str w') = true := decide_eq_true rfl
        rw [ed]
        exact fin
      · exact ⟨_, rfl, rfl, _, rfl, iteF ⟨rfl, t, kvs, en, em, rfl, st⟩⟩
    rintro σ H5 ⟨rfl, t, kvs, rfl, em, rfl, st⟩
    clear hh
    obtain ⟨_, en, al, nd⟩ := mapDue_none em
    cases en
    have h5 := h3.same s4
    have kH5 : Keep H H5 p := kH3.trans (Same.keep s4)
    have hm5 := hm3.keep s4
    have ha5 := ha3.keep s4
    cases nm with
    | dct hn tn =>
    rename_i n
    obtain ⟨n2, n3⟩ := nw_get hn
    have n5 := s4 _ _ n3
    obtain ⟨sa5, ca5, xs5, a1, a2, a3, a4⟩ := ha5.ob
    have ix5 : ∀ {H' : Hp} {i : Int} {v : V} {Q' : V → Hp → Prop}, Same H5 H' → atI [V.str r, V.ref sa5, V.ref ca5] i = some v → Q' v H' → rIx K (.ref a) (.int i) H' Q' := fun s e q => .inr (.inl ⟨_, _, _, _, rfl, rfl, SqT.of (s _ _ a1), e, q⟩)
    -- the seats led along
    refine ⟨fun σ H6 => ∃ c, σ = [some (.ref p), some (.ref mm), some (.ref a), some (.ref b), v4, some (.ref n), some .non, some (.ref t), some (.ref c), none, none] ∧ Same H5 H6 ∧ H6 c = some (.lst ((ss.map (renO kvs)).map oV)), ?_, ?_⟩
    · refine ⟨_, rfl, ix5 (Same.refl _) (atI1 _ _ _) ⟨sa5, rfl, lc_pure (g := gName 4) (fun j y H' => ∀ o, ss[j]? = some o → y = oV (renO kvs o)) (fun j y H' H'' q s => q) (IsSeq.tup a2) (Same.refl _) (by rw [List.length_map]; have := g.2.2.1; omega) ?_ ?_ fun x σ H Q Q' q z => q _ _ z⟩⟩
      · rintro D' i y H3 k' hi hD s3 ⟨acc, hacc⟩ kk
        rw [List.getElem?_map] at hi
        obtain ⟨o, ho, rfl⟩ : ∃ o, ss[i]? = some o ∧ y = oV o := by
          cases e : ss[i]? with
          | none => rw [e] at hi; cases hi
          | some z => rw [e] at hi; exact ⟨z, rfl, (Option.some.inj hi).symm⟩
        cases o with
        | none =>
          refine ⟨rfl, _, rfl, rfl, _, rfl, (if_pos rfl).mpr (kk _ _ (Same.refl _) fun o e => ?_)⟩
          rw [ho] at e
          cases e
          rfl
        | some z =>
          obtain ⟨u, e1, e2⟩ := renO_at al (List.mem_of_getElem? ho)
          have get : DGet H3 n (.str z) (some (V.str u)) := by rw [← e1]; exact DGet.k (k := Sum.inr z) (s3 _ _ n5)
          refine ⟨rfl, _, rfl, rfl, _, rfl, (if_neg (fun z => nomatch of_decide_eq_true z)).mpr ⟨_, rfl, _, rfl, n, _, rfl, get, kk _ _ (Same.refl _) fun o e => ?_⟩⟩
          rw [ho] at e
          cases e
          rw [e2]
          rfl
      · intro D' ys H6 hD s6 hd ly gy
        have ey : ys = (ss.map (renO kvs)).map oV := by
          refine List.ext_getElem? fun i => ?_
          rw [List.getElem?_map, List.getElem?_map]
          rw [List.length_map] at ly
          cases e : ss[i]? with
          | none =>
            have h1 := List.getElem?_eq_none_iff.mp e
            exact List.getElem?_eq_none_iff.mpr (by omega)
          | some o =>
            have h1 := (List.getElem?_eq_some_iff.mp e).1
            have h2 : i < ys.length := by omega
            rw [List.getElem?_eq_getElem h2, gy i _ (List.getElem?_eq_getElem h2) o e]
            rfl
        subst ey
        exact ⟨D', rfl, s6, hd⟩
    rintro σ H6 ⟨c, rfl, s6, hc6⟩
    have g' := renO_good (kvs := kvs) g al
    -- the renamed stand is right
    refine ⟨fun σ H7 => σ = [some (.ref p), some (.ref mm), some (.ref a), some (.ref b), v4, some (.ref n), some .non, some (.ref t), some (.ref c), none, none] ∧ Same H6 H7, ?_, ?_⟩
    · refine ⟨_, rfl, _, rfl, ix5 s6 (atI0 _ _) ⟨_, rfl, c, _, rfl, .inl ⟨SqL.of hc6, fun l hl => ?_⟩⟩⟩
      have s7 := sameUpd (o := .tup ((ss.map (renO kvs)).map oV)) (Same.refl H6) hl
      refine ⟨_, rfl, ix5 (s6.trans s7) (atI2 _ _ _ _) ⟨(by show 3 ≤ sizeLine; decide), fun u hu' => ?_⟩⟩
      have s8 := sameUpd (o := .tup [.str r, .ref l, .ref ca5]) s7 hu'
      have s58 := s6.trans s8
      refine ⟨t, u, r, ss.map (renO kvs), cs, rfl, st.keep s58, ⟨⟨l, ca5, xs5, upd_same, ?_, s58 _ _ a3, pr_imp a4 fun _ _ q => q.keep s58⟩⟩, fun H8 s9 => ⟨_, rfl, iteF ⟨rfl, s8.trans s9⟩⟩⟩
      rw [upd_ne (ne_of_none upd_same hu')]
      exact upd_same
    rintro σ H7 ⟨rfl, s7⟩
    have s57 := s6.trans s7
    -- the map is emptied
    have n7 := s57 _ _ n5
    have c7 := s7 _ _ hc6
    have np : n ≠ p := ne_new n2 hp2.at_
    have nq : n ≠ q := ne_new n2 hp2.atq
    have n0 : H n = none := by
      cases e : H n with
      | none => rfl
      | some o => rw [s02 _ _ e] at n2; cases n2
    refine ⟨fun σ H8 => σ = [some (.ref p), some (.ref mm), some (.ref a), some (.ref b), v4, some (.ref n), some .non, some (.ref t), some (.ref c), none, none] ∧ HandAt H8 p q ∧ Keep H H8 p ∧ StandAt C H8 mm r ss cs ∧ StandAt C H8 t r (ss.map (renO kvs)) cs ∧ CodeAt H8 a r ss cs ∧ H8 c = some (.lst ((ss.map (renO kvs)).map oV)), ?_, ?_⟩
    · have od := other_dct n7
      have cn : c ≠ n := fun e => by rw [e, n7] at c7; cases c7
      have s8 : Same (wo n H7) (upd H7 n (.dK [])) := fun z o e => by
        obtain ⟨e1, zn⟩ := wo_get e
        rw [upd_ne zn]
        exact e1
      refine ⟨_, rfl, .inr (.inr (.inl ⟨rfl, .inl ⟨_, n7⟩⟩)), n, kvs, rfl, rfl, n7, rfl, (h5.same s57).upd np nq, keepUpd (kH5.trans (Same.keep s57)) n0, ?_, ?_, ?_, ?_⟩
      · exact ((hm5.keep s57).hide od).keep s8
      · exact ((st.keep s57).hide od).keep s8
      · exact ((ha5.keep s57).hide od).keep s8
      · rw [upd_ne cn]
        exact c7
    rintro σ H8 ⟨rfl, h8, k8, hm8, st8, ha8, c8⟩
    obtain ⟨sa8, ca8, xs8, b1, b2, b3, b4⟩ := ha8.ob
    have ix8 : ∀ {H' : Hp} {i : Int} {v : V} {Q' : V → Hp → Prop}, Same H8 H' → atI [V.str r, V.ref sa8, V.ref ca8] i = some v → Q' v H' → rIx K (.ref a) (.int i) H' Q' := fun s e q => .inr (.inl ⟨_, _, _, _, rfl, rfl, SqT.of (s _ _ b1), e, q⟩)
    -- the way back
    refine ⟨fun σ H9 => ∃ n' : Addr, σ = [some (.ref p), some (.ref mm), some (.ref a), some (.ref b), v4, some (.ref n), some .non, some (.ref t), some (.ref c), some (.ref n'), none] ∧ Same H8 H9 ∧ H9 n' = some (.dK (mergeK [] (backOf kvs ss))), ?_, ?_⟩
    · have lr : ((ss.map (renO kvs)).map oV).length = ss.length := by rw [List.length_map, List.length_map]
      refine ⟨_, rfl, c, _, rfl, .inl (SqL.of c8), _, rfl, by omega, by rw [lr]; have := g.2.2.1; omega, fun D' hD => lc_range (lo := 0) (n := (((ss.map (renO kvs)).map oV).length : Int).toNat) (fun i H9 => Same H8 H9 ∧ ∃ (as : List Addr) (kvl : List (Key × V)), H9 D' = some (.lst (as.map V.ref)) ∧ Paired (fun a kv => wo D' H9 a = some (.tup [kV kv.1, kv.2])) as kvl ∧ kvl = backOf kvs (ss.take i)) ⟨sameUpd (Same.refl _) hD, [], [], upd_same, .nil, rfl⟩ ?_ ?_⟩
      · rintro i H9 hi ⟨s9, as, kvl, hd9, pr9, ek⟩
        rw [lr] at hi
        have li : i < ss.length := by omega
        rw [show (0 + (i : Nat) : Int) = (i : Nat) from Int.zero_add _]
        have c9 := s9 _ _ c8
        have lc : i < ((ss.map (renO kvs)).map oV).length := by rw [lr]; exact li
        have ci : ((ss.map (renO kvs)).map oV)[i]? = some (oV (renO kvs ss[i])) := by rw [List.getElem?_map, List.getElem?_map, List.getElem?_eq_getElem li]; rfl
        have ixc : ∀ {H' : Hp} {Q' : V → Hp → Prop}, Same H9 H' → Q' (oV (renO kvs ss[i])) H' → rIx K (.ref c) (.int (i : Nat)) H' Q' := fun s q => .inl ⟨_, _, _, _, rfl, rfl, SqL.of (s _ _ c9), (atI_nat lc).trans ci, q⟩
        have back1 : backOf kvs (ss.take (i + 1)) = backOf kvs (ss.take i) ++ backOf kvs [ss[i]] := by
          unfold backOf
          rw [List.take_add_one, List.getElem?_eq_getElem li, List.filterMap_append]
          rfl
        refine ⟨rfl, _, rfl, _, rfl, ixc (Same.refl _) ⟨rfl, _, rfl, ?_⟩⟩
        cases eo : ss[i] with
        | none =>
          rw [eo] at back1
          have eb : backOf kvs [none] = [] := rfl
          rw [eb, List.append_nil] at back1
          exact (if_neg (show ¬ (!decide (V.non = V.non)) = true by decide)).mpr ⟨s9, as, kvl, hd9, pr9, by rw [back1]; exact ek⟩
        | some z =>
          have mz : some z ∈ ss := by rw [← eo]; exact List.getElem_mem li
          obtain ⟨y, ey, _⟩ := ren_some al mz
          rw [eo] at back1 ixc
          rw [ey] at ixc
          have eb : backOf kvs [some z] = [((Sum.inr y : Key), V.str z)] := by
            unfold backOf
            rw [List.filterMap_cons_some (b := ((Sum.inr y : Key), V.str z)) (by show (renO kvs (some z)).map _ = _; rw [ey]; rfl)]
            rfl
          rw [ey]
          rw [eb] at back1
          have lz : i < (ss.map oV).length := by rw [List.length_map]; exact li
          have zi : (ss.map oV)[i]? = some (V.str z) := by rw [List.getElem?_map, List.getElem?_eq_getElem li, eo]; rfl
          refine (if_pos rfl).mpr ⟨_, rfl, _, rfl, ixc (Same.refl _) ⟨_, rfl, ix8 s9 (atI1 _ _ _) ⟨_, rfl, .inr (.inl ⟨_, _, _, _, rfl, rfl, SqT.of (s9 _ _ b2), (atI_nat lz).trans zi, (by show 2 ≤ sizeLine; decide), fun T' hT => ?_⟩)⟩⟩⟩
          have TD : T' ≠ D' := (ne_of_none hd9 hT).symm
          have sT := sameUpd (o := .tup [V.str y, V.str z]) (Same.refl H9) hT
          have la : as.length ≤ 2000 := by
            rw [Paired.length pr9, ek]
            have : (backOf kvs (ss.take i)).length ≤ (ss.take i).length := List.length_filterMap_le _ _
            rw [List.length_take] at this
            have := g.2.2.1
            omega
          refine ⟨as.map V.ref, by rw [upd_ne TD.symm]; exact hd9, line2 (by rw [List.length_map]; omega), woD hD s9 sT, as ++ [T'], kvl ++ [(Sum.inr y, V.str z)], by rw [upd_same, List.map_append]; rfl, ?_, by rw [back1, ek]⟩
          refine pr_app (pr_imp pr9 fun a kv q => ?_) (.cons ?_ .nil)
          · obtain ⟨q1, q2⟩ := wo_get q
            exact wo_at (by rw [upd_ne q2]; exact sT _ _ q1) q2
          · exact wo_at (by rw [upd_ne TD]; exact upd_same) TD
      · rintro H9 ⟨s9, as, kvl, hd9, pr9, ek⟩
        rw [lr, show ((ss.length : Int)).toNat = ss.length by omega, List.take_length] at ek
        subst ek
        exact ⟨D', as, _, rfl, SqL.of hd9, pr_imp pr9 fun a kv q => SqT.of (wo_same _ _ q), fun n' hn' => ⟨n', rfl, sameUpd s9 hn', upd_same⟩⟩
    rintro σ H9 ⟨n', rfl, s9, n9⟩
    have hm9 := hm8.keep s9
    have st9 := st8.keep s9
    have ha9 := ha8.keep s9
    have bd := back_due (ss := ss) (kvs := kvs) (fun z mz => g.2.2.2.1 z mz) al nd
    have br := back_ren (ss := ss) (kvs := kvs) al nd
    have names : ∀ {H' : Hp}, Same H9 H' → NamesIs H' (.ref n') (some (mergeK [] (backOf kvs ss))) := fun s => .dct (s _ _ n9) (merge_vals (F := fun v => ∃ t, Thing _ v t) (fun kv m => nomatch m) fun kv m => by
      obtain ⟨z, y, mz, _, rfl⟩ := back_mem m
      exact ⟨"str", .str z, fun y' e => by cases e; exact lab_len (g.2.2.2.1 z mz)⟩)
    have ren : ∀ {H' : Hp} {Qk : V → Hp → Prop}, Same H9 H' → (∀ u H'', Same H' H'' → StandAt C H'' u r ss cs → Qk (.ref u) H'') → spRenamed C CM [.ref t, .ref n'] H' Qk E0 := fun {H' Qk} s kq => by
      refine ⟨t, .ref n', _, r, ss.map (renO kvs), cs, rfl, st9.keep s, names s, ?_⟩
      rw [bd]
      intro u kvs' H'' e1 s2 st2
      cases e1
      rw [br] at st2
      exact kq u H'' s2 st2
    obtain ⟨tdx, tsa, tca, txs, t1, _⟩ := st9.ob
    have tno : (sFs r tsa tca).lookup ("renamed" : Str) = none := sFs_no _ _ _ (by decide +kernel) (by decide +kernel) (by decide +kernel)
    refine ⟨_, rfl, t, tdx, _, rfl, t1, tno, _, rfl, ?_⟩
    dsimp only [tNil, List.cons_append, List.nil_append]
    refine ren (Same.refl _) fun u H10 s10 st10 => ?_
    refine ⟨_, rfl, u, a, r, ss, cs, rfl, st10, ha9.keep s10, fun H11 s11 => ⟨_, rfl, iteT ?_⟩⟩
    have s911 := s10.trans s11
    refine ⟨_, rfl, t, tdx, _, rfl, s911 _ _ t1, tno, _, rfl, ?_⟩
    dsimp only [tNil, List.cons_append, List.nil_append]
    refine ren s911 fun u2 H12 s12 st12 => ?_
    refine ⟨_, rfl, ?_⟩
    have s912 := s911.trans s12
    have hm12 := hm9.keep s912
    obtain ⟨dx1, _, _, _, e1, _⟩ := st12.ob
    obtain ⟨dx2, _, _, _, e2, _⟩ := hm12.ob
    refine ⟨u2, dx1, _, rfl, e1, .inl ⟨mm, dx2, _, C, rfl, e2, nf⟩, u2, .ref mm, r, ss, cs, rfl, st12, .inl ⟨mm, r, ss, cs, rfl, hm12, fun H13 s13 => ?_⟩⟩
    rw [decide_eq_true ⟨rfl, rfl, rfl⟩]
    have s813 := s9.trans (s912.trans s13)
    exact ⟨true, rfl, k H13 (h8.same s813) (k8.trans (Same.keep s813))⟩
end
end Kx

set_option maxHeartbeats 16000000
namespace Kx
open PySem L2
theorem call_isiQ {X : Cx} {K : PySem.W.Frag} (h : X.K = K) : CallR X (.builtin "isinstance") (rIsi K) := by
  subst h
  exact call_isi
theorem op_eqDK {X : Cx} {K : PySem.W.Frag} (h : X.K = K) (hu : X.A.units + 64 < cLine) : OpR X (compareOp .Eq) (rEqD K) := by
  subst h
  exact op_eqD hu
/-- a question's class as it is made -/
structure QM (P : Program) (w : World) (K : PySem.W.Frag) (mg : Str → Option Value) (base : Heap) (x : Str) (C CQ fI : Addr) (fdI : FuncData) (ps fs : List Str) (sp : Sp) : Prop where
  MK : Mk K C fI
  G : FnOk P w K mg base (L2.CX P w) 3 fI fdI ps sp
  m : mg x = some (.ref C)
  b : Binds K fdI ps []
  Q : QC K C fs
  kq : PySem.W.kitOne K (.ref C) (.ref CQ) = some true
def qDue (w : Str) (x y : V) : Option Str :=
  if w = "reached" then rchWord x y else if w = "together" then (if togV x y then none else some (Str.ofString "seat")) else (if seatV x then none else some (Str.ofString "seat"))
def spRefQ (K : PySem.W.Frag) : Sp := fun vs H Q _ => ∃ (w : Str) (b : Addr) (xs : List V) (x y : V) (n m : String), vs = [.str w, .ref b] ∧ H b = some (.lst xs) ∧ Thing H x n ∧ Thing H y m ∧
  ((w = "reached" ∧ xs = [x, y]) ∨ (w = "together" ∧ xs = [x, y]) ∨ (w = "who" ∧ xs = [x]) ∨ (w = "filled" ∧ xs = [x])) ∧ ∀ H', Same H H' → Q (wordV (qDue w x y)) H'
theorem s_cn : ¬ (Str.ofString "clock") = Str.ofString "number" := by decide +kernel
theorem s_so : ¬ (Str.ofString "seat") = Str.ofString "other" := by decide +kernel
theorem seat_str {x : V} (h : seatV x = true) : ∃ z, x = .str z ∧ isLab z = true := lab_str (seatV_lab h)
theorem eqv_l1 (z : Str) : PyData.eqv (.list [.str z]) (.list [.str z]) = true := by
  show (PyData.eqv (.str z) (.str z) && true) = true
  rw [eqv_str, decide_eq_true rfl]
  rfl
theorem shaped_l1 {z : Str} (h : isLab z = true) : SeqAt.shaped (.list [.str z]) = true := by
  unfold SeqAt.shaped
  rw [Bool.and_eq_true]
  refine ⟨?_, decide_eq_true (by show max 0 0 + 1 ≤ 64; decide)⟩
  show (PyData.canLay0 (.str z) && true) = true
  rw [show PyData.canLay0 (.str z) = true from lab_fine h]
  rfl
theorem eqv_l2 (z u : Str) : PyData.eqv (.list [.str z, .str u]) (.list [.str z, .str u]) = true := by
  show (PyData.eqv (.str z) (.str z) && (PyData.eqv (.str u) (.str u) && true)) = true
  rw [eqv_str, eqv_str, decide_eq_true rfl, decide_eq_true rfl]
  rfl
theorem shaped_l2 {z u : Str} (h : isLab z = true) (h' : isLab u = true) : SeqAt.shaped (.list [.str z, .str u]) = true := by
  unfold SeqAt.shaped
  rw [Bool.and_eq_true]
  refine ⟨?_, decide_eq_true (by show max 0 (max 0 0) + 1 ≤ 64; decide)⟩
  show (PyData.canLay0 (.str z) && (PyData.canLay0 (.str u) && true)) = true
  rw [show PyData.canLay0 (.str z) = true from lab_fine h, show PyData.canLay0 (.str u) = true from lab_fine h']
  rfl
theorem eqv_l3 (z : Str) (i : Int) : PyData.eqv (.list [.str z, .int i]) (.list [.str z, .int i]) = true := by
  show (PyData.eqv (.str z) (.str z) && (PyData.eqv (.int i) (.int i) && true)) = true
  rw [eqv_str, decide_eq_true rfl]
  simp [PyData.eqv]
theorem shaped_l3 {z : Str} (h : isLab z = true) (i : Int) : SeqAt.shaped (.list [.str z, .int i]) = true := by
  unfold SeqAt.shaped
  rw [Bool.and_eq_true]
  refine ⟨?_, decide_eq_true (by show max 0 (max 0 0) + 1 ≤ 64; decide)⟩
  show (PyData.canLay0 (.str z) && (PyData.canLay0 (.int i) && true)) = true
  rw [show PyData.canLay0 (.str z) = true from lab_fine h]
  rfl
section
variable {P : Program} {w : World} {K : PySem.W.Frag} {mg : Str → Option Value} {base : Heap}
abbrev nRQ : List Str := ["_law_word_here", "_law_things", "_law_made", "_law_told", "e"]
theorem scRQ : FnScope nRQ ["_law_word_here", "_law_things"] (defScope sLRefusedQuestion) := ⟨rfl, rfl, rfl, by decide +kernel, rfl, by decide +kernel, by decide +kernel⟩
theorem ok_refq {f CW CF CT CR CQ CB CS CO fW fF fT fR : Addr} {fd fdW fdF fdT fdR : FuncData} (F : Fun K "_law_refused_question" "_law_refused_question" sLRefusedQuestion f fd) (m : mg "_law_refused_question" = some (.ref f)) (B : Bm mg) (mQ : mg "Question" = some (.ref CQ))
    (W : QM P w K mg base "Who" CW CQ fW fdW ["self", "seat"] ["seat"] (spQ1 CW CB)) (Fi : QM P w K mg base "Filled" CF CQ fF fdF ["self", "seat"] ["seat"] (spQ1 CF CB)) (To : QM P w K mg base "Together" CT CQ fT fdT ["self", "seat", "other"] ["seat", "other"] (spQ2 CT CB)) (Re : QM P w K mg base "Reached" CR CQ fR fdR ["self", "clock", "number"] ["clock", "number"] (spQ3 CR CB))
    (X : ErX K mg "BadQuestion" CB CS CO "BadStand") : HasF P w K mg base "_law_refused_question" 5 ["_law_word_here", "_law_things"] (spRefQ K) := by
  refine ⟨f, fd, ?_, m, F.kp, F.binds fun _ _ _ _ _ _ us hl => match us, hl with | [_, _], _ => rfl⟩
  refine F.ok scRQ (fun vs H Q E h => ?_) (fun cdv A outer s H vs Q E hr h => ?_)
  · obtain ⟨a, b, c, d, e, g, i, rfl, _⟩ := h
    rfl
  · obtain ⟨w', b, xs, x, y, n, m, rfl, hb, tx, ty, hw, k⟩ := h
    refine ⟨_, pss_one (ps_try_as (i := 4) (Wout := fun _ _ _ _ => False) rfl rfl scRQ.nd rfl rfl ⟨rfl, by decide, .inl X.m⟩ takes0
        (fun W' pn xe tk _ => (C8.pss_cut (ps_if (pt_cmpR op_eq (pv 0) pe_str (nomark _)) (pss_cons (ps_set (i := 2) scRQ.nd rfl (Or.inl rfl) (pe_makeS Re.MK Re.G hr (by rfl) Re.m Re.b (fun σ => passAt tk σ) (pa_cons (pe_ix (ix_seqK (K := K) rfl) (pv 1) pe_int (fun _ _ => rfl)) (pa_cons (pe_ix (ix_seqK (K := K) rfl) (pv 1) pe_int (fun _ _ => rfl)) pa_nil))))
    (pss_one (ps_set (i := 3) scRQ.nd rfl (Or.inl rfl) (pe_lst (pa_cons (pe_fldK (K := K) rfl (pv 2) rfl) (pa_cons (pe_fldK (K := K) rfl (pv 2) rfl) pa_nil))))))
            (pss_one (ps_if (pt_cmpR op_eq (pv 0) pe_str (nomark _)) (pss_cons (ps_set (i := 2) scRQ.nd rfl (Or.inl rfl) (pe_makeS To.MK To.G hr (by rfl) To.m To.b (fun σ => passAt tk σ) (pa_cons (pe_ix (ix_seqK (K := K) rfl) (pv 1) pe_int (fun _ _ => rfl)) (pa_cons (pe_ix (ix_seqK (K := K) rfl) (pv 1) pe_int (fun _ _ => rfl)) pa_nil))))
    (pss_one (ps_set (i := 3) scRQ.nd rfl (Or.inl rfl) (pe_lst (pa_cons (pe_fldK (K := K) rfl (pv 2) rfl) (pa_cons (pe_fldK (K := K) rfl (pv 2) rfl) pa_nil))))))
              (pss_cons (ps_set (i := 2) scRQ.nd rfl (Or.inl rfl) (pe_ifExp (pt_cmpR op_eq (pv 0) pe_str (nomark _)) (pe_makeS W.MK W.G hr (by rfl) W.m W.b (fun σ => passAt tk σ) (pa_cons (pe_ix (ix_seqK (K := K) rfl) (pv 1) pe_int (fun _ _ => rfl)) pa_nil)) (pe_makeS Fi.MK Fi.G hr (by rfl) Fi.m Fi.b (fun σ => passAt tk σ) (pa_cons (pe_ix (ix_seqK (K := K) rfl) (pv 1) pe_int (fun _ _ => rfl)) pa_nil))))
    (pss_one (ps_set (i := 3) scRQ.nd rfl (Or.inl rfl) (pe_lst (pa_cons (pe_fldK (K := K) rfl (pv 2) rfl) pa_nil))))))))
    (pss_one (ps_ret (pe_ifExp (PW.pt (pw_and (pt_val (pe_callB (call_isiQ (K := K) rfl) (by rfl) B.isinstance (by decide +kernel) (pa_cons (pv 2) (pa_cons (pe_glob (v := .ref CQ) rfl mQ rfl) pa_nil)))) (pw_and1 (pt_cmpR (op_eqDK (K := K) rfl hr.units) (pv 3) (pv 1) (nomark _))))) pe_non pe_int)))))
        (fun a oe cls d pn hz hf => pss_one (ps_ret (pe_ifExp (PW.pt (pw_and (pt_val (pe_callB (call_isEd (K := K) (D := CB) rfl X.EB hz hf) (by rfl) B.isinstance (by decide +kernel) (pa_cons (pv 4) (pa_cons (pe_glob (v := .ref CS) rfl X.mS rfl) pa_nil)))) (pw_and1 (pt_not (pt_val (pe_callB (call_isEd (K := K) (D := CB) rfl X.EB hz hf) (by rfl) B.isinstance (by decide +kernel) (pa_cons (pv 4) (pa_cons (pe_glob (v := .ref CO) rfl X.mO rfl) pa_nil)))))))) (pe_xf X.XB X.n1 hz hf (pv 4)) pe_int)))), ?_⟩
    have bad : ∀ wd, qDue w' x y = some wd → ∀ H', Same H H' → Q (.str wd) H' := fun wd e H' s => by
      have q := k H' s
      rw [e] at q
      exact q
    have good : qDue w' x y = none → ∀ H', Same H H' → Q .non H' := fun e H' s => by
      have q := k H' s
      rw [e] at q
      exact q
    have mk0 : ∀ {C' : Addr} {x' dx : Addr}, H x' = none → H dx = none → dx ≠ x' → Same H (upd (upd H dx (.own x')) x' (.ins C' dx [])) := fun hx hdx ne => (sameUpd (Same.refl _) hdx).trans (sameUpd (Same.refl _) (by rw [upd_ne ne.symm]; exact hx))
    refine ⟨fun σ H1 => ∃ (mt tt C' dx : Addr) (fs : List (Str × V)) (gs : List Str) (d : PyData), σ = [some (.str w'), some (.ref b), some (.ref mt), some (.ref tt), none] ∧ Same H H1 ∧ H1 mt = some (.ins C' dx fs) ∧ QC K C' gs ∧ PySem.W.kitOne K (.ref C') (.ref CQ) = some true ∧ Dp K H1 (.ref tt) d ∧ Dp K H1 (.ref b) d ∧ SeqAt.shaped d = true ∧ PyData.eqv d d = true ∧ qDue w' x y = none, ?_, ?_⟩
    · have e1 : ¬ Str.ofString "together" = Str.ofString "reached" := by decide +kernel
      have e2 : ¬ Str.ofString "who" = Str.ofString "reached" := by decide +kernel
      have e3 : ¬ Str.ofString "who" = Str.ofString "together" := by decide +kernel
      have e4 : ¬ Str.ofString "filled" = Str.ofString "reached" := by decide +kernel
      have e5 : ¬ Str.ofString "filled" = Str.ofString "together" := by decide +kernel
      have e6 : ¬ Str.ofString "filled" = Str.ofString "who" := by decide +kernel
      have dn : ∀ {u v : Str}, ¬ u = v → decide (V.str u = V.str v) = false := fun h => decide_eq_false fun e => h (V.str.inj e)
      have ix0 : ∀ {v : V} {rest : List V} {Q' : V → Hp → Prop}, H b = some (.lst (v :: rest)) → Q' v H → rIx K (.ref b) (.int 0) H Q' := fun h q => .inl ⟨_, _, _, _, rfl, rfl, SqL.of h, atI0 _ _, q⟩
      have ix1 : ∀ {u v : V} {Q' : V → Hp → Prop}, H b = some (.lst [u, v]) → Q' v H → rIx K (.ref b) (.int 1) H Q' := fun h q => .inl ⟨_, _, _, _, rfl, rfl, SqL.of h, atI1 _ _ _, q⟩
      rcases hw with ⟨rfl, rfl⟩ | ⟨rfl, rfl⟩ | ⟨rfl, rfl⟩ | ⟨rfl, rfl⟩
      · -- reached
        refine ⟨_, rfl, rfl, _, rfl, ?_⟩
        rw [decide_eq_true rfl]
        refine iteT ⟨_, rfl, ix0 hb ⟨_, rfl, ix1 hb fun x' dx hx hdx ne => ?_⟩⟩
        have s0 := mk0 (C' := CR) hx hdx ne
        have eq : qDue "reached" x y = rchWord x y := if_pos rfl
        refine ⟨x', dx, x, y, n, m, rfl, upd_same, tx.keep s0, ty.keep s0, ?_⟩
        cases e : rchWord x y with
        | some wd => exact fun d H' hd kp ed => ⟨true, X.tB, fun _ a' ha' => ⟨_, rfl, rfl, .inr ⟨d, _, rfl, ed⟩, .ref CS, .ref CS, true, rfl, fun u e => e, X.kS, _, rfl, iteT ⟨_, rfl, rfl, .inr ⟨d, _, rfl, ed⟩, .ref CO, .ref CO, false, rfl, fun u e => e, X.kO, _, rfl, iteT ⟨_, rfl, rfl, rfl, d, _, .str wd, rfl, ed, rfl, bad wd (eq.trans e) H' fun b o hb => kp b o (s0 b o hb) (ne_of_none hb hx)⟩⟩⟩, fun q => nomatch q⟩
        | none =>
          intro H' kp hp'
          have sH : Same H H' := fun b o hb => kp b o (s0 b o hb) (ne_of_none hb hx)
          obtain ⟨z, rfl, hz⟩ : ∃ z, x = .str z ∧ isLab z = true := by
            unfold rchWord at e
            cases q : labV x with
            | true => exact lab_str q
            | false => rw [q] at e; cases e
          obtain ⟨j, rfl⟩ : ∃ j, y = .int j := by
            unfold rchWord at e
            rw [show labV (.str z) = true from hz, if_pos rfl] at e
            cases y with
            | int j => exact ⟨j, rfl⟩
            | _ => cases e
          refine ⟨rfl, _, rfl, x', CR, dx, _, _, rfl, hp', Re.Q.cl, Re.Q.no _ (.head _), by rw [lookup_putF, if_neg s_cn, lookup_putF, if_pos rfl], _, rfl, x', CR, dx, _, _, rfl, hp', Re.Q.cl, Re.Q.no _ (.tail _ (.head _)), by rw [lookup_putF, if_pos rfl], (by show 2 ≤ sizeLine; decide), fun l hl => ?_⟩
          have s2 := sameUpd (o := .lst [V.str z, V.int j]) (Same.refl H') hl
          exact ⟨x', l, CR, dx, _, _, .list [.str z, .int j], rfl, sH.trans s2, s2 _ _ hp', Re.Q, Re.kq, .lst (SqL.of upd_same) (.cons (.str _) (.cons (.int _) .nil)), .lst (SqL.of ((sH.trans s2) _ _ hb)) (.cons (.str _) (.cons (.int _) .nil)), shaped_l3 hz j, eqv_l3 z j, eq.trans e⟩
      · -- together
        refine ⟨_, rfl, rfl, _, rfl, ?_⟩
        rw [dn e1]
        refine iteF ⟨_, rfl, rfl, _, rfl, ?_⟩
        rw [decide_eq_true rfl]
        refine iteT ⟨_, rfl, ix0 hb ⟨_, rfl, ix1 hb fun x' dx hx hdx ne => ?_⟩⟩
        have s0 := mk0 (C' := CT) hx hdx ne
        have eq : qDue "together" x y = (if togV x y = true then none else some (Str.ofString "seat")) := by
          unfold qDue
          rw [if_neg e1, if_pos rfl]
        refine ⟨x', dx, x, y, n, m, rfl, upd_same, tx.keep s0, ty.keep s0, ?_⟩
        cases e : togV x y with
        | false =>
          rw [e] at eq
          exact (if_neg Bool.false_ne_true).mpr (fun d H' hd kp ed => ⟨true, X.tB, fun _ a' ha' => ⟨_, rfl, rfl, .inr ⟨d, _, rfl, ed⟩, .ref CS, .ref CS, true, rfl, fun u e => e, X.kS, _, rfl, iteT ⟨_, rfl, rfl, .inr ⟨d, _, rfl, ed⟩, .ref CO, .ref CO, false, rfl, fun u e => e, X.kO, _, rfl, iteT ⟨_, rfl, rfl, rfl, d, _, .str "seat", rfl, ed, rfl, bad "seat" eq H' fun b o hb => kp b o (s0 b o hb) (ne_of_none hb hx)⟩⟩⟩, fun q => nomatch q⟩)
        | true =>
          rw [e] at eq
          refine (if_pos rfl).mpr ?_
          intro H' kp hp'
          have sH : Same H H' := fun b o hb => kp b o (s0 b o hb) (ne_of_none hb hx)
          unfold togV at e
          rw [Bool.and_eq_true, Bool.and_eq_true] at e
          obtain ⟨z, rfl, hz⟩ := seat_str e.1
          obtain ⟨u, rfl, hu⟩ := seat_str e.2.1
          refine ⟨rfl, _, rfl, x', CT, dx, _, _, rfl, hp', To.Q.cl, To.Q.no _ (.head _), by rw [lookup_putF, if_neg s_so, lookup_putF, if_pos rfl], _, rfl, x', CT, dx, _, _, rfl, hp', To.Q.cl, To.Q.no _ (.tail _ (.head _)), by rw [lookup_putF, if_pos rfl], (by show 2 ≤ sizeLine; decide), fun l hl => ?_⟩
          have s2 := sameUpd (o := .lst [V.str z, V.str u]) (Same.refl H') hl
          exact ⟨x', l, CT, dx, _, _, .list [.str z, .str u], rfl, sH.trans s2, s2 _ _ hp', To.Q, To.kq, .lst (SqL.of upd_same) (.cons (.str _) (.cons (.str _) .nil)), .lst (SqL.of ((sH.trans s2) _ _ hb)) (.cons (.str _) (.cons (.str _) .nil)), shaped_l2 hz hu, eqv_l2 z u, eq⟩
      · -- who
        refine ⟨_, rfl, rfl, _, rfl, ?_⟩
        rw [dn e2]
        refine iteF ⟨_, rfl, rfl, _, rfl, ?_⟩
        rw [dn e3]
        refine iteF ⟨_, rfl, rfl, _, rfl, ?_⟩
        rw [decide_eq_true rfl]
        refine (if_pos rfl).mpr ⟨_, rfl, ix0 hb fun x' dx hx hdx ne => ?_⟩
        have s0 := mk0 (C' := CW) hx hdx ne
        have eq : qDue "who" x y = (if seatV x = true then none else some (Str.ofString "seat")) := by
          unfold qDue
          rw [if_neg e2, if_neg e3]
        refine ⟨x', dx, x, n, rfl, upd_same, tx.keep s0, ?_⟩
        cases e : seatV x with
        | false =>
          rw [e] at eq
          exact (if_neg Bool.false_ne_true).mpr (fun d H' hd kp ed => ⟨true, X.tB, fun _ a' ha' => ⟨_, rfl, rfl, .inr ⟨d, _, rfl, ed⟩, .ref CS, .ref CS, true, rfl, fun u e => e, X.kS, _, rfl, iteT ⟨_, rfl, rfl, .inr ⟨d, _, rfl, ed⟩, .ref CO, .ref CO, false, rfl, fun u e => e, X.kO, _, rfl, iteT ⟨_, rfl, rfl, rfl, d, _, .str "seat", rfl, ed, rfl, bad "seat" eq H' fun b o hb => kp b o (s0 b o hb) (ne_of_none hb hx)⟩⟩⟩, fun q => nomatch q⟩)
        | true =>
          rw [e] at eq
          refine (if_pos rfl).mpr ?_
          intro H' kp hp'
          have sH : Same H H' := fun b o hb => kp b o (s0 b o hb) (ne_of_none hb hx)
          obtain ⟨z, rfl, hz⟩ := seat_str e
          refine ⟨rfl, _, rfl, x', CW, dx, _, _, rfl, hp', W.Q.cl, W.Q.no _ (.head _), by rw [lookup_putF, if_pos rfl], (by show 1 ≤ sizeLine; decide), fun l hl => ?_⟩
          have s2 := sameUpd (o := .lst [V.str z]) (Same.refl H') hl
          exact ⟨x', l, CW, dx, _, _, .list [.str z], rfl, sH.trans s2, s2 _ _ hp', W.Q, W.kq, .lst (SqL.of upd_same) (.cons (.str _) .nil), .lst (SqL.of ((sH.trans s2) _ _ hb)) (.cons (.str _) .nil), shaped_l1 hz, eqv_l1 z, eq⟩
      · -- filled
        refine ⟨_, rfl, rfl, _, rfl, ?_⟩
        rw [dn e4]
        refine iteF ⟨_, rfl, rfl, _, rfl, ?_⟩
        rw [dn e5]
        refine iteF ⟨_, rfl, rfl, _, rfl, ?_⟩
        rw [dn e6]
        refine (if_neg Bool.false_ne_true).mpr ⟨_, rfl, ix0 hb fun x' dx hx hdx ne => ?_⟩
        have s0 := mk0 (C' := CF) hx hdx ne
        have eq : qDue "filled" x y = (if seatV x = true then none else some (Str.ofString "seat")) := by
          unfold qDue
          rw [if_neg e4, if_neg e5]
        refine ⟨x', dx, x, n, rfl, upd_same, tx.keep s0, ?_⟩
        cases e : seatV x with
        | false =>
          rw [e] at eq
          exact (if_neg Bool.false_ne_true).mpr (fun d H' hd kp ed => ⟨true, X.tB, fun _ a' ha' => ⟨_, rfl, rfl, .inr ⟨d, _, rfl, ed⟩, .ref CS, .ref CS, true, rfl, fun u e => e, X.kS, _, rfl, iteT ⟨_, rfl, rfl, .inr ⟨d, _, rfl, ed⟩, .ref CO, .ref CO, false, rfl, fun u e => e, X.kO, _, rfl, iteT ⟨_, rfl, rfl, rfl, d, _, .str "seat", rfl, ed, rfl, bad "seat" eq H' fun b o hb => kp b o (s0 b o hb) (ne_of_none hb hx)⟩⟩⟩, fun q => nomatch q⟩)
        | true =>
          rw [e] at eq
          refine (if_pos rfl).mpr ?_
          intro H' kp hp'
          have sH : Same H H' := fun b o hb => kp b o (s0 b o hb) (ne_of_none hb hx)
          obtain ⟨z, rfl, hz⟩ := seat_str e
          refine ⟨rfl, _, rfl, x', CF, dx, _, _, rfl, hp', Fi.Q.cl, Fi.Q.no _ (.head _), by rw [lookup_putF, if_pos rfl], (by show 1 ≤ sizeLine; decide), fun l hl => ?_⟩
          have s2 := sameUpd (o := .lst [V.str z]) (Same.refl H') hl
          exact ⟨x', l, CF, dx, _, _, .list [.str z], rfl, sH.trans s2, s2 _ _ hp', Fi.Q, Fi.kq, .lst (SqL.of upd_same) (.cons (.str _) .nil), .lst (SqL.of ((sH.trans s2) _ _ hb)) (.cons (.str _) .nil), shaped_l1 hz, eqv_l1 z, eq⟩
    rintro σ H1 ⟨mt, tt, C', dx, fs, gs, d, rfl, s1, h1, q1, q2, d1, d2, sh, ev, eq⟩
    refine ⟨_, rfl, _, _, _, _, _, rfl, .own CQ, q1.ty h1, q2, _, rfl, iteT ⟨_, rfl, _, rfl, d, d, d1, d2, sh, sh, _, rfl, ?_⟩⟩
    rw [ev]
    exact (if_pos rfl).mpr (good eq H1 s1)
end
end Kx

set_option maxHeartbeats 16000000
namespace Kx
open PySem L2
theorem flat_word (w : Option Str) : flatV (wordV w) = true := by cases w <;> rfl
theorem scal_words (a b : Option Str) : scal (wordV a) (wordV b) = true := by cases a <;> cases b <;> rfl
theorem seat_in {z : Str} (h : isLab z = true) : seatV (.str z) = !inV (.str z) (noSeats.map V.str) := by
  show (isLab z && !decide (z ∈ noSeats)) = _
  rw [h, inV_strs]
  rfl
theorem word_if (b : Bool) (z : Str) : (if b = true then V.non else V.str z) = wordV (if b = true then none else some z) := by cases b <;> rfl
def spMadeQ : Sp := fun vs H Q _ => ∃ (p q : Addr), vs = [.ref p] ∧ HandAt H p q ∧ ∀ H', HandAt H' p q → Keep H H' p → Q (.bl true) H'
section
variable {P : Program} {w : World} {K : PySem.W.Frag} {mg : Str → Option Value} {base : Heap}
abbrev nMQ : List Str := ["_law_hand_here", "_law_things", "_law_one_here", "_law_two", "_law_fine", "_law_number", "_law_due", "_law_thing"]
theorem scMQ : FnScope nMQ ["_law_hand_here"] (defScope sLMadeQuestions) := ⟨rfl, rfl, rfl, by decide +kernel, rfl, by decide +kernel, by decide +kernel⟩
theorem ok_madeq {f : Addr} {fd : FuncData} (F : Fun K "_law_made_questions" "_law_made_questions" sLMadeQuestions f fd) (m : mg "_law_made_questions" = some (.ref f)) (O : HasF P w K mg base "_law_one" 3 ["_law_hand_here", "_law_rows"] spOne) (L : HasF P w K mg base "_law_label" 1 ["_law_thing"] spLLab) (W : HasF P w K mg base "_law_whole" 1 ["_law_thing"] spLWhole) (RQ : HasF P w K mg base "_law_refused_question" 5 ["_law_word_here", "_law_things"] (spRefQ K)) : HasF P w K mg base "_law_made_questions" 6 ["_law_hand_here"] spMadeQ := by
  refine ⟨f, fd, ?_, m, F.kp, F.binds fun _ _ _ _ _ _ us hl => match us, hl with | [_], _ => rfl⟩
  obtain ⟨f1, fd1, O⟩ := O; obtain ⟨f2, fd2, L⟩ := L; obtain ⟨f3, fd3, W⟩ := W; obtain ⟨f4, fd4, RQ⟩ := RQ
  refine F.ok scMQ (fun vs H Q E h => ?_) (fun cdv A outer s H vs Q E hr h => ?_)
  · obtain ⟨a, b, rfl, _⟩ := h
    rfl
  · obtain ⟨p, q, rfl, hp, k⟩ := h
    have hr1 : Room 1 _ := hr.mono (by decide)
    have hr3 : Room 3 _ := hr.mono (by decide)
    refine ⟨_, (pss_cons (ps_set (i := 1) scMQ.nd rfl (Or.inl rfl) (pe_lst (pa_cons pe_str (pa_cons pe_str (pa_cons pe_str (pa_cons pe_str (pa_cons pe_str (pa_cons pe_str (pa_cons pe_str (pa_cons pe_non (pa_cons pe_int (pa_cons (pe_lst (pa_cons pe_str pa_nil)) (pa_cons pe_str (pa_cons pe_str pa_nil))))))))))))))
    (C8.pss_cut (ps_par (i := 2) (j := 3) rfl scMQ.nd rfl rfl (by decide) rfl rfl (pa_cons (pe_call O.G hr3 (by rfl) O.m O.kp O.b .nil pass0 (pa_cons (pv 0) (pa_cons (pv 1) pa_nil))) (pa_cons (pe_call O.G hr3 (by rfl) O.m O.kp O.b .nil pass0 (pa_cons (pv 0) (pa_cons (pv 1) pa_nil))) pa_nil)) (by rfl))
    (C8.pss_cut (ps_setLc (i := 4) (own := [("_law_thing", 7)]) (g := gName 7) (tt := tYes) (te := tAndV (tCall spLLab [] E0 (tCons (tVar 7) tNil)) (tOp (rIn K true) (tVar 7) (tTup (tCons (tC (.str "first")) (tCons (tC (.str "second")) (tCons (tC (.str "nobody")) tNil)))))) (by rfl) scMQ.nd rfl rfl (sw_true rfl rfl rfl (by decide +kernel)) (pi_seq (pe_tup (pa_cons (pv 2) (pa_cons (pv 3) pa_nil)))) (blkOk_by (own := [("_law_thing", 7)]) (N := nMQ) (sc := defScope sLMadeQuestions) (by decide +kernel))
          (fun _ _ _ _ _ => pg_name (i := 7) scMQ.nd rfl (Or.inl rfl)) (fun _ _ _ _ _ => pts_nil) (fun _ _ _ _ _ => pe_and (pe_call L.G hr1 (by rfl) L.m L.kp L.b .nil pass0 (pa_cons (pv 7) pa_nil)) (pe_one (pe_cmpR op_notIn_seq (pv 7) (pe_tup (pa_cons pe_str (pa_cons pe_str (pa_cons pe_str pa_nil)))) (by rfl)))))
    (C8.pss_cut (ps_if (pt_cmpR op_ne (pe_call RQ.G hr (by rfl) RQ.m RQ.kp RQ.b .nil pass0 (pa_cons pe_str (pa_cons (pe_lst (pa_cons (pv 2) pa_nil)) pa_nil))) (pe_ifExp (pt_val (pe_ix ix_list (pv 4) pe_int (fun _ _ => rfl))) pe_non pe_str) (nomark _)) (pss_one ps_never) pss_nil)
    (C8.pss_cut (ps_if (pt_cmpR op_ne (pe_call RQ.G hr (by rfl) RQ.m RQ.kp RQ.b .nil pass0 (pa_cons pe_str (pa_cons (pe_lst (pa_cons (pv 3) pa_nil)) pa_nil))) (pe_ifExp (pt_val (pe_ix ix_list (pv 4) pe_int (fun _ _ => rfl))) pe_non pe_str) (nomark _)) (pss_one ps_never) pss_nil)
    (C8.pss_cut (ps_if (pt_cmpR op_ne (pe_call RQ.G hr (by rfl) RQ.m RQ.kp RQ.b .nil pass0 (pa_cons pe_str (pa_cons (pe_lst (pa_cons (pv 2) (pa_cons (pv 3) pa_nil))) pa_nil))) (pe_ifExp (PW.pt (pw_and (pt_val (pe_ix ix_list (pv 4) pe_int (fun _ _ => rfl))) (pw_and (pt_val (pe_ix ix_list (pv 4) pe_int (fun _ _ => rfl))) (pw_and1 (pt_cmpR op_ne (pv 2) (pv 3) (nomark _)))))) pe_non pe_str) (nomark _)) (pss_one ps_never) pss_nil)
    (C8.pss_cut (ps_set (i := 5) scMQ.nd rfl (Or.inl rfl) (pe_call O.G hr3 (by rfl) O.m O.kp O.b .nil pass0 (pa_cons (pv 0) (pa_cons (pe_lst (pa_cons pe_int (pa_cons pe_int (pa_cons pe_int (pa_cons pe_int (pa_cons pe_bl (pa_cons pe_non (pa_cons (pe_un un_neg pe_int) (pa_cons pe_str pa_nil))))))))) pa_nil))))
    (C8.pss_cut (ps_set (i := 6) scMQ.nd rfl (Or.inl rfl) (pe_ifExp (PW.pt (pw_and (pt_val (pe_call W.G hr1 (by rfl) W.m W.kp W.b .nil pass0 (pa_cons (pv 5) pa_nil))) (pw_and1 (pt_chain op_le op_le pe_int (pv 5) pe_int)))) pe_non pe_str))
    (pss_one (ps_ret (pe_cmpR op_eq (pe_call RQ.G hr (by rfl) RQ.m RQ.kp RQ.b .nil pass0 (pa_cons pe_str (pa_cons (pe_lst (pa_cons (pv 2) (pa_cons (pv 5) pa_nil))) pa_nil))) (pe_ifExp (pt_val (pe_call L.G hr1 (by rfl) L.m L.kp L.b .nil pass0 (pa_cons (pv 2) pa_nil))) (pv 6) pe_str) (nomark _)))))))))))), ?_⟩
    refine ⟨(by show 1 ≤ sizeLine; decide), fun l0 h0 => ⟨(by show 12 ≤ sizeLine; decide), fun b hb => ?_⟩⟩
    have s0 := sameUpd (o := .lst [V.str "a"]) (Same.refl H) h0
    generalize eL : [V.str "owner", V.str "holder", V.str "first", V.str "nobody", V.str "second", V.str "", V.str "A", V.non, V.int 5, V.ref l0, V.str "year", V.str "abcdefg"] = L0
    have sb := sameUpd (o := .lst L0) s0 hb
    have hpb := hp.same sb
    have bp : b ≠ p := (hp.same s0).ap hb
    have l0p : l0 ≠ p := hp.ap h0
    have bl0 : l0 ≠ b := ne_of_none upd_same hb
    have l0at : upd (upd H l0 (.lst [V.str "a"])) b (.lst L0) l0 = some (.lst [V.str "a"]) := by rw [upd_ne bl0]; exact upd_same
    have ll : L0.length = 12 := by rw [← eL]; rfl
    have th : ∀ x ∈ L0, ∃ n, ∀ H' : Hp, H' l0 = some (.lst [V.str "a"]) → Thing H' x n := fun x hx => by
      rw [← eL] at hx
      have fl : ∀ {x : V}, FlatT x → ∃ n, ∀ H' : Hp, H' l0 = some (.lst [V.str "a"]) → Thing H' x n := fun h => h.imp fun n q H' _ => q H'
      simp only [List.mem_cons, List.not_mem_nil, or_false] at hx
      rcases hx with e | e | e | e | e | e | e | e | e | e | e | e <;> subst e
      · exact fl (flat_str (by decide +kernel))
      · exact fl (flat_str (by decide +kernel))
      · exact fl (flat_str (by decide +kernel))
      · exact fl (flat_str (by decide +kernel))
      · exact fl (flat_str (by decide +kernel))
      · exact fl (flat_str (by decide +kernel))
      · exact fl (flat_str (by decide +kernel))
      · exact fl flat_non
      · exact fl (flat_int 5)
      · exact ⟨"list", fun H' h => ⟨.lst _ _ h, fun z e => nomatch e⟩⟩
      · exact fl (flat_str (by decide +kernel))
      · exact fl (flat_str (by decide +kernel))
    -- two of them
    refine ⟨fun σ H1 => ∃ x y n m, σ = [some (.ref p), some (.ref b), some x, some y, none, none, none, none] ∧ HandAt H1 p q ∧ Keep H H1 p ∧ H1 l0 = some (.lst [V.str "a"]) ∧ (∀ H' : Hp, H' l0 = some (.lst [V.str "a"]) → Thing H' x n) ∧ (∀ H' : Hp, H' l0 = some (.lst [V.str "a"]) → Thing H' y m), ?_, ?_⟩
    · refine ⟨_, rfl, _, rfl, p, q, b, L0, rfl, hpb, upd_same, bp, by omega, by omega, fun x H1 hx h1 k1 => ⟨_, rfl, _, rfl, p, q, b, L0, rfl, h1, k1 _ _ upd_same bp, bp, by omega, by omega, fun y H2 hy h2 k2 => ?_⟩⟩
      obtain ⟨n, tx⟩ := th x hx
      obtain ⟨m, ty⟩ := th y hy
      exact ⟨_, _, rfl, x, y, n, m, rfl, h2, (Same.keep sb).trans (k1.trans k2), (k1.trans k2) _ _ l0at l0p, tx, ty⟩
    rintro σ H1 ⟨x, y, n, m, rfl, h1, k1, l1, tx, ty⟩
    -- which are fine
    refine ⟨fun σ H2 => ∃ c, σ = [some (.ref p), some (.ref b), some x, some y, some (.ref c), none, none, none] ∧ Same H1 H2 ∧ H2 c = some (.lst [.bl (seatV x), .bl (seatV y)]), ?_, ?_⟩
    · refine ⟨_, rfl, _, rfl, (by show 2 ≤ sizeLine; decide), fun t ht => ⟨t, rfl, ?_⟩⟩
      have st := sameUpd (o := .tup [x, y]) (Same.refl H1) ht
      refine lc_pure (g := gName 7) (fun j y' H' => ∀ v, [x, y][j]? = some v → y' = .bl (seatV v)) (fun j y H' H'' q s => q) (IsSeq.tup upd_same) (Same.refl _) (by show 2 ≤ 2000000; decide) ?_ ?_ fun x σ H Q Q' q z => q _ _ z
      · rintro D' i v H3 k' hi hD s3 ⟨acc, hacc⟩ kk
        have l3 := (st.trans s3) _ _ l1
        obtain ⟨nv, tv⟩ : ∃ nv, Thing H3 v nv := by
          have mv : v ∈ [x, y] := List.mem_of_getElem? hi
          simp only [List.mem_cons, List.not_mem_nil, or_false] at mv
          rcases mv with e | e <;> subst e
          · exact ⟨_, tx _ l3⟩
          · exact ⟨_, ty _ l3⟩
        have fin : ∀ (b' : Bool) (H' : Hp), seatV v = b' → Same H3 H' → k' (.bl b') H' := fun b' H' e s => kk _ _ s fun v' e' => by
          rw [hi] at e'
          cases e'
          rw [e]
        refine ⟨rfl, _, rfl, v, nv, rfl, tv.kd, tv.fine, fun H4 s4 => ⟨_, rfl, ?_⟩⟩
        cases e : labV v with
        | false =>
          refine (if_neg Bool.false_ne_true).mpr (fin _ _ ?_ s4)
          cases q : seatV v with
          | false => rfl
          | true => rw [seatV_lab q] at e; cases e
        | true =>
          obtain ⟨z, rfl, hz⟩ := lab_str e
          refine (if_pos rfl).mpr ⟨_, rfl, (by show 3 ≤ sizeLine; decide), fun T' hT => ⟨T', noSeats.map V.str, rfl, .inr (SqT.of upd_same), rfl, by decide, fin _ _ (seat_in hz) (sameUpd s4 hT)⟩⟩
      · intro D' ys H3 hD s3 hd ly g
        have ey : ys = [.bl (seatV x), .bl (seatV y)] := by
          match ys, ly with
          | [u, v], _ =>
            rw [g 0 u rfl x rfl, g 1 v rfl y rfl]
        subst ey
        exact ⟨D', rfl, st.trans s3, hd⟩
    rintro σ H2 ⟨c, rfl, s2, hc⟩
    have tx' : ∀ {H' : Hp}, Same H1 H' → Thing H' x n := fun s => tx _ (s _ _ l1)
    have ty' : ∀ {H' : Hp}, Same H1 H' → Thing H' y m := fun s => ty _ (s _ _ l1)
    -- the first question
    refine ⟨fun σ H3 => σ = [some (.ref p), some (.ref b), some x, some y, some (.ref c), none, none, none] ∧ Same H2 H3, ?_, ?_⟩
    · refine ⟨_, rfl, (by show 1 ≤ sizeLine; decide), fun l hl => ?_⟩
      have s3 := sameUpd (o := .lst [x]) (Same.refl H2) hl
      refine ⟨"who", l, [x], x, x, n, n, rfl, upd_same, tx' (s2.trans s3), tx' (s2.trans s3), .inr (.inr (.inl ⟨rfl, rfl⟩)), fun H4 s4 => ?_⟩
      have qd : qDue "who" x x = (if seatV x = true then none else some (Str.ofString "seat")) := by
        unfold qDue
        rw [if_neg (by decide +kernel), if_neg (by decide +kernel)]
      rw [qd]
      refine ⟨_, rfl, _, _, _, _, rfl, rfl, SqL.of ((s3.trans s4) _ _ hc), atI0 _ _, _, rfl, ?_⟩
      cases e : seatV x with
      | true => exact (if_pos rfl).mpr ⟨rfl, _, rfl, iteF ⟨rfl, s3.trans s4⟩⟩
      | false => exact (if_neg Bool.false_ne_true).mpr ⟨rfl, _, rfl, iteF ⟨rfl, s3.trans s4⟩⟩
    rintro σ H3 ⟨rfl, s3⟩
    have c3 := s3 _ _ hc
    have s13 := s2.trans s3
    -- the second question
    refine ⟨fun σ H4 => σ = [some (.ref p), some (.ref b), some x, some y, some (.ref c), none, none, none] ∧ Same H3 H4, ?_, ?_⟩
    · refine ⟨_, rfl, (by show 1 ≤ sizeLine; decide), fun l hl => ?_⟩
      have s4 := sameUpd (o := .lst [y]) (Same.refl H3) hl
      refine ⟨"filled", l, [y], y, y, m, m, rfl, upd_same, ty' (s13.trans s4), ty' (s13.trans s4), .inr (.inr (.inr ⟨rfl, rfl⟩)), fun H5 s5 => ?_⟩
      have qd : qDue "filled" y y = (if seatV y = true then none else some (Str.ofString "seat")) := by
        unfold qDue
        rw [if_neg (by decide +kernel), if_neg (by decide +kernel)]
      rw [qd]
      refine ⟨_, rfl, _, _, _, _, rfl, rfl, SqL.of ((s4.trans s5) _ _ c3), atI1 _ _ _, _, rfl, ?_⟩
      cases e : seatV y with
      | true => exact (if_pos rfl).mpr ⟨rfl, _, rfl, iteF ⟨rfl, s4.trans s5⟩⟩
      | false => exact (if_neg Bool.false_ne_true).mpr ⟨rfl, _, rfl, iteF ⟨rfl, s4.trans s5⟩⟩
    rintro σ H4 ⟨rfl, s4⟩
    have c4 := s4 _ _ c3
    have s14 := s13.trans s4
    -- the third
    refine ⟨fun σ H5 => σ = [some (.ref p), some (.ref b), some x, some y, some (.ref c), none, none, none] ∧ Same H4 H5, ?_, ?_⟩
    · refine ⟨_, rfl, _, rfl, (by show 2 ≤ sizeLine; decide), fun l hl => ?_⟩
      have s5 := sameUpd (o := .lst [x, y]) (Same.refl H4) hl
      refine ⟨"together", l, [x, y], x, y, n, m, rfl, upd_same, tx' (s14.trans s5), ty' (s14.trans s5), .inr (.inl ⟨rfl, rfl⟩), fun H6 s6 => ?_⟩
      have qd : qDue "together" x y = (if togV x y = true then none else some (Str.ofString "seat")) := by
        unfold qDue
        rw [if_neg (by decide +kernel), if_pos rfl]
      rw [qd]
      have c6 := (s5.trans s6) _ _ c4
      refine ⟨_, rfl, _, _, _, _, rfl, rfl, SqL.of c6, atI0 _ _, _, rfl, ?_⟩
      cases e1 : seatV x with
      | false =>
        have et : togV x y = false := by unfold togV; rw [e1]; rfl
        rw [et]
        exact iteF ((if_neg Bool.false_ne_true).mpr ⟨rfl, _, rfl, iteF ⟨rfl, s5.trans s6⟩⟩)
      | true =>
        refine iteT ⟨_, rfl, _, _, _, _, rfl, rfl, SqL.of c6, atI1 _ _ _, _, rfl, ?_⟩
        cases e2 : seatV y with
        | false =>
          have et : togV x y = false := by unfold togV; rw [e1, e2]; rfl
          rw [et]
          exact iteF ((if_neg Bool.false_ne_true).mpr ⟨rfl, _, rfl, iteF ⟨rfl, s5.trans s6⟩⟩)
        | true =>
          obtain ⟨z, rfl, _⟩ := seat_str e1
          obtain ⟨u, rfl, _⟩ := seat_str e2
          refine iteT ⟨_, rfl, _, rfl, rfl, _, rfl, ?_⟩
          have et : togV (.str z) (.str u) = !decide (V.str z = V.str u) := by unfold togV; rw [e1, e2]; rfl
          rw [et]
          cases e3 : decide (V.str z = V.str u) with
          | true => exact (if_neg (show ¬ (!true) = true by decide)).mpr ⟨rfl, _, rfl, iteF ⟨rfl, s5.trans s6⟩⟩
          | false => exact (if_pos rfl).mpr ⟨rfl, _, rfl, iteF ⟨rfl, s5.trans s6⟩⟩
    rintro σ H5 ⟨rfl, s5⟩
    have s15 := s14.trans s5
    have h5 := h1.same s15
    have l5 := s15 _ _ l1
    have k5 := k1.trans (Same.keep (p := p) s15)
    -- a number
    refine ⟨fun σ H6 => ∃ v u, σ = [some (.ref p), some (.ref b), some x, some y, some (.ref c), some v, none, none] ∧ HandAt H6 p q ∧ Keep H H6 p ∧ H6 l0 = some (.lst [V.str "a"]) ∧ ∀ H', Thing H' v u, ?_, ?_⟩
    · refine ⟨_, rfl, _, rfl, (by show 8 ≤ sizeLine; decide), fun l hl => ?_⟩
      have s6 := sameUpd (o := .lst [V.int 0, V.int 1, V.int 40, V.int 41, V.bl true, V.non, V.int (-1), V.str "1"]) (Same.refl H5) hl
      refine ⟨p, q, l, _, rfl, h5.same s6, upd_same, h5.ap hl, (by show 0 < 8; decide), (by show 8 ≤ 1000; decide), fun v H7 hv h7 k7 => ?_⟩
      have fv : FlatT v := by
        simp only [List.mem_cons, List.not_mem_nil, or_false] at hv
        rcases hv with e | e | e | e | e | e | e | e <;> subst e
        · exact flat_int _
        · exact flat_int _
        · exact flat_int _
        · exact flat_int _
        · exact flat_bl _
        · exact flat_non
        · exact flat_int _
        · exact flat_str (by decide +kernel)
      obtain ⟨u, tv⟩ := fv
      exact ⟨v, u, rfl, h7, (k5.trans (Same.keep s6)).trans k7, k7 _ _ (s6 _ _ l5) l0p, tv⟩
    rintro σ H6 ⟨v, u, rfl, h6, k6, l6, tv⟩
    -- what is due for it
    refine ⟨fun σ H7 => σ = [some (.ref p), some (.ref b), some x, some y, some (.ref c), some v, some (wordV (if wholeV v 1 40 = true then none else some (Str.ofString "number"))), none] ∧ H7 = H6, ?_, ?_⟩
    · refine ⟨_, rfl, v, u, rfl, (tv H6).kd, _, rfl, ?_⟩
      cases v with
      | int j =>
        refine iteT ⟨_, rfl, _, _, rfl, rfl, _, rfl, ?_⟩
        refine ite2 (fun q1 => ?_) (fun q1 => ?_)
        · have q1 : 1 ≤ j := of_decide_eq_true q1
          have ew : wholeV (.int j) 1 40 = decide (j ≤ 40) := by simp [wholeV, q1]
          refine ⟨_, _, rfl, rfl, _, rfl, ?_⟩
          rw [ew]
          cases q2 : decide (j ≤ 40) with
          | true => exact (if_pos rfl).mpr ⟨rfl, rfl⟩
          | false => exact (if_neg Bool.false_ne_true).mpr ⟨rfl, rfl⟩
        · have q1 : ¬ 1 ≤ j := fun e => q1 (decide_eq_true e)
          have ew : wholeV (.int j) 1 40 = false := by simp [wholeV, q1]
          rw [ew]
          exact ⟨_, rfl, (if_neg Bool.false_ne_true).mpr ⟨rfl, rfl⟩⟩
      | _ => exact iteF ((if_neg Bool.false_ne_true).mpr ⟨rfl, rfl⟩)
    rintro σ H7 ⟨rfl, rfl⟩
    -- the last question
    refine ⟨_, rfl, _, rfl, (by show 2 ≤ sizeLine; decide), fun l hl => ?_⟩
    have s8 := sameUpd (o := .lst [x, v]) (Same.refl H7) hl
    have tx8 := tx _ (s8 _ _ l6)
    refine ⟨"reached", l, [x, v], x, v, n, u, rfl, upd_same, tx8, tv _, .inl ⟨rfl, rfl⟩, fun H9 s9 => ?_⟩
    have s79 := s8.trans s9
    have qd : qDue "reached" x v = rchWord x v := if_pos rfl
    rw [qd]
    have tx9 := tx _ (s79 _ _ l6)
    refine ⟨_, rfl, x, n, rfl, tx9.kd, tx9.fine, fun H10 s10 => ⟨_, rfl, ?_⟩⟩
    have fin := k H10 (h6.same (s79.trans s10)) (k6.trans (Same.keep (s79.trans s10)))
    have rw1 : rchWord x v = (if labV x = true then (if wholeV v 1 40 = true then none else some (Str.ofString "number")) else some (Str.ofString "clock")) := rfl
    rw [rw1]
    cases e : labV x with
    | false =>
      refine (if_neg Bool.false_ne_true).mpr ⟨rfl, ?_⟩
      have ed : decide (wordV (some (Str.ofString "clock")) = V.str (Str.ofString "clock")) = true := decide_eq_true rfl
      exact ed.symm ▸ fin
    | true =>
      refine (if_pos rfl).mpr ⟨_, rfl, scal_words _ _, ?_⟩
      rw [if_pos (rfl : true = true), decide_eq_true rfl]
      exact fin
end
end Kx

set_option maxHeartbeats 4000000
namespace Kx
open PySem PySem.Spec PyProof.Rows L2
section
variable {X : Cx} {C g : Addr} {sp : Sp} {E : XK} {CXx : CXT} {n : Nat}
/-- o != y by an own __eq__, y of the class or a tuple -/
def rNeOwnT (K : PySem.W.Frag) (C : Addr) (sp : Sp) (E : XK) : R2 := fun x y H Q => ∃ a dx fs, x = .ref a ∧ H a = some (.ins C dx fs) ∧ ((∃ b dy gs, y = .ref b ∧ H b = some (.ins C dy gs)) ∨ (∃ b ys, y = .ref b ∧ H b = some (.tup ys) ∧ PySem.W.notFirst K C (.type "tuple") = true)) ∧
  sp [.ref a, y] H (fun z H' => ∃ c, z = .bl c ∧ Q (.bl (!c)) H') E
theorem op_neOwnT (hm : PySem.W.mroIn X.K C (.type "object") = some true) (hne : PySem.W.findIn X.K (.ref C) "__ne__" = some (some (.builtin "object.__ne__"))) (hs : PySem.W.findIn X.K (.ref C) "__eq__" = some (some (.ref g))) (hf : PySem.W.isFn X.K (.ref g) = true) (F : FnR X.prog X.w X.K X.mg X.base CXx n g sp) (hr : Room (n + 1) X.A) (hx : Passes CXx X E) :
    OpR X (compareOp .NotEq) (rNeOwnT X.K C sp E) := by
  intro pins s σ H x y v u Q I rx ry h
  obtain ⟨a, dx, fs, rfl, ha, hy, q⟩ := h
  obtain rfl : v = Value.ref a := rx
  obtain ⟨ox, od, J⟩ := inst_of I ha
  obtain ⟨m, hF⟩ := I.fr
  have run : codeAny (model X.prog X.w) X.A.in1 (.call (.ref g) ⟨[.ref a, u], []⟩) (fun r s' => match r with | .ok (.ret v) => EP X pins σ (fun z H' => ∃ c, z = .bl c ∧ Q (.bl (!c)) H') v s' | .ok _ => False | .error e => X.xe e s') s := by
    refine codeAny_mono (F X.A.in1 X.stack s H [.ref a, u] [.ref a, y] _ E hr.in1 I.env0.in1 (.cons rfl (.cons ry .nil)) q) fun r s' hq => ?_
    rcases r with e | (_ | _ | _ | u)
    · exact hx pins σ H s e s' I hq
    · exact hq.elim
    · exact hq.elim
    · exact hq.elim
    · exact I.after hq
  have go : ∀ tb, PySem.W.Looks (model X.prog X.w) s.heap (typeOf u) tb → PySem.W.notFirst X.K C tb = true → wpAny (model X.prog X.w) X.A (compareOp .NotEq (.ref a) u) (EP X pins σ Q) X.xe s := fun tb hb hn => by
    refine rich_ne hr.units hF I.ok.mod.kin J hb hn hm hne hs hf (wpAny_mono (wpAny_call run) (fun w s' z => ?_) fun _ _ x => x)
    obtain ⟨z', H', I', rz, c, rfl, qz⟩ := z
    obtain rfl : w = Value.bool c := rz
    exact ⟨.bl (!c), H', I', rfl, qz⟩
  rcases hy with ⟨b, dy, gs, rfl, hb⟩ | ⟨b, ys, rfl, hb, hn⟩
  · obtain rfl : u = Value.ref b := ry
    obtain ⟨ox', od', J'⟩ := inst_of I hb
    exact go _ J'.type (by simp [PySem.W.notFirst])
  · obtain rfl : u = Value.ref b := ry
    obtain ⟨_, _, _, o, h1, h2, _⟩ := (show ObjOk X.prog X.w H s.heap b (.tup ys) from I.hok b _ hb)
    exact go _ (PySem.W.kitAt_ty _ _ ⟨o, h1, h2⟩) hn
end
end Kx

set_option maxHeartbeats 4000000
namespace Kx
open PySem PySem.Spec PyProof.Rows L2
abbrev QT : VK := fun v _ => v = .bl true
abbrev EF : XK := fun _ _ _ => False
/-- the body of the law's def, asked at the call that the row makes (nothing is being shown by repr there) -/
def LawBody (P : Program) (w : World) (K : PySem.W.Frag) (mg : Str → Option Value) (base : Heap) (N : List Str) (x : Str) (st : Stmt) (fa : Addr) (k : Nat) : Prop :=
  ∀ (cdv : Value) (s : Shared) (H : Hp) (a : Addr) (ns : List Int), Room k (callerA.deeper (envOfC x (defScope st) s.heap.objs.size fa cdv)) → SqL K H a (ns.map V.int) → ns.length ≤ 63 →
    ∃ t, PSs (cxOf CX0 P w K mg base N x (defScope st) fa cdv callerA [] s H EF).nox (defBody st) t ∧ t { nx := fun _ H' => QT .non H', rt := QT } (start N [.ref a]) H
section
variable {P : Program} {w : World} {K : PySem.W.Frag} {mg mb : Str → Option Value} {k : Nat} {fa a : Addr} {fd : FuncData} {x y : Str} {st : Stmt} {N : List Str}
theorem law_at {base : Heap} (F : Fun K x x st fa fd) (S : FnScope N [y] (defScope st)) (hr : Room (k + 1) callerA) (B : LawBody P w K mg base N x st fa k) (bind : ∀ (s : Shared) (u : Value), BindsTo s fd ⟨[u], []⟩ [(y, u)])
    {s : Shared} {H : Hp} {ns : List Int} (e0 : Env0 P w K mg base callerA [] s H) (hS : SqL K H a (ns.map V.int)) (hn : ns.length ≤ 63) :
    codeAny (model P w) callerA (.call (.ref fa) ⟨[.ref a], []⟩) (CR CX0 [] P w H s QT EF) s := by
  obtain ⟨oc, od, kV, doc, pm, an, cdv, ct, osl, rfl, lk, hcd⟩ := F.ex
  have KX : K.In s.heap := e0.mod.kin.keeps fun b o e => (e0.bs b o e).1
  have noLim : s.heap.NoLimit := e0.mod.nolimit.keeps fun b o e => (e0.bs b o e).1
  have kinds : ∀ z ∈ [(y, Value.ref a)], (defScope st).names.lookup z.1 = some .local ∨ ((defScope st).names.lookup z.1 = some .cell ∧ ((cellsFrom (s.heap.objs.size + 1) (defScope st).names []).lookup z.1).isSome = true) := fun z hz => by
    obtain rfl : z = (y, Value.ref a) := by simpa using hz
    rcases S.par y (.head _) with q | q
    · exact .inl q
    · exact .inr ⟨q, PySem.W.cellsFrom_some _ _ _ (.inl q)⟩
  refine codeAny_call_function hr.depth (KX _ _ lk) rfl S.co S.gen rfl (PySem.W.codeRec_of KX hcd) (bind s (.ref a) _ _ _ _ (wpAny_newFunctionEnv_cells S.kind kinds fun env he s1 z => ?_))
  subst he
  obtain ⟨t, ht, hq⟩ := B cdv s H a ns (hr.deeper _) hS hn
  refine ⟨noLim.keeps z.toInCall.keep, codeAny_func (wpAny_mono (ht.nox.run [] s1 (start N [.ref a]) H _ (inv_start S hr.hd e0 rfl (.cons rfl .nil) z) hq) (fun fl s' got => ?_) fun e s' got => got)⟩
  cases fl with
  | ret u => obtain ⟨v, σ', H', J, rv, q⟩ := got; exact ⟨v, H', J.os, J.bare, J.base, J.hok, rv, q⟩
  | next => obtain ⟨σ', H', J, q⟩ := got; exact absurd q (fun z => nomatch z)
  | brk => obtain ⟨_, _, _, q⟩ := got; exact q.elim
  | cont => obtain ⟨_, _, _, q⟩ := got; exact q.elim
/-- behind the top nothing is tracked but the script -/
theorem env_at {s : Shared} {H : Hp} {vs : List Value} (KX : K.In s.heap) (main : s.heap.Ns mainGlobals mg) (blt : s.heap.Ns builtinsNs mb) (boot : ∀ x : Str, x ≠ "__name__" → mb x = bootBuiltins x) (lim : s.heap.NoLimit) (gens : s.gens = #[])
    (at_ : s.heap.get? a = some { cls := .type "list", data := .seq vs.toArray }) (ok : HOk P w H s.heap) (only : ∀ b, b ≠ a → H b = none) (mine : H a = none ∨ K.lookup a = none) : Env0 P w K mg (hidT s.heap H) callerA [] s H := by
  have keepK : K.In (hidT s.heap H) := fun b o e => hidT_get (KX b o e) (by
    by_cases z : b = a
    · subst z
      rcases mine with q | q
      · exact q
      · rw [q] at e; cases e
    · exact only b z)
  have keepN : ∀ {b : Addr} {m : Str → Option Value}, s.heap.Ns b m → (hidT s.heap H).Ns b m := by
    rintro b m ⟨o, es, ep, e, d, r⟩
    refine ⟨o, es, ep, hidT_get e (only b fun z => ?_), d, r⟩
    subst z
    rw [at_] at e
    cases e
    cases d
  obtain ⟨mc, l1, l2⟩ := lim
  exact ⟨rfl, ⟨keepK, keepN main, ⟨mb, keepN blt, boot⟩, ⟨mc, keepN l1, l2⟩⟩, fun b o e => of_hidT e, Nat.le_of_eq (hidT_size _ _), trivial, fun b hb => (nomatch hb), ok, .of_eq gens⟩
theorem law_end {s : Shared} {vs : List Value} {ns : List Int} (KX : K.In s.heap) (main : s.heap.Ns mainGlobals mg) (blt : s.heap.Ns builtinsNs mb) (boot : ∀ x : Str, x ≠ "__name__" → mb x = bootBuiltins x) (lim : s.heap.NoLimit) (gens : s.gens = #[])
    (at_ : s.heap.get? a = some { cls := .type "list", data := .seq vs.toArray }) (hints : IntsAre vs ns) (hn : ns.length ≤ 63)
    (run : ∀ (base : Heap) (H : Hp), K.In base → base.Ns mainGlobals mg → Env0 P w K mg base callerA [] s H → SqL K H a (ns.map V.int) → codeAny (model P w) callerA (.call (.ref fa) ⟨[.ref a], []⟩) (CR CX0 [] P w H s QT EF) s) :
    codeAny (model P w) callerA (.call (.ref fa) ⟨[.ref a], []⟩) (fun r s' => r = .ok (.ret (.bool true)) ∧ OldK s.heap s'.heap ∧ s'.os = s.os ∧ AllBare s'.gens) s := by
  have rv := vals_ints hints
  have fits : (ns.map V.int).length ≤ sizeLine := by rw [List.length_map]; exact Nat.le_of_lt (small1000 (by omega))
  have go : ∀ H : Hp, (∀ b, b ≠ a → H b = none) → (H a = none ∧ SqL K H a (ns.map V.int) ∨ K.lookup a = none ∧ H a = some (.frz { cls := .type "list", data := .seq vs.toArray } (.lst (ns.map V.int)))) →
      codeAny (model P w) callerA (.call (.ref fa) ⟨[.ref a], []⟩) (fun r s' => r = .ok (.ret (.bool true)) ∧ OldK s.heap s'.heap ∧ s'.os = s.os ∧ AllBare s'.gens) s := by
    intro H only mine
    have ok : HOk P w H s.heap := fun b u e => by
      by_cases z : b = a
      · subst z
        rcases mine with ⟨q, _⟩ | ⟨_, q⟩
        · rw [q] at e; cases e
        · rw [q] at e
          cases e
          exact ⟨at_, fits, vs, _, rv, at_⟩
      · rw [only b z] at e; cases e
    have e0 := env_at (P := P) (w := w) KX main blt boot lim gens at_ ok only (mine.elim (fun q => .inl q.1) fun q => .inr q.1)
    refine codeAny_mono (run _ H e0.mod.kin e0.mod.glob e0 (mine.elim (fun q => q.2) fun q => .inl (.inr ⟨_, q.2⟩))) fun r s' got => ?_
    rcases r with e | (_ | _ | _ | u)
    · exact got.elim
    · exact got.elim
    · exact got.elim
    · exact got.elim
    · obtain ⟨v, H', os, bare, un, ok', rel, q⟩ := got
      obtain rfl : v = .bl true := q
      obtain rfl : u = Value.bool true := rel
      refine ⟨rfl, OldK.of_keep fun b o e => ?_, os, bare⟩
      cases q : H b with
      | none => exact un.keep b o e q (fun z => (nomatch z)) (fun z => (nomatch z))
      | some u =>
        have z : b = a := Classical.byContradiction fun z => by rw [only b z] at q; cases q
        subst z
        rcases mine with ⟨q2, _⟩ | ⟨_, q2⟩
        · rw [q2] at q; cases q
        · rw [at_] at e
          cases e
          exact (ok' b _ (un.frzs b _ _ q2)).1
  cases hk : K.lookup a with
  | some o =>
    have e := KX a o hk
    rw [at_] at e
    cases e
    exact go (fun _ => none) (fun _ _ => rfl) (.inl ⟨rfl, .inr ⟨_, vs.toArray, _, hk, rfl, rfl, rfl, by rw [List.size_toArray, hints.length]; exact Nat.le_of_lt (small1000 (by omega)), by simpa using rv⟩⟩)
  | none => exact go (fun b => if b = a then some (.frz { cls := .type "list", data := .seq vs.toArray } (.lst (ns.map V.int))) else none) (fun b z => if_neg z) (.inr ⟨hk, if_pos rfl⟩)
end
theorem law_walk {l : PySem.W.OpenLaw} {q : Program} {loose : List Str} {XP : (Str → Option Value) → Heap → Prop} {YP : World → Heap → Prop} {d : DefRec} {K : Params → PySem.W.Frag} (hn : l.most = some 63) (hdf : d.params.defaults = []) (hY : ∀ (w : World) (h : Heap), YP w h → (K w.params).In h)
    (F : ∀ (w : World) (mg : Str → Option Value) (fa : Addr) (h : Heap), (K w.params).In h → h.Ns mainGlobals mg → mg d.name = some (.ref fa) →
      ∀ (base : Heap) (s : Shared) (H : Hp) (a : Addr) (ns : List Int), (K w.params).In base → base.Ns mainGlobals mg → Env0 l.prog w (K w.params) mg base callerA [] s H → SqL (K w.params) H a (ns.map V.int) → ns.length ≤ 63 →
        codeAny (model l.prog w) callerA (.call (.ref fa) ⟨[.ref a], []⟩) (CR CX0 [] l.prog w H s QT EF) s) : PySem.W.WalkO q loose XP YP l.row.toRowW d [] (fun f vs => PySem.call f vs) :=
  Att.attach_call hn hdf fun w s₀ s₁ mg mb fa o pm cd doc a vs ns G Y ho hd hcd hmg hobj hints hlen hg =>
    law_end (hY w _ Y) G.T.g G.T.b G.T.builtins G.T.nolimit hg hobj hints hlen fun base H kin main e0 hS => F w mg fa _ (hY w _ Y) G.T.g hmg base s₁ H a ns kin main e0 hS hlen
end Kx


set_option maxHeartbeats 16000000
namespace Kx
open PySem L2
abbrev Rtup (K : PySem.W.Frag) : List V → Hp → VK → Prop := fun xs H Q => ∃ p ys, xs = [.ref p] ∧ ((SqL K H p ys ∧ ∀ l, H l = none → Q (.ref l) (upd H l (.tup ys))) ∨ (SqT K H p ys ∧ Q (.ref p) H))
/-- a room, seats and clocks written down as tuples -/
theorem code_read {K : PySem.W.Frag} {i : Nat} {a : Addr} {v0 v1 v2 v3 v4 v5 v6 v7 v8 v9 v10 v11 v12 : Option V} {H : Hp} {Q : VK} {r : Str} {sv cv : V} {ss : List (Option Str)} {cs : List (Int × Bool)} (e : [v0, v1, v2, v3, v4, v5, v6, v7, v8, v9, v10, v11, v12][i]? = some (some (.ref a))) (e' : [v0, v1, v2, v3, v4, none, v6, v7, v8, v9, v10, v11, v12][i]? = some (some (.ref a))) (ha : H a = some (.lst [.str r, sv, cv])) (hs : SeatsIs K H sv (some (ss.map oV))) (hc : ClksIs K H cv (some (cR cs)))
    (k : ∀ st H', Same H H' → CodeAt H' st r ss cs → Q (.ref st) H') :
    tTup (tCons (tOp (rIx K) (tVar i) (tC (V.int 0))) (tCons (tCB (Rtup K) (tCons (tOp (rIx K) (tVar i) (tC (V.int 1))) tNil)) (tCons (tCB (Rtup K) (tCons (tLc (iSeq K (tOp (rIx K) (tVar i) (tC (V.int 2)))) (gName 5) tYes (tCB (Rtup K) (tCons (tVar 5) tNil)) [5]) tNil)) tNil))) [v0, v1, v2, v3, v4, v5, v6, v7, v8, v9, v10, v11, v12] H Q := by
  have ix : ∀ {H' : Hp} {i : Int} {v : V} {Q' : V → Hp → Prop}, Same H H' → atI [V.str r, sv, cv] i = some v → Q' v H' → rIx K (.ref a) (.int i) H' Q' := fun s e q => .inl ⟨_, _, _, _, rfl, rfl, SqL.of (s _ _ ha), e, q⟩
  cases hs with
  | seq hb tb lb =>
  rename_i b
  -- the seats
  have seats : ∀ {Q' : V → Hp → Prop}, (∀ sa H', Same H H' → H' sa = some (.tup (ss.map oV)) → Q' (.ref sa) H') → Rtup K [.ref b] H Q' := fun {Q'} kq => by
    rcases hb with hb | hb
    · exact ⟨b, _, rfl, .inl ⟨SqL.of hb, fun l hl => kq l _ (sameUpd (Same.refl _) hl) upd_same⟩⟩
    · exact ⟨b, _, rfl, .inr ⟨SqT.of hb, kq b H (Same.refl _) hb⟩⟩
  cases hc with
  | seq hq hr lc =>
  rename_i c ys
  have ln := Paired.length hr
  refine ⟨_, e, ix (Same.refl _) (atI0 _ _) ⟨_, e, ix (Same.refl _) (atI1 _ _ _) ?_⟩⟩
  dsimp only [tNil]
  refine seats fun sa H1 s1 h1 => ?_
  refine ⟨_, e, ix s1 (atI2 _ _ _ _) ⟨c, rfl, lc_pure (g := gName 5) (fun j y H' => ∀ d, cs[j]? = some d → ClkT H' y d) (fun j y H' H'' q s d e => (q d e).keep s) (hq.keep s1) (Same.refl _) (by omega) ?_ ?_ fun x σ H Q Q' q z => q _ _ z⟩⟩
  · rintro D i' x H3 k' hi hD s3 ⟨acc, hacc⟩ kk
    obtain ⟨r', hr', dx'⟩ := pr_get hr hi
    obtain ⟨d, hd, rfl⟩ : ∃ d, cs[i']? = some d ∧ r' = some (V.int d.1, V.bl d.2) := by
      have hr' : (cs.map fun c => some (V.int c.1, V.bl c.2))[i']? = some r' := hr'
      rw [List.getElem?_map] at hr'
      cases e : cs[i']? with
      | none => rw [e] at hr'; cases hr'
      | some d => rw [e] at hr'; exact ⟨d, rfl, (Option.some.inj hr').symm⟩
    have only : ∀ {y : V} {H' : Hp}, ClkT H' y d → ∀ d', cs[i']? = some d' → ClkT H' y d' := fun q d' e => by rw [hd] at e; cases e; exact q
    cases dx' with
    | lst h hn ha =>
      have h7 := (s1.trans s3) _ _ h
      refine ⟨rfl, _, rfl, _, _, rfl, .inl ⟨SqL.of h7, fun l hl => kk _ _ (sameUpd (Same.refl _) hl) (only ⟨l, rfl, wo_at upd_same fun e => ?_⟩)⟩⟩
      rw [e, hacc] at hl
      cases hl
    | tup h hn ha =>
      have h7 := (s1.trans s3) _ _ h
      refine ⟨rfl, _, rfl, _, _, rfl, .inr ⟨SqT.of h7, kk _ _ (Same.refl _) (only ⟨_, rfl, wo_at h7 fun e => ?_⟩)⟩⟩
      rw [e, hacc] at h7
      cases h7
  · intro D ys' H7 hD s7 hd ly g
    have s17 := s1.trans s7
    refine ⟨D, ys', rfl, .inl ⟨SqL.of hd, fun l hl => ⟨(by show 3 ≤ sizeLine; decide), fun st hst => ?_⟩⟩⟩
    have s8 := sameUpd (o := .tup ys') (Same.refl H7) hl
    have s9 := sameUpd (o := .tup [.str r, .ref sa, .ref l]) s8 hst
    refine k st _ (s17.trans s9) ⟨⟨sa, l, ys', upd_same, s9 _ _ (s7 _ _ h1), ?_, pr_of (by rw [ly, ln]; simp [cR]) fun i y d e1 e2 => ?_⟩⟩
    · rw [upd_ne (ne_of_none upd_same hst)]
      exact upd_same
    · exact ((g i y e1 d e2).keep wo_same).keep s9
/-- good parts, lists alone -/
structure GoodP (N : Hp) (pa b1 b2 : Addr) (r : Str) (ss : List (Option Str)) (cs : List (Int × Bool)) : Prop where
  at_ : N pa = some (.lst [.str r, .ref b1, .ref b2])
  s : N b1 = some (.lst (ss.map oV))
  c : ∃ xs, N b2 = some (.lst xs) ∧ Paired (fun x c => ∃ t, x = V.ref t ∧ N t = some (.lst [.int c.1, .bl c.2])) xs cs
theorem GoodP.keep {N N' : Hp} {pa b1 b2 : Addr} {r : Str} {ss : List (Option Str)} {cs : List (Int × Bool)} (h : GoodP N pa b1 b2 r ss cs) (s : Same N N') : GoodP N' pa b1 b2 r ss cs := by
  obtain ⟨h1, h2, xs, h3, h4⟩ := h
  exact ⟨s _ _ h1, s _ _ h2, xs, s _ _ h3, pr_imp h4 fun _ _ ⟨t, e, q⟩ => ⟨t, e, s _ _ q⟩⟩
theorem rows_good {N : Hp} : ∀ {xs : List V} {cs : List (Int × Bool)}, Paired (LRow N) xs (cR cs) → Paired (fun x c => ∃ t, x = V.ref t ∧ N t = some (.lst [.int c.1, .bl c.2])) xs cs
  | [], [], _ => .nil
  | [], _ :: _, h => by cases h
  | _ :: _, [], h => by cases h
  | x :: xs, c :: cs, h => by
    cases h with
    | cons q t =>
      refine .cons ?_ (rows_good t)
      cases q with
      | lst h _ _ => exact ⟨_, rfl, h⟩
theorem PartsAt.good {N : Hp} {pa : Addr} {room sv cv : V} {so : Option (List V)} {co : Option (List (Option (V × V)))} {r : Str} {ss : List (Option Str)} {cs : List (Int × Bool)} (h : PartsAt N pa room sv cv so co) (e1 : room = .str r) (e2 : so = some (ss.map oV)) (e3 : co = some (cR cs)) : ∃ b1 b2, GoodP N pa b1 b2 r ss cs := by
  subst e1 e2 e3
  have ha := h.at_
  have hs := h.seats
  have hc := h.clocks
  cases hs with
  | lst hb _ _ =>
    cases hc with
    | lst hq hr _ => exact ⟨_, _, ha, hb, _, hq, rows_good hr⟩
theorem GoodP.seats {K : PySem.W.Frag} {N : Hp} {pa b1 b2 : Addr} {r : Str} {ss : List (Option Str)} {cs : List (Int × Bool)} (h : GoodP N pa b1 b2 r ss cs) (g : GoodS r ss cs) : SeatsIs K N (.ref b1) (some (ss.map oV)) := .seq (.inl h.s) (oV_thing g.fine N) (by rw [List.length_map]; have := g.2.2.1; omega)
theorem GoodP.clocks {K : PySem.W.Frag} {N : Hp} {pa b1 b2 : Addr} {r : Str} {ss : List (Option Str)} {cs : List (Int × Bool)} (h : GoodP N pa b1 b2 r ss cs) (g : GoodS r ss cs) : ClksIs K N (.ref b2) (some (cR cs)) := by
  obtain ⟨_, _, xs, h3, h4⟩ := h
  refine .seq (.lst h3) ?_ (by rw [Paired.length h4]; have := g.2.2.2.2.1; omega)
  clear h3
  have g0 := g.2.2.2.2.2
  clear g
  induction h4 with
  | nil => exact .nil
  | cons q t ih =>
    obtain ⟨u, rfl, hu⟩ := q
    exact .cons (.lst hu ⟨.int _, fun z e => nomatch e⟩ ⟨.bl _, fun z e => nomatch e⟩) (ih fun c m => g0 c (.tail _ m))
end Kx

set_option maxHeartbeats 16000000
namespace Kx
open PySem L2
/-- all that the law calls -/
structure All7 (P : Program) (w : World) (K : PySem.W.Frag) (mg : Str → Option Value) (base : Heap) (C CS fI gE : Addr) (fdI fdE : FuncData) (dv : V) (ds : List Value) : Prop where
  hand : HasF P w K mg base "_law_hand" 1 ["_law_script"] (spHand K)
  draw : HDraw P w K mg base
  parts : HasF P w K mg base "_law_parts" 7 ["_law_hand_here"] spParts
  word : HasF P w K mg base "_law_word" 4 ["_law_parts_here"] spWordL
  try_ : HasF P w K mg base "_law_try" 6 ["_law_parts_here"] (spLTry K C)
  isS : HasF P w K mg base "_law_is_stand" 4 ["_law_told", "_law_stand"] (spIsStand C)
  prog : HasF P w K mg base "_law_program_stand" 6 ["_law_stand"] (spProgStand C)
  renames : HasF P w K mg base "_law_renames" 8 ["_law_hand_here", "_law_made", "_law_stand"] (spRenames C)
  madeq : HasF P w K mg base "_law_made_questions" 6 ["_law_hand_here"] spMadeQ
  SX : SC K C
  S : SMk P w K mg base C CS fI fdI
  bD : Binds K fdI ["self", "room", "seats", "clocks"] ds
  rd : Vals [dv] ds
  we : ∃ b, dv = .ref b ∧ IsSeq K (fun _ => none) b [] ∧ ∀ H : Hp, SqT K H b []
  OE : OwnM P w K mg base C "__eq__" 3 ["self", "other"] (spSEq C) gE fdE
  ne : PySem.W.findIn K (.ref C) "__ne__" = some (some (.builtin "object.__ne__"))
  nf : PySem.W.notFirst K C (.ref C) = true
  nft : PySem.W.notFirst K C (.type "tuple") = true
  nsi : PySem.W.kitAny K (.ref C) [.type "str", .type "int"] = some false
  nst : PySem.W.kitOne K (.type "str") (.ref C) = some false
abbrev NLaw : List Str := ["_law_script", "_law_hand_here", "_law_parts_here", "_law_word_here", "_law_made", "_law_clock", "_law_stand", "_law_turn", "_law_other", "_law_k", "_law_second", "_law_code", "_law_plain"]
theorem scLaw : FnScope NLaw ["_law_script"] (defScope sLaw) := ⟨rfl, rfl, rfl, by decide +kernel, rfl, by decide +kernel, by decide +kernel⟩
theorem StandAt.put {C : Addr} {H : Hp} {m l : Addr} {r : Str} {ss : List (Option Str)} {cs : List (Int × Bool)} {xs : List V} {o : HO} (h : StandAt C H m r ss cs) (hl : H l = some (.lst xs)) : StandAt C (upd H l o) m r ss cs :=
  (h.hide (other_lst hl)).keep fun c u e => by
    obtain ⟨e1, n⟩ := wo_get e
    rw [upd_ne n]
    exact e1
theorem CodeAt.put {H : Hp} {m l : Addr} {r : Str} {ss : List (Option Str)} {cs : List (Int × Bool)} {xs : List V} {o : HO} (h : CodeAt H m r ss cs) (hl : H l = some (.lst xs)) : CodeAt (upd H l o) m r ss cs :=
  (h.hide (other_lst hl)).keep fun c u e => by
    obtain ⟨e1, n⟩ := wo_get e
    rw [upd_ne n]
    exact e1
theorem rows_of {H : Hp} : ∀ {xs : List V} {cs : List (Int × Bool)}, Paired (ClkT H) xs cs → Paired (RowIs H) xs (cR cs)
  | [], [], _ => .nil
  | [], _ :: _, h => by cases h
  | _ :: _, [], h => by cases h
  | _ :: _, _ :: _, h => by
    cases h with
    | cons q t => exact .cons (clkT_row q) (rows_of t)
theorem law_body {P : Program} {w : World} {K : PySem.W.Frag} {mg : Str → Option Value} {base : Heap} {C CS fI gE fa : Addr} {fdI fdE : FuncData} {dv : V} {ds : List Value} (T : Bl mg) (B : Bm mg) (A : All7 P w K mg base C CS fI gE fdI fdE dv ds) : LawBody P w K mg base NLaw "law" sLaw fa 9 := by
  intro cdv s H a ns hr hS hn
  obtain ⟨f1, fd1, Hd⟩ := A.hand; obtain ⟨f2, fd2, D⟩ := A.draw; obtain ⟨f3, fd3, Pa⟩ := A.parts; obtain ⟨f4, fd4, Wo⟩ := A.word; obtain ⟨f5, fd5, Tr⟩ := A.try_; obtain ⟨f6, fd6, IS⟩ := A.isS; obtain ⟨f7, fd7, Pr⟩ := A.prog; obtain ⟨f8, fd8, Re⟩ := A.renames; obtain ⟨f9, fd9, MQ⟩ := A.madeq
  have hr1 : Room 1 _ := hr.mono (by decide)
  have hr2 : Room 2 _ := hr.mono (by decide)
  have hr3 : Room 3 _ := hr.mono (by decide)
  have hr4 : Room 4 _ := hr.mono (by decide)
  have hr5 : Room 5 _ := hr.mono (by decide)
  have hr6 : Room 6 _ := hr.mono (by decide)
  have hr7 : Room 7 _ := hr.mono (by decide)
  have hr8 : Room 8 _ := hr.mono (by decide)
  refine ⟨_, (pss_cons (ps_set (i := 1) scLaw.nd rfl (Or.inl rfl) (pe_call Hd.G hr1 (by rfl) Hd.m Hd.kp Hd.b .nil pass0 (pa_cons (pv 0) pa_nil)))
    (pss_cons (ps_set (i := 2) scLaw.nd rfl (Or.inl rfl) (pe_call Pa.G hr7 (by rfl) Pa.m Pa.kp Pa.b .nil pass0 (pa_cons (pv 1) pa_nil)))
    (C8.pss_cut (ps_par (i := 3) (j := 4) rfl scLaw.nd rfl rfl (by decide) rfl rfl (pa_cons (pe_call Wo.G hr4 (by rfl) Wo.m Wo.kp Wo.b .nil pass0 (pa_cons (pv 2) pa_nil)) (pa_cons (pe_call Tr.G hr6 (by rfl) Tr.m Tr.kp Tr.b .nil pass0 (pa_cons (pv 2) pa_nil)) pa_nil)) (by rfl))
    (C8.pss_cut (ps_if (pt_cmpR op_notN (pv 3) pe_non (nomark _)) (pss_cons (ps_if (pt_cmpR op_ne (pv 4) (pv 3) (nomark _)) (pss_one ps_never) pss_nil)
    (pss_cons (ps_set (i := 2) scLaw.nd rfl (Or.inl rfl) (pe_lst (pa_cons pe_str (pa_cons (pe_lst (pa_cons pe_str (pa_cons pe_non pa_nil))) (pa_cons (pe_lst (pa_cons (pe_lst (pa_cons (pe_call D.G hr2 (by rfl) D.m D.kp D.b .nil pass0 (pa_cons (pv 1) (pa_cons pe_int pa_nil))) (pa_cons pe_bl pa_nil))) pa_nil)) pa_nil)))))
    (pss_one (ps_set (i := 4) scLaw.nd rfl (Or.inl rfl) (pe_call Tr.G hr6 (by rfl) Tr.m Tr.kp Tr.b .nil pass0 (pa_cons (pv 2) pa_nil)))))) pss_nil)
    (C8.pss_cut (ps_if (pt_val (pe_callB call_isiT (by rfl) B.isinstance (by decide +kernel) (pa_cons (pv 4) (pa_cons (pe_tup (pa_cons (pe_bltn (v := .ty "str") (by rfl) B.str (by decide +kernel) rfl) (pa_cons (pe_bltn (v := .ty "int") (by rfl) T.int (by decide +kernel) rfl) pa_nil))) pa_nil)))) (pss_one ps_never) pss_nil)
    (C8.pss_cut (ps_set (i := 6) scLaw.nd rfl (Or.inl rfl) (pe_tup (pa_cons (pe_ix ix_seq (pv 2) pe_int (fun _ _ => rfl)) (pa_cons (pe_callTy (call_tupK (K := K) rfl) (by rfl) B.tuple (by decide +kernel) (pa_cons (pe_ix ix_seq (pv 2) pe_int (fun _ _ => rfl)) pa_nil)) (pa_cons (pe_callTy (call_tupK (K := K) rfl) (by rfl) B.tuple (by decide +kernel) (pa_cons (pe_lc (own := [("_law_clock", 5)]) (g := gName 5) (tt := tYes) (by rfl) scLaw.nd (pi_seq (pe_ix ix_seq (pv 2) pe_int (fun _ _ => rfl))) (blkOk_by (own := [("_law_clock", 5)]) (N := NLaw) (sc := defScope sLaw) (by decide +kernel)) (fun _ _ _ _ _ => pg_name (i := 5) scLaw.nd rfl (Or.inl rfl)) (fun _ _ _ _ _ => pts_nil) (fun _ _ _ _ _ => (pe_callTy (call_tupK (K := K) rfl) (by rfl) B.tuple (by decide +kernel) (pa_cons (pv 5) pa_nil)))) pa_nil)) pa_nil)))))
    (pss_cons (ps_expr (pe_bm PySem.F.plainAttrs_list PySem.F.slot_list_append PySem.F.type_list_append mt_append (pe_ix ix_seq (pv 2) pe_int (fun _ _ => rfl)) (pa_cons pe_str pa_nil)))
    (C8.pss_cut (ps_for PassesOwn.never rfl (pi_seq (pe_ix ix_seq (pv 2) pe_int (fun _ _ => rfl))) (pg_name (i := 5) scLaw.nd rfl (.inl rfl)) (pss_one (ps_asg pe_int (pg_sub (pv 5) pe_int set_list))))
    (pss_cons (ps_expr (pe_bm PySem.F.plainAttrs_list PySem.F.slot_list_append PySem.F.type_list_append mt_append (pe_ix ix_seq (pv 2) pe_int (fun _ _ => rfl)) (pa_cons pe_non pa_nil)))
    (C8.pss_cut (ps_if (pt_not (pt_val (pe_call IS.G hr4 (by rfl) IS.m IS.kp IS.b .nil pass0 (pa_cons (pv 4) (pa_cons (pv 6) pa_nil))))) (pss_one ps_never) pss_nil)
    (C8.pss_cut (ps_for PassesOwn.never rfl (pi_range1 (by rfl) T.range (pa_cons pe_int pa_nil)) (pg_name (i := 7) scLaw.nd rfl (.inl rfl)) (pss_one (ps_if (PW.pt (pw_or (pt_not (pt_val (pe_call Re.G hr8 (by rfl) Re.m Re.kp Re.b .nil pass0 (pa_cons (pv 1) (pa_cons (pv 4) (pa_cons (pv 6) pa_nil)))))) (pw_or1 (pt_not (pt_val (pe_call IS.G hr4 (by rfl) IS.m IS.kp IS.b .nil pass0 (pa_cons (pv 4) (pa_cons (pv 6) pa_nil)))))))) (pss_one ps_never) pss_nil)))
    (C8.pss_cut (ps_if (pt_not (pt_val (pe_call MQ.G hr6 (by rfl) MQ.m MQ.kp MQ.b .nil pass0 (pa_cons (pv 1) pa_nil)))) (pss_one ps_never) pss_nil)
    (C8.pss_cut (ps_set (i := 8) scLaw.nd rfl (Or.inl rfl) (pe_call Pa.G hr7 (by rfl) Pa.m Pa.kp Pa.b .nil pass0 (pa_cons (pv 1) pa_nil)))
    (C8.pss_cut (ps_for PassesOwn.never rfl (pi_range1 (by rfl) T.range (pa_cons pe_int pa_nil)) (pg_name (i := 9) scLaw.nd rfl (.inl rfl)) (pss_one (ps_if (pt_cmpR op_gt (pe_call D.G hr2 (by rfl) D.m D.kp D.b .nil pass0 (pa_cons (pv 1) (pa_cons pe_int pa_nil))) pe_int (nomark _)) (pss_one (ps_asg (pe_ifExp (pt_cmpR op_gt (pv 9) pe_int (nomark _)) (pe_callTy (call_lstK (K := K) rfl) (by rfl) B.list (by decide +kernel) (pa_cons (pe_ix ix_seq (pv 6) (pv 9) (fun _ _ => rfl)) pa_nil)) (pe_ix ix_seq (pv 6) pe_int (fun _ _ => rfl))) (pg_sub (pv 8) (pv 9) set_list))) pss_nil)))
    (C8.pss_cut (ps_set (i := 10) scLaw.nd rfl (Or.inl rfl) (pe_call Tr.G hr6 (by rfl) Tr.m Tr.kp Tr.b .nil pass0 (pa_cons (pv 8) pa_nil)))
    (C8.pss_cut (ps_if (pt_val (pe_callB call_isi (by rfl) B.isinstance (by decide +kernel) (pa_cons (pv 10) (pa_cons (pe_glob (v := .ref C) rfl A.S.mS rfl) pa_nil)))) (C8.pss_cut (ps_set (i := 11) scLaw.nd rfl (Or.inl rfl) (pe_tup (pa_cons (pe_ix ix_seq (pv 8) pe_int (fun _ _ => rfl)) (pa_cons (pe_callTy (call_tupK (K := K) rfl) (by rfl) B.tuple (by decide +kernel) (pa_cons (pe_ix ix_seq (pv 8) pe_int (fun _ _ => rfl)) pa_nil)) (pa_cons (pe_callTy (call_tupK (K := K) rfl) (by rfl) B.tuple (by decide +kernel) (pa_cons (pe_lc (own := [("_law_clock", 5)]) (g := gName 5) (tt := tYes) (by rfl) scLaw.nd (pi_seq (pe_ix ix_seq (pv 8) pe_int (fun _ _ => rfl))) (blkOk_by (own := [("_law_clock", 5)]) (N := NLaw) (sc := defScope sLaw) (by decide +kernel)) (fun _ _ _ _ _ => pg_name (i := 5) scLaw.nd rfl (Or.inl rfl)) (fun _ _ _ _ _ => pts_nil) (fun _ _ _ _ _ => (pe_callTy (call_tupK (K := K) rfl) (by rfl) B.tuple (by decide +kernel) (pa_cons (pv 5) pa_nil)))) pa_nil)) pa_nil)))))
    (pss_one (ps_if (PW.pt (pw_or (pt_cmpR op_ne (pe_cmpR (op_eqOwn A.OE.M.at_ A.OE.M.fn A.OE.raw hr3 pass0) (pv 10) (pv 4) (nomark _)) (pe_cmpR (op_eqD hr.units) (pv 11) (pv 6) (nomark _)) (nomark _)) (pw_or1 (pt_cmpR op_eq (pe_cmpR (op_neOwnT A.SX.cm A.ne A.OE.M.at_ A.OE.M.fn A.OE.raw hr4 pass0) (pv 4) (pv 10) (nomark _)) (pe_cmpR (op_eqD hr.units) (pv 11) (pv 6) (nomark _)) (nomark _))))) (pss_one ps_never) pss_nil))) pss_nil)
    (C8.pss_cut (ps_set (i := 12) scLaw.nd rfl (Or.inl rfl) (pe_make A.S.MK A.S.GI hr5 (by rfl) A.S.mS A.bD A.rd passL (pa_cons (pe_ix ix_seq (pv 6) pe_int (fun _ _ => rfl)) (pa_cons (pe_callTy (call_tupK (K := K) rfl) (by rfl) B.tuple (by decide +kernel) (pa_cons (pe_ix ix_seq (pv 6) pe_int (fun _ _ => rfl)) pa_nil)) pa_nil))))
    (pss_one (ps_ret (pe_and (pe_cmpR (op_eqOwn A.OE.M.at_ A.OE.M.fn A.OE.raw hr3 pass0) (pv 4) (pe_call Pr.G hr6 (by rfl) Pr.m Pr.kp Pr.b .nil pass0 (pa_cons (pv 6) pa_nil)) (nomark _)) (pe_and (pe_cmpR (op_neOwnT A.SX.cm A.ne A.OE.M.at_ A.OE.M.fn A.OE.raw hr4 pass0) (pv 4) (pv 6) (nomark _)) (pe_and (pe_cmpR (op_eqD hr.units) (pe_fld (pv 12) rfl) (pe_tup pa_nil) (nomark _)) (pe_one (pe_cmpR op_eq (pe_cmpR (op_eqOwn A.OE.M.at_ A.OE.M.fn A.OE.raw hr3 pass0) (pv 12) (pv 4) (nomark _)) (pe_cmpR (op_eqD hr.units) (pe_ix ix_seq (pv 6) pe_int (fun _ _ => rfl)) (pe_tup pa_nil) (nomark _)) (nomark _))))))))))))))))))))))))), ?_⟩
  refine ⟨_, rfl, a, ns, rfl, hS, hn, fun p q H1 hp0 hq0 nqp hp1 s1 => ?_⟩
  have nk : ∀ {Ha Hb : Hp}, Keep Ha Hb p → Same (nw H1 Ha) (nw H1 Hb) := fun kk c u e => by
    obtain ⟨e0, e1⟩ := nw_get e
    exact nw_at e0 (kk c u e1 (ne_new e0 hp1.at_))
  have nsub : ∀ {Ha : Hp}, Same (nw H1 Ha) Ha := fun c u e => (nw_get e).2
  have free1 : ∀ {Ha : Hp} {c : Addr}, Keep H1 Ha p → HandAt Ha p q → Ha c = none → H1 c = none := fun {Ha c} kk hh hc => by
    cases e : H1 c with
    | none => rfl
    | some u => exact absurd hc (by rw [kk c u e (hh.ap hc)]; exact fun z => nomatch z)
  refine ⟨_, rfl, p, q, rfl, hp1, fun pa room sv cv so co H2 pt hp2 k2 => ?_⟩
  -- what is due, what was made
  refine ⟨fun σ H3 => HandAt H3 p q ∧ Keep H1 H3 p ∧ ((∃ w' : Str, σ = [some (.ref a), some (.ref p), some (.ref pa), some (.str w'), some (.str w'), none, none, none, none, none, none, none, none]) ∨ ∃ mm r ss cs b1 b2, σ = [some (.ref a), some (.ref p), some (.ref pa), some .non, some (.ref mm), none, none, none, none, none, none, none, none] ∧ GoodP (nw H1 H3) pa b1 b2 r ss cs ∧ StandAt C H3 mm r ss cs), ?_, ?_⟩
  · obtain ⟨nr, tr⟩ := pt.room
    refine ⟨_, rfl, pa, room, sv, cv, so, co, rfl, pt.keep nsub, fun H3 s3 => ?_⟩
    have k3 := k2.trans (Same.keep (p := p) s3)
    refine ⟨_, rfl, pa, room, sv, cv, nr, so, co, rfl, s3 _ _ (nsub _ _ pt.at_), tr.keep (nsub.trans s3), (pt.seats.keep (nsub.trans s3)).is, (pt.clocks.keep (nsub.trans s3)).is, ?_⟩
    cases e : standDue room so co with
    | some w' => exact fun H4 s4 => ⟨_, _, rfl, hp2.same (s3.trans s4), k3.trans (Same.keep s4), .inl ⟨w', rfl⟩⟩
    | none =>
      intro mm r ss cs H4 e1 e2 e3 s4 st
      obtain ⟨b1, b2, gp⟩ := pt.good e1 e2 e3
      exact ⟨_, _, rfl, hp2.same (s3.trans s4), k3.trans (Same.keep s4), .inr ⟨mm, r, ss, cs, b1, b2, rfl, gp.keep (nk (Same.keep (s3.trans s4))), st⟩⟩
  clear pt hp2 k2
  rintro σ H3 ⟨h3, k3, hh⟩
  refine ⟨fun σ H4 => ∃ pa v3 mm r ss cs b1 b2, σ = [some (.ref a), some (.ref p), some (.ref pa), v3, some (.ref mm), none, none, none, none, none, none, none, none] ∧ HandAt H4 p q ∧ Keep H1 H4 p ∧ GoodP (nw H1 H4) pa b1 b2 r ss cs ∧ StandAt C H4 mm r ss cs, ?_, ?_⟩
  · rcases hh with ⟨w', rfl⟩ | ⟨mm, r, ss, cs, b1, b2, rfl, gp, st⟩
    · refine ⟨_, rfl, rfl, _, rfl, iteT ⟨_, rfl, _, rfl, rfl, _, rfl, ?_⟩⟩
      rw [decide_eq_true rfl]
      refine iteF ⟨(by show 2 ≤ sizeLine; decide), fun l1 e1 => ⟨_, rfl, p, q, 41, rfl, ?_, by decide, by decide, fun z H5 z0 z1 h5 k5 => ⟨(by show 2 ≤ sizeLine; decide), fun c e2 => ⟨(by show 1 ≤ sizeLine; decide), fun l2 e3 => ⟨(by show 3 ≤ sizeLine; decide), fun pa' e4 => ?_⟩⟩⟩⟩⟩
      · exact h3.upd (h3.ap e1) (h3.aq e1)
      have f1 := free1 k3 h3 e1
      have k3' : Keep H1 (upd H3 l1 (.lst [V.str "ann", V.non])) p := keepUpd k3 f1
      have k5' := k3'.trans k5
      have l5 := k5 l1 _ upd_same (h3.ap e1)
      have s5 := sameUpd (o := .lst [V.int z, V.bl true]) (Same.refl H5) e2
      have s6 := sameUpd (o := .lst [V.ref c]) s5 e3
      have s7 := sameUpd (o := .lst [V.str "calm", V.ref l1, V.ref l2]) s6 e4
      have k7 := k5'.trans (Same.keep (p := p) s7)
      have h7 := h5.same s7
      have ga : ∀ y : Str, some y ∈ [some (Str.ofString "ann"), none] → isLab y = true := fun y m => by
        cases m with
        | head => decide +kernel
        | tail _ m =>
          cases m with
          | tail _ m => cases m
      have gc : ∀ d ∈ [(z, true)], 0 ≤ d.1 ∧ d.1 ≤ 40 := fun d m => by
        rw [List.mem_singleton.mp m]
        exact ⟨z0, by show z ≤ 40; omega⟩
      have gs : GoodS "calm" [some "ann", none] [(z, true)] := ⟨by decide +kernel, by decide, by decide, ga, (by show 1 ≤ 2; decide), gc⟩
      have gp : GoodP (nw H1 (upd (upd (upd H5 c (.lst [V.int z, V.bl true])) l2 (.lst [V.ref c])) pa' (.lst [V.str "calm", V.ref l1, V.ref l2]))) pa' l1 l2 "calm" [some "ann", none] [(z, true)] := by
        refine ⟨nw_at (free1 (k5'.trans (Same.keep (p := p) s6)) (h5.same s6) e4) upd_same, nw_at f1 (s7 _ _ l5), [V.ref c], nw_at (free1 (k5'.trans (Same.keep (p := p) s5)) (h5.same s5) e3) ?_, .cons ⟨c, rfl, nw_at (free1 k5' h5 e2) ?_⟩ .nil⟩
        · exact sameUpd (Same.refl _) e4 _ _ upd_same
        · exact sameUpd (sameUpd (Same.refl _) e3) e4 _ _ upd_same
      have gp7 := gp.keep nsub
      refine ⟨_, rfl, pa', .str "calm", .ref l1, .ref l2, "str", some ([some (Str.ofString "ann"), none].map oV), some (cR [(z, true)]), rfl, gp7.at_, ⟨.str _, fun y e => by cases e; exact lab_len gs.1⟩, gp7.seats gs, gp7.clocks gs, ?_⟩
      rw [due_good gs]
      intro mm r ss cs H8 q1 q2 q3 s8 st
      have q1 := V.str.inj q1
      subst q1
      have q2 := oV_inj (Option.some.inj q2)
      subst q2
      have q3 := cR_inj (Option.some.inj q3)
      subst q3
      exact ⟨pa', _, mm, _, _, _, l1, l2, rfl, h7.same s8, k7.trans (Same.keep s8), gp.keep (nk (Same.keep s8)), st⟩
    · exact ⟨_, rfl, rfl, _, rfl, iteF ⟨pa, _, mm, r, ss, cs, b1, b2, rfl, h3, k3, gp, st⟩⟩
  clear hh h3 k3
  rintro σ H4 ⟨pa, v3, mm, r, ss, cs, b1, b2, rfl, h4, k4, gp4, st4⟩
  have gs := st4.good
  -- no text, no number
  refine ⟨fun σ H5 => σ = [some (.ref a), some (.ref p), some (.ref pa), v3, some (.ref mm), none, none, none, none, none, none, none, none] ∧ Same H4 H5, ?_, ?_⟩
  · refine ⟨_, rfl, (by show 2 ≤ sizeLine; decide), fun t ht => ?_⟩
    have s5 := sameUpd (o := .tup [.ty "str", .ty "int"]) (Same.refl H4) ht
    exact ⟨.ref mm, t, _, _, _, _, rfl, upd_same, .cons (.ty _) (.cons (.ty _) .nil), (st4.keep s5).ty A.SX, A.nsi, _, rfl, iteF ⟨rfl, s5⟩⟩
  rintro σ H5 ⟨rfl, s45⟩
  have h5 := h4.same s45
  have k5 := k4.trans (Same.keep (p := p) s45)
  have gp5 := gp4.keep (nk (Same.keep s45))
  have st5 := st4.keep s45
  clear h4 k4 gp4 st4 s45
  -- the stand written down
  refine ⟨fun σ H6 => ∃ st, σ = [some (.ref a), some (.ref p), some (.ref pa), v3, some (.ref mm), none, some (.ref st), none, none, none, none, none, none] ∧ Same H5 H6 ∧ CodeAt H6 st r ss cs, ?_, ?_⟩
  · have gq := gp5.keep nsub
    exact code_read (i := 2) rfl rfl gq.at_ (gq.seats gs) (gq.clocks gs) fun st H' s cd => ⟨st, rfl, s, cd⟩
  rintro σ H6 ⟨sd, rfl, s56, cd6⟩
  have h6 := h5.same s56
  have k6 := k5.trans (Same.keep (p := p) s56)
  have gp6 := gp5.keep (nk (Same.keep s56))
  have st6 := st5.keep s56
  clear h5 k5 gp5 st5 s56
  obtain ⟨xs, nb2, px⟩ := gp6.c
  obtain ⟨pa0, pa6⟩ := nw_get gp6.at_
  obtain ⟨b10, b16⟩ := nw_get gp6.s
  obtain ⟨b20, b26⟩ := nw_get nb2
  have ne1 : pa ≠ b1 := fun e => by
    rw [e, b16] at pa6
    have q := congrArg (fun o => match o with | some (HO.lst l) => l[1]? | _ => none) pa6
    have q : (ss.map oV)[1]? = some (V.ref b1) := q
    rw [List.getElem?_map] at q
    cases e2 : ss[1]? with
    | none => rw [e2] at q; cases q
    | some o => rw [e2] at q; cases o <;> cases q
  have ne2 : b2 ≠ b1 := fun e => by
    rw [e, b16] at b26
    have q : ss.map oV = xs := by cases b26; rfl
    obtain ⟨o, rest, es⟩ : ∃ o rest, ss = o :: rest := by
      cases ss with
      | nil => exact absurd gs.2.1 (by decide)
      | cons o rest => exact ⟨o, rest, rfl⟩
    rw [es] at q
    subst q
    cases px with
    | cons hq _ =>
      obtain ⟨t, et, _⟩ := hq
      cases o <;> cases et
  -- the parts are changed
  refine ⟨_, rfl, .inl ⟨_, _, _, _, rfl, rfl, SqL.of pa6, atI1 _ _ _, .inl ⟨rfl, _, SqL.of b16⟩, b1, _, _, rfl, rfl, b16, line2 (by rw [List.length_map]; have := gs.2.2.1; omega), ?_⟩⟩
  have bp1 : b1 ≠ p := ne_new b10 hp1.at_
  have bq1 : b1 ≠ q := ne_new b10 hp1.atq
  have h7 := h6.upd (o := .lst (ss.map oV ++ [V.str "zoe"])) bp1 bq1
  have k7 : Keep H1 (upd H6 b1 (.lst (ss.map oV ++ [V.str "zoe"]))) p := keepUpd k6 b10
  have st7 := st6.put (o := .lst (ss.map oV ++ [V.str "zoe"])) b16
  have cd7 := cd6.put (o := .lst (ss.map oV ++ [V.str "zoe"])) b16
  have pa7 : upd H6 b1 (.lst (ss.map oV ++ [V.str "zoe"])) pa = some (.lst [.str r, .ref b1, .ref b2]) := by rw [upd_ne ne1]; exact pa6
  have b27 : upd H6 b1 (.lst (ss.map oV ++ [V.str "zoe"])) b2 = some (.lst xs) := by rw [upd_ne ne2]; exact b26
  have cl7 : ∀ x ∈ xs, ∃ t v b, x = V.ref t ∧ upd H6 b1 (.lst (ss.map oV ++ [V.str "zoe"])) t = some (.lst [v, .bl b]) ∧ H1 t = none := fun x mx => by
    obtain ⟨i, hi⟩ := List.mem_iff_getElem?.mp mx
    obtain ⟨c, _, t, rfl, ht⟩ := pr_get px hi
    obtain ⟨t0, t6⟩ := nw_get ht
    have tne : t ≠ b1 := fun e => by
      rw [e, b16] at t6
      have q : ss.map oV = [V.int c.1, V.bl c.2] := by
        injection t6 with t6
        injection t6
      match ss, q with
      | [], q => cases q
      | o :: rest, q =>
        have q0 := (List.cons.inj q).1
        cases o <;> cases q0
    exact ⟨t, V.int c.1, c.2, rfl, by rw [upd_ne tne]; exact t6, t0⟩
  generalize upd H6 b1 (.lst (ss.map oV ++ [V.str "zoe"])) = H7 at h7 k7 st7 cd7 pa7 b27 cl7 ⊢
  clear h6 k6 st6 cd6 gp6
  -- each clock
  refine ⟨fun σ H8 => ∃ v5, σ = [some (.ref a), some (.ref p), some (.ref pa), v3, some (.ref mm), v5, some (.ref sd), none, none, none, none, none, none] ∧ HandAt H8 p q ∧ Keep H1 H8 p ∧ StandAt C H8 mm r ss cs ∧ CodeAt H8 sd r ss cs ∧ H8 pa = some (.lst [.str r, .ref b1, .ref b2]) ∧ H8 b2 = some (.lst xs), ?_, ?_⟩
  · refine ⟨_, rfl, .inl ⟨_, _, _, _, rfl, rfl, SqL.of pa7, atI2 _ _ _ _, b2, rfl, for_sq (K := K) (a := b2) (xs := xs) (H0 := fun c => if c = b2 then some (.lst xs) else none) (IsSeq.lst (if_pos rfl)) (fun i σ H8 => ∃ v5, σ = [some (.ref a), some (.ref p), some (.ref pa), v3, some (.ref mm), v5, some (.ref sd), none, none, none, none, none, none] ∧ HandAt H8 p q ∧ Keep H1 H8 p ∧ StandAt C H8 mm r ss cs ∧ CodeAt H8 sd r ss cs ∧ H8 pa = some (.lst [.str r, .ref b1, .ref b2]) ∧ H8 b2 = some (.lst xs) ∧ ∀ x ∈ xs, ∃ t v b, x = V.ref t ∧ H8 t = some (.lst [v, .bl b]) ∧ H1 t = none)
      ⟨none, rfl, h7, k7, st7, cd7, pa7, b27, cl7⟩ (fun i σ H8 ⟨_, _, _, _, _, _, _, e, _⟩ => fun c u ec => ?_) ?_ ?_⟩⟩
    · by_cases z : c = b2
      · have ec : (if c = b2 then some (HO.lst xs) else none) = some u := ec
        rw [if_pos z] at ec
        rw [z, e]
        exact ec
      · have ec : (if c = b2 then some (HO.lst xs) else none) = some u := ec
        rw [if_neg z] at ec
        cases ec
    · rintro i x σ H8 hi ⟨v5, rfl, h8, k8, st8, cd8, pa8, b28, cl8⟩
      obtain ⟨t, v, bb, rfl, ht, t0⟩ := cl8 x (List.mem_of_getElem? hi)
      have tp : t ≠ p := ne_new t0 hp1.at_
      have tq : t ≠ q := ne_new t0 hp1.atq
      have tpa : t ≠ pa := fun e => by rw [e, pa8] at ht; cases ht
      have tb2 : t ≠ b2 := fun e => by
        rw [e, b28] at ht
        have q : xs = [v, V.bl bb] := by cases ht; rfl
        obtain ⟨_, _, _, et, _⟩ := cl8 (V.bl bb) (by rw [q]; simp)
        cases et
      refine ⟨_, rfl, t, _, 0, 0, rfl, rfl, ht, (by show ixN 2 0 = some 0; decide), _, rfl, h8.upd tp tq, keepUpd k8 t0, st8.put ht, cd8.put ht, by rw [upd_ne tpa.symm]; exact pa8, by rw [upd_ne tb2.symm]; exact b28, fun y my => ?_⟩
      obtain ⟨u, v', b', rfl, hu, u0⟩ := cl8 y my
      by_cases e : u = t
      · exact ⟨u, _, _, rfl, by rw [e, upd_same]; rfl, u0⟩
      · exact ⟨u, _, _, rfl, by rw [upd_ne e]; exact hu, u0⟩
    · rintro σ H8 ⟨v5, rfl, h8, k8, st8, cd8, pa8, b28, _⟩
      exact ⟨v5, rfl, h8, k8, st8, cd8, pa8, b28⟩
  clear h7 k7 st7 cd7 pa7 b27 cl7
  rintro σ H8 ⟨v5, rfl, h8, k8, st8, cd8, pa8, b28⟩
  refine ⟨_, rfl, .inl ⟨_, _, _, _, rfl, rfl, SqL.of pa8, atI2 _ _ _ _, .inl ⟨rfl, _, SqL.of b28⟩, b2, _, _, rfl, rfl, b28, line2 (by rw [Paired.length px]; have := gs.2.2.2.2.1; omega), ?_⟩⟩
  have h9 := h8.upd (o := .lst (xs ++ [V.non])) (ne_new b20 hp1.at_) (ne_new b20 hp1.atq)
  have k9 : Keep H1 (upd H8 b2 (.lst (xs ++ [V.non]))) p := keepUpd k8 b20
  have st9 := st8.put (o := .lst (xs ++ [V.non])) b28
  have cd9 := cd8.put (o := .lst (xs ++ [V.non])) b28
  generalize upd H8 b2 (.lst (xs ++ [V.non])) = H9 at h9 k9 st9 cd9 ⊢
  clear h8 k8 st8 cd8 pa8 b28
  -- the stand is as it was
  refine ⟨fun σ H10 => σ = [some (.ref a), some (.ref p), some (.ref pa), v3, some (.ref mm), v5, some (.ref sd), none, none, none, none, none, none] ∧ Same H9 H10, ?_, ?_⟩
  · exact ⟨_, rfl, _, rfl, mm, sd, r, ss, cs, rfl, st9, cd9, fun H10 s10 => ⟨_, rfl, iteF ⟨rfl, s10⟩⟩⟩
  rintro σ H10 ⟨rfl, s910⟩
  have h10 := h9.same s910
  have k10 := k9.trans (Same.keep (p := p) s910)
  have st10 := st9.keep s910
  have cd10 := cd9.keep s910
  clear h9 k9 st9 cd9 s910
  -- renamed three times
  refine ⟨fun σ H11 => ∃ v7, σ = [some (.ref a), some (.ref p), some (.ref pa), v3, some (.ref mm), v5, some (.ref sd), v7, none, none, none, none, none] ∧ HandAt H11 p q ∧ Keep H1 H11 p ∧ StandAt C H11 mm r ss cs ∧ CodeAt H11 sd r ss cs, ?_, ?_⟩
  · refine ⟨3, rfl, by decide, by decide, for_range (n := (3 : Int).toNat) (fun i σ H11 => ∃ v7, σ = [some (.ref a), some (.ref p), some (.ref pa), v3, some (.ref mm), v5, some (.ref sd), v7, none, none, none, none, none] ∧ HandAt H11 p q ∧ Keep H1 H11 p ∧ StandAt C H11 mm r ss cs ∧ CodeAt H11 sd r ss cs) ⟨none, rfl, h10, k10, st10, cd10⟩ ?_ ?_⟩
    · rintro i σ H11 hi ⟨v7, rfl, h11, k11, st11, cd11⟩
      refine ⟨_, rfl, _, rfl, _, rfl, p, q, mm, sd, r, ss, cs, rfl, h11, st11, cd11, fun H12 h12 k12 => ⟨_, rfl, iteF ?_⟩⟩
      have st12 := st11.draw h11 k12
      have cd12 := cd11.draw h11 k12
      exact ⟨_, rfl, _, rfl, mm, sd, r, ss, cs, rfl, st12, cd12, fun H13 s13 => ⟨_, rfl, iteF ⟨_, rfl, h12.same s13, (k11.trans k12).trans (Same.keep s13), st12.keep s13, cd12.keep s13⟩⟩⟩
    · rintro σ H11 ⟨v7, rfl, h11, k11, st11, cd11⟩
      exact ⟨v7, rfl, h11, k11, st11, cd11⟩
  clear h10 k10 st10 cd10
  rintro σ H11 ⟨v7, rfl, h11, k11, st11, cd11⟩
  -- the questions
  refine ⟨fun σ H12 => σ = [some (.ref a), some (.ref p), some (.ref pa), v3, some (.ref mm), v5, some (.ref sd), v7, none, none, none, none, none] ∧ HandAt H12 p q ∧ Keep H11 H12 p, ?_, ?_⟩
  · exact ⟨_, rfl, p, q, rfl, h11, fun H12 h12 k12 => ⟨_, rfl, iteF ⟨rfl, h12, k12⟩⟩⟩
  rintro σ H12 ⟨rfl, h12, k1112⟩
  have st12 := st11.draw h11 k1112
  have cd12 := cd11.draw h11 k1112
  have k12 := k11.trans k1112
  clear h11 k11 st11 cd11 k1112
  -- other parts
  refine ⟨fun σ H13 => ∃ oa room sv cv n so co, σ = [some (.ref a), some (.ref p), some (.ref pa), v3, some (.ref mm), v5, some (.ref sd), v7, some (.ref oa), none, none, none, none] ∧ HandAt H13 p q ∧ oa ≠ p ∧ oa ≠ q ∧ StandAt C H13 mm r ss cs ∧ CodeAt H13 sd r ss cs ∧ H13 oa = some (.lst [room, sv, cv]) ∧ Thing (hid oa p H13) room n ∧ SeatsIs K (hid oa p H13) sv so ∧ ClksIs K (hid oa p H13) cv co, ?_, ?_⟩
  · refine ⟨_, rfl, p, q, rfl, h12, fun oa room sv cv so co H13 pt h13 k13 => ?_⟩
    obtain ⟨o0, o1⟩ := nw_get pt.at_
    obtain ⟨_, hpo⟩ := h12.at_
    have sw : Same (wo oa (nw H12 H13)) (hid oa p H13) := wo_mono (nw_wo hpo)
    obtain ⟨n, tr⟩ := pt.room0
    exact ⟨oa, room, sv, cv, n, so, co, rfl, h13, ne_new o0 h12.at_, ne_new o0 h12.atq, st12.draw h12 k13, cd12.draw h12 k13, o1, tr.keep sw, (pt.seats0.keep sw).is, (pt.clocks0.keep sw).is⟩
  clear h12 st12 cd12 k12
  rintro σ H13 ⟨oa, room, sv, cv, n, so, co, rfl, h13, op, oq, st13, cd13, o13, tr13, ss13, cs13⟩
  -- some of them the first one's
  refine ⟨fun σ H14 => ∃ room sv cv n so co v9, σ = [some (.ref a), some (.ref p), some (.ref pa), v3, some (.ref mm), v5, some (.ref sd), v7, some (.ref oa), v9, none, none, none] ∧ HandAt H14 p q ∧ StandAt C H14 mm r ss cs ∧ CodeAt H14 sd r ss cs ∧ H14 oa = some (.lst [room, sv, cv]) ∧ Thing (hid oa p H14) room n ∧ SeatsIs K (hid oa p H14) sv so ∧ ClksIs K (hid oa p H14) cv co, ?_, ?_⟩
  · refine ⟨3, rfl, by decide, by decide, for_range (n := (3 : Int).toNat) (fun i σ H14 => ∃ room sv cv n so co v9, σ = [some (.ref a), some (.ref p), some (.ref pa), v3, some (.ref mm), v5, some (.ref sd), v7, some (.ref oa), v9, none, none, none] ∧ HandAt H14 p q ∧ StandAt C H14 mm r ss cs ∧ CodeAt H14 sd r ss cs ∧ H14 oa = some (.lst [room, sv, cv]) ∧ Thing (hid oa p H14) room n ∧ SeatsIs K (hid oa p H14) sv so ∧ ClksIs K (hid oa p H14) cv co) ⟨room, sv, cv, n, so, co, none, rfl, h13, st13, cd13, o13, tr13, ss13, cs13⟩ ?_ ?_⟩
    · clear st13 cd13 o13 tr13 ss13 cs13 h13
      rintro i σ H14 hi ⟨room, sv, cv, n, so, co, v9, rfl, h14, st14, cd14, o14, tr14, ss14, cs14⟩
      refine ⟨_, rfl, p, q, 3, rfl, h14, by decide, by decide, fun z H15 _ _ h15 k15 => ?_⟩
      have st15 := st14.draw h14 k15
      have cd15 := cd14.draw h14 k15
      have o15 := k15 _ _ o14 op
      have w15 := hid_keep (b := oa) k15
      have tr15 := tr14.keep w15
      have ss15 := ss14.keep w15
      have cs15 := cs14.keep w15
      clear st14 cd14 o14 tr14 ss14 cs14
      refine ⟨_, _, rfl, rfl, _, rfl, ?_⟩
      refine ite2 (fun _ => ?_) (fun _ => ⟨room, sv, cv, n, so, co, _, rfl, h15, st15, cd15, o15, tr15, ss15, cs15⟩)
      obtain ⟨sa, ca, ys, c1, c2, c3, c4⟩ := cd15.ob
      have i3 : i < 3 := hi
      rcases (by omega : i = 0 ∨ i = 1 ∨ i = 2) with e | e | e <;> subst e
      · rw [show (0 + ((0 : Nat) : Int)) = 0 from rfl]
        refine ⟨_, rfl, _, _, rfl, rfl, _, rfl, (if_neg (by decide)).mpr ⟨_, rfl, .inr (.inl ⟨_, _, _, _, rfl, rfl, SqT.of c1, atI0 _ _, ?_⟩)⟩⟩
        refine ⟨_, rfl, _, rfl, oa, _, 0, 0, rfl, rfl, o15, (by show ixN 3 0 = some 0; decide), .str r, sv, cv, "str", so, co, _, rfl, h15.upd op oq, st15.put o15, cd15.put o15, upd_same, ⟨.str _, fun y e => by cases e; exact lab_len gs.1⟩, ss15.keep hid_b, cs15.keep hid_b⟩
      · rw [show (0 + ((1 : Nat) : Int)) = 1 from rfl]
        refine ⟨_, rfl, _, _, rfl, rfl, _, rfl, (if_pos (by decide)).mpr ⟨_, rfl, _, rfl, .inr (.inl ⟨_, _, _, _, rfl, rfl, SqT.of c1, atI1 _ _ _, sa, _, rfl, .inr (SqT.of c2), fun l hl => ?_⟩)⟩⟩
        have sl := sameUpd (o := .lst (ss.map oV)) (Same.refl H15) hl
        have lo : l ≠ oa := (ne_of_none o15 hl).symm
        have o16 := sl _ _ o15
        have wl := hid_keep (b := oa) (Same.keep (p := p) sl)
        refine ⟨_, rfl, _, rfl, oa, _, 1, 1, rfl, rfl, o16, (by show ixN 3 1 = some 1; decide), room, .ref l, cv, n, some (ss.map oV), co, _, rfl, (h15.same sl).upd op oq, (st15.keep sl).put o16, (cd15.keep sl).put o16, upd_same, (tr15.keep wl).keep hid_b, (SeatsIs.seq (.inl (hid_at upd_same lo (h15.ap hl))) (oV_thing gs.fine _) (by rw [List.length_map]; have := gs.2.2.1; omega)).keep hid_b, (cs15.keep wl).keep hid_b⟩
      · rw [show (0 + ((2 : Nat) : Int)) = 2 from rfl]
        refine ⟨_, rfl, _, _, rfl, rfl, _, rfl, (if_pos (by decide)).mpr ⟨_, rfl, _, rfl, .inr (.inl ⟨_, _, _, _, rfl, rfl, SqT.of c1, atI2 _ _ _ _, ca, _, rfl, .inr (SqT.of c3), fun l hl => ?_⟩)⟩⟩
        have sl := sameUpd (o := .lst ys) (Same.refl H15) hl
        have lo : l ≠ oa := (ne_of_none o15 hl).symm
        have o16 := sl _ _ o15
        have wl := hid_keep (b := oa) (Same.keep (p := p) sl)
        have cq : ClksIs K (hid oa p (upd H15 l (.lst ys))) (.ref l) (some (cR cs)) := by
          refine .seq (.lst (hid_at upd_same lo (h15.ap hl))) ?_ (by rw [Paired.length c4]; have := gs.2.2.2.2.1; omega)
          have c4' : Paired (ClkT (hid oa p (upd H15 l (.lst ys)))) ys cs := pr_imp c4 fun x c ⟨t, e, ht⟩ => ⟨t, e, hid_at (sl _ _ ht) (fun z => by rw [z, o15] at ht; cases ht) (fun z => by
            obtain ⟨_, _, _, _, hq, _⟩ := h15
            rw [z, hq] at ht
            cases ht)⟩
          exact rows_of c4'
        refine ⟨_, rfl, _, rfl, oa, _, 2, 2, rfl, rfl, o16, (by show ixN 3 2 = some 2; decide), room, sv, .ref l, n, so, some (cR cs), _, rfl, (h15.same sl).upd op oq, (st15.keep sl).put o16, (cd15.keep sl).put o16, upd_same, (tr15.keep wl).keep hid_b, (ss15.keep wl).keep hid_b, cq.keep hid_b⟩
    · rintro σ H14 ⟨room, sv, cv, n, so, co, v9, rfl, h14, st14, cd14, o14, tr14, ss14, cs14⟩
      exact ⟨room, sv, cv, n, so, co, v9, rfl, h14, st14, cd14, o14, tr14, ss14, cs14⟩
  clear h13 st13 cd13 o13 tr13 ss13 cs13
  rintro σ H14 ⟨room, sv, cv, n, so, co, v9, rfl, h14, st14, cd14, o14, tr14, ss14, cs14⟩
  have hs14 : Same (hid oa p H14) H14 := hid_wo.trans wo_same
  -- made of them
  refine ⟨fun σ H15 => Same H14 H15 ∧ ((∃ w' : Str, σ = [some (.ref a), some (.ref p), some (.ref pa), v3, some (.ref mm), v5, some (.ref sd), v7, some (.ref oa), v9, some (.str w'), none, none]) ∨ ∃ m2 r' ss' cs', σ = [some (.ref a), some (.ref p), some (.ref pa), v3, some (.ref mm), v5, some (.ref sd), v7, some (.ref oa), v9, some (.ref m2), none, none] ∧ room = .str r' ∧ so = some (ss'.map oV) ∧ co = some (cR cs') ∧ StandAt C H15 m2 r' ss' cs'), ?_, ?_⟩
  · refine ⟨_, rfl, oa, room, sv, cv, n, so, co, rfl, o14, tr14.keep hs14, ss14.keep hs14, cs14.keep hs14, ?_⟩
    cases e : standDue room so co with
    | some w' => exact fun H15 s15 => ⟨s15, .inl ⟨w', rfl⟩⟩
    | none => exact fun m2 r' ss' cs' H15 e1 e2 e3 s15 st => ⟨s15, .inr ⟨m2, r', ss', cs', rfl, e1, e2, e3, st⟩⟩
  rintro σ H15 ⟨s15, hh⟩
  refine ⟨fun σ H16 => ∃ v5 v10 v11, σ = [some (.ref a), some (.ref p), some (.ref pa), v3, some (.ref mm), v5, some (.ref sd), v7, some (.ref oa), v9, v10, v11, none] ∧ Same H14 H16, ?_, ?_⟩
  · rcases hh with ⟨w', rfl⟩ | ⟨m2, r', ss', cs', rfl, rfl, rfl, rfl, st2⟩
    · exact ⟨_, rfl, _, _, _, _, _, rfl, .own C, .base (.str _), A.nst, _, rfl, iteF ⟨_, _, _, rfl, s15⟩⟩
    · refine ⟨_, rfl, _, _, _, _, _, rfl, .own C, st2.ty A.SX, kit_self, _, rfl, iteT ?_⟩
      have g2 := st2.good
      have hs15 : Same (hid oa p H14) H15 := hs14.trans s15
      refine ⟨fun σ H16 => ∃ c2, σ = [some (.ref a), some (.ref p), some (.ref pa), v3, some (.ref mm), v5, some (.ref sd), v7, some (.ref oa), v9, some (.ref m2), some (.ref c2), none] ∧ Same H15 H16 ∧ CodeAt H16 c2 r' ss' cs', ?_, ?_⟩
      · exact code_read (i := 8) rfl rfl (s15 _ _ o14) (ss14.keep hs15) (cs14.keep hs15) fun st H' s cd => ⟨st, rfl, s, cd⟩
      rintro σ H16 ⟨c2, rfl, s16, cd2⟩
      have s1416 := s15.trans s16
      have st16 := st14.keep s1416
      have cd16 := cd14.keep s1416
      have st216 := st2.keep s16
      obtain ⟨dx1, _, _, _, e1, _⟩ := st216.ob
      obtain ⟨dx2, _, _, _, e2, _⟩ := st16.ob
      have sym : decide (r = r' ∧ ss = ss' ∧ cs = cs') = decide (r' = r ∧ ss' = ss ∧ cs' = cs) := by
        by_cases q : r = r' ∧ ss = ss' ∧ cs = cs'
        · obtain ⟨q1, q2, q3⟩ := q
          subst q1 q2 q3
          rfl
        · rw [decide_eq_false q, decide_eq_false fun z => q ⟨z.1.symm, z.2.1.symm, z.2.2.symm⟩]
      refine ⟨_, rfl, _, rfl, m2, dx1, _, rfl, e1, .inl ⟨mm, dx2, _, C, rfl, e2, A.nf⟩, m2, .ref mm, r', ss', cs', rfl, st216, .inl ⟨mm, r, ss, cs, rfl, st16, fun H17 s17 => ⟨_, rfl, ?_⟩⟩⟩
      refine ⟨_, rfl, _, rfl, codeD r' ss' cs', codeD r ss cs, (cd2.keep s17).dp, (cd16.keep s17).dp, shaped_code g2, shaped_code gs, ?_⟩
      rw [eqv_code]
      refine ⟨rfl, _, rfl, ?_⟩
      rw [decide_eq_true rfl]
      refine iteF ⟨_, rfl, _, rfl, mm, dx2, _, rfl, s17 _ _ e2, .inl ⟨m2, dx1, _, rfl, s17 _ _ e1⟩, mm, .ref m2, r, ss, cs, rfl, st16.keep s17, .inl ⟨m2, r', ss', cs', rfl, st216.keep s17, fun H18 s18 => ⟨_, rfl, ?_⟩⟩⟩
      have s1618 := s17.trans s18
      refine ⟨_, rfl, _, rfl, codeD r' ss' cs', codeD r ss cs, (cd2.keep s1618).dp, (cd16.keep s1618).dp, shaped_code g2, shaped_code gs, ?_⟩
      rw [eqv_code, sym]
      refine ⟨rfl, _, rfl, ?_⟩
      have nb : decide (V.bl (!decide (r' = r ∧ ss' = ss ∧ cs' = cs)) = V.bl (decide (r' = r ∧ ss' = ss ∧ cs' = cs))) = false := by
        cases decide (r' = r ∧ ss' = ss ∧ cs' = cs) <;> rfl
      rw [nb]
      exact iteF ⟨_, _, _, rfl, s1416.trans s1618⟩
  clear hh
  rintro σ H16 ⟨v5', v10, v11, rfl, s1416⟩
  have st16 := st14.keep s1416
  have cd16 := cd14.keep s1416
  clear st14 cd14 o14 tr14 ss14 cs14 hs14 h14 s15
  obtain ⟨wb, rfl, wq, wt⟩ := A.we
  have g0 : GoodS r ss [] := ⟨gs.1, gs.2.1, gs.2.2.1, gs.2.2.2.1, Nat.zero_le _, fun _ m => nomatch m⟩
  refine ⟨fun σ H17 => ∃ pl, σ = [some (.ref a), some (.ref p), some (.ref pa), v3, some (.ref mm), v5', some (.ref sd), v7, some (.ref oa), v9, v10, v11, some (.ref pl)] ∧ Same H16 H17 ∧ StandAt C H17 pl r ss [], ?_, ?_⟩
  · obtain ⟨sa, ca, ys, c1, c2, c3, c4⟩ := cd16.ob
    refine ⟨_, rfl, .inr (.inl ⟨_, _, _, _, rfl, rfl, SqT.of c1, atI0 _ _, _, rfl, .inr (.inl ⟨_, _, _, _, rfl, rfl, SqT.of c1, atI1 _ _ _, sa, _, rfl, .inr ⟨SqT.of c2, fun pl dx hpl hdx ne => ?_⟩⟩)⟩)⟩
    have s17 : Same H16 (upd (upd H16 dx (.own pl)) pl (.ins C dx [])) := (sameUpd (Same.refl _) hdx).trans (sameUpd (Same.refl _) (by rw [upd_ne ne.symm]; exact hpl))
    refine mk_stand upd_same g0 (.seq (.inr (s17 _ _ c2)) (oV_thing gs.fine _) (by rw [List.length_map]; have := gs.2.2.1; omega)) (.seq (wq.keep fun b o e => by cases e) .nil (by decide)) fun H18 k18 st => ⟨rfl, pl, rfl, fun b o e => k18 b o (s17 b o e) (ne_of_none e hpl), st⟩
  rintro σ H17 ⟨pl, rfl, s17, pl17⟩
  have st17 := st16.keep s17
  have cd17 := cd16.keep s17
  refine ⟨_, rfl, _, rfl, sd, r, ss, cs, rfl, cd17, gs, fun pq H18 s18 stp => ?_⟩
  have st18 := st17.keep s18
  have cd18 := cd17.keep s18
  have pl18 := pl17.keep s18
  obtain ⟨dx1, _, _, _, e1, _⟩ := st18.ob
  obtain ⟨dx2, _, _, _, e2, _⟩ := stp.ob
  refine ⟨mm, dx1, _, rfl, e1, .inl ⟨pq, dx2, _, C, rfl, e2, A.nf⟩, mm, .ref pq, r, ss, cs, rfl, st18, .inl ⟨pq, r, ss, cs, rfl, stp, fun H19 s19 => ⟨_, rfl, _, rfl, ?_⟩⟩⟩
  rw [decide_eq_true ⟨rfl, rfl, rfl⟩]
  refine iteT ?_
  have st19 := st18.keep s19
  have cd19 := cd18.keep s19
  have pl19 := pl18.keep s19
  obtain ⟨sa, ca, ys, c1, c2, c3, c4⟩ := cd19.ob
  refine ⟨_, rfl, _, rfl, mm, dx1, _, rfl, s19 _ _ e1, .inr ⟨sd, _, rfl, c1, A.nft⟩, mm, .ref sd, r, ss, cs, rfl, st19, .inr ⟨sd, _, rfl, c1, _, rfl, _, rfl, iteT ?_⟩⟩
  obtain ⟨dx3, psa, pca, pxs, p1, p2, p3, p4⟩ := pl19.ob
  refine ⟨_, rfl, pl, C, dx3, _, _, rfl, p1, A.SX.cl, A.SX.nC, sFs_c _ _ _, Nat.zero_le _, fun l hl => ?_⟩
  have s20 := sameUpd (o := .tup []) (Same.refl H19) hl
  refine ⟨.tuple (([] : List (Int × Bool)).map cD), .tuple [], dpC (s20 _ _ p3) (pr_imp p4 fun _ _ q => q.keep s20), .tup (SqT.of upd_same) .nil, by decide, by decide, _, rfl, ?_⟩
  rw [show PyData.eqv (.tuple (([] : List (Int × Bool)).map cD)) (.tuple []) = true from rfl]
  refine (if_pos rfl).mpr ?_
  refine ⟨_, rfl, _, rfl, pl, dx3, _, rfl, s20 _ _ p1, .inl ⟨mm, dx1, _, C, rfl, (s19.trans s20) _ _ e1, A.nf⟩, pl, .ref mm, r, ss, [], rfl, pl19.keep s20, .inl ⟨mm, r, ss, cs, rfl, st19.keep s20, fun H21 s21 => ⟨_, rfl, ?_⟩⟩⟩
  have s2021 := s20.trans s21
  refine ⟨_, rfl, .inr (.inl ⟨_, _, _, _, rfl, rfl, SqT.of (s2021 _ _ c1), atI2 _ _ _ _, Nat.zero_le _, fun l2 hl2 => ?_⟩)⟩
  have s22 := sameUpd (o := .tup []) (Same.refl H21) hl2
  have s23 := s2021.trans s22
  refine ⟨.tuple (cs.map cD), .tuple [], dpC (s23 _ _ c3) (pr_imp c4 fun _ _ q => q.keep s23), .tup (SqT.of upd_same) .nil, shaped_clocks gs.2.2.2.2.2, by decide, rfl, ?_⟩
  have fin : V.bl (decide (V.bl (decide (r = r ∧ ss = ss ∧ ([] : List (Int × Bool)) = cs)) = V.bl (PyData.eqv (.tuple (cs.map cD)) (.tuple [])))) = V.bl true := by
    cases cs <;> simp [PyData.eqv, PyData.eqvAll]
  exact fin
end Kx

set_option maxHeartbeats 8000000
namespace Kx
open PySem PySem.Spec PyProof.Rows L2
section
variable {K : PySem.W.Frag}
theorem stand_binds4 {ed f : Addr} {fd : FuncData} (F : FunD K "__init__" "Stand.__init__" (defArgs sStand_init) (defBody sStand_init) (defScope sStand_init) [V.ref ed] [] f fd) : Binds K fd ["self", "room", "seats", "clocks"] [] := by
  obtain ⟨ds, r, b⟩ := F.binds1 (ps := ["self", "room", "seats", "clocks"]) 4 1 (by simp) rfl fun T kV doc pm an cdv ct us its h1 h2 => match us, its, h1, h2 with | [_, _, _, _], [_], _, _ => ⟨_, rfl, rfl⟩
  cases r
  exact b
theorem stand_binds3 {ed f : Addr} {fd : FuncData} (F : FunD K "__init__" "Stand.__init__" (defArgs sStand_init) (defBody sStand_init) (defScope sStand_init) [V.ref ed] [] f fd) : ∃ ds, Vals [V.ref ed] ds ∧ Binds K fd ["self", "room", "seats", "clocks"] ds := by
  obtain ⟨ds, r, b⟩ := F.binds1 (ps := ["self", "room", "seats", "clocks"]) 3 0 (by simp) rfl fun T kV doc pm an cdv ct us its h1 h2 => match us, its, h1, h2 with | [_, _, _], [_], _, _ => ⟨_, rfl, rfl⟩
  exact ⟨ds, r, b⟩
end
theorem all_mk {l : PySem.W.OpenLaw} {w : World} {K : PySem.W.Frag} {h : Heap} {mg : Str → Option Value} {fa : Addr} {t2 t3 t4 t5 r0 r1 r2 : Tok} (X : K.In h) (G : h.Ns mainGlobals mg) (hfa : mg "law" = some (.ref fa))
    {f0 f1 f2 f3 f4 f5 f6 f7 f8 f9 f10 f11 f12 f13 f14 f15 f16 f17 f18 f19 f20 f21 f22 f23 f24 f25 f26 f27 f28 f29 g0 g1 g2 g3 g4 g5 g6 g7 g8 g9 g10 g11 C CM CS CB CE CQ CW CF CT CRR p0 p1 pT ed aT : Addr} {od0 an0 od1 an1 od2 an2 od3 an3 od4 an4 od5 an5 od6 an6 od7 an7 od8 an8 od9 an9 od10 an10 od11 an11 od12 an12 od13 an13 od14 an14 od15 an15 od16 an16 od17 an17 od18 an18 od19 an19 od20 an20 od21 an21 od22 an22 od23 an23 od24 an24 od25 an25 od26 an26 od27 an27 od28 an28 od29 an29 pd0 bn0 pd1 bn1 pd2 bn2 pd3 bn3 pd4 bn4 pd5 bn5 pd6 bn6 pd7 bn7 pd8 bn8 pd9 bn9 pd10 bn10 pd11 bn11 tod eod aod : Option Addr} {sl0 sl1 sl2 sl3 sl4 sl5 sl6 sl7 sl8 sl9 sl10 sl11 sl12 sl13 sl14 sl15 sl16 sl17 sl18 sl19 sl20 sl21 sl22 sl23 sl24 sl25 sl26 sl27 sl28 sl29 tl0 tl1 tl2 tl3 tl4 tl5 tl6 tl7 tl8 tl9 tl10 tl11 tsl esl asl : Array (Option Value)} {oc0 kV0 dc0 pm0 cd0 ct0 oc1 kV1 dc1 pm1 cd1 ct1 oc2 kV2 dc2 pm2 cd2 ct2 oc3 kV3 dc3 pm3 cd3 ct3 oc4 kV4 dc4 pm4 cd4 ct4 oc5 kV5 dc5 pm5 cd5 ct5 oc6 kV6 dc6 pm6 cd6 ct6 oc7 kV7 dc7 pm7 cd7 ct7 oc8 kV8 dc8 pm8 cd8 ct8 oc9 kV9 dc9 pm9 cd9 ct9 oc10 kV10 dc10 pm10 cd10 ct10 oc11 kV11 dc11 pm11 cd11 ct11 oc12 kV12 dc12 pm12 cd12 ct12 oc13 kV13 dc13 pm13 cd13 ct13 oc14 kV14 dc14 pm14 cd14 ct14 oc15 kV15 dc15 pm15 cd15 ct15 oc16 kV16 dc16 pm16 cd16 ct16 oc17 kV17 dc17 pm17 cd17 ct17 oc18 kV18 dc18 pm18 cd18 ct18 oc19 kV19 dc19 pm19 cd19 ct19 oc20 kV20 dc20 pm20 cd20 ct20 oc21 kV21 dc21 pm21 cd21 ct21 oc22 kV22 dc22 pm22 cd22 ct22 oc23 kV23 dc23 pm23 cd23 ct23 oc24 kV24 dc24 pm24 cd24 ct24 oc25 kV25 dc25 pm25 cd25 ct25 oc26 kV26 dc26 pm26 cd26 ct26 oc27 kV27 dc27 pm27 cd27 ct27 oc28 kV28 dc28 pm28 cd28 ct28 oc29 kV29 dc29 pm29 cd29 ct29 pc0 lV0 ec0 qm0 dd0 dt0 pc1 lV1 ec1 qm1 dd1 dt1 pc2 lV2 ec2 qm2 dd2 dt2 pc3 lV3 ec3 qm3 dd3 dt3 pc4 lV4 ec4 qm4 dd4 dt4 pc5 lV5 ec5 qm5 dd5 dt5 pc6 lV6 ec6 qm6 dd6 dt6 pc7 lV7 ec7 qm7 dd7 dt7 pc8 lV8 ec8 qm8 dd8 dt8 pc9 lV9 ec9 qm9 dd9 dt9 pc10 lV10 ec10 qm10 dd10 dt10 pc11 lV11 ec11 qm11 dd11 dt11 toc : Value} {rest0 rest1 : List Value} {tn en anN : Nat}
    (a0 : PySem.W.nsIn K mainGlobals "is_whole" = some (some (.ref f0)))
    (l0 : K.lookup f0 = some ⟨oc0, od0, .func (PySem.W.fnOf "is_whole" "is_whole" (defArgs sWhole) (defBody sWhole) (defScope sWhole) .none kV0 dc0 pm0 an0 cd0 ct0), sl0⟩)
    (c0 : PySem.W.codeIn K cd0 "is_whole" = true)
    (k0 : PySem.W.keepIn K (.ref f0) = true)
    (a1 : PySem.W.nsIn K mainGlobals "is_label" = some (some (.ref f1)))
    (l1 : K.lookup f1 = some ⟨oc1, od1, .func (PySem.W.fnOf "is_label" "is_label" (defArgs sLabel) (defBody sLabel) (defScope sLabel) .none kV1 dc1 pm1 an1 cd1 ct1), sl1⟩)
    (c1 : PySem.W.codeIn K cd1 "is_label" = true)
    (k1 : PySem.W.keepIn K (.ref f1) = true)
    (a2 : PySem.W.nsIn K mainGlobals "is_sequence" = some (some (.ref f2)))
    (l2 : K.lookup f2 = some ⟨oc2, od2, .func (PySem.W.fnOf "is_sequence" "is_sequence" (defArgs sSeq) (defBody sSeq) (defScope sSeq) .none kV2 dc2 pm2 an2 cd2 ct2), sl2⟩)
    (c2 : PySem.W.codeIn K cd2 "is_sequence" = true)
    (k2 : PySem.W.keepIn K (.ref f2) = true)
    (a3 : PySem.W.nsIn K mainGlobals "map_fault" = some (some (.ref f3)))
    (l3 : K.lookup f3 = some ⟨oc3, od3, .func (PySem.W.fnOf "map_fault" "map_fault" (defArgs sMapFault) (defBody sMapFault) (defScope sMapFault) .none kV3 dc3 pm3 an3 cd3 ct3), sl3⟩)
    (c3 : PySem.W.codeIn K cd3 "map_fault" = true)
    (k3 : PySem.W.keepIn K (.ref f3) = true)
    (a4 : PySem.W.nsIn K mainGlobals "sitters" = some (some (.ref f4)))
    (l4 : K.lookup f4 = some ⟨oc4, od4, .func (PySem.W.fnOf "sitters" "sitters" (defArgs sSitters) (defBody sSitters) (defScope sSitters) .none kV4 dc4 pm4 an4 cd4 ct4), sl4⟩)
    (c4 : PySem.W.codeIn K cd4 "sitters" = true)
    (k4 : PySem.W.keepIn K (.ref f4) = true)
    (a5 : PySem.W.nsIn K mainGlobals "_clock_fault" = some (some (.ref f5)))
    (l5 : K.lookup f5 = some ⟨oc5, od5, .func (PySem.W.fnOf "_clock_fault" "_clock_fault" (defArgs sClockFault) (defBody sClockFault) (defScope sClockFault) .none kV5 dc5 pm5 an5 cd5 ct5), sl5⟩)
    (c5 : PySem.W.codeIn K cd5 "_clock_fault" = true)
    (k5 : PySem.W.keepIn K (.ref f5) = true)
    (a6 : PySem.W.nsIn K mainGlobals "is_seat_name" = some (some (.ref f6)))
    (l6 : K.lookup f6 = some ⟨oc6, od6, .func (PySem.W.fnOf "is_seat_name" "is_seat_name" (defArgs sIsSeatName) (defBody sIsSeatName) (defScope sIsSeatName) .none kV6 dc6 pm6 an6 cd6 ct6), sl6⟩)
    (c6 : PySem.W.codeIn K cd6 "is_seat_name" = true)
    (k6 : PySem.W.keepIn K (.ref f6) = true)
    (a7 : PySem.W.nsIn K mainGlobals "_law_mix" = some (some (.ref f7)))
    (l7 : K.lookup f7 = some ⟨oc7, od7, .func (PySem.W.fnOf "_law_mix" "_law_mix" (defArgs sMix) (defBody sMix) (defScope sMix) .none kV7 dc7 pm7 an7 cd7 ct7), sl7⟩)
    (c7 : PySem.W.codeIn K cd7 "_law_mix" = true)
    (k7 : PySem.W.keepIn K (.ref f7) = true)
    (a8 : PySem.W.nsIn K mainGlobals "_law_hand" = some (some (.ref f8)))
    (l8 : K.lookup f8 = some ⟨oc8, od8, .func (PySem.W.fnOf "_law_hand" "_law_hand" (defArgs sHand) (defBody sHand) (defScope sHand) .none kV8 dc8 pm8 an8 cd8 ct8), sl8⟩)
    (c8 : PySem.W.codeIn K cd8 "_law_hand" = true)
    (k8 : PySem.W.keepIn K (.ref f8) = true)
    (a9 : PySem.W.nsIn K mainGlobals "_law_draw" = some (some (.ref f9)))
    (l9 : K.lookup f9 = some ⟨oc9, od9, .func (PySem.W.fnOf "_law_draw" "_law_draw" (defArgs sDraw) (defBody sDraw) (defScope sDraw) .none kV9 dc9 pm9 an9 cd9 ct9), sl9⟩)
    (c9 : PySem.W.codeIn K cd9 "_law_draw" = true)
    (k9 : PySem.W.keepIn K (.ref f9) = true)
    (a10 : PySem.W.nsIn K mainGlobals "_law_one" = some (some (.ref f10)))
    (l10 : K.lookup f10 = some ⟨oc10, od10, .func (PySem.W.fnOf "_law_one" "_law_one" (defArgs sOne) (defBody sOne) (defScope sOne) .none kV10 dc10 pm10 an10 cd10 ct10), sl10⟩)
    (c10 : PySem.W.codeIn K cd10 "_law_one" = true)
    (k10 : PySem.W.keepIn K (.ref f10) = true)
    (a11 : PySem.W.nsIn K mainGlobals "_law_letters" = some (some (.ref f11)))
    (l11 : K.lookup f11 = some ⟨oc11, od11, .func (PySem.W.fnOf "_law_letters" "_law_letters" (defArgs sLLetters) (defBody sLLetters) (defScope sLLetters) .none kV11 dc11 pm11 an11 cd11 ct11), sl11⟩)
    (c11 : PySem.W.codeIn K cd11 "_law_letters" = true)
    (k11 : PySem.W.keepIn K (.ref f11) = true)
    (a12 : PySem.W.nsIn K mainGlobals "_law_new" = some (some (.ref f12)))
    (l12 : K.lookup f12 = some ⟨oc12, od12, .func (PySem.W.fnOf "_law_new" "_law_new" (defArgs sLNew) (defBody sLNew) (defScope sLNew) .none kV12 dc12 pm12 an12 cd12 ct12), sl12⟩)
    (c12 : PySem.W.codeIn K cd12 "_law_new" = true)
    (k12 : PySem.W.keepIn K (.ref f12) = true)
    (a13 : PySem.W.nsIn K mainGlobals "_law_labels" = some (some (.ref f13)))
    (l13 : K.lookup f13 = some ⟨oc13, od13, .func (PySem.W.fnOf "_law_labels" "_law_labels" (defArgs sLLabels) (defBody sLLabels) (defScope sLLabels) .none kV13 dc13 pm13 an13 cd13 ct13), sl13⟩)
    (c13 : PySem.W.codeIn K cd13 "_law_labels" = true)
    (k13 : PySem.W.keepIn K (.ref f13) = true)
    (a14 : PySem.W.nsIn K mainGlobals "_law_people" = some (some (.ref f14)))
    (l14 : K.lookup f14 = some ⟨oc14, od14, .func (PySem.W.fnOf "_law_people" "_law_people" (defArgs sLPeople) (defBody sLPeople) (defScope sLPeople) .none kV14 dc14 pm14 an14 cd14 ct14), sl14⟩)
    (c14 : PySem.W.codeIn K cd14 "_law_people" = true)
    (k14 : PySem.W.keepIn K (.ref f14) = true)
    (a15 : PySem.W.nsIn K mainGlobals "_law_whole" = some (some (.ref f15)))
    (l15 : K.lookup f15 = some ⟨oc15, od15, .func (PySem.W.fnOf "_law_whole" "_law_whole" (defArgs sLWhole) (defBody sLWhole) (defScope sLWhole) .none kV15 dc15 pm15 an15 cd15 ct15), sl15⟩)
    (c15 : PySem.W.codeIn K cd15 "_law_whole" = true)
    (k15 : PySem.W.keepIn K (.ref f15) = true)
    (a16 : PySem.W.nsIn K mainGlobals "_law_label" = some (some (.ref f16)))
    (l16 : K.lookup f16 = some ⟨oc16, od16, .func (PySem.W.fnOf "_law_label" "_law_label" (defArgs sLLabel) (defBody sLLabel) (defScope sLLabel) .none kV16 dc16 pm16 an16 cd16 ct16), sl16⟩)
    (c16 : PySem.W.codeIn K cd16 "_law_label" = true)
    (k16 : PySem.W.keepIn K (.ref f16) = true)
    (a17 : PySem.W.nsIn K mainGlobals "_law_is_stand" = some (some (.ref f17)))
    (l17 : K.lookup f17 = some ⟨oc17, od17, .func (PySem.W.fnOf "_law_is_stand" "_law_is_stand" (defArgs sLIsStand) (defBody sLIsStand) (defScope sLIsStand) .none kV17 dc17 pm17 an17 cd17 ct17), sl17⟩)
    (c17 : PySem.W.codeIn K cd17 "_law_is_stand" = true)
    (k17 : PySem.W.keepIn K (.ref f17) = true)
    (a18 : PySem.W.nsIn K mainGlobals "_law_program_stand" = some (some (.ref f18)))
    (l18 : K.lookup f18 = some ⟨oc18, od18, .func (PySem.W.fnOf "_law_program_stand" "_law_program_stand" (defArgs sLProgramStand) (defBody sLProgramStand) (defScope sLProgramStand) .none kV18 dc18 pm18 an18 cd18 ct18), sl18⟩)
    (c18 : PySem.W.codeIn K cd18 "_law_program_stand" = true)
    (k18 : PySem.W.keepIn K (.ref f18) = true)
    (a19 : PySem.W.nsIn K mainGlobals "_law_odd" = some (some (.ref f19)))
    (l19 : K.lookup f19 = some ⟨oc19, od19, .func (PySem.W.fnOf "_law_odd" "_law_odd" (defArgs sOdd) (defBody sOdd) (defScope sOdd) .none kV19 dc19 pm19 an19 cd19 ct19), sl19⟩)
    (c19 : PySem.W.codeIn K cd19 "_law_odd" = true)
    (k19 : PySem.W.keepIn K (.ref f19) = true)
    (a20 : PySem.W.nsIn K mainGlobals "_law_parts" = some (some (.ref f20)))
    (l20 : K.lookup f20 = some ⟨oc20, od20, .func (PySem.W.fnOf "_law_parts" "_law_parts" (defArgs sLParts) (defBody sLParts) (defScope sLParts) .none kV20 dc20 pm20 an20 cd20 ct20), sl20⟩)
    (c20 : PySem.W.codeIn K cd20 "_law_parts" = true)
    (k20 : PySem.W.keepIn K (.ref f20) = true)
    (a21 : PySem.W.nsIn K mainGlobals "_law_word" = some (some (.ref f21)))
    (l21 : K.lookup f21 = some ⟨oc21, od21, .func (PySem.W.fnOf "_law_word" "_law_word" (defArgs sWord) (defBody sWord) (defScope sWord) .none kV21 dc21 pm21 an21 cd21 ct21), sl21⟩)
    (c21 : PySem.W.codeIn K cd21 "_law_word" = true)
    (k21 : PySem.W.keepIn K (.ref f21) = true)
    (a22 : PySem.W.nsIn K mainGlobals "_law_try" = some (some (.ref f22)))
    (l22 : K.lookup f22 = some ⟨oc22, od22, .func (PySem.W.fnOf "_law_try" "_law_try" (defArgs sLTry) (defBody sLTry) (defScope sLTry) .none kV22 dc22 pm22 an22 cd22 ct22), sl22⟩)
    (c22 : PySem.W.codeIn K cd22 "_law_try" = true)
    (k22 : PySem.W.keepIn K (.ref f22) = true)
    (a23 : PySem.W.nsIn K mainGlobals "_law_map" = some (some (.ref f23)))
    (l23 : K.lookup f23 = some ⟨oc23, od23, .func (PySem.W.fnOf "_law_map" "_law_map" (defArgs sLMap) (defBody sLMap) (defScope sLMap) .none kV23 dc23 pm23 an23 cd23 ct23), sl23⟩)
    (c23 : PySem.W.codeIn K cd23 "_law_map" = true)
    (k23 : PySem.W.keepIn K (.ref f23) = true)
    (a24 : PySem.W.nsIn K mainGlobals "_law_map_word" = some (some (.ref f24)))
    (l24 : K.lookup f24 = some ⟨oc24, od24, .func (PySem.W.fnOf "_law_map_word" "_law_map_word" (defArgs sLMapWord) (defBody sLMapWord) (defScope sLMapWord) .none kV24 dc24 pm24 an24 cd24 ct24), sl24⟩)
    (c24 : PySem.W.codeIn K cd24 "_law_map_word" = true)
    (k24 : PySem.W.keepIn K (.ref f24) = true)
    (a25 : PySem.W.nsIn K mainGlobals "_law_renamed" = some (some (.ref f25)))
    (l25 : K.lookup f25 = some ⟨oc25, od25, .func (PySem.W.fnOf "_law_renamed" "_law_renamed" (defArgs sLRenamed) (defBody sLRenamed) (defScope sLRenamed) .none kV25 dc25 pm25 an25 cd25 ct25), sl25⟩)
    (c25 : PySem.W.codeIn K cd25 "_law_renamed" = true)
    (k25 : PySem.W.keepIn K (.ref f25) = true)
    (a26 : PySem.W.nsIn K mainGlobals "_law_renames" = some (some (.ref f26)))
    (l26 : K.lookup f26 = some ⟨oc26, od26, .func (PySem.W.fnOf "_law_renames" "_law_renames" (defArgs sLRenames) (defBody sLRenames) (defScope sLRenames) .none kV26 dc26 pm26 an26 cd26 ct26), sl26⟩)
    (c26 : PySem.W.codeIn K cd26 "_law_renames" = true)
    (k26 : PySem.W.keepIn K (.ref f26) = true)
    (a27 : PySem.W.nsIn K mainGlobals "_law_refused_question" = some (some (.ref f27)))
    (l27 : K.lookup f27 = some ⟨oc27, od27, .func (PySem.W.fnOf "_law_refused_question" "_law_refused_question" (defArgs sLRefusedQuestion) (defBody sLRefusedQuestion) (defScope sLRefusedQuestion) .none kV27 dc27 pm27 an27 cd27 ct27), sl27⟩)
    (c27 : PySem.W.codeIn K cd27 "_law_refused_question" = true)
    (k27 : PySem.W.keepIn K (.ref f27) = true)
    (a28 : PySem.W.nsIn K mainGlobals "_law_made_questions" = some (some (.ref f28)))
    (l28 : K.lookup f28 = some ⟨oc28, od28, .func (PySem.W.fnOf "_law_made_questions" "_law_made_questions" (defArgs sLMadeQuestions) (defBody sLMadeQuestions) (defScope sLMadeQuestions) .none kV28 dc28 pm28 an28 cd28 ct28), sl28⟩)
    (c28 : PySem.W.codeIn K cd28 "_law_made_questions" = true)
    (k28 : PySem.W.keepIn K (.ref f28) = true)
    (a29 : PySem.W.nsIn K mainGlobals "law" = some (some (.ref f29)))
    (l29 : K.lookup f29 = some ⟨oc29, od29, .func (PySem.W.fnOf "law" "law" (defArgs sLaw) (defBody sLaw) (defScope sLaw) .none kV29 dc29 pm29 an29 cd29 ct29), sl29⟩)
    (c29 : PySem.W.codeIn K cd29 "law" = true)
    (k29 : PySem.W.keepIn K (.ref f29) = true)
    (mC : PySem.W.nsIn K mainGlobals "Stand" = some (some (.ref C)))
    (mCM : PySem.W.nsIn K mainGlobals "BadMap" = some (some (.ref CM)))
    (mCS : PySem.W.nsIn K mainGlobals "BadStand" = some (some (.ref CS)))
    (mCB : PySem.W.nsIn K mainGlobals "BadQuestion" = some (some (.ref CB)))
    (mCE : PySem.W.nsIn K mainGlobals "SearchError" = some (some (.ref CE)))
    (mCQ : PySem.W.nsIn K mainGlobals "Question" = some (some (.ref CQ)))
    (mCW : PySem.W.nsIn K mainGlobals "Who" = some (some (.ref CW)))
    (mCF : PySem.W.nsIn K mainGlobals "Filled" = some (some (.ref CF)))
    (mCT : PySem.W.nsIn K mainGlobals "Together" = some (some (.ref CT)))
    (mCRR : PySem.W.nsIn K mainGlobals "Reached" = some (some (.ref CRR)))
    (M0 : PySem.W.findIn K (.ref CM) "__init__" = some (some (.ref g0)))
    (L0 : K.lookup g0 = some ⟨pc0, pd0, .func (PySem.W.fnOf "__init__" "BadMap.__init__" (defArgs sBadMap_init) (defBody sBadMap_init) (defScope sBadMap_init) .none lV0 ec0 qm0 bn0 dd0 dt0), tl0⟩)
    (D0 : PySem.W.codeIn K dd0 "BadMap.__init__" = true)
    (N0 : PySem.W.keepIn K (.ref g0) = true)
    (T0 : PySem.W.typeIn K (.ref g0) = some (.type "function"))
    (M1 : PySem.W.findIn K (.ref CS) "__init__" = some (some (.ref g1)))
    (L1 : K.lookup g1 = some ⟨pc1, pd1, .func (PySem.W.fnOf "__init__" "BadStand.__init__" (defArgs sBadStand_init) (defBody sBadStand_init) (defScope sBadStand_init) .none lV1 ec1 qm1 bn1 dd1 dt1), tl1⟩)
    (D1 : PySem.W.codeIn K dd1 "BadStand.__init__" = true)
    (N1 : PySem.W.keepIn K (.ref g1) = true)
    (T1 : PySem.W.typeIn K (.ref g1) = some (.type "function"))
    (M2 : PySem.W.findIn K (.ref CB) "__init__" = some (some (.ref g2)))
    (L2 : K.lookup g2 = some ⟨pc2, pd2, .func (PySem.W.fnOf "__init__" "BadQuestion.__init__" (defArgs sBadQuestion_init) (defBody sBadQuestion_init) (defScope sBadQuestion_init) .none lV2 ec2 qm2 bn2 dd2 dt2), tl2⟩)
    (D2 : PySem.W.codeIn K dd2 "BadQuestion.__init__" = true)
    (N2 : PySem.W.keepIn K (.ref g2) = true)
    (T2 : PySem.W.typeIn K (.ref g2) = some (.type "function"))
    (M3 : PySem.W.findIn K (.ref C) "__eq__" = some (some (.ref g3)))
    (L3 : K.lookup g3 = some ⟨pc3, pd3, .func (PySem.W.fnOf "__eq__" "Stand.__eq__" (defArgs sStand_eq) (defBody sStand_eq) (defScope sStand_eq) .none lV3 ec3 qm3 bn3 dd3 dt3), tl3⟩)
    (D3 : PySem.W.codeIn K dd3 "Stand.__eq__" = true)
    (N3 : PySem.W.keepIn K (.ref g3) = true)
    (T3 : PySem.W.typeIn K (.ref g3) = some (.type "function"))
    (M4 : PySem.W.findIn K (.ref C) "renamed" = some (some (.ref g4)))
    (L4 : K.lookup g4 = some ⟨pc4, pd4, .func (PySem.W.fnOf "renamed" "Stand.renamed" (defArgs sStand_renamed) (defBody sStand_renamed) (defScope sStand_renamed) .none lV4 ec4 qm4 bn4 dd4 dt4), tl4⟩)
    (D4 : PySem.W.codeIn K dd4 "Stand.renamed" = true)
    (N4 : PySem.W.keepIn K (.ref g4) = true)
    (T4 : PySem.W.typeIn K (.ref g4) = some (.type "function"))
    (M5 : PySem.W.findIn K (.ref CW) "__init__" = some (some (.ref g5)))
    (L5 : K.lookup g5 = some ⟨pc5, pd5, .func (PySem.W.fnOf "__init__" "Who.__init__" (defArgs sWho_init) (defBody sWho_init) (defScope sWho_init) .none lV5 ec5 qm5 bn5 dd5 dt5), tl5⟩)
    (D5 : PySem.W.codeIn K dd5 "Who.__init__" = true)
    (N5 : PySem.W.keepIn K (.ref g5) = true)
    (T5 : PySem.W.typeIn K (.ref g5) = some (.type "function"))
    (M6 : PySem.W.findIn K (.ref CF) "__init__" = some (some (.ref g6)))
    (L6 : K.lookup g6 = some ⟨pc6, pd6, .func (PySem.W.fnOf "__init__" "Filled.__init__" (defArgs sFilled_init) (defBody sFilled_init) (defScope sFilled_init) .none lV6 ec6 qm6 bn6 dd6 dt6), tl6⟩)
    (D6 : PySem.W.codeIn K dd6 "Filled.__init__" = true)
    (N6 : PySem.W.keepIn K (.ref g6) = true)
    (T6 : PySem.W.typeIn K (.ref g6) = some (.type "function"))
    (M7 : PySem.W.findIn K (.ref CT) "__init__" = some (some (.ref g7)))
    (L7 : K.lookup g7 = some ⟨pc7, pd7, .func (PySem.W.fnOf "__init__" "Together.__init__" (defArgs sTogether_init) (defBody sTogether_init) (defScope sTogether_init) .none lV7 ec7 qm7 bn7 dd7 dt7), tl7⟩)
    (D7 : PySem.W.codeIn K dd7 "Together.__init__" = true)
    (N7 : PySem.W.keepIn K (.ref g7) = true)
    (T7 : PySem.W.typeIn K (.ref g7) = some (.type "function"))
    (M8 : PySem.W.findIn K (.ref CRR) "__init__" = some (some (.ref g8)))
    (L8 : K.lookup g8 = some ⟨pc8, pd8, .func (PySem.W.fnOf "__init__" "Reached.__init__" (defArgs sReached_init) (defBody sReached_init) (defScope sReached_init) .none lV8 ec8 qm8 bn8 dd8 dt8), tl8⟩)
    (D8 : PySem.W.codeIn K dd8 "Reached.__init__" = true)
    (N8 : PySem.W.keepIn K (.ref g8) = true)
    (T8 : PySem.W.typeIn K (.ref g8) = some (.type "function"))
    (P0a : PySem.W.findIn K (.ref C) "code" = some (some (.ref p0)))
    (P0b : PySem.W.specialIn K (.ref p0) "__get__" = some (some (.builtin "property.__get__")))
    (P0c : PySem.W.takesIn K (.ref p0) = some true)
    (P0d : PySem.W.recIn K p0 "property" = some (.ref g9 :: rest0))
    (L9 : K.lookup g9 = some ⟨pc9, pd9, .func (PySem.W.fnOf "code" "Stand.code" (defArgs sStand_code) (defBody sStand_code) (defScope sStand_code) .none lV9 ec9 qm9 bn9 dd9 dt9), tl9⟩)
    (D9 : PySem.W.codeIn K dd9 "Stand.code" = true)
    (N9 : PySem.W.keepIn K (.ref g9) = true)
    (P1a : PySem.W.findIn K (.ref C) "persons" = some (some (.ref p1)))
    (P1b : PySem.W.specialIn K (.ref p1) "__get__" = some (some (.builtin "property.__get__")))
    (P1c : PySem.W.takesIn K (.ref p1) = some true)
    (P1d : PySem.W.recIn K p1 "property" = some (.ref g10 :: rest1))
    (L10 : K.lookup g10 = some ⟨pc10, pd10, .func (PySem.W.fnOf "persons" "Stand.persons" (defArgs sStand_persons) (defBody sStand_persons) (defScope sStand_persons) .none lV10 ec10 qm10 bn10 dd10 dt10), tl10⟩)
    (D10 : PySem.W.codeIn K dd10 "Stand.persons" = true)
    (N10 : PySem.W.keepIn K (.ref g10) = true)
    (M11 : PySem.W.findIn K (.ref C) "__init__" = some (some (.ref g11)))
    (L11 : K.lookup g11 = some ⟨pc11, pd11, .func (PySem.W.fnOf "__init__" "Stand.__init__" (defArgs sStand_init) (defBody sStand_init) (defScope sStand_init) (.ref pT) lV11 ec11 qm11 bn11 dd11 dt11), tl11⟩)
    (D11 : PySem.W.codeIn K dd11 "Stand.__init__" = true)
    (N11 : PySem.W.keepIn K (.ref g11) = true)
    (T11 : PySem.W.typeIn K (.ref g11) = some (.type "function"))
    (H1 : K.lookup pT = some ⟨toc, tod, .seq #[.ref ed] tn, tsl⟩)
    (A1 : PySem.W.nsIn K mainGlobals "NO_SEATS" = some (some (.ref aT)))
    (A2 : K.lookup aT = some ⟨.type "tuple", aod, .seq #[.str "first" r0, .str "second" r1, .str "nobody" r2] anN, asl⟩)
    (H2 : K.lookup ed = some ⟨.type "tuple", eod, .seq #[] en, esl⟩)
    (u1C : PySem.W.plainGet K C Str.empty = true)
    (u2C : PySem.W.hasDictIn K C = true)
    (u3C : PySem.W.plainOver K C = true)
    (u4C : PySem.W.findIn K (.ref C) "__setattr__" = some (some (.builtin "object.__setattr__")))
    (u5C_room : PySem.W.findIn K (.ref C) "room" = some none)
    (u5C_seats : PySem.W.findIn K (.ref C) "seats" = some none)
    (u5C_clocks : PySem.W.findIn K (.ref C) "clocks" = some none)
    (u6C : PySem.W.findIn K (.ref C) "__class__" = some (some (.builtin "object.__class__")))
    (u7C : PySem.W.mroIn K C (.type "object") = some true)
    (u8C : PySem.W.makesIn K C = true)
    (u9C : PySem.W.keepIn K (.ref C) = true)
    (u1CW : PySem.W.plainGet K CW Str.empty = true)
    (u2CW : PySem.W.hasDictIn K CW = true)
    (u3CW : PySem.W.plainOver K CW = true)
    (u4CW : PySem.W.findIn K (.ref CW) "__setattr__" = some (some (.builtin "object.__setattr__")))
    (u5CW_seat : PySem.W.findIn K (.ref CW) "seat" = some none)
    (u6CW : PySem.W.findIn K (.ref CW) "__class__" = some (some (.builtin "object.__class__")))
    (u7CW : PySem.W.mroIn K CW (.type "object") = some true)
    (u8CW : PySem.W.makesIn K CW = true)
    (u9CW : PySem.W.keepIn K (.ref CW) = true)
    (wCW_Q : PySem.W.kitOne K (.ref CW) (.ref CQ) = some true)
    (u1CF : PySem.W.plainGet K CF Str.empty = true)
    (u2CF : PySem.W.hasDictIn K CF = true)
    (u3CF : PySem.W.plainOver K CF = true)
    (u4CF : PySem.W.findIn K (.ref CF) "__setattr__" = some (some (.builtin "object.__setattr__")))
    (u5CF_seat : PySem.W.findIn K (.ref CF) "seat" = some none)
    (u6CF : PySem.W.findIn K (.ref CF) "__class__" = some (some (.builtin "object.__class__")))
    (u7CF : PySem.W.mroIn K CF (.type "object") = some true)
    (u8CF : PySem.W.makesIn K CF = true)
    (u9CF : PySem.W.keepIn K (.ref CF) = true)
    (wCF_Q : PySem.W.kitOne K (.ref CF) (.ref CQ) = some true)
    (u1CT : PySem.W.plainGet K CT Str.empty = true)
    (u2CT : PySem.W.hasDictIn K CT = true)
    (u3CT : PySem.W.plainOver K CT = true)
    (u4CT : PySem.W.findIn K (.ref CT) "__setattr__" = some (some (.builtin "object.__setattr__")))
    (u5CT_seat : PySem.W.findIn K (.ref CT) "seat" = some none)
    (u5CT_other : PySem.W.findIn K (.ref CT) "other" = some none)
    (u6CT : PySem.W.findIn K (.ref CT) "__class__" = some (some (.builtin "object.__class__")))
    (u7CT : PySem.W.mroIn K CT (.type "object") = some true)
    (u8CT : PySem.W.makesIn K CT = true)
    (u9CT : PySem.W.keepIn K (.ref CT) = true)
    (wCT_Q : PySem.W.kitOne K (.ref CT) (.ref CQ) = some true)
    (u1CRR : PySem.W.plainGet K CRR Str.empty = true)
    (u2CRR : PySem.W.hasDictIn K CRR = true)
    (u3CRR : PySem.W.plainOver K CRR = true)
    (u4CRR : PySem.W.findIn K (.ref CRR) "__setattr__" = some (some (.builtin "object.__setattr__")))
    (u5CRR_clock : PySem.W.findIn K (.ref CRR) "clock" = some none)
    (u5CRR_number : PySem.W.findIn K (.ref CRR) "number" = some none)
    (u6CRR : PySem.W.findIn K (.ref CRR) "__class__" = some (some (.builtin "object.__class__")))
    (u7CRR : PySem.W.mroIn K CRR (.type "object") = some true)
    (u8CRR : PySem.W.makesIn K CRR = true)
    (u9CRR : PySem.W.keepIn K (.ref CRR) = true)
    (wCRR_Q : PySem.W.kitOne K (.ref CRR) (.ref CQ) = some true)
    (uAC : PySem.W.findIn K (.ref C) "__ne__" = some (some (.builtin "object.__ne__")))
    (uBC : PySem.W.notFirst K C (.type "tuple") = true)
    (uCC : PySem.W.notFirst K C (.ref C) = true)
    (wC_str : PySem.W.kitOne K (.type "str") (.ref C) = some false)
    (wC_tuple : PySem.W.kitOne K (.type "tuple") (.ref C) = some false)
    (wC_any : PySem.W.kitAny K (.ref C) [.type "str", .type "int"] = some false)
    (q1 : PySem.W.specialIn K (.builtin "object.__class__") "__get__" = some (some (.builtin "getset_descriptor.__get__")))
    (q2 : PySem.W.takesIn K (.builtin "object.__class__") = some true)
    (nCM : PySem.W.findIn K (.ref CM) "what" = some none)
    (xCM : PySem.W.exmOne K (.ref CM) (.ref CM) = some true)
    (wSCM : PySem.W.kitOne K (.ref CM) (.ref CE) = some true)
    (wVCM : PySem.W.kitOne K (.ref CM) (.type "ValueError") = some true)
    (wOCM : PySem.W.kitOne K (.ref CM) (.ref CS) = some false)
    (nCS : PySem.W.findIn K (.ref CS) "what" = some none)
    (xCS : PySem.W.exmOne K (.ref CS) (.ref CS) = some true)
    (wSCS : PySem.W.kitOne K (.ref CS) (.ref CE) = some true)
    (wVCS : PySem.W.kitOne K (.ref CS) (.type "ValueError") = some true)
    (wOCS : PySem.W.kitOne K (.ref CS) (.ref CM) = some false)
    (nCB : PySem.W.findIn K (.ref CB) "what" = some none)
    (xCB : PySem.W.exmOne K (.ref CB) (.ref CB) = some true)
    (wSCB : PySem.W.kitOne K (.ref CB) (.ref CE) = some true)
    (wVCB : PySem.W.kitOne K (.ref CB) (.type "ValueError") = some true)
    (wOCB : PySem.W.kitOne K (.ref CB) (.ref CS) = some false)
    (y2 : PySem.W.nsIn K mainGlobals "LONGEST_LABEL" = some (some (.int 6 t2)))
    (y3 : PySem.W.nsIn K mainGlobals "MOST_SEATS" = some (some (.int 3 t3)))
    (y4 : PySem.W.nsIn K mainGlobals "MOST_CLOCKS" = some (some (.int 2 t4)))
    (y5 : PySem.W.nsIn K mainGlobals "GREATEST_NUMBER" = some (some (.int 40 t5)))
    (o1CM : ∃ nm q N bs bm sn sub ab col dd k0 k1 k2 k3 k5, K.lookup CM = some (excClassObj nm q CM N bs bm true sn sub ab col dd k0 k1 k2 k3 k5 "ValueError.__new__") ∧ PySem.HandSPX.refsVE bm = true)
    (o2CM : PySem.W.findIn K (.ref CM) "__setattr__" = some (some (.builtin "object.__setattr__")))
    (o3CM : PySem.W.subIn K (.ref CM) (.type "BaseException") = some true)
    (o4CM : PySem.W.typeIn K (.ref CM) = some (.type "type"))
    (o5CM : PySem.W.keepIn K (.ref CM) = true)
    (o6CM : PySem.W.findIn K (.ref CM) "__getattribute__" = some (some (.builtin "BaseException.__getattribute__")))
    (o7CM : PySem.W.findIn K (.ref CM) "__getattr__" = some none)
    (o8CM : PySem.W.hasDictIn K CM = true)
    (o9CM : PySem.W.findIn K (.ref CM) "__class__" = some (some (.builtin "object.__class__")))
    (oACM : PySem.W.mroIn K CM (.type "object") = some true)
    (o1CS : ∃ nm q N bs bm sn sub ab col dd k0 k1 k2 k3 k5, K.lookup CS = some (excClassObj nm q CS N bs bm true sn sub ab col dd k0 k1 k2 k3 k5 "ValueError.__new__") ∧ PySem.HandSPX.refsVE bm = true)
    (o2CS : PySem.W.findIn K (.ref CS) "__setattr__" = some (some (.builtin "object.__setattr__")))
    (o3CS : PySem.W.subIn K (.ref CS) (.type "BaseException") = some true)
    (o4CS : PySem.W.typeIn K (.ref CS) = some (.type "type"))
    (o5CS : PySem.W.keepIn K (.ref CS) = true)
    (o6CS : PySem.W.findIn K (.ref CS) "__getattribute__" = some (some (.builtin "BaseException.__getattribute__")))
    (o7CS : PySem.W.findIn K (.ref CS) "__getattr__" = some none)
    (o8CS : PySem.W.hasDictIn K CS = true)
    (o9CS : PySem.W.findIn K (.ref CS) "__class__" = some (some (.builtin "object.__class__")))
    (oACS : PySem.W.mroIn K CS (.type "object") = some true)
    (o1CB : ∃ nm q N bs bm sn sub ab col dd k0 k1 k2 k3 k5, K.lookup CB = some (excClassObj nm q CB N bs bm true sn sub ab col dd k0 k1 k2 k3 k5 "ValueError.__new__") ∧ PySem.HandSPX.refsVE bm = true)
    (o2CB : PySem.W.findIn K (.ref CB) "__setattr__" = some (some (.builtin "object.__setattr__")))
    (o3CB : PySem.W.subIn K (.ref CB) (.type "BaseException") = some true)
    (o4CB : PySem.W.typeIn K (.ref CB) = some (.type "type"))
    (o5CB : PySem.W.keepIn K (.ref CB) = true)
    (o6CB : PySem.W.findIn K (.ref CB) "__getattribute__" = some (some (.builtin "BaseException.__getattribute__")))
    (o7CB : PySem.W.findIn K (.ref CB) "__getattr__" = some none)
    (o8CB : PySem.W.hasDictIn K CB = true)
    (o9CB : PySem.W.findIn K (.ref CB) "__class__" = some (some (.builtin "object.__class__")))
    (oACB : PySem.W.mroIn K CB (.type "object") = some true)
    (z_int : PySem.W.nsIn K mainGlobals "int" = some none)
    (z_abs : PySem.W.nsIn K mainGlobals "abs" = some none)
    (z_len : PySem.W.nsIn K mainGlobals "len" = some none)
    (z_enumerate : PySem.W.nsIn K mainGlobals "enumerate" = some none)
    (z_range : PySem.W.nsIn K mainGlobals "range" = some none)
    (z_isinstance : PySem.W.nsIn K mainGlobals "isinstance" = some none)
    (z_str : PySem.W.nsIn K mainGlobals "str" = some none)
    (z_bool : PySem.W.nsIn K mainGlobals "bool" = some none)
    (z_list : PySem.W.nsIn K mainGlobals "list" = some none)
    (z_tuple : PySem.W.nsIn K mainGlobals "tuple" = some none)
    (z_dict : PySem.W.nsIn K mainGlobals "dict" = some none)
    (z_set : PySem.W.nsIn K mainGlobals "set" = some none)
    (z_ValueError : PySem.W.nsIn K mainGlobals "ValueError" = some none) :
    ∀ (base : Heap) (s : Shared) (H : Hp) (a : Addr) (ns : List Int), K.In base → base.Ns mainGlobals mg → Env0 l.prog w K mg base callerA [] s H → SqL K H a (ns.map V.int) → ns.length ≤ 63 →
      codeAny (model l.prog w) callerA (.call (.ref fa) ⟨[.ref a], []⟩) (CR CX0 [] l.prog w H s QT EF) s := by
  have e := hfa.symm.trans (PySem.W.mg_of X G a29)
  cases e
  intro base s H a ns _ _ e0 hS hn
  have T : Bl mg := ⟨(PySem.W.mg_none_of X G z_int), (PySem.W.mg_none_of X G z_abs), (PySem.W.mg_none_of X G z_len), (PySem.W.mg_none_of X G z_enumerate), (PySem.W.mg_none_of X G z_range)⟩
  have B : Bm mg := ⟨(PySem.W.mg_none_of X G z_isinstance), (PySem.W.mg_none_of X G z_str), (PySem.W.mg_none_of X G z_bool), (PySem.W.mg_none_of X G z_list), (PySem.W.mg_none_of X G z_tuple), ⟨_, PySem.W.mg_of X G y2⟩⟩
  have Db : Bd mg := ⟨(PySem.W.mg_none_of X G z_dict), (PySem.W.mg_none_of X G z_set)⟩
  have Msm : Sm7 mg := ⟨⟨_, PySem.W.mg_of X G y3⟩, ⟨_, PySem.W.mg_of X G y4⟩, ⟨_, PySem.W.mg_of X G y5⟩⟩
  have Nn : Ns7 K mg := ⟨aT, PySem.W.mg_of X G A1, fun H => .inr ⟨_, _, _, A2, rfl, rfl, (by show 3 ≤ sizeLine; decide), (show Vals [V.str "first", V.str "second", V.str "nobody"] _ from .cons ⟨_, rfl⟩ (.cons ⟨_, rfl⟩ (.cons ⟨_, rfl⟩ .nil)))⟩⟩
  have SX : SC K C := ⟨⟨u1C, u2C, u3C, u4C⟩, u5C_room, u5C_seats, u5C_clocks, u6C, q1, q2, u7C⟩
  have XCM : XfC K CM := ⟨o6CM, o7CM, o3CM, o8CM⟩
  have OCM : OexC K CM := ⟨o1CM, o2CM, o3CM, o4CM, o5CM⟩
  have ECM : ExcC K CM := ⟨o6CM, o7CM, o3CM, o8CM, o9CM, q1, q2, oACM⟩
  have XCS : XfC K CS := ⟨o6CS, o7CS, o3CS, o8CS⟩
  have OCS : OexC K CS := ⟨o1CS, o2CS, o3CS, o4CS, o5CS⟩
  have ECS : ExcC K CS := ⟨o6CS, o7CS, o3CS, o8CS, o9CS, q1, q2, oACS⟩
  have XCB : XfC K CB := ⟨o6CB, o7CB, o3CB, o8CB⟩
  have OCB : OexC K CB := ⟨o1CB, o2CB, o3CB, o4CB, o5CB⟩
  have ECB : ExcC K CB := ⟨o6CB, o7CB, o3CB, o8CB, o9CB, q1, q2, oACB⟩
  have mix := ok_mix (P := l.prog) (w := w) (mg := mg) (base := base) (fun_mk (st := sMix) l7 c7 k7) (PySem.W.mg_of X G a7) T
  have draw := ok_draw (P := l.prog) (w := w) (mg := mg) (base := base) (fun_mk (st := sDraw) l9 c9 k9) (PySem.W.mg_of X G a9) T mix
  have hand := ok_hand (P := l.prog) (w := w) (mg := mg) (base := base) (fun_mk (st := sHand) l8 c8 k8) (PySem.W.mg_of X G a8) T
  have one := ok_one (P := l.prog) (w := w) (mg := mg) (base := base) (fun_mk (st := sOne) l10 c10 k10) (PySem.W.mg_of X G a10) T draw
  have whole := ok_whole (P := l.prog) (w := w) (mg := mg) (base := base) (fun_mk (st := sWhole) l0 c0 k0) (PySem.W.mg_of X G a0) T B
  have label := ok_label (P := l.prog) (w := w) (mg := mg) (base := base) (fun_mk (st := sLabel) l1 c1 k1) (PySem.W.mg_of X G a1) T B
  have seq := ok_seq (P := l.prog) (w := w) (mg := mg) (base := base) (fun_mk (st := sSeq) l2 c2 k2) (PySem.W.mg_of X G a2) B
  have seqK := ok_seqK (P := l.prog) (w := w) (mg := mg) (base := base) (fun_mk (st := sSeq) l2 c2 k2) (PySem.W.mg_of X G a2) B
  have llab := ok_llab (P := l.prog) (w := w) (mg := mg) (base := base) (fun_mk (st := sLLabel) l16 c16 k16) (PySem.W.mg_of X G a16) T B
  have clockf := ok_clockfault (P := l.prog) (w := w) (mg := mg) (base := base) (fun_mk (st := sClockFault) l5 c5 k5) (PySem.W.mg_of X G a5) T B Msm seq whole
  have sit := ok_sit (P := l.prog) (w := w) (mg := mg) (base := base) (fun_mk (st := sSitters) l4 c4 k4) (PySem.W.mg_of X G a4) B
  have mapf := ok_mapfault (P := l.prog) (w := w) (mg := mg) (base := base) (fun_mk (st := sMapFault) l3 c3 k3) (PySem.W.mg_of X G a3) T B Db label
  have seatn := ok_seatname (P := l.prog) (w := w) (mg := mg) (base := base) (fun_mk (st := sIsSeatName) l6 c6 k6) (PySem.W.mg_of X G a6) Nn label
  have RCM : ErC l.prog w K mg base "BadMap" ["self", "what"] CM g0 _ (spInit1 K CM "what") := ⟨OCM, M0, T0, PySem.W.mg_of X G mCM, (fun_mk (st := sBadMap_init) L0 D0 N0).binds (fun _ _ _ _ _ _ us hl => match us, hl with | [_, _], _ => rfl), ok_BadMap (fun_mk (st := sBadMap_init) L0 D0 N0), XCM⟩
  have RCS : ErC l.prog w K mg base "BadStand" ["self", "what"] CS g1 _ (spInit1 K CS "what") := ⟨OCS, M1, T1, PySem.W.mg_of X G mCS, (fun_mk (st := sBadStand_init) L1 D1 N1).binds (fun _ _ _ _ _ _ us hl => match us, hl with | [_, _], _ => rfl), ok_BadStand (fun_mk (st := sBadStand_init) L1 D1 N1), XCS⟩
  have RCB : ErC l.prog w K mg base "BadQuestion" ["self", "what"] CB g2 _ (spInit1 K CB "what") := ⟨OCB, M2, T2, PySem.W.mg_of X G mCB, (fun_mk (st := sBadQuestion_init) L2 D2 N2).binds (fun _ _ _ _ _ _ us hl => match us, hl with | [_, _], _ => rfl), ok_BadQuestion (fun_mk (st := sBadQuestion_init) L2 D2 N2), XCB⟩
  have YCM : ErX K mg "BadMap" CM CE CS "BadStand" := ⟨PySem.W.mg_of X G mCM, PySem.W.mg_of X G mCE, PySem.W.mg_of X G mCS, XCM, ECM, nCM, xCM, wSCM, wVCM, wOCM⟩
  have YCS : ErX K mg "BadStand" CS CE CM "BadMap" := ⟨PySem.W.mg_of X G mCS, PySem.W.mg_of X G mCE, PySem.W.mg_of X G mCM, XCS, ECS, nCS, xCS, wSCS, wVCS, wOCS⟩
  have YCB : ErX K mg "BadQuestion" CB CE CS "BadStand" := ⟨PySem.W.mg_of X G mCB, PySem.W.mg_of X G mCE, PySem.W.mg_of X G mCS, XCB, ECB, nCB, xCB, wSCB, wVCB, wOCB⟩
  have FI : FunD K "__init__" "Stand.__init__" (defArgs sStand_init) (defBody sStand_init) (defScope sStand_init) [V.ref ed] [] g11 _ := ⟨⟨_, _, _, _, _, _, _, _, _, _, rfl, L11, D11, .inr ⟨by simp, pT, _, [.ref ed], _, rfl, H1, rfl, .cons rfl .nil⟩, .inl rfl⟩, N11⟩
  have MKS : Mk K C g11 := ⟨u8C, M11, (by unfold PySem.W.isFn; rw [T11]; rfl), u9C⟩
  have GIS := ok_stand (P := l.prog) (w := w) (mg := mg) (base := base) (C := C) FI T B Msm SX seqK label clockf RCS nCS
  have S : SMk l.prog w K mg base C CS g11 _ := ⟨MKS, GIS, PySem.W.mg_of X G mC, stand_binds4 FI⟩
  obtain ⟨dsD, rdD, bDD⟩ := stand_binds3 FI
  have PC : PropOf K C "code" p0 g9 := ⟨P0a, P0b, P0c, _, P0d⟩
  have GC := ok_code (P := l.prog) (w := w) (mg := mg) (base := base) (C := C) (fun_mk (st := sStand_code) L9 D9 N9) SX
  have bC := (fun_mk (st := sStand_code) L9 D9 N9).binds (ps := ["self"]) (fun _ _ _ _ _ _ us hl => match us, hl with | [_], _ => rfl)
  have PP : PropOf K C "persons" p1 g10 := ⟨P1a, P1b, P1c, _, P1d⟩
  have GP := ok_spers (P := l.prog) (w := w) (mg := mg) (base := base) (C := C) (fun_mk (st := sStand_persons) L10 D10 N10) SX sit
  have bP := (fun_mk (st := sStand_persons) L10 D10 N10).binds (ps := ["self"]) (fun _ _ _ _ _ _ us hl => match us, hl with | [_], _ => rfl)
  have OE : OwnM l.prog w K mg base C "__eq__" 3 ["self", "other"] (spSEq C) g3 _ := ⟨⟨M3, (by unfold PySem.W.isFn; rw [T3]; rfl), N3⟩, ok_standeq (fun_mk (st := sStand_eq) L3 D3 N3) B SX (PySem.W.mg_of X G mC) wC_tuple PC GC bC, (fun_mk (st := sStand_eq) L3 D3 N3).binds (fun _ _ _ _ _ _ us hl => match us, hl with | [_, _], _ => rfl)⟩
  have MR : Meth K C "renamed" g4 := ⟨M4, (by unfold PySem.W.isFn; rw [T4]; rfl), N4⟩
  have GR := ok_renamed (P := l.prog) (w := w) (mg := mg) (base := base) (fun_mk (st := sStand_renamed) L4 D4 N4) SX mapf PP GP bP MKS GIS (PySem.W.mg_of X G mC) (stand_binds4 FI) RCM nCM
  have bR := (fun_mk (st := sStand_renamed) L4 D4 N4).binds (ps := ["self", "names"]) (fun _ _ _ _ _ _ us hl => match us, hl with | [_, _], _ => rfl)
  have QCW : QC K CW ["seat"] := ⟨⟨u1CW, u2CW, u3CW, u4CW⟩, (fun f hf => by rw [List.mem_singleton.mp hf]; exact u5CW_seat), u6CW, q1, q2, u7CW⟩
  have KCW : QM l.prog w K mg base "Who" CW CQ g5 _ ["self", "seat"] ["seat"] (spQ1 CW CB) := ⟨⟨u8CW, M5, (by unfold PySem.W.isFn; rw [T5]; rfl), u9CW⟩, ok_who (fun_mk (st := sWho_init) L5 D5 N5) QCW seatn RCB nCB, PySem.W.mg_of X G mCW, (fun_mk (st := sWho_init) L5 D5 N5).binds (fun _ _ _ _ _ _ us hl => match us, hl with | [_, _], _ => rfl), QCW, wCW_Q⟩
  have QCF : QC K CF ["seat"] := ⟨⟨u1CF, u2CF, u3CF, u4CF⟩, (fun f hf => by rw [List.mem_singleton.mp hf]; exact u5CF_seat), u6CF, q1, q2, u7CF⟩
  have KCF : QM l.prog w K mg base "Filled" CF CQ g6 _ ["self", "seat"] ["seat"] (spQ1 CF CB) := ⟨⟨u8CF, M6, (by unfold PySem.W.isFn; rw [T6]; rfl), u9CF⟩, ok_filled (fun_mk (st := sFilled_init) L6 D6 N6) QCF seatn RCB nCB, PySem.W.mg_of X G mCF, (fun_mk (st := sFilled_init) L6 D6 N6).binds (fun _ _ _ _ _ _ us hl => match us, hl with | [_, _], _ => rfl), QCF, wCF_Q⟩
  have QCT : QC K CT ["seat", "other"] := ⟨⟨u1CT, u2CT, u3CT, u4CT⟩, (fun f hf => by
    rcases List.mem_cons.mp hf with e | hf
    · rw [e]; exact u5CT_seat
    · rw [List.mem_singleton.mp hf]; exact u5CT_other), u6CT, q1, q2, u7CT⟩
  have KCT : QM l.prog w K mg base "Together" CT CQ g7 _ ["self", "seat", "other"] ["seat", "other"] (spQ2 CT CB) := ⟨⟨u8CT, M7, (by unfold PySem.W.isFn; rw [T7]; rfl), u9CT⟩, ok_tog (fun_mk (st := sTogether_init) L7 D7 N7) QCT seatn RCB nCB, PySem.W.mg_of X G mCT, (fun_mk (st := sTogether_init) L7 D7 N7).binds (fun _ _ _ _ _ _ us hl => match us, hl with | [_, _, _], _ => rfl), QCT, wCT_Q⟩
  have QCRR : QC K CRR ["clock", "number"] := ⟨⟨u1CRR, u2CRR, u3CRR, u4CRR⟩, (fun f hf => by
    rcases List.mem_cons.mp hf with e | hf
    · rw [e]; exact u5CRR_clock
    · rw [List.mem_singleton.mp hf]; exact u5CRR_number), u6CRR, q1, q2, u7CRR⟩
  have KCRR : QM l.prog w K mg base "Reached" CRR CQ g8 _ ["self", "clock", "number"] ["clock", "number"] (spQ3 CRR CB) := ⟨⟨u8CRR, M8, (by unfold PySem.W.isFn; rw [T8]; rfl), u9CRR⟩, ok_rch (fun_mk (st := sReached_init) L8 D8 N8) QCRR Msm label whole RCB nCB, PySem.W.mg_of X G mCRR, (fun_mk (st := sReached_init) L8 D8 N8).binds (fun _ _ _ _ _ _ us hl => match us, hl with | [_, _, _], _ => rfl), QCRR, wCRR_Q⟩
  have letters := ok_letters (P := l.prog) (w := w) (mg := mg) (base := base) (fun_mk (st := sLLetters) l11 c11 k11) (PySem.W.mg_of X G a11) T draw
  have new := ok_new (P := l.prog) (w := w) (mg := mg) (base := base) (fun_mk (st := sLNew) l12 c12 k12) (PySem.W.mg_of X G a12) letters
  have labels := ok_labels (P := l.prog) (w := w) (mg := mg) (base := base) (fun_mk (st := sLLabels) l13 c13 k13) (PySem.W.mg_of X G a13) T new
  have people := ok_people (P := l.prog) (w := w) (mg := mg) (base := base) (fun_mk (st := sLPeople) l14 c14 k14) (PySem.W.mg_of X G a14) T draw labels
  have lwhole := ok_lwhole (P := l.prog) (w := w) (mg := mg) (base := base) (fun_mk (st := sLWhole) l15 c15 k15) (PySem.W.mg_of X G a15) T B
  have iss := ok_isstand (P := l.prog) (w := w) (mg := mg) (base := base) (fun_mk (st := sLIsStand) l17 c17 k17) (PySem.W.mg_of X G a17) T B SX (PySem.W.mg_of X G mC) PC GC bC lwhole
  have prog := ok_progstand (P := l.prog) (w := w) (mg := mg) (base := base) (fun_mk (st := sLProgramStand) l18 c18 k18) (PySem.W.mg_of X G a18) B S
  have odd := ok_odd (P := l.prog) (w := w) (mg := mg) (base := base) (fun_mk (st := sOdd) l19 c19 k19) (PySem.W.mg_of X G a19) one
  have parts := ok_parts (P := l.prog) (w := w) (mg := mg) (base := base) (fun_mk (st := sLParts) l20 c20 k20) (PySem.W.mg_of X G a20) T draw letters one people odd
  have wordl := ok_wordL (P := l.prog) (w := w) (mg := mg) (base := base) (fun_mk (st := sWord) l21 c21 k21) (PySem.W.mg_of X G a21) T B llab lwhole
  have ltry := ok_ltry (P := l.prog) (w := w) (mg := mg) (base := base) (fun_mk (st := sLTry) l22 c22 k22) (PySem.W.mg_of X G a22) B (PySem.W.mg_none_of X G z_ValueError) S YCS
  have lren := ok_lrenamed (P := l.prog) (w := w) (mg := mg) (base := base) (fun_mk (st := sLRenamed) l25 c25 k25) (PySem.W.mg_of X G a25) B SX MR GR bR YCM
  have lmap := ok_lmap (P := l.prog) (w := w) (mg := mg) (base := base) (fun_mk (st := sLMap) l23 c23 k23) (PySem.W.mg_of X G a23) T Db draw one labels odd
  have mapw := ok_mapword (P := l.prog) (w := w) (mg := mg) (base := base) (fun_mk (st := sLMapWord) l24 c24 k24) (PySem.W.mg_of X G a24) T B Db llab
  have renames := ok_renames (P := l.prog) (w := w) (mg := mg) (base := base) (fun_mk (st := sLRenames) l26 c26 k26) (PySem.W.mg_of X G a26) T B Db SX PP GP bP MR GR bR OE uCC lmap mapw lren iss
  have refq := ok_refq (P := l.prog) (w := w) (mg := mg) (base := base) (fun_mk (st := sLRefusedQuestion) l27 c27 k27) (PySem.W.mg_of X G a27) B (PySem.W.mg_of X G mCQ) KCW KCF KCT KCRR YCB
  have madeq := ok_madeq (P := l.prog) (w := w) (mg := mg) (base := base) (fun_mk (st := sLMadeQuestions) l28 c28 k28) (PySem.W.mg_of X G a28) one llab lwhole refq
  have we : ∃ b, V.ref ed = .ref b ∧ IsSeq K (fun _ => none) b [] ∧ ∀ H : Hp, SqT K H b [] := ⟨ed, rfl, .wr H2 rfl (fun H => .inr ⟨_, _, _, H2, rfl, rfl, Nat.zero_le _, .nil⟩), fun H => .inr ⟨_, _, _, H2, rfl, rfl, Nat.zero_le _, .nil⟩⟩
  have A : All7 l.prog w K mg base C CS g11 g3 _ _ (V.ref ed) dsD := { hand := hand, draw := draw, parts := parts, word := wordl, try_ := ltry, isS := iss, prog := prog, renames := renames, madeq := madeq, SX := SX, S := S, bD := bDD, rd := rdD, we := we, OE := OE, ne := uAC, nf := uCC, nft := uBC, nsi := wC_any, nst := wC_str }
  exact law_at (fun_mk (st := sLaw) l29 c29 k29) scLaw ⟨rfl, by decide, by decide⟩ (law_body T B A) (fun s v => .of_eq rfl) e0 hS hn
end Kx

set_option maxHeartbeats 8000000
namespace Kx

end Kx
open PySem PySem.W PyProof.Rows
set_option maxRecDepth 100000 in
set_option maxHeartbeats 0 in
theorem PySem.Challenge.cw_searchback_k07_stands_made_renamed_refus_holds : PySem.Challenge.rw_searchback_k07_stands_made_renamed_refus.Holds := by
  w_on; o_law; k_head; (case hw => w_witness2)
  k_fill
  refine Kx.law_walk (l := PySem.Challenge.rw_searchback_k07_stands_made_renamed_refus) rfl rfl (fun w h Y => PySem.W.kIn_of Y) ?F
  case F =>
    intro w mg fa h KX G hmg
    refine' Kx.all_mk KX G hmg ?a0 ?l0 ?c0 ?k0 ?a1 ?l1 ?c1 ?k1 ?a2 ?l2 ?c2 ?k2 ?a3 ?l3 ?c3 ?k3 ?a4 ?l4 ?c4 ?k4 ?a5 ?l5 ?c5 ?k5 ?a6 ?l6 ?c6 ?k6 ?a7 ?l7 ?c7 ?k7 ?a8 ?l8 ?c8 ?k8 ?a9 ?l9 ?c9 ?k9 ?a10 ?l10 ?c10 ?k10 ?a11 ?l11 ?c11 ?k11 ?a12 ?l12 ?c12 ?k12 ?a13 ?l13 ?c13 ?k13 ?a14 ?l14 ?c14 ?k14 ?a15 ?l15 ?c15 ?k15 ?a16 ?l16 ?c16 ?k16 ?a17 ?l17 ?c17 ?k17 ?a18 ?l18 ?c18 ?k18 ?a19 ?l19 ?c19 ?k19 ?a20 ?l20 ?c20 ?k20 ?a21 ?l21 ?c21 ?k21 ?a22 ?l22 ?c22 ?k22 ?a23 ?l23 ?c23 ?k23 ?a24 ?l24 ?c24 ?k24 ?a25 ?l25 ?c25 ?k25 ?a26 ?l26 ?c26 ?k26 ?a27 ?l27 ?c27 ?k27 ?a28 ?l28 ?c28 ?k28 ?a29 ?l29 ?c29 ?k29 ?mC ?mCM ?mCS ?mCB ?mCE ?mCQ ?mCW ?mCF ?mCT ?mCRR ?M0 ?L0 ?D0 ?N0 ?T0 ?M1 ?L1 ?D1 ?N1 ?T1 ?M2 ?L2 ?D2 ?N2 ?T2 ?M3 ?L3 ?D3 ?N3 ?T3 ?M4 ?L4 ?D4 ?N4 ?T4 ?M5 ?L5 ?D5 ?N5 ?T5 ?M6 ?L6 ?D6 ?N6 ?T6 ?M7 ?L7 ?D7 ?N7 ?T7 ?M8 ?L8 ?D8 ?N8 ?T8 ?P0a ?P0b ?P0c ?P0d ?L9 ?D9 ?N9 ?P1a ?P1b ?P1c ?P1d ?L10 ?D10 ?N10 ?M11 ?L11 ?D11 ?N11 ?T11 ?H1 ?A1 ?A2 ?H2 ?u1C ?u2C ?u3C ?u4C ?u5C_room ?u5C_seats ?u5C_clocks ?u6C ?u7C ?u8C ?u9C ?u1CW ?u2CW ?u3CW ?u4CW ?u5CW_seat ?u6CW ?u7CW ?u8CW ?u9CW ?wCW_Q ?u1CF ?u2CF ?u3CF ?u4CF ?u5CF_seat ?u6CF ?u7CF ?u8CF ?u9CF ?wCF_Q ?u1CT ?u2CT ?u3CT ?u4CT ?u5CT_seat ?u5CT_other ?u6CT ?u7CT ?u8CT ?u9CT ?wCT_Q ?u1CRR ?u2CRR ?u3CRR ?u4CRR ?u5CRR_clock ?u5CRR_number ?u6CRR ?u7CRR ?u8CRR ?u9CRR ?wCRR_Q ?uAC ?uBC ?uCC ?wC_str ?wC_tuple ?wC_any ?q1 ?q2 ?nCM ?xCM ?wSCM ?wVCM ?wOCM ?nCS ?xCS ?wSCS ?wVCS ?wOCS ?nCB ?xCB ?wSCB ?wVCB ?wOCB ?y2 ?y3 ?y4 ?y5 ?o1CM ?o2CM ?o3CM ?o4CM ?o5CM ?o6CM ?o7CM ?o8CM ?o9CM ?oACM ?o1CS ?o2CS ?o3CS ?o4CS ?o5CS ?o6CS ?o7CS ?o8CS ?o9CS ?oACS ?o1CB ?o2CB ?o3CB ?o4CB ?o5CB ?o6CB ?o7CB ?o8CB ?o9CB ?oACB ?z_int ?z_abs ?z_len ?z_enumerate ?z_range ?z_isinstance ?z_str ?z_bool ?z_list ?z_tuple ?z_dict ?z_set ?z_ValueError
    (case a0 => first | k_is | exact rfl | kernel_rfl | decide +kernel)
    (case l0 => first | k_is | exact rfl | kernel_rfl | decide +kernel)
    (case c0 => first | k_is | exact rfl | kernel_rfl | decide +kernel)
    (case k0 => first | k_is | exact rfl | kernel_rfl | decide +kernel)
    (case a1 => first | k_is | exact rfl | kernel_rfl | decide +kernel)
    (case l1 => first | k_is | exact rfl | kernel_rfl | decide +kernel)
    (case c1 => first | k_is | exact rfl | kernel_rfl | decide +kernel)
    (case k1 => first | k_is | exact rfl | kernel_rfl | decide +kernel)
    (case a2 => first | k_is | exact rfl | kernel_rfl | decide +kernel)
    (case l2 => first | k_is | exact rfl | kernel_rfl | decide +kernel)
    (case c2 => first | k_is | exact rfl | kernel_rfl | decide +kernel)
    (case k2 => first | k_is | exact rfl | kernel_rfl | decide +kernel)
    (case a3 => first | k_is | exact rfl | kernel_rfl | decide +kernel)
    (case l3 => first | k_is | exact rfl | kernel_rfl | decide +kernel)
    (case c3 => first | k_is | exact rfl | kernel_rfl | decide +kernel)
    (case k3 => first | k_is | exact rfl | kernel_rfl | decide +kernel)
    (case a4 => first | k_is | exact rfl | kernel_rfl | decide +kernel)
    (case l4 => first | k_is | exact rfl | kernel_rfl | decide +kernel)
    (case c4 => first | k_is | exact rfl | kernel_rfl | decide +kernel)
    (case k4 => first | k_is | exact rfl | kernel_rfl | decide +kernel)
    (case a5 => first | k_is | exact rfl | kernel_rfl | decide +kernel)
    (case l5 => first | k_is | exact rfl | kernel_rfl | decide +kernel)
    (case c5 => first | k_is | exact rfl | kernel_rfl | decide +kernel)
    (case k5 => first | k_is | exact rfl | kernel_rfl | decide +kernel)
    (case a6 => first | k_is | exact rfl | kernel_rfl | decide +kernel)
    (case l6 => first | k_is | exact rfl | kernel_rfl | decide +kernel)
    (case c6 => first | k_is | exact rfl | kernel_rfl | decide +kernel)
    (case k6 => first | k_is | exact rfl | kernel_rfl | decide +kernel)
    (case a7 => first | k_is | exact rfl | kernel_rfl | decide +kernel)
    (case l7 => first | k_is | exact rfl | kernel_rfl | decide +kernel)
    (case c7 => first | k_is | exact rfl | kernel_rfl | decide +kernel)
    (case k7 => first | k_is | exact rfl | kernel_rfl | decide +kernel)
    (case a8 => first | k_is | exact rfl | kernel_rfl | decide +kernel)
    (case l8 => first | k_is | exact rfl | kernel_rfl | decide +kernel)
    (case c8 => first | k_is | exact rfl | kernel_rfl | decide +kernel)
    (case k8 => first | k_is | exact rfl | kernel_rfl | decide +kernel)
    (case a9 => first | k_is | exact rfl | kernel_rfl | decide +kernel)
    (case l9 => first | k_is | exact rfl | kernel_rfl | decide +kernel)
    (case c9 => first | k_is | exact rfl | kernel_rfl | decide +kernel)
    (case k9 => first | k_is | exact rfl | kernel_rfl | decide +kernel)
    (case a10 => first | k_is | exact rfl | kernel_rfl | decide +kernel)
    (case l10 => first | k_is | exact rfl | kernel_rfl | decide +kernel)
    (case c10 => first | k_is | exact rfl | kernel_rfl | decide +kernel)
    (case k10 => first | k_is | exact rfl | kernel_rfl | decide +kernel)
    (case a11 => first | k_is | exact rfl | kernel_rfl | decide +kernel)
    (case l11 => first | k_is | exact rfl | kernel_rfl | decide +kernel)
    (case c11 => first | k_is | exact rfl | kernel_rfl | decide +kernel)
    (case k11 => first | k_is | exact rfl | kernel_rfl | decide +kernel)
    (case a12 => first | k_is | exact rfl | kernel_rfl | decide +kernel)
    (case l12 => first | k_is | exact rfl | kernel_rfl | decide +kernel)
    (case c12 => first | k_is | exact rfl | kernel_rfl | decide +kernel)
    (case k12 => first | k_is | exact rfl | kernel_rfl | decide +kernel)
    (case a13 => first | k_is | exact rfl | kernel_rfl | decide +kernel)
    (case l13 => first | k_is | exact rfl | kernel_rfl | decide +kernel)
    (case c13 => first | k_is | exact rfl | kernel_rfl | decide +kernel)
    (case k13 => first | k_is | exact rfl | kernel_rfl | decide +kernel)
    (case a14 => first | k_is | exact rfl | kernel_rfl | decide +kernel)
    (case l14 => first | k_is | exact rfl | kernel_rfl | decide +kernel)
    (case c14 => first | k_is | exact rfl | kernel_rfl | decide +kernel)
    (case k14 => first | k_is | exact rfl | kernel_rfl | decide +kernel)
    (case a15 => first | k_is | exact rfl | kernel_rfl | decide +kernel)
    (case l15 => first | k_is | exact rfl | kernel_rfl | decide +kernel)
    (case c15 => first | k_is | exact rfl | kernel_rfl | decide +kernel)
    (case k15 => first | k_is | exact rfl | kernel_rfl | decide +kernel)
    (case a16 => first | k_is | exact rfl | kernel_rfl | decide +kernel)
    (case l16 => first | k_is | exact rfl | kernel_rfl | decide +kernel)
    (case c16 => first | k_is | exact rfl | kernel_rfl | decide +kernel)
    (case k16 => first | k_is | exact rfl | kernel_rfl | decide +kernel)
    (case a17 => first | k_is | exact rfl | kernel_rfl | decide +kernel)
    (case l17 => first | k_is | exact rfl | kernel_rfl | decide +kernel)
    (case c17 => first | k_is | exact rfl | kernel_rfl | decide +kernel)
    (case k17 => first | k_is | exact rfl | kernel_rfl | decide +kernel)
    (case a18 => first | k_is | exact rfl | kernel_rfl | decide +kernel)
    (case l18 => first | k_is | exact rfl | kernel_rfl | decide +kernel)
    (case c18 => first | k_is | exact rfl | kernel_rfl | decide +kernel)
    (case k18 => first | k_is | exact rfl | kernel_rfl | decide +kernel)
    (case a19 => first | k_is | exact rfl | kernel_rfl | decide +kernel)
    (case l19 => first | k_is | exact rfl | kernel_rfl | decide +kernel)
    (case c19 => first | k_is | exact rfl | kernel_rfl | decide +kernel)
    (case k19 => first | k_is | exact rfl | kernel_rfl | decide +kernel)
    (case a20 => first | k_is | exact rfl | kernel_rfl | decide +kernel)
    (case l20 => first | k_is | exact rfl | kernel_rfl | decide +kernel)
    (case c20 => first | k_is | exact rfl | kernel_rfl | decide +kernel)
    (case k20 => first | k_is | exact rfl | kernel_rfl | decide +kernel)
    (case a21 => first | k_is | exact rfl | kernel_rfl | decide +kernel)
    (case l21 => first | k_is | exact rfl | kernel_rfl | decide +kernel)
    (case c21 => first | k_is | exact rfl | kernel_rfl | decide +kernel)
    (case k21 => first | k_is | exact rfl | kernel_rfl | decide +kernel)
    (case a22 => first | k_is | exact rfl | kernel_rfl | decide +kernel)
    (case l22 => first | k_is | exact rfl | kernel_rfl | decide +kernel)
    (case c22 => first | k_is | exact rfl | kernel_rfl | decide +kernel)
    (case k22 => first | k_is | exact rfl | kernel_rfl | decide +kernel)
    (case a23 => first | k_is | exact rfl | kernel_rfl | decide +kernel)
    (case l23 => first | k_is | exact rfl | kernel_rfl | decide +kernel)
    (case c23 => first | k_is | exact rfl | kernel_rfl | decide +kernel)
    (case k23 => first | k_is | exact rfl | kernel_rfl | decide +kernel)
    (case a24 => first | k_is | exact rfl | kernel_rfl | decide +kernel)
    (case l24 => first | k_is | exact rfl | kernel_rfl | decide +kernel)
    (case c24 => first | k_is | exact rfl | kernel_rfl | decide +kernel)
    (case k24 => first | k_is | exact rfl | kernel_rfl | decide +kernel)
    (case a25 => first | k_is | exact rfl | kernel_rfl | decide +kernel)
    (case l25 => first | k_is | exact rfl | kernel_rfl | decide +kernel)
    (case c25 => first | k_is | exact rfl | kernel_rfl | decide +kernel)
    (case k25 => first | k_is | exact rfl | kernel_rfl | decide +kernel)
    (case a26 => first | k_is | exact rfl | kernel_rfl | decide +kernel)
    (case l26 => first | k_is | exact rfl | kernel_rfl | decide +kernel)
    (case c26 => first | k_is | exact rfl | kernel_rfl | decide +kernel)
    (case k26 => first | k_is | exact rfl | kernel_rfl | decide +kernel)
    (case a27 => first | k_is | exact rfl | kernel_rfl | decide +kernel)
    (case l27 => first | k_is | exact rfl | kernel_rfl | decide +kernel)
    (case c27 => first | k_is | exact rfl | kernel_rfl | decide +kernel)
    (case k27 => first | k_is | exact rfl | kernel_rfl | decide +kernel)
    (case a28 => first | k_is | exact rfl | kernel_rfl | decide +kernel)
    (case l28 => first | k_is | exact rfl | kernel_rfl | decide +kernel)
    (case c28 => first | k_is | exact rfl | kernel_rfl | decide +kernel)
    (case k28 => first | k_is | exact rfl | kernel_rfl | decide +kernel)
    (case a29 => first | k_is | exact rfl | kernel_rfl | decide +kernel)
    (case l29 => first | k_is | exact rfl | kernel_rfl | decide +kernel)
    (case c29 => first | k_is | exact rfl | kernel_rfl | decide +kernel)
    (case k29 => first | k_is | exact rfl | kernel_rfl | decide +kernel)
    (case mC => first | k_is | exact rfl | kernel_rfl | decide +kernel)
    (case mCM => first | k_is | exact rfl | kernel_rfl | decide +kernel)
    (case mCS => first | k_is | exact rfl | kernel_rfl | decide +kernel)
    (case mCB => first | k_is | exact rfl | kernel_rfl | decide +kernel)
    (case mCE => first | k_is | exact rfl | kernel_rfl | decide +kernel)
    (case mCQ => first | k_is | exact rfl | kernel_rfl | decide +kernel)
    (case mCW => first | k_is | exact rfl | kernel_rfl | decide +kernel)
    (case mCF => first | k_is | exact rfl | kernel_rfl | decide +kernel)
    (case mCT => first | k_is | exact rfl | kernel_rfl | decide +kernel)
    (case mCRR => first | k_is | exact rfl | kernel_rfl | decide +kernel)
    (case M0 => first | k_is | exact rfl | kernel_rfl | decide +kernel)
    (case L0 => first | k_is | exact rfl | kernel_rfl | decide +kernel)
    (case D0 => first | k_is | exact rfl | kernel_rfl | decide +kernel)
    (case N0 => first | k_is | exact rfl | kernel_rfl | decide +kernel)
    (case T0 => first | k_is | exact rfl | kernel_rfl | decide +kernel)
    (case M1 => first | k_is | exact rfl | kernel_rfl | decide +kernel)
    (case L1 => first | k_is | exact rfl | kernel_rfl | decide +kernel)
    (case D1 => first | k_is | exact rfl | kernel_rfl | decide +kernel)
    (case N1 => first | k_is | exact rfl | kernel_rfl | decide +kernel)
    (case T1 => first | k_is | exact rfl | kernel_rfl | decide +kernel)
    (case M2 => first | k_is | exact rfl | kernel_rfl | decide +kernel)
    (case L2 => first | k_is | exact rfl | kernel_rfl | decide +kernel)
    (case D2 => first | k_is | exact rfl | kernel_rfl | decide +kernel)
    (case N2 => first | k_is | exact rfl | kernel_rfl | decide +kernel)
    (case T2 => first | k_is | exact rfl | kernel_rfl | decide +kernel)
    (case M3 => first | k_is | exact rfl | kernel_rfl | decide +kernel)
    (case L3 => first | k_is | exact rfl | kernel_rfl | decide +kernel)
    (case D3 => first | k_is | exact rfl | kernel_rfl | decide +kernel)
    (case N3 => first | k_is | exact rfl | kernel_rfl | decide +kernel)
    (case T3 => first | k_is | exact rfl | kernel_rfl | decide +kernel)
    (case M4 => first | k_is | exact rfl | kernel_rfl | decide +kernel)
    (case L4 => first | k_is | exact rfl | kernel_rfl | decide +kernel)
    (case D4 => first | k_is | exact rfl | kernel_rfl | decide +kernel)
    (case N4 => first | k_is | exact rfl | kernel_rfl | decide +kernel)
    (case T4 => first | k_is | exact rfl | kernel_rfl | decide +kernel)
    (case M5 => first | k_is | exact rfl | kernel_rfl | decide +kernel)
    (case L5 => first | k_is | exact rfl | kernel_rfl | decide +kernel)
    (case D5 => first | k_is | exact rfl | kernel_rfl | decide +kernel)
    (case N5 => first | k_is | exact rfl | kernel_rfl | decide +kernel)
    (case T5 => first | k_is | exact rfl | kernel_rfl | decide +kernel)
    (case M6 => first | k_is | exact rfl | kernel_rfl | decide +kernel)
    (case L6 => first | k_is | exact rfl | kernel_rfl | decide +kernel)
    (case D6 => first | k_is | exact rfl | kernel_rfl | decide +kernel)
    (case N6 => first | k_is | exact rfl | kernel_rfl | decide +kernel)
    (case T6 => first | k_is | exact rfl | kernel_rfl | decide +kernel)
    (case M7 => first | k_is | exact rfl | kernel_rfl | decide +kernel)
    (case L7 => first | k_is | exact rfl | kernel_rfl | decide +kernel)
    (case D7 => first | k_is | exact rfl | kernel_rfl | decide +kernel)
    (case N7 => first | k_is | exact rfl | kernel_rfl | decide +kernel)
    (case T7 => first | k_is | exact rfl | kernel_rfl | decide +kernel)
    (case M8 => first | k_is | exact rfl | kernel_rfl | decide +kernel)
    (case L8 => first | k_is | exact rfl | kernel_rfl | decide +kernel)
    (case D8 => first | k_is | exact rfl | kernel_rfl | decide +kernel)
    (case N8 => first | k_is | exact rfl | kernel_rfl | decide +kernel)
    (case T8 => first | k_is | exact rfl | kernel_rfl | decide +kernel)
    (case P0a => first | k_is | exact rfl | kernel_rfl | decide +kernel)
    (case P0b => first | k_is | exact rfl | kernel_rfl | decide +kernel)
    (case P0c => first | k_is | exact rfl | kernel_rfl | decide +kernel)
    (case P0d => first | k_is | exact rfl | kernel_rfl | decide +kernel)
    (case L9 => first | k_is | exact rfl | kernel_rfl | decide +kernel)
    (case D9 => first | k_is | exact rfl | kernel_rfl | decide +kernel)
    (case N9 => first | k_is | exact rfl | kernel_rfl | decide +kernel)
    (case P1a => first | k_is | exact rfl | kernel_rfl | decide +kernel)
    (case P1b => first | k_is | exact rfl | kernel_rfl | decide +kernel)
    (case P1c => first | k_is | exact rfl | kernel_rfl | decide +kernel)
    (case P1d => first | k_is | exact rfl | kernel_rfl | decide +kernel)
    (case L10 => first | k_is | exact rfl | kernel_rfl | decide +kernel)
    (case D10 => first | k_is | exact rfl | kernel_rfl | decide +kernel)
    (case N10 => first | k_is | exact rfl | kernel_rfl | decide +kernel)
    (case M11 => first | k_is | exact rfl | kernel_rfl | decide +kernel)
    (case L11 => first | k_is | exact rfl | kernel_rfl | decide +kernel)
    (case D11 => first | k_is | exact rfl | kernel_rfl | decide +kernel)
    (case N11 => first | k_is | exact rfl | kernel_rfl | decide +kernel)
    (case T11 => first | k_is | exact rfl | kernel_rfl | decide +kernel)
    (case H1 => first | k_is | exact rfl | kernel_rfl | decide +kernel)
    (case A1 => first | k_is | exact rfl | kernel_rfl | decide +kernel)
    (case A2 => first | k_is | exact rfl | kernel_rfl | decide +kernel)
    (case H2 => first | k_is | exact rfl | kernel_rfl | decide +kernel)
    (case u1C => first | k_is | exact rfl | kernel_rfl | decide +kernel)
    (case u2C => first | k_is | exact rfl | kernel_rfl | decide +kernel)
    (case u3C => first | k_is | exact rfl | kernel_rfl | decide +kernel)
    (case u4C => first | k_is | exact rfl | kernel_rfl | decide +kernel)
    (case u5C_room => first | k_is | exact rfl | kernel_rfl | decide +kernel)
    (case u5C_seats => first | k_is | exact rfl | kernel_rfl | decide +kernel)
    (case u5C_clocks => first | k_is | exact rfl | kernel_rfl | decide +kernel)
    (case u6C => first | k_is | exact rfl | kernel_rfl | decide +kernel)
    (case u7C => first | k_is | exact rfl | kernel_rfl | decide +kernel)
    (case u8C => first | k_is | exact rfl | kernel_rfl | decide +kernel)
    (case u9C => first | k_is | exact rfl | kernel_rfl | decide +kernel)
    (case u1CW => first | k_is | exact rfl | kernel_rfl | decide +kernel)
    (case u2CW => first | k_is | exact rfl | kernel_rfl | decide +kernel)
    (case u3CW => first | k_is | exact rfl | kernel_rfl | decide +kernel)
    (case u4CW => first | k_is | exact rfl | kernel_rfl | decide +kernel)
    (case u5CW_seat => first | k_is | exact rfl | kernel_rfl | decide +kernel)
    (case u6CW => first | k_is | exact rfl | kernel_rfl | decide +kernel)
    (case u7CW => first | k_is | exact rfl | kernel_rfl | decide +kernel)
    (case u8CW => first | k_is | exact rfl | kernel_rfl | decide +kernel)
    (case u9CW => first | k_is | exact rfl | kernel_rfl | decide +kernel)
    (case wCW_Q => first | exact rfl | kernel_rfl | decide +kernel)
    (case u1CF => first | k_is | exact rfl | kernel_rfl | decide +kernel)
    (case u2CF => first | k_is | exact rfl | kernel_rfl | decide +kernel)
    (case u3CF => first | k_is | exact rfl | kernel_rfl | decide +kernel)
    (case u4CF => first | k_is | exact rfl | kernel_rfl | decide +kernel)
    (case u5CF_seat => first | k_is | exact rfl | kernel_rfl | decide +kernel)
    (case u6CF => first | k_is | exact rfl | kernel_rfl | decide +kernel)
    (case u7CF => first | k_is | exact rfl | kernel_rfl | decide +kernel)
    (case u8CF => first | k_is | exact rfl | kernel_rfl | decide +kernel)
    (case u9CF => first | k_is | exact rfl | kernel_rfl | decide +kernel)
    (case wCF_Q => first | exact rfl | kernel_rfl | decide +kernel)
    (case u1CT => first | k_is | exact rfl | kernel_rfl | decide +kernel)
    (case u2CT => first | k_is | exact rfl | kernel_rfl | decide +kernel)
    (case u3CT => first | k_is | exact rfl | kernel_rfl | decide +kernel)
    (case u4CT => first | k_is | exact rfl | kernel_rfl | decide +kernel)
    (case u5CT_seat => first | k_is | exact rfl | kernel_rfl | decide +kernel)
    (case u5CT_other => first | k_is | exact rfl | kernel_rfl | decide +kernel)
    (case u6CT => first | k_is | exact rfl | kernel_rfl | decide +kernel)
    (case u7CT => first | k_is | exact rfl | kernel_rfl | decide +kernel)
    (case u8CT => first | k_is | exact rfl | kernel_rfl | decide +kernel)
    (case u9CT => first | k_is | exact rfl | kernel_rfl | decide +kernel)
    (case wCT_Q => first | exact rfl | kernel_rfl | decide +kernel)
    (case u1CRR => first | k_is | exact rfl | kernel_rfl | decide +kernel)
    (case u2CRR => first | k_is | exact rfl | kernel_rfl | decide +kernel)
    (case u3CRR => first | k_is | exact rfl | kernel_rfl | decide +kernel)
    (case u4CRR => first | k_is | exact rfl | kernel_rfl | decide +kernel)
    (case u5CRR_clock => first | k_is | exact rfl | kernel_rfl | decide +kernel)
    (case u5CRR_number => first | k_is | exact rfl | kernel_rfl | decide +kernel)
    (case u6CRR => first | k_is | exact rfl | kernel_rfl | decide +kernel)
    (case u7CRR => first | k_is | exact rfl | kernel_rfl | decide +kernel)
    (case u8CRR => first | k_is | exact rfl | kernel_rfl | decide +kernel)
    (case u9CRR => first | k_is | exact rfl | kernel_rfl | decide +kernel)
    (case wCRR_Q => first | exact rfl | kernel_rfl | decide +kernel)
    (case uAC => first | k_is | exact rfl | kernel_rfl | decide +kernel)
    (case uBC => first | k_is | exact rfl | kernel_rfl | decide +kernel)
    (case uCC => first | k_is | exact rfl | kernel_rfl | decide +kernel)
    (case wC_str => first | exact rfl | kernel_rfl | decide +kernel)
    (case wC_tuple => first | exact rfl | kernel_rfl | decide +kernel)
    (case wC_any => first | exact rfl | kernel_rfl | decide +kernel)
    (case q1 => first | k_is | exact rfl | kernel_rfl | decide +kernel)
    (case q2 => first | k_is | exact rfl | kernel_rfl | decide +kernel)
    (case nCM => first | k_is | exact rfl | kernel_rfl | decide +kernel)
    (case xCM => first | exact rfl | kernel_rfl | decide +kernel)
    (case wSCM => first | exact rfl | kernel_rfl | decide +kernel)
    (case wVCM => first | exact rfl | kernel_rfl | decide +kernel)
    (case wOCM => first | exact rfl | kernel_rfl | decide +kernel)
    (case nCS => first | k_is | exact rfl | kernel_rfl | decide +kernel)
    (case xCS => first | exact rfl | kernel_rfl | decide +kernel)
    (case wSCS => first | exact rfl | kernel_rfl | decide +kernel)
    (case wVCS => first | exact rfl | kernel_rfl | decide +kernel)
    (case wOCS => first | exact rfl | kernel_rfl | decide +kernel)
    (case nCB => first | k_is | exact rfl | kernel_rfl | decide +kernel)
    (case xCB => first | exact rfl | kernel_rfl | decide +kernel)
    (case wSCB => first | exact rfl | kernel_rfl | decide +kernel)
    (case wVCB => first | exact rfl | kernel_rfl | decide +kernel)
    (case wOCB => first | exact rfl | kernel_rfl | decide +kernel)
    (case y2 => first | k_is | exact rfl | kernel_rfl | decide +kernel)
    (case y3 => first | k_is | exact rfl | kernel_rfl | decide +kernel)
    (case y4 => first | k_is | exact rfl | kernel_rfl | decide +kernel)
    (case y5 => first | k_is | exact rfl | kernel_rfl | decide +kernel)
    (case o1CM => exact ⟨_, _, _, _, _, _, _, _, _, _, _, _, _, _, _, rfl, rfl⟩)
    (case o2CM => first | k_is | exact rfl | kernel_rfl | decide +kernel)
    (case o3CM => first | k_is | exact rfl | kernel_rfl | decide +kernel)
    (case o4CM => first | k_is | exact rfl | kernel_rfl | decide +kernel)
    (case o5CM => first | k_is | exact rfl | kernel_rfl | decide +kernel)
    (case o6CM => first | k_is | exact rfl | kernel_rfl | decide +kernel)
    (case o7CM => first | k_is | exact rfl | kernel_rfl | decide +kernel)
    (case o8CM => first | k_is | exact rfl | kernel_rfl | decide +kernel)
    (case o9CM => first | k_is | exact rfl | kernel_rfl | decide +kernel)
    (case oACM => first | k_is | exact rfl | kernel_rfl | decide +kernel)
    (case o1CS => exact ⟨_, _, _, _, _, _, _, _, _, _, _, _, _, _, _, rfl, rfl⟩)
    (case o2CS => first | k_is | exact rfl | kernel_rfl | decide +kernel)
    (case o3CS => first | k_is | exact rfl | kernel_rfl | decide +kernel)
    (case o4CS => first | k_is | exact rfl | kernel_rfl | decide +kernel)
    (case o5CS => first | k_is | exact rfl | kernel_rfl | decide +kernel)
    (case o6CS => first | k_is | exact rfl | kernel_rfl | decide +kernel)
    (case o7CS => first | k_is | exact rfl | kernel_rfl | decide +kernel)
    (case o8CS => first | k_is | exact rfl | kernel_rfl | decide +kernel)
    (case o9CS => first | k_is | exact rfl | kernel_rfl | decide +kernel)
    (case oACS => first | k_is | exact rfl | kernel_rfl | decide +kernel)
    (case o1CB => exact ⟨_, _, _, _, _, _, _, _, _, _, _, _, _, _, _, rfl, rfl⟩)
    (case o2CB => first | k_is | exact rfl | kernel_rfl | decide +kernel)
    (case o3CB => first | k_is | exact rfl | kernel_rfl | decide +kernel)
    (case o4CB => first | k_is | exact rfl | kernel_rfl | decide +kernel)
    (case o5CB => first | k_is | exact rfl | kernel_rfl | decide +kernel)
    (case o6CB => first | k_is | exact rfl | kernel_rfl | decide +kernel)
    (case o7CB => first | k_is | exact rfl | kernel_rfl | decide +kernel)
    (case o8CB => first | k_is | exact rfl | kernel_rfl | decide +kernel)
    (case o9CB => first | k_is | exact rfl | kernel_rfl | decide +kernel)
    (case oACB => first | k_is | exact rfl | kernel_rfl | decide +kernel)
    (case z_int => first | k_is | exact rfl | kernel_rfl | decide +kernel)
    (case z_abs => first | k_is | exact rfl | kernel_rfl | decide +kernel)
    (case z_len => first | k_is | exact rfl | kernel_rfl | decide +kernel)
    (case z_enumerate => first | k_is | exact rfl | kernel_rfl | decide +kernel)
    (case z_range => first | k_is | exact rfl | kernel_rfl | decide +kernel)
    (case z_isinstance => first | k_is | exact rfl | kernel_rfl | decide +kernel)
    (case z_str => first | k_is | exact rfl | kernel_rfl | decide +kernel)
    (case z_bool => first | k_is | exact rfl | kernel_rfl | decide +kernel)
    (case z_list => first | k_is | exact rfl | kernel_rfl | decide +kernel)
    (case z_tuple => first | k_is | exact rfl | kernel_rfl | decide +kernel)
    (case z_dict => first | k_is | exact rfl | kernel_rfl | decide +kernel)
    (case z_set => first | k_is | exact rfl | kernel_rfl | decide +kernel)
    (case z_ValueError => first | k_is | exact rfl | kernel_rfl | decide +kernel)

