import PyProof.Rows.All
import Wide.All
import OpenK.AllK
import Wide.FinOn
import HandS.ForMost
import HandS.Wide
import HandS.Codes
import HandS.Exc
import HandS.TryOnly
import HandS.ExcOwn
import HandS.WordsExc
import HandS.ExcInit
import HandS.ExcField
import HandS.IsInst
import HandS.StrMore
import HandS.Style
import KE.GoesMore
import KE.GoesEnum
import HandS.More
import HandS.IterVal
import KE.KOwnIter
import HandS.Conv
import KE.KDictSum
import HandS.Walk
import PyProof.ReprBulk
import PyProof.ReprRoads
import HandS.ExcIs
import PySem.Challenge.RW_searchback_k01_kinds_and_deeds_made_and
set_option Elab.async false
set_option maxRecDepth 100000
namespace Kx
open PySem L2
def top (i : Nat) : Stmt := PySem.Challenge.pw_searchback_k01_kinds_and_deeds_made_and.main.body.getD i (.Pass ⟨0, 0, 0, 0⟩)
abbrev sBadKinds_init : Stmt := inClass (top 2) 0 -- BadKinds.__init__
abbrev sNoKind_init : Stmt := inClass (top 3) 0 -- NoKind.__init__
abbrev sWhole : Stmt := top 6 -- is_whole(thing, low, high)
abbrev sLabel : Stmt := top 7 -- is_label(thing)
abbrev sSeq : Stmt := top 8 -- is_sequence(thing)
abbrev sKinds_init : Stmt := inClass (top 13) 0 -- Kinds.__init__
abbrev sKinds_eq : Stmt := inClass (top 13) 1 -- Kinds.__eq__
abbrev sKinds_len : Stmt := inClass (top 13) 2 -- Kinds.__len__
abbrev sKinds_iter : Stmt := inClass (top 13) 3 -- Kinds.__iter__
abbrev sKinds_contains : Stmt := inClass (top 13) 4 -- Kinds.__contains__
abbrev sKinds_arity_of : Stmt := inClass (top 13) 5 -- Kinds.arity_of
abbrev sKinds_fault : Stmt := inClass (top 13) 6 -- Kinds.fault
abbrev sRowFault : Stmt := top 14 -- _row_fault(row, arities)
abbrev sMix : Stmt := top 16 -- _law_mix(_law_number, _law_turn)
abbrev sHand : Stmt := top 17 -- _law_hand(_law_script)
abbrev sDraw : Stmt := top 18 -- _law_draw(_law_hand_here, _law_many)
abbrev sOne : Stmt := top 19 -- _law_one(_law_hand_here, _law_rows_here)
abbrev sWord : Stmt := top 20 -- _law_word(_law_hand_here, _law_most)
abbrev sLLabel : Stmt := top 21 -- _law_label(_law_thing)
abbrev sOdd : Stmt := top 22 -- _law_odd(_law_hand_here)
abbrev sLRowDue : Stmt := top 23 -- _law_row_due(_law_row, _law_names)
abbrev sLDeedDue : Stmt := top 24 -- _law_deed_due(_law_rows_here, _law_deed)
abbrev sLKinds : Stmt := top 25 -- _law_kinds(_law_hand_here)
abbrev sLMadeDeed : Stmt := top 26 -- _law_made_deed(_law_hand_here, _law_rows_here, _law_persons_here)
abbrev sLOddDeed : Stmt := top 27 -- _law_odd_deed(_law_hand_here, _law_rows_here, _law_persons_here)
abbrev sLPersons : Stmt := top 28 -- _law_persons(_law_hand_here)
abbrev sLRows : Stmt := top 29 -- _law_rows(_law_hand_here)
abbrev sLDue : Stmt := top 30 -- _law_due(_law_rows_here)
abbrev sLRefused : Stmt := top 31 -- _law_refused(_law_rows_here)
abbrev sLArityOf : Stmt := top 32 -- _law_arity_of(_law_kinds_here, _law_name)
abbrev sLaw : Stmt := top 33 -- law(_law_script)
end Kx

set_option maxHeartbeats 4000000
namespace Kx
open PySem L2
section
variable {P : Program} {w : World} {K : PySem.W.Frag} {mg : Str → Option Value} {base : Heap}
structure Bl (mg : Str → Option Value) : Prop where
  int : mg "int" = none
  abs : mg "abs" = none
  len : mg "len" = none
  enumerate : mg "enumerate" = none
  range : mg "range" = none
def spMix : Sp := fun vs H Q _ => ∃ a b : Int, vs = [.int a, .int b] ∧ ∀ z : Int, Q (.int z) H
structure Has (P : Program) (w : World) (K : PySem.W.Frag) (mg : Str → Option Value) (base : Heap) (x : Str) (k : Nat) (ps : List Str) (sp : Sp) (f : Addr) (fd : FuncData) : Prop where
  G : FnOk P w K mg base CX0 k f fd ps sp
  m : mg x = some (.ref f)
  kp : PySem.W.keepIn K (.ref f) = true
  b : Binds K fd ps []
def HasF (P : Program) (w : World) (K : PySem.W.Frag) (mg : Str → Option Value) (base : Heap) (x : Str) (k : Nat) (ps : List Str) (sp : Sp) : Prop := ∃ f fd, Has P w K mg base x k ps sp f fd
theorem scMix : FnScope ["_law_number", "_law_turn", "_law_once", "_law_twice"] ["_law_number", "_law_turn"] (defScope sMix) := ⟨rfl, rfl, rfl, by decide +kernel, rfl, by decide +kernel, by decide +kernel⟩
theorem small31 {z : Int} {m : Int} (h : 0 < m) (h' : m ≤ 2147483648) : CMul (z % m) (z % m) := by
  have h1 := Int.emod_nonneg z (show m ≠ 0 by omega)
  have h2 := Int.emod_lt_of_pos z h
  exact .inl ⟨by omega, by omega⟩
theorem ok_mix {f : Addr} {fd : FuncData} (F : Fun K "_law_mix" "_law_mix" sMix f fd) (m : mg "_law_mix" = some (.ref f)) (T : Bl mg) : HasF P w K mg base "_law_mix" 1 ["_law_number", "_law_turn"] spMix := by
  refine ⟨f, fd, ?_, m, F.kp, F.binds fun _ _ _ _ _ _ us hl => match us, hl with | [_, _], _ => rfl⟩
  refine F.ok scMix (fun vs H Q E h => ?_) (fun cdv A outer s H vs Q E hr h => ?_)
  · obtain ⟨a, b, rfl, _⟩ := h
    rfl
  · obtain ⟨a, b, rfl, k⟩ := h
    refine ⟨_, pss_cons (ps_set (i := 2) scMix.nd rfl (Or.inl rfl) (pe_op op_mod (pe_callTy call_int1 (by rfl) T.int (by decide +kernel) (pa_cons (pe_op op_add (pe_op op_add (pe_op op_mul (pv 0) pe_int) (pe_op op_mul (pv 1) pe_int)) pe_int) pa_nil)) pe_int))
      (pss_cons (ps_set (i := 3) scMix.nd rfl (Or.inl rfl) (pe_op op_mod (pe_callTy call_int1 (by rfl) T.int (by decide +kernel) (pa_cons (pe_op op_add (pe_op op_add (pe_op op_mul (pv 2) (pv 2)) (pe_op op_mul (pe_op op_fdiv (pv 2) pe_int) pe_int)) (pe_op op_mul (pv 1) pe_int)) pa_nil)) pe_int))
      (pss_one (ps_ret (pe_op op_fdiv (pe_op op_mod (pe_callTy call_int1 (by rfl) T.int (by decide +kernel) (pa_cons (pe_op op_add (pe_op op_fdiv (pe_op op_mul (pv 3) (pv 3)) pe_int) (pv 2)) pa_nil)) pe_int) pe_int)))), ?_⟩
    refine ⟨_, rfl, _, _, rfl, rfl, .inr ⟨by decide, by decide⟩, _, rfl, _, _, rfl, rfl, .inr ⟨by decide, by decide⟩, _, _, rfl, rfl, _, _, rfl, rfl, .inl ⟨_, rfl, _, _, rfl, rfl, (by show (0 : Int) < _; decide), ?_⟩⟩
    refine ⟨_, rfl, _, rfl, _, _, rfl, rfl, small31 (by decide) (by decide), _, rfl, _, _, rfl, rfl, ⟨by decide, by decide⟩, _, _, rfl, rfl, .inr ⟨by decide, by decide⟩, _, _, rfl, rfl, _, rfl, _, _, rfl, rfl, .inr ⟨by decide, by decide⟩, _, _, rfl, rfl, .inl ⟨_, rfl, _, _, rfl, rfl, (by show (0 : Int) < _; decide), ?_⟩⟩
    refine ⟨_, rfl, _, rfl, _, _, rfl, rfl, small31 (by decide) (by decide), _, _, rfl, rfl, ⟨by decide, by decide⟩, _, rfl, _, _, rfl, rfl, .inl ⟨_, rfl, _, _, rfl, rfl, (by show (0 : Int) < _; decide), _, _, rfl, rfl, ⟨by decide, by decide⟩, ?_⟩⟩
    exact k _
/-- the hand at p: what is left of the script, and three counters -/
def HandAt (H : Hp) (p q : Addr) : Prop := ∃ (cs : List Int) (a : Nat) (b c : Int), H p = some (.lst [.ref q, .int a, .int b, .int c]) ∧ H q = some (.lst (cs.map V.int))
/-- all but p is as it was -/
def Keep (H H' : Hp) (p : Addr) : Prop := ∀ b o, H b = some o → b ≠ p → H' b = some o
theorem Keep.refl {H : Hp} {p : Addr} : Keep H H p := fun _ _ h _ => h
theorem Keep.trans {H H1 H2 : Hp} {p : Addr} (a : Keep H H1 p) (b : Keep H1 H2 p) : Keep H H2 p := fun c o h e => b c o (a c o h e) e
theorem Keep.upd {H H1 : Hp} {p : Addr} {o : HO} (a : Keep H H1 p) : Keep H (upd H1 p o) p := fun c u h e => by rw [upd_ne e]; exact a c u h e
theorem HandAt.ne {H : Hp} {p q : Addr} {xs ys : List V} (h : H p = some (.lst (.ref q :: xs))) {cs : List Int} (h' : H q = some (.lst (cs.map V.int))) : q ≠ p := by
  intro e
  subst e
  rw [h] at h'
  cases cs with
  | nil => exact nomatch h'
  | cons c cs => exact nomatch h'
def spDraw : Sp := fun vs H Q _ => ∃ (p q : Addr) (m : Int), vs = [.ref p, .int m] ∧ HandAt H p q ∧ 0 < m ∧ m.natAbs < 2 ^ 200 ∧
  ∀ (z : Int) (H' : Hp), 0 ≤ z → z < m → HandAt H' p q → Keep H H' p → Q (.int z) H'
theorem scDraw : FnScope ["_law_hand_here", "_law_many", "_law_cell", "_law_rest"] ["_law_hand_here", "_law_many"] (defScope sDraw) := ⟨rfl, rfl, rfl, by decide +kernel, rfl, by decide +kernel, by decide +kernel⟩
theorem ok_draw {f : Addr} {fd : FuncData} (F : Fun K "_law_draw" "_law_draw" sDraw f fd) (m : mg "_law_draw" = some (.ref f)) (T : Bl mg) (M : HasF P w K mg base "_law_mix" 1 ["_law_number", "_law_turn"] spMix) : HasF P w K mg base "_law_draw" 2 ["_law_hand_here", "_law_many"] spDraw := by
  refine ⟨f, fd, ?_, m, F.kp, F.binds fun _ _ _ _ _ _ us hl => match us, hl with | [_, _], _ => rfl⟩
  obtain ⟨f1, fd1, M⟩ := M
  refine F.ok scDraw (fun vs H Q E h => ?_) (fun cdv A outer s H vs Q E hr h => ?_)
  · obtain ⟨a, b, c, rfl, _⟩ := h
    rfl
  · obtain ⟨p, q, m, rfl, ⟨cs, a, b, c, hp, hq⟩, m0, m1, k⟩ := h
    have nqp : q ≠ p := HandAt.ne (ys := []) hp hq
    refine ⟨_, C8.pss_cut (ps_if (PW.pt (pw_and (pt_cmpR op_eq (pe_ix ix_list (pv 0) pe_int (fun _ _ => rfl)) pe_int (nomark _)) (pw_and1 (pt_cmpR op_lt (pe_ix ix_list (pv 0) pe_int (fun _ _ => rfl)) (pe_callB call_len_seq (by rfl) T.len PySem.boot_len (pa_cons (pe_ix ix_list (pv 0) pe_int (fun _ _ => rfl)) pa_nil)) (nomark _)))))
        (pss_cons (ps_set (i := 2) scDraw.nd rfl (Or.inl rfl) (pe_ix ix_list (pe_ix ix_list (pv 0) pe_int (fun _ _ => rfl)) (pe_ix ix_list (pv 0) pe_int (fun _ _ => rfl)) (fun _ _ => rfl)))
        (pss_cons (ps_asg (pe_op op_add (pe_ix ix_list (pv 0) pe_int (fun _ _ => rfl)) pe_int) (pg_sub (pv 0) pe_int set_list))
        (pss_cons (ps_if (pt_cmpR op_lt (pv 2) (pe_op op_pow pe_int pe_int) (nomark _)) (pss_one (ps_ret (pe_op op_mod (pe_callTy call_int1 (by rfl) T.int (by decide +kernel) (pa_cons (pe_call M.G hr (by rfl) M.m M.kp M.b .nil pass0 (pa_cons (pe_op op_mod (pe_callTy call_int1 (by rfl) T.int (by decide +kernel) (pa_cons (pv 2) pa_nil)) pe_int) (pa_cons (pe_ix ix_list (pv 0) pe_int (fun _ _ => rfl)) pa_nil))) pa_nil)) (pv 1)))) pss_nil)
        (pss_one (ps_asg (pv 2) (pg_sub (pv 0) pe_int set_list)))))) pss_nil)
      (pss_cons (ps_if (pt_cmpR op_gt (pe_ix ix_list (pv 0) pe_int (fun _ _ => rfl)) pe_int (nomark _))
        (pss_cons (ps_set (i := 3) scDraw.nd rfl (Or.inl rfl) (pe_ix ix_list (pv 0) pe_int (fun _ _ => rfl)))
        (pss_cons (ps_asg (pe_op op_fdivW (pv 3) (pv 1)) (pg_sub (pv 0) pe_int set_list))
        (pss_one (ps_ret (pe_op op_mod (pe_callTy call_int1 (by rfl) T.int (by decide +kernel) (pa_cons (pv 3) pa_nil)) (pv 1)))))) pss_nil)
      (pss_cons (ps_asg (pe_op op_mod (pe_callTy call_int1 (by rfl) T.int (by decide +kernel) (pa_cons (pe_op op_add (pe_ix ix_list (pv 0) pe_int (fun _ _ => rfl)) pe_int) pa_nil)) pe_int) (pg_sub (pv 0) pe_int set_list))
      (pss_one (ps_ret (pe_op op_mod (pe_callTy call_int1 (by rfl) T.int (by decide +kernel) (pa_cons (pe_call M.G hr (by rfl) M.m M.kp M.b .nil pass0 (pa_cons (pe_ix ix_list (pv 0) pe_int (fun _ _ => rfl)) (pa_cons (pe_ix ix_list (pv 0) pe_int (fun _ _ => rfl)) pa_nil))) pa_nil)) (pv 1)))))), ?_⟩
    refine ⟨fun σ H1 => ∃ (x y : Option V) (a : Nat) (b c : Int), σ = [some (.ref p), some (.int m), x, y] ∧ H1 p = some (.lst [.ref q, .int a, .int b, .int c]) ∧ H1 q = some (.lst (cs.map V.int)) ∧ Keep H H1 p, ?_, ?_⟩
    · refine ⟨_, rfl, p, _, _, _, rfl, rfl, SqL.of hp, by rfl, rfl, _, rfl, ?_⟩
      refine ite2 (fun _ => ?_) (fun _ => ?_)
      · refine ⟨_, rfl, p, _, _, _, rfl, rfl, SqL.of hp, by rfl, _, rfl, p, _, _, _, rfl, rfl, SqL.of hp, by rfl, q, _, rfl, .inl (SqL.of hq), _, _, rfl, rfl, _, rfl, ?_⟩
        refine ite2 (fun h1 => ?_) (fun _ => ?_)
        · have h1 : (a : Int) < ((cs.map V.int).length : Nat) := of_decide_eq_true h1
          rw [List.length_map] at h1
          have h2 : a < cs.length := by omega
          have h3 : (cs.map V.int)[a]? = some (V.int cs[a]) := by rw [List.getElem?_map, List.getElem?_eq_getElem h2]; rfl
          have hq' : ∀ o, (upd H p o) q = some (.lst (cs.map V.int)) := fun o => by rw [upd_ne nqp]; exact hq
          refine ⟨_, rfl, p, _, _, _, rfl, rfl, SqL.of hp, by rfl, _, rfl, p, _, _, _, rfl, rfl, SqL.of hp, by rfl, q, _, _, _, rfl, rfl, SqL.of hq, atI_nat h3, ?_⟩
          refine ⟨_, rfl, p, _, _, _, rfl, rfl, SqL.of hp, by rfl, _, _, rfl, rfl, _, rfl, p, _, _, _, rfl, rfl, hp, by rfl, ?_⟩
          refine ⟨_, rfl, _, _, rfl, rfl, ⟨by decide, by decide, by decide⟩, _, _, rfl, rfl, _, rfl, ?_⟩
          refine ite2 (fun _ => ?_) (fun _ => ?_)
          · refine ⟨_, rfl, .inl ⟨_, rfl, _, _, rfl, rfl, (by show (0 : Int) < _; decide), _, rfl, p, _, _, _, rfl, rfl, SqL.of upd_same, by rfl, _, _, rfl, fun z => .inl ⟨_, rfl, _, rfl, _, _, rfl, rfl, m0, ?_⟩⟩⟩
            exact k _ _ (Int.emod_nonneg _ (by omega)) (Int.emod_lt_of_pos _ m0) ⟨cs, a + 1, b, c, upd_same, hq' _⟩ Keep.refl.upd
          · refine ⟨_, rfl, _, rfl, p, _, _, _, rfl, rfl, upd_same, by rfl, ?_⟩
            refine ⟨_, _, a + 1, cs[a], c, rfl, upd_same, ?_, Keep.refl.upd.upd⟩
            rw [upd_upd]
            exact hq' _
        · exact ⟨_, _, a, b, c, rfl, hp, hq, Keep.refl⟩
      · exact ⟨_, _, a, b, c, rfl, hp, hq, Keep.refl⟩
    · rintro σ H1 ⟨x, y, a, b, c, rfl, hp, hq, kp⟩
      have hq' : ∀ o, (upd H1 p o) q = some (.lst (cs.map V.int)) := fun o => by rw [upd_ne nqp]; exact hq
      refine ⟨_, rfl, p, _, _, _, rfl, rfl, SqL.of hp, by rfl, _, _, rfl, rfl, _, rfl, ?_⟩
      refine ite2 (fun _ => ?_) (fun _ => ?_)
      · refine ⟨_, rfl, p, _, _, _, rfl, rfl, SqL.of hp, by rfl, _, rfl, _, rfl, _, _, rfl, rfl, wide_div m0 m1 (by decide) (by decide), _, rfl, p, _, _, _, rfl, rfl, hp, by rfl, ?_⟩
        refine ⟨_, rfl, .inl ⟨_, rfl, _, rfl, _, _, rfl, rfl, m0, ?_⟩⟩
        exact k _ _ (Int.emod_nonneg _ (by omega)) (Int.emod_lt_of_pos _ m0) ⟨cs, a, _, c, upd_same, hq' _⟩ kp.upd
      · refine ⟨_, rfl, p, _, _, _, rfl, rfl, SqL.of hp, by rfl, _, _, rfl, rfl, .inl ⟨_, rfl, _, _, rfl, rfl, (by show (0 : Int) < _; decide), _, rfl, p, _, _, _, rfl, rfl, hp, by rfl, ?_⟩⟩
        refine ⟨_, rfl, p, _, _, _, rfl, rfl, SqL.of upd_same, by rfl, _, rfl, p, _, _, _, rfl, rfl, SqL.of upd_same, by rfl, _, _, rfl, fun z => .inl ⟨_, rfl, _, rfl, _, _, rfl, rfl, m0, ?_⟩⟩
        exact k _ _ (Int.emod_nonneg _ (by omega)) (Int.emod_lt_of_pos _ m0) ⟨cs, a, _, _, upd_same, hq' _⟩ kp.upd
/-- over enumerate(list), the list standing still -/
theorem for_enum {K : PySem.W.Frag} {a : Addr} {xs : List V} {g : TG} {tb : TS} {D : Ends} {σ : St} {H : Hp} (W : Nat → St → Hp → Prop) (start : W 0 σ H) (still : ∀ i σ H, W i σ H → SqL K H a xs)
    (turn : ∀ i x σ H T, xs[i]? = some x → W i σ H → H T = none → g (.ref T) σ (upd H T (.tup [.int (i : Nat), x])) fun σ2 H2 => tb { D with nx := W (i + 1), ct := W (i + 1), bk := D.nx } σ2 H2) (after : ∀ σ H, W xs.length σ H → D.nx σ H) :
    ∃ U : Nat → Nat → St → Hp → Prop, (∃ m, U 0 m σ H) ∧ ∀ i m σ H, U i m σ H → ((Ite K a).stop i H ∧ D.nx σ H) ∨ ((Ite K a).go i H ∧ ∃ N : St → Hp → Prop, (∀ σ' H', N σ' H' → ∃ m', m' < m ∧ U (i + 1) m' σ' H') ∧
      ∀ x H', (Ite K a).yld i H x H' → g x σ H' fun σ2 H2 => tb { D with nx := N, ct := N, bk := D.nx } σ2 H2) := by
  refine ⟨fun i m σ H => m + i = xs.length ∧ W i σ H, ⟨xs.length, by omega, start⟩, fun i m σ H u => ?_⟩
  obtain ⟨e, u⟩ := u
  cases m with
  | zero =>
    have e : i = xs.length := by omega
    subst e
    exact .inl ⟨⟨xs, still _ _ _ u, Nat.le_refl _⟩, after _ _ u⟩
  | succ m =>
    have lt : i < xs.length := by omega
    refine .inr ⟨⟨xs, xs[i], still _ _ _ u, List.getElem?_eq_getElem lt⟩, W (i + 1), fun σ' H' u' => ⟨m, Nat.lt_succ_self _, by omega, u'⟩, fun x H' y => ?_⟩
    obtain ⟨T, z, rfl, free, rfl, same⟩ := y
    exact turn i z σ H T (same xs (still _ _ _ u)) u free
def spHand (K : PySem.W.Frag) : Sp := fun vs H Q _ => ∃ (a : Addr) (ns : List Int), vs = [.ref a] ∧ SqL K H a (ns.map V.int) ∧ ns.length ≤ 63 ∧ ∀ (p q : Addr) (H' : Hp), H p = none → H q = none → q ≠ p → HandAt H' p q → Same H H' → Q (.ref p) H'
theorem sameUpd {H H1 : Hp} {p : Addr} {o : HO} (s : Same H H1) (h : H1 p = none) : Same H (upd H1 p o) := fun b u e => by
  have e1 := s b u e
  rw [upd_ne (ne_of_none e1 h)]
  exact e1
theorem item_int {ns : List Int} {i : Nat} {y : V} (h : (ns.map V.int)[i]? = some y) : ∃ z, y = V.int z ∧ ns[i]? = some z := by
  rw [List.getElem?_map] at h
  cases e : ns[i]? with
  | none => rw [e] at h; cases h
  | some z => rw [e] at h; exact ⟨z, (Option.some.inj h).symm, rfl⟩
theorem scHand : FnScope ["_law_script", "_law_total", "_law_k", "_law_cell"] ["_law_script"] (defScope sHand) := ⟨rfl, rfl, rfl, by decide +kernel, rfl, by decide +kernel, by decide +kernel⟩
theorem ok_hand {f : Addr} {fd : FuncData} (F : Fun K "_law_hand" "_law_hand" sHand f fd) (m : mg "_law_hand" = some (.ref f)) (T : Bl mg) : HasF P w K mg base "_law_hand" 1 ["_law_script"] (spHand K) := by
  refine ⟨f, fd, ?_, m, F.kp, F.binds fun _ _ _ _ _ _ us hl => match us, hl with | [_], _ => rfl⟩
  refine F.ok scHand (fun vs H Q E h => ?_) (fun cdv A outer s H vs Q E hr h => ?_)
  · obtain ⟨a, b, rfl, _⟩ := h
    rfl
  · obtain ⟨a, ns, rfl, hS, hl, k⟩ := h
    refine ⟨_, pss_cons (ps_set (i := 1) scHand.nd rfl (Or.inl rfl) pe_int)
      (pss_cons (ps_for PassesOwn.never rfl (pi_enum (by rfl) T.enumerate (pa_cons (pv 0) pa_nil)) (pg_tup rfl (pgs_cons (pg_name (i := 2) scHand.nd rfl (.inl rfl)) (pgs_cons (pg_name (i := 3) scHand.nd rfl (.inl rfl)) pgs_nil)))
        (pss_one (ps_set (i := 1) scHand.nd rfl (Or.inl rfl) (pe_op op_mod (pe_callTy call_int1 (by rfl) T.int (by decide +kernel) (pa_cons (pe_op op_add (pe_op op_mul (pv 1) pe_int) (pe_op op_mul (pe_callTy call_int1 (by rfl) T.int (by decide +kernel) (pa_cons (pv 3) pa_nil)) (pe_op op_add (pv 2) pe_int))) pa_nil)) pe_int))))
      (pss_one (ps_ret (pe_lst (pa_cons (pe_lc (own := [("_law_cell", 3)]) (g := gName 3) (tt := tYes) (by rfl) scHand.nd (pi_list (pv 0)) (blkOk_by (own := [("_law_cell", 3)]) (N := ["_law_script", "_law_total", "_law_k", "_law_cell"]) (sc := defScope sHand) (by decide +kernel))
          (fun _ _ _ _ _ => pg_name (i := 3) scHand.nd rfl (Or.inl rfl)) (fun _ _ _ _ _ => pts_nil) (fun _ _ _ _ _ => (pe_callB call_abs (by rfl) T.abs (by decide +kernel) (pa_cons (pe_callTy call_int1 (by rfl) T.int (by decide +kernel) (pa_cons (pv 3) pa_nil)) pa_nil))))
        (pa_cons pe_int (pa_cons pe_int (pa_cons (pv 1) pa_nil)))))))), ?_⟩
    refine ⟨_, rfl, a, _, rfl, hS, for_enum (K := K) (a := a) (xs := ns.map V.int) (fun i σ H2 => ∃ (t : Int) (x y : Option V), σ = [some (.ref a), some (.int t), x, y] ∧ Same H H2 ∧ True) ⟨_, _, _, rfl, Same.refl _, trivial⟩ (fun i σ H2 ⟨_, _, _, _, s2, _⟩ => s2.seq hS) ?_ ?_⟩
    · rintro i x σ H2 T hi ⟨t, c, d, rfl, s2, _⟩ free
      obtain ⟨z, rfl, hz⟩ := item_int hi
      have hlt : i < ns.length := (List.getElem?_eq_some_iff.mp hz).1
      refine ⟨T, _, rfl, SqT.of upd_same, rfl, _, _, rfl, _, _, rfl, rfl, ?_⟩
      refine ⟨_, rfl, _, _, rfl, rfl, .inr ⟨by decide, by decide⟩, _, rfl, .inl ⟨_, rfl, _, rfl, _, _, rfl, rfl, _, _, rfl, rfl, .inr ⟨by omega, by omega⟩, _, _, rfl, rfl, .inl ⟨_, rfl, _, _, rfl, rfl, (by show (0 : Int) < _; decide), ?_⟩⟩⟩
      exact ⟨_, _, _, rfl, sameUpd s2 free, trivial⟩
    · rintro σ H2 ⟨t, c, d, rfl, s2, _⟩
      have q : ∀ (b : Int) (l : List Int), (l ++ [b]).map V.int = l.map V.int ++ [V.int b] := fun b l => by rw [List.map_append]; rfl
      refine ⟨_, rfl, a, rfl, ⟨_, s2.seq hS⟩, fun D hD => lc_list (K := K) (a := a) (xs := ns.map V.int) (fun i H3 => Same H H3 ∧ ∃ cs : List Int, cs.length = i ∧ H3 D = some (.lst (cs.map V.int))) ⟨sameUpd s2 hD, [], rfl, upd_same⟩ (fun i H3 _ w => w.1.seq hS) ?_ ?_⟩
      · rintro i y H3 hi ⟨s3, cs, hc, hd⟩
        obtain ⟨z, rfl, hz⟩ := item_int hi
        have hlt : i < ns.length := (List.getElem?_eq_some_iff.mp hz).1
        refine ⟨rfl, ?_⟩
        refine ⟨_, rfl, .inl ⟨_, rfl, _, rfl, cs.map V.int, hd, small1000 (by rw [List.length_map]; omega), ?_⟩⟩
        have e : H D = none := s2.free hD
        refine ⟨fun b u e' => ?_, cs ++ [_], by rw [List.length_append, hc]; rfl, by rw [q]; exact upd_same⟩
        rw [upd_ne (ne_of_none e' e)]
        exact s3 b u e'
      · rintro H3 ⟨s3, cs, hc, hd⟩
        refine ⟨_, rfl, (by show 4 ≤ sizeLine; decide), fun p hp => ?_⟩
        have np : p ≠ D := fun e => by rw [e, hd] at hp; cases hp
        exact k p D _ (s3.free hp) (s2.free hD) np.symm ⟨cs, 0, 0, _, upd_same, by rw [upd_ne np.symm]; exact hd⟩ (sameUpd s3 hp)
/-- every sign a letter from a to z -/
def Low (z : Str) : Prop := ∀ c ∈ z.cps.toList, 97 ≤ c ∧ c ≤ 122
theorem abc_at : ∀ n : Fin 26, (Str.ofString "abcdefghijklmnopqrstuvwxyz").cps.toList[n.1]? = some (97 + n.1) := by decide +kernel
theorem abc_ix {z : Int} (h : 0 ≤ z) (h' : z < 26) : atI (Str.ofString "abcdefghijklmnopqrstuvwxyz").cps.toList z = some (97 + z.toNat) := by
  obtain ⟨n, rfl⟩ : ∃ n : Nat, z = n := ⟨z.toNat, by omega⟩
  exact atI_nat (abc_at ⟨n, by omega⟩)
theorem len_app (a b : Str) : (a ++ b).length = a.length + b.length := Array.size_append
theorem cps_app (a b : Str) : (a ++ b).cps.toList = a.cps.toList ++ b.cps.toList := Array.toList_append
theorem Low.app {a b : Str} (h : Low a) (h' : Low b) : Low (a ++ b) := fun c hc => by
  rw [cps_app] at hc
  rcases List.mem_append.mp hc with e | e
  · exact h c e
  · exact h' c e
theorem Low.one {n : Nat} (h : n < 26) : Low ⟨#[97 + n]⟩ := fun c hc => by
  have e : c = 97 + n := by simpa using hc
  omega
theorem Low.nil : Low (Str.ofString "") := fun c hc => by
  have e : (Str.ofString "").cps.toList = [] := by decide +kernel
  rw [e] at hc
  cases hc
def spOne : Sp := fun vs H Q _ => ∃ (p q r : Addr) (xs : List V), vs = [.ref p, .ref r] ∧ HandAt H p q ∧ H r = some (.lst xs) ∧ r ≠ p ∧ 0 < xs.length ∧ xs.length ≤ 1000 ∧
  ∀ (x : V) (H' : Hp), x ∈ xs → HandAt H' p q → Keep H H' p → Q x H'
def spWord : Sp := fun vs H Q _ => ∃ (p q : Addr) (m : Int), vs = [.ref p, .int m] ∧ HandAt H p q ∧ 0 < m ∧ m ≤ 10 ∧
  ∀ (z : Str) (H' : Hp), 0 < z.length → z.length ≤ m.toNat → Low z → HandAt H' p q → Keep H H' p → Q (.str z) H'
theorem scOne : FnScope ["_law_hand_here", "_law_rows_here"] ["_law_hand_here", "_law_rows_here"] (defScope sOne) := ⟨rfl, rfl, rfl, by decide +kernel, rfl, by decide +kernel, by decide +kernel⟩
theorem ok_one {f : Addr} {fd : FuncData} (F : Fun K "_law_one" "_law_one" sOne f fd) (m : mg "_law_one" = some (.ref f)) (T : Bl mg) (D : HasF P w K mg base "_law_draw" 2 ["_law_hand_here", "_law_many"] spDraw) : HasF P w K mg base "_law_one" 3 ["_law_hand_here", "_law_rows_here"] spOne := by
  refine ⟨f, fd, ?_, m, F.kp, F.binds fun _ _ _ _ _ _ us hl => match us, hl with | [_, _], _ => rfl⟩
  obtain ⟨f1, fd1, D⟩ := D
  refine F.ok scOne (fun vs H Q E h => ?_) (fun cdv A outer s H vs Q E hr h => ?_)
  · obtain ⟨a, b, c, d, rfl, _⟩ := h
    rfl
  · obtain ⟨p, q, r, xs, rfl, hp, hx, ne, h0, h9, k⟩ := h
    refine ⟨_, pss_one (ps_ret (pe_ix ix_list (pv 1) (pe_call D.G hr (by rfl) D.m D.kp D.b .nil pass0 (pa_cons (pv 0) (pa_cons (pe_callB call_len_seq (by rfl) T.len PySem.boot_len (pa_cons (pv 1) pa_nil)) pa_nil))) (fun _ _ => rfl))), ?_⟩
    have hz : xs.length < 2 ^ 200 := Nat.lt_of_le_of_lt h9 (by decide)
    refine ⟨_, rfl, _, rfl, _, rfl, r, _, rfl, .inl (SqL.of hx), p, q, _, rfl, hp, by omega, by rw [Int.natAbs_natCast]; exact hz, fun z H1 z0 z1 hp1 k1 => ?_⟩
    obtain ⟨n, rfl⟩ : ∃ n : Nat, z = n := ⟨z.toNat, by omega⟩
    have lt : n < xs.length := by omega
    exact ⟨r, xs, n, _, rfl, rfl, SqL.of (k1 r _ hx ne), atI_nat (List.getElem?_eq_getElem lt), k _ _ (List.getElem_mem lt) hp1 k1⟩
theorem scWord : FnScope ["_law_hand_here", "_law_most", "_law_word_here", "_law_k"] ["_law_hand_here", "_law_most"] (defScope sWord) := ⟨rfl, rfl, rfl, by decide +kernel, rfl, by decide +kernel, by decide +kernel⟩
theorem ok_word {f : Addr} {fd : FuncData} (F : Fun K "_law_word" "_law_word" sWord f fd) (m : mg "_law_word" = some (.ref f)) (T : Bl mg) (D : HasF P w K mg base "_law_draw" 2 ["_law_hand_here", "_law_many"] spDraw) : HasF P w K mg base "_law_word" 3 ["_law_hand_here", "_law_most"] spWord := by
  refine ⟨f, fd, ?_, m, F.kp, F.binds fun _ _ _ _ _ _ us hl => match us, hl with | [_, _], _ => rfl⟩
  obtain ⟨f1, fd1, D⟩ := D
  refine F.ok scWord (fun vs H Q E h => ?_) (fun cdv A outer s H vs Q E hr h => ?_)
  · obtain ⟨a, b, c, rfl, _⟩ := h
    rfl
  · obtain ⟨p, q, m, rfl, hp, m0, m1, k⟩ := h
    refine ⟨_, pss_cons (ps_set (i := 2) scWord.nd rfl (Or.inl rfl) pe_str)
      (pss_cons (ps_for PassesOwn.never rfl (pi_range1 (by rfl) T.range (pa_cons (pe_op op_add pe_int (pe_call D.G hr (by rfl) D.m D.kp D.b .nil pass0 (pa_cons (pv 0) (pa_cons (pv 1) pa_nil)))) pa_nil)) (pg_name (i := 3) scWord.nd rfl (.inl rfl))
        (pss_one (ps_set (i := 2) scWord.nd rfl (Or.inl rfl) (pe_op op_add_str (pv 2) (pe_ix ix_str pe_str (pe_call D.G hr (by rfl) D.m D.kp D.b .nil pass0 (pa_cons (pv 0) (pa_cons pe_int pa_nil))) (fun _ _ => rfl))))))
      (pss_one (ps_ret (pv 2)))), ?_⟩
    refine ⟨_, rfl, _, rfl, p, q, m, rfl, hp, m0, by omega, fun z H1 z0 z1 hp1 k1 => ?_⟩
    refine ⟨_, _, rfl, rfl, _, rfl, by omega, by omega, for_range (n := (1 + z).toNat) (fun i σ H2 => ∃ (t : Str) (x : Option V), σ = [some (.ref p), some (.int m), some (.str t), x] ∧ t.length = i ∧ Low t ∧ HandAt H2 p q ∧ Keep H H2 p)
      ⟨_, _, rfl, rfl, Low.nil, hp1, k1⟩ ?_ ?_⟩
    · rintro i σ H2 hi ⟨t, x, rfl, ht, lt, hp2, k2⟩
      refine ⟨_, rfl, _, rfl, p, q, 26, rfl, hp2, by decide, by decide, fun y H3 y0 y1 hp3 k3 => ?_⟩
      refine ⟨_, y, _, rfl, rfl, by decide, abc_ix y0 y1, _, _, rfl, rfl, ?_, ?_⟩
      · show t.length + 1 ≤ sizeLine
        exact small1000 (by omega)
      · exact ⟨_, _, rfl, by rw [len_app, ht]; rfl, lt.app (Low.one (by omega)), hp3, k2.trans k3⟩
    · rintro σ H2 ⟨t, x, rfl, ht, lt, hp2, k2⟩
      exact ⟨_, rfl, k t H2 (by omega) (by omega) lt hp2 k2⟩
/-- the kinds of things that are asked -/
inductive Kd (H : Hp) : V → String → Prop where
  | non : Kd H .non "NoneType"
  | bl (b : Bool) : Kd H (.bl b) "bool"
  | int (i : Int) : Kd H (.int i) "int"
  | str (z : Str) : Kd H (.str z) "str"
  | lst (a : Addr) (xs : List V) (h : H a = some (.lst xs)) : Kd H (.ref a) "list"
  | tup (a : Addr) (xs : List V) (h : H a = some (.tup xs)) : Kd H (.ref a) "tuple"
  | dct (a : Addr) (xs : List (Key × V)) (h : H a = some (.dK xs)) : Kd H (.ref a) "dict"
theorem Kd.ty {K : PySem.W.Frag} {H : Hp} {x : V} {n : String} (k : Kd H x n) : TyX K H x (.type n) := by
  cases k with
  | non => exact .base .non
  | bl b => exact .base (.bl _)
  | int i => exact .base (.int _)
  | str z => exact .base (.str _)
  | lst a xs h => exact .base (.lst h)
  | tup a xs h => exact .base (.tup h)
  | dct a xs h => exact .base (.dK h)
theorem Kd.kits {H : Hp} {x : V} {n : String} (k : Kd H x n) : n ∈ ["NoneType", "bool", "int", "str", "list", "tuple", "dict"] := by cases k <;> decide
structure Bm (mg : Str → Option Value) : Prop where
  isinstance : mg "isinstance" = none
  str : mg "str" = none
  bool : mg "bool" = none
  list : mg "list" = none
  tuple : mg "tuple" = none
  longest : ∃ t, mg "LONGEST_LABEL" = some (.int 6 t)
theorem kit_int {n : String} (h : n ∈ ["NoneType", "bool", "int", "str", "list", "tuple", "dict"]) : kitB n "int" = some (n == "int" || n == "bool") := by
  simp only [List.mem_cons, List.not_mem_nil, or_false] at h
  rcases h with h | h | h | h | h | h | h <;> (subst h; decide +kernel)
theorem kit_bool {n : String} (h : n ∈ ["NoneType", "bool", "int", "str", "list", "tuple", "dict"]) : kitB n "bool" = some (n == "bool") := by
  simp only [List.mem_cons, List.not_mem_nil, or_false] at h
  rcases h with h | h | h | h | h | h | h <;> (subst h; decide +kernel)
theorem kit_str {n : String} (h : n ∈ ["NoneType", "bool", "int", "str", "list", "tuple", "dict"]) : kitB n "str" = some (n == "str") := by
  simp only [List.mem_cons, List.not_mem_nil, or_false] at h
  rcases h with h | h | h | h | h | h | h <;> (subst h; decide +kernel)
theorem kit_list {n : String} (h : n ∈ ["NoneType", "bool", "int", "str", "list", "tuple", "dict"]) : kitB n "list" = some (n == "list") := by
  simp only [List.mem_cons, List.not_mem_nil, or_false] at h
  rcases h with h | h | h | h | h | h | h <;> (subst h; decide +kernel)
theorem kit_tuple {n : String} (h : n ∈ ["NoneType", "bool", "int", "str", "list", "tuple", "dict"]) : kitB n "tuple" = some (n == "tuple") := by
  simp only [List.mem_cons, List.not_mem_nil, or_false] at h
  rcases h with h | h | h | h | h | h | h <;> (subst h; decide +kernel)
/-- a whole number from lo to hi -/
def wholeV (x : V) (lo hi : Int) : Bool := match x with
  | .int i => decide (lo ≤ i) && decide (i ≤ hi)
  | _ => false
def spWhole : Sp := fun vs H Q _ => ∃ (x : V) (n : String) (lo hi : Int), vs = [x, .int lo, .int hi] ∧ Kd H x n ∧ Q (.bl (wholeV x lo hi)) H
theorem scWhole : FnScope ["thing", "low", "high"] ["thing", "low", "high"] (defScope sWhole) := ⟨rfl, rfl, rfl, by decide +kernel, rfl, by decide +kernel, by decide +kernel⟩
theorem ok_whole {f : Addr} {fd : FuncData} (F : Fun K "is_whole" "is_whole" sWhole f fd) (m : mg "is_whole" = some (.ref f)) (T : Bl mg) (B : Bm mg) : HasF P w K mg base "is_whole" 1 ["thing", "low", "high"] spWhole := by
  refine ⟨f, fd, ?_, m, F.kp, F.binds fun _ _ _ _ _ _ us hl => match us, hl with | [_, _, _], _ => rfl⟩
  refine F.ok scWhole (fun vs H Q E h => ?_) (fun cdv A outer s H vs Q E hr h => ?_)
  · obtain ⟨a, b, c, d, rfl, _⟩ := h
    rfl
  · obtain ⟨x, n, lo, hi, rfl, hk, k⟩ := h
    refine ⟨_, pss_one (ps_ret (pe_and (pe_callB call_isi (by rfl) B.isinstance (by decide +kernel) (pa_cons (pv 0) (pa_cons (pe_bltn (v := .ty "int") (by rfl) T.int (by decide +kernel) rfl) pa_nil))) (pe_and (pe_not (pe_callB call_isi (by rfl) B.isinstance (by decide +kernel) (pa_cons (pv 0) (pa_cons (pe_bltn (v := .ty "bool") (by rfl) B.bool (by decide +kernel) rfl) pa_nil)))) (pe_one (pe_chain op_le op_le (pv 1) (pv 0) (pv 2)))))), ?_⟩
    refine ⟨_, rfl, x, _, _, _, _, rfl, .ty _, hk.ty, kit_ty (kit_int hk.kits), _, rfl, ?_⟩
    cases hk with
    | int i =>
      refine iteT ⟨_, rfl, .int i, _, _, _, _, rfl, .ty _, (Kd.int (H := H) i).ty, kit_ty (kit_bool (Kd.int (H := H) i).kits), _, rfl, _, rfl, ?_⟩
      refine iteT ⟨_, rfl, _, rfl, _, _, rfl, rfl, _, rfl, ?_⟩
      refine ite2 (fun h1 => ?_) (fun h1 => ?_)
      · have h1 : lo ≤ i := of_decide_eq_true h1
        refine ⟨_, rfl, _, _, rfl, rfl, ?_⟩
        have e : wholeV (.int i) lo hi = decide (i ≤ hi) := by simp [wholeV, h1]
        rw [e] at k
        exact k
      · have h1 : ¬ lo ≤ i := fun z => h1 (decide_eq_true z)
        have e : wholeV (.int i) lo hi = false := by simp [wholeV, h1]
        rw [e] at k
        exact k
    | bl b =>
      refine iteT ⟨_, rfl, .bl b, _, _, _, _, rfl, .ty _, (Kd.bl (H := H) b).ty, kit_ty (kit_bool (Kd.bl (H := H) b).kits), _, rfl, _, rfl, ?_⟩
      exact iteF k
    | non => exact iteF k
    | str z => exact iteF k
    | lst a xs h => exact iteF k
    | tup a xs h => exact iteF k
    | dct a xs h => exact iteF k
/-! labels -/
def isLow (c : Nat) : Bool := decide (97 ≤ c) && decide (c ≤ 122)
def isLab (z : Str) : Bool := decide (1 ≤ z.length) && (decide (z.length ≤ 6) && z.cps.toList.all isLow)
def labV (x : V) : Bool := match x with
  | .str z => isLab z
  | _ => false
theorem low_alpha : ∀ n : Fin 128, isLow n.1 = (Unicode.isAlpha n.1 && !(Unicode.isUpper n.1 || Unicode.isTitle n.1)) := by decide +kernel
theorem low_lower : ∀ n : Fin 128, isLow n.1 = true → Unicode.isLower n.1 = true := by decide +kernel
theorem low_small {c : Nat} (h : isLow c = true) : c < 128 := by
  simp only [isLow, Bool.and_eq_true, decide_eq_true_eq] at h
  omega
theorem three (z : Str) (h : 1 ≤ z.length) : (PySem.Txt.isascii z && (PySem.Txt.isalpha z && PySem.Txt.islower z)) = z.cps.toList.all isLow := by
  have hl : z.cps.toList.length = z.length := by simp [Str.length]
  unfold PySem.Txt.isascii PySem.Txt.isalpha PySem.Txt.islower
  rw [← Array.all_toList, ← Array.all_toList, ← Array.any_toList, ← Array.any_toList]
  generalize z.cps.toList = l at hl
  cases e : l.all isLow with
  | true =>
    rw [List.all_eq_true] at e
    have a1 : l.all (fun c => decide (c < 128)) = true := List.all_eq_true.mpr fun c hc => decide_eq_true (low_small (e c hc))
    have a2 : l.all Unicode.isAlpha = true := List.all_eq_true.mpr fun c hc => by
      have q := low_alpha ⟨c, low_small (e c hc)⟩
      rw [show isLow c = true from e c hc] at q
      exact (Bool.and_eq_true_iff.mp q.symm).1
    have a3 : l.any Unicode.isLower = true := by
      cases l with
      | nil => simp only [List.length_nil] at hl; omega
      | cons c l => exact List.any_eq_true.mpr ⟨c, List.mem_cons_self, low_lower ⟨c, low_small (e c List.mem_cons_self)⟩ (e c List.mem_cons_self)⟩
    have a4 : (l.any fun c => Unicode.isUpper c || Unicode.isTitle c) = false := List.any_eq_false.mpr fun c hc => by
      have q := low_alpha ⟨c, low_small (e c hc)⟩
      rw [show isLow c = true from e c hc] at q
      have q2 := (Bool.and_eq_true_iff.mp q.symm).2
      intro z
      rw [z] at q2
      cases q2
    rw [a1, a2, a3, a4]
    have h' : decide (z.length > 0) = true := decide_eq_true (by omega)
    rw [h']
    rfl
  | false =>
    obtain ⟨c, hc, hn⟩ := List.all_eq_false.mp e
    cases a1 : l.all (fun c => decide (c < 128)) with
    | false => rfl
    | true =>
      cases a2 : l.all Unicode.isAlpha with
      | false => simp
      | true =>
        have b1 : c < 128 := of_decide_eq_true (List.all_eq_true.mp a1 c hc)
        have b2 : Unicode.isAlpha c = true := List.all_eq_true.mp a2 c hc
        have q := low_alpha ⟨c, b1⟩
        simp only [b2, Bool.true_and] at q
        have q1 : isLow c = false := by
          cases z : isLow c
          · rfl
          · exact absurd z hn
        rw [q1] at q
        have a4 : (l.any fun c => Unicode.isUpper c || Unicode.isTitle c) = true := List.any_eq_true.mpr ⟨c, hc, by
          cases z : (Unicode.isUpper c || Unicode.isTitle c)
          · rw [z] at q; cases q
          · rfl⟩
        rw [a4]
        simp
def spLabel : Sp := fun vs H Q _ => ∃ (x : V) (n : String), vs = [x] ∧ Kd H x n ∧ (∀ z, x = .str z → z.length ≤ sizeLine) ∧ Q (.bl (labV x)) H
theorem scLabel : FnScope ["thing"] ["thing"] (defScope sLabel) := ⟨rfl, rfl, rfl, by decide +kernel, rfl, by decide +kernel, by decide +kernel⟩
theorem ok_label {f : Addr} {fd : FuncData} (F : Fun K "is_label" "is_label" sLabel f fd) (m : mg "is_label" = some (.ref f)) (T : Bl mg) (B : Bm mg) : HasF P w K mg base "is_label" 1 ["thing"] spLabel := by
  refine ⟨f, fd, ?_, m, F.kp, F.binds fun _ _ _ _ _ _ us hl => match us, hl with | [_], _ => rfl⟩
  obtain ⟨tL, mL⟩ := B.longest
  refine F.ok scLabel (fun vs H Q E h => ?_) (fun cdv A outer s H vs Q E hr h => ?_)
  · obtain ⟨a, b, rfl, _⟩ := h
    rfl
  · obtain ⟨x, n, rfl, hk, hz, k⟩ := h
    refine ⟨_, pss_cons (ps_if (PW.pt (pw_or (pt_not (pt_val (pe_callB call_isi (by rfl) B.isinstance (by decide +kernel) (pa_cons (pv 0) (pa_cons (pe_bltn (v := .ty "str") (by rfl) B.str (by decide +kernel) rfl) pa_nil))))) (pw_or1 (pt_not (pt_chain op_le op_le pe_int (pe_callB call_len_str (by rfl) T.len PySem.boot_len (pa_cons (pv 0) pa_nil)) (pe_glob (v := .int 6) rfl mL ⟨_, rfl⟩)))))) (pss_one (ps_ret pe_bl)) pss_nil)
      (pss_one (ps_ret (pe_and (pe_m0 PySem.F.slot_str_isascii PySem.F.type_str_isascii mt_isascii (pv 0)) (pe_and (pe_m0 PySem.F.slot_str_isalpha PySem.F.type_str_isalpha mt_isalpha (pv 0)) (pe_one (pe_m0 PySem.F.slot_str_islower PySem.F.type_str_islower mt_islower (pv 0))))))), ?_⟩
    refine ⟨_, rfl, x, _, _, _, _, rfl, .ty _, hk.ty, kit_ty (kit_str hk.kits), _, rfl, ?_⟩
    cases hk with
    | str z =>
      have hz := hz z rfl
      refine iteF ?_
      refine ⟨_, rfl, z, rfl, hz, _, _, rfl, rfl, _, rfl, ?_⟩
      refine ite2 (fun h1 => ?_) (fun h1 => ?_)
      · have h1 : (1 : Int) ≤ (z.length : Nat) := of_decide_eq_true h1
        have h1' : 1 ≤ z.length := by omega
        refine ⟨_, _, rfl, rfl, _, rfl, ?_⟩
        refine ite2 (fun h2 => ?_) (fun h2 => ?_)
        · have h2 : ¬ (z.length : Int) ≤ 6 := fun e => by rw [decide_eq_true e] at h2; cases h2
          have e : labV (.str z) = false := by
            show isLab z = false
            unfold isLab
            rw [decide_eq_false (show ¬ z.length ≤ 6 by omega), Bool.false_and, Bool.and_false]
          rw [e] at k
          exact k
        · have h2 : (z.length : Int) ≤ 6 := Classical.byContradiction fun e => h2 (by rw [decide_eq_false e]; rfl)
          have e : labV (.str z) = (PySem.Txt.isascii z && (PySem.Txt.isalpha z && PySem.Txt.islower z)) := by
            rw [three z h1']
            show isLab z = _
            unfold isLab
            rw [decide_eq_true h1', decide_eq_true (show z.length ≤ 6 by omega), Bool.true_and, Bool.true_and]
          rw [e] at k
          refine ⟨_, rfl, ⟨_, rfl⟩, _, rfl, rfl, trivial, _, rfl, ?_⟩
          cases e1 : PySem.Txt.isascii z with
          | false => rw [e1] at k; exact iteF k
          | true =>
            rw [e1, Bool.true_and] at k
            refine iteT ⟨_, rfl, ⟨_, rfl⟩, _, rfl, rfl, trivial, _, rfl, ?_⟩
            cases e2 : PySem.Txt.isalpha z with
            | false => rw [e2] at k; exact iteF k
            | true =>
              rw [e2, Bool.true_and] at k
              exact iteT ⟨_, rfl, ⟨_, rfl⟩, _, rfl, rfl, trivial, k⟩
      · have h1 : ¬ (1 : Int) ≤ (z.length : Nat) := fun e => h1 (decide_eq_true e)
        have e : labV (.str z) = false := by
          show isLab z = false
          unfold isLab
          rw [decide_eq_false (show ¬ 1 ≤ z.length by omega), Bool.false_and]
        rw [e] at k
        exact ⟨_, rfl, iteT k⟩
    | int i => exact iteT k
    | bl b => exact iteT k
    | non => exact iteT k
    | lst a xs h => exact iteT k
    | tup a xs h => exact iteT k
    | dct a xs h => exact iteT k
def seqV (n : String) : Bool := n == "list" || n == "tuple"
def spSeq : Sp := fun vs H Q _ => ∃ (x : V) (n : String), vs = [x] ∧ Kd H x n ∧ ∀ H', Same H H' → Q (.bl (seqV n)) H'
theorem scSeq : FnScope ["thing"] ["thing"] (defScope sSeq) := ⟨rfl, rfl, rfl, by decide +kernel, rfl, by decide +kernel, by decide +kernel⟩
theorem kit_seq {K : PySem.W.Frag} {n : String} (h : n ∈ ["NoneType", "bool", "int", "str", "list", "tuple", "dict"]) : PySem.W.kitAny K (.type n) [.type "list", .type "tuple"] = some (seqV n) := by
  refine kitAny_cons (kit_ty (kit_list h)) (fun e => kitAny_cons (kit_ty (kit_tuple h)) (fun e2 => ?_) (fun e2 => ?_)) (fun e => ?_)
  · unfold seqV; rw [e, e2]; exact kitAny_nil
  · unfold seqV; rw [e, e2]; rfl
  · unfold seqV; rw [e]; rfl
theorem Kd.keep {H H' : Hp} {x : V} {n : String} (k : Kd H x n) (s : Same H H') : Kd H' x n := by
  cases k with
  | non => exact .non
  | bl b => exact .bl b
  | int i => exact .int i
  | str z => exact .str z
  | lst a xs h => exact .lst a xs (s _ _ h)
  | tup a xs h => exact .tup a xs (s _ _ h)
  | dct a xs h => exact .dct a xs (s _ _ h)
theorem ok_seq {f : Addr} {fd : FuncData} (F : Fun K "is_sequence" "is_sequence" sSeq f fd) (m : mg "is_sequence" = some (.ref f)) (B : Bm mg) : HasF P w K mg base "is_sequence" 1 ["thing"] spSeq := by
  refine ⟨f, fd, ?_, m, F.kp, F.binds fun _ _ _ _ _ _ us hl => match us, hl with | [_], _ => rfl⟩
  refine F.ok scSeq (fun vs H Q E h => ?_) (fun cdv A outer s H vs Q E hr h => ?_)
  · obtain ⟨a, b, rfl, _⟩ := h
    rfl
  · obtain ⟨x, n, rfl, hk, k⟩ := h
    refine ⟨_, pss_one (ps_ret (pe_callB call_isiT (by rfl) B.isinstance (by decide +kernel) (pa_cons (pv 0) (pa_cons (pe_tup (pa_cons (pe_bltn (v := .ty "list") (by rfl) B.list (by decide +kernel) rfl) (pa_cons (pe_bltn (v := .ty "tuple") (by rfl) B.tuple (by decide +kernel) rfl) pa_nil))) pa_nil)))), ?_⟩
    refine ⟨_, rfl, by decide, fun t ht => ?_⟩
    exact ⟨x, t, _, _, _, _, rfl, upd_same, .cons (.ty _) (.cons (.ty _) .nil), (hk.keep (sameUpd (Same.refl _) ht)).ty, kit_seq hk.kits, k _ (sameUpd (Same.refl _) ht)⟩
def cV (c : Nat) : V := .str (SX.S [c])
theorem map_cV (l : List Nat) : l.map cV = (l.map fun c => SX.S [c]).map V.str := by rw [List.map_map]; rfl
theorem keepUpd {H H1 : Hp} {p a : Addr} {o : HO} (k : Keep H H1 p) (h : H a = none) : Keep H (upd H1 a o) p := fun b u e ne => by
  rw [upd_ne (ne_of_none e h)]
  exact k b u e ne
theorem HandAt.upd {H : Hp} {p q a : Addr} {o : HO} (h : HandAt H p q) (n1 : a ≠ p) (n2 : a ≠ q) : HandAt (upd H a o) p q := by
  obtain ⟨cs, x, b, c, h1, h2⟩ := h
  exact ⟨cs, x, b, c, by rw [upd_ne n1.symm]; exact h1, by rw [upd_ne n2.symm]; exact h2⟩
theorem HandAt.ap {H : Hp} {p q a : Addr} (h : HandAt H p q) (ha : H a = none) : a ≠ p := by
  obtain ⟨cs, x, b, c, h1, h2⟩ := h
  exact (ne_of_none h1 ha).symm
theorem HandAt.aq {H : Hp} {p q a : Addr} (h : HandAt H p q) (ha : H a = none) : a ≠ q := by
  obtain ⟨cs, x, b, c, h1, h2⟩ := h
  exact (ne_of_none h2 ha).symm
theorem HandAt.same {H H' : Hp} {p q : Addr} (h : HandAt H p q) (s : Same H H') : HandAt H' p q := by
  obtain ⟨cs, x, b, c, h1, h2⟩ := h
  exact ⟨cs, x, b, c, s _ _ h1, s _ _ h2⟩
theorem Same.keep {H H' : Hp} {p : Addr} (s : Same H H') : Keep H H' p := fun b o e _ => s b o e
/-- texts as data -/
def dS (ys : List Str) : List PyData := ys.map PyData.str
theorem dp_strs {K : PySem.W.Frag} {H : Hp} : ∀ ys : List Str, DpAll K H (ys.map V.str) (dS ys)
  | [] => .nil
  | y :: ys => .cons (.str y) (dp_strs ys)
def Ok (ys : List Str) : Prop := ∀ y ∈ ys, PyData.strOk y = true
theorem low_ok {z : Str} (h : Low z) : PyData.strOk z = true := by
  unfold PyData.strOk
  rw [← Array.all_toList]
  exact List.all_eq_true.mpr fun c hc => decide_eq_true (by have := h c hc; omega)
theorem lay_strs {ys : List Str} (h : Ok ys) : PyData.canLayAll0 (dS ys) = true := by
  unfold dS
  rw [PyProof.Rows.canLayAll_strs']
  exact List.all_eq_true.mpr h
theorem deep_strs : ∀ ys : List Str, PyData.depthAll (dS ys) ≤ 1
  | [] => Nat.zero_le _
  | y :: ys => by
    have ih := deep_strs ys
    show max (PyData.depth (.str y)) (PyData.depthAll (dS ys)) ≤ 1
    have e : PyData.depth (.str y) = 0 := rfl
    omega
theorem shaped_list {ys : List Str} (ok : Ok ys) : SeqAt.shaped (.list (dS ys)) = true := by
  have h := lay_strs ok
  have h2 := deep_strs ys
  have h3 : PyData.depth (.list (dS ys)) ≤ 64 := by
    show PyData.depthAll (dS ys) + 1 ≤ 64
    omega
  unfold SeqAt.shaped
  rw [decide_eq_true h3, Bool.and_true]
  exact h
/-- a comprehension over a text's signs -/
theorem lc_str {z : Str} {g : TG} {tt : TT} {te : TE} {vs : List Nat} {σ : St} {H1 : Hp} {D : Addr} {Qd : Hp → Prop} (W : Nat → Hp → Prop) (start : W 0 (upd H1 D (.lst [])))
    (turn : ∀ i c H, z.cps[i]? = some c → W i H → g (.str ⟨#[c]⟩) (wipe σ vs) H fun σ2 H2 => wipe σ2 vs = wipe σ vs ∧ tt σ2 H2 fun b H3 =>
      if b = true then te σ2 H3 fun y H4 => ∃ acc, H4 D = some (.lst acc) ∧ acc.length < sizeLine ∧ W (i + 1) (upd H4 D (.lst (acc ++ [y]))) else W (i + 1) H3) (after : ∀ H, W z.cps.size H → Qd H) :
    ∃ U : Nat → Nat → Hp → Prop, (∃ m, U 0 m (upd H1 D (.lst []))) ∧ ∀ i m H, U i m H → ((Its z).stop i H ∧ Qd H) ∨ ((Its z).go i H ∧ ∃ Nx : Hp → Prop, (∀ H', Nx H' → ∃ m', m' < m ∧ U (i + 1) m' H') ∧
      ∀ x H', (Its z).yld i H x H' → g x (wipe σ vs) H' fun σ2 H2 => wipe σ2 vs = wipe σ vs ∧ tt σ2 H2 fun b H3 => if b = true then te σ2 H3 fun y H4 => ∃ acc, H4 D = some (.lst acc) ∧ acc.length < sizeLine ∧ Nx (upd H4 D (.lst (acc ++ [y]))) else Nx H3) := by
  refine ⟨fun i m H => m + i = z.cps.size ∧ W i H, ⟨z.cps.size, by omega, start⟩, fun i m H u => ?_⟩
  obtain ⟨e, u⟩ := u
  cases m with
  | zero =>
    obtain rfl : i = z.cps.size := by omega
    exact .inl ⟨Nat.le_refl _, after _ u⟩
  | succ m =>
    have lt : i < z.cps.size := by omega
    refine .inr ⟨lt, W (i + 1), fun H' u' => ⟨m, Nat.lt_succ_self _, by omega, u'⟩, fun x H' y => ?_⟩
    obtain ⟨rfl, c, hc, rfl⟩ := y
    exact turn i c _ hc u
def spLLab : Sp := fun vs H Q _ => ∃ (x : V) (n : String), vs = [x] ∧ Kd H x n ∧ (∀ z, x = .str z → PyData.strOk z = true ∧ z.length ≤ 100) ∧ ∀ H', Same H H' → Q (.bl (labV x)) H'
theorem eqv_nil : ∀ ys : List Str, PyData.eqv (.list (dS ys)) (.list []) = ys.isEmpty
  | [] => rfl
  | y :: ys => rfl
/-- the signs that are no letters from a to z -/
def bad (l : List Nat) : List Nat := l.filter fun c => !isLow c
theorem bad_nil (l : List Nat) : (bad l).isEmpty = l.all isLow := by
  unfold bad
  induction l with
  | nil => rfl
  | cons c l ih =>
    rw [List.filter_cons, List.all_cons, ← ih]
    cases isLow c <;> rfl
theorem abc_in : ∀ c, decide (c ∈ (Str.ofString "abcdefghijklmnopqrstuvwxyz").cps.toList) = isLow c := fun c => by
  have e : (Str.ofString "abcdefghijklmnopqrstuvwxyz").cps.toList = (List.range 26).map (97 + ·) := by decide +kernel
  rw [e]
  unfold isLow
  by_cases h : c ∈ (List.range 26).map (97 + ·)
  · obtain ⟨j, hj, rfl⟩ := List.mem_map.mp h
    have := List.mem_range.mp hj
    rw [decide_eq_true h, decide_eq_true (show 97 ≤ 97 + j by omega), decide_eq_true (show 97 + j ≤ 122 by omega)]
    rfl
  · rw [decide_eq_false h]
    by_cases h1 : 97 ≤ c
    · have h2 : ¬ c ≤ 122 := fun h2 => h (List.mem_map.mpr ⟨c - 97, List.mem_range.mpr (by omega), by omega⟩)
      rw [decide_eq_false h2, Bool.and_false]
    · rw [decide_eq_false h1, Bool.false_and]
theorem scLLabel : FnScope ["_law_thing", "_law_letter"] ["_law_thing"] (defScope sLLabel) := ⟨rfl, rfl, rfl, by decide +kernel, rfl, by decide +kernel, by decide +kernel⟩
theorem ok_llab {f : Addr} {fd : FuncData} (F : Fun K "_law_label" "_law_label" sLLabel f fd) (m : mg "_law_label" = some (.ref f)) (T : Bl mg) (B : Bm mg) : HasF P w K mg base "_law_label" 1 ["_law_thing"] spLLab := by
  refine ⟨f, fd, ?_, m, F.kp, F.binds fun _ _ _ _ _ _ us hl => match us, hl with | [_], _ => rfl⟩
  refine F.ok scLLabel (fun vs H Q E h => ?_) (fun cdv A outer s H vs Q E hr h => ?_)
  · obtain ⟨a, b, rfl, _⟩ := h
    rfl
  · obtain ⟨x, n, rfl, hk, hz, k⟩ := h
    refine ⟨_, pss_cons (ps_if (PW.pt (pw_or (pt_not (pt_val (pe_callB call_isi (by rfl) B.isinstance (by decide +kernel) (pa_cons (pv 0) (pa_cons (pe_bltn (v := .ty "str") (by rfl) B.str (by decide +kernel) rfl) pa_nil))))) (pw_or1 (pt_not (pt_chain op_le op_le pe_int (pe_callB call_len_str (by rfl) T.len PySem.boot_len (pa_cons (pv 0) pa_nil)) pe_int))))) (pss_one (ps_ret pe_bl)) pss_nil)
      (pss_one (ps_ret (pe_cmpR (op_eqD hr.units) (pe_lc (own := [("_law_letter", 1)]) (g := gName 1) (by rfl) scLLabel.nd (pi_str (pv 0)) (blkOk_by (own := [("_law_letter", 1)]) (N := ["_law_thing", "_law_letter"]) (sc := defScope sLLabel) (by decide +kernel))
          (fun _ _ _ _ _ => pg_name (i := 1) scLLabel.nd rfl (Or.inl rfl)) (fun _ _ _ _ _ => pts_one (pt_cmpR op_notIn_sign (pv 1) pe_str (by rfl))) (fun _ _ _ _ _ => pv 1)) (pe_lst pa_nil) (nomark _)))), ?_⟩
    refine ⟨_, rfl, x, _, _, _, _, rfl, .ty _, hk.ty, kit_ty (kit_str hk.kits), _, rfl, ?_⟩
    cases hk with
    | str z =>
      obtain ⟨hok, hz⟩ := hz z rfl
      refine iteF ?_
      refine ⟨_, rfl, z, rfl, Nat.le_of_lt (small1000 (by omega)), _, _, rfl, rfl, _, rfl, ?_⟩
      refine ite2 (fun h1 => ?_) (fun h1 => ?_)
      · have h1 : (1 : Int) ≤ (z.length : Nat) := of_decide_eq_true h1
        have h1' : 1 ≤ z.length := by omega
        refine ⟨_, _, rfl, rfl, _, rfl, ?_⟩
        refine ite2 (fun h2 => ?_) (fun h2 => ?_)
        · have h2 : ¬ (z.length : Int) ≤ 6 := fun e => by rw [decide_eq_true e] at h2; cases h2
          have e : labV (.str z) = false := by
            show isLab z = false
            unfold isLab
            rw [decide_eq_false (show ¬ z.length ≤ 6 by omega), Bool.false_and, Bool.and_false]
          rw [e] at k
          exact k H (Same.refl _)
        · have h2 : (z.length : Int) ≤ 6 := Classical.byContradiction fun e => h2 (by rw [decide_eq_false e]; rfl)
          have e : labV (.str z) = z.cps.toList.all isLow := by
            show isLab z = _
            unfold isLab
            rw [decide_eq_true h1', decide_eq_true (show z.length ≤ 6 by omega), Bool.true_and, Bool.true_and]
          rw [e] at k
          have tk : ∀ i c, z.cps[i]? = some c → bad (z.cps.toList.take (i + 1)) = bad (z.cps.toList.take i) ++ (if isLow c then [] else [c]) := fun i c hc => by
            unfold bad
            rw [List.take_add_one, Array.getElem?_toList, hc, List.filter_append]
            cases q : isLow c <;> simp [q]
          have sz : z.cps.toList.take z.cps.size = z.cps.toList := by rw [List.take_of_length_le (by simp)]
          refine ⟨_, rfl, z, rfl, fun D hD => lc_str (z := z) (fun i H3 => Same H H3 ∧ H3 D = some (.lst ((bad (z.cps.toList.take i)).map cV))) ⟨sameUpd (Same.refl _) hD, upd_same⟩ ?_ ?_⟩
          · rintro i c H3 hc ⟨s3, hd⟩
            have hi : i < z.cps.size := (Array.getElem?_eq_some_iff.mp hc).1
            have hz2 : z.cps.size = z.length := rfl
            have t := tk i c hc
            refine ⟨rfl, _, rfl, c, _, rfl, rfl, _, rfl, ?_⟩
            rw [abc_in]
            cases q : isLow c with
            | true =>
              rw [q] at t
              refine (if_neg (by decide)).mpr ⟨s3, ?_⟩
              rw [t]
              exact hd.trans (by simp)
            | false =>
              rw [q] at t
              refine (if_pos (by decide)).mpr ⟨_, rfl, _, hd, small1000 ?_, ?_, ?_⟩
              · rw [List.length_map]
                have l1 : (bad (z.cps.toList.take i)).length ≤ (z.cps.toList.take i).length := List.length_filter_le _ _
                rw [List.length_take] at l1
                omega
              · intro b u e
                rw [upd_ne (ne_of_none e hD)]
                exact s3 b u e
              · rw [upd_same, t]
                simp [cV]
          · rintro H3 ⟨s3, hd⟩
            rw [sz] at hd
            refine ⟨by decide, fun p hp => ?_⟩
            have npd : D ≠ p := ne_of_none hd hp
            have ok : Ok ((bad z.cps.toList).map fun c => SX.S [c]) := fun y hy => by
              obtain ⟨c, hc, rfl⟩ := List.mem_map.mp hy
              have hc2 : c ∈ z.cps.toList := (List.mem_filter.mp hc).1
              unfold PyData.strOk at hok ⊢
              rw [← Array.all_toList] at hok
              have := List.all_eq_true.mp hok c hc2
              simpa using this
            refine ⟨.list (dS ((bad z.cps.toList).map fun c => SX.S [c])), .list [], .lst (SqL.of (xs := ((bad z.cps.toList).map fun c => SX.S [c]).map V.str) (by rw [upd_ne npd, ← map_cV]; exact hd)) (dp_strs _), .lst (SqL.of upd_same) .nil, shaped_list ok, by decide, ?_⟩
            rw [eqv_nil]
            have e2 : ((bad z.cps.toList).map fun c => SX.S [c]).isEmpty = z.cps.toList.all isLow := by rw [List.isEmpty_map, bad_nil]
            rw [e2]
            exact k _ (sameUpd s3 hp)
      · have h1 : ¬ (1 : Int) ≤ (z.length : Nat) := fun e => h1 (decide_eq_true e)
        have e : labV (.str z) = false := by
          show isLab z = false
          unfold isLab
          rw [decide_eq_false (show ¬ 1 ≤ z.length by omega), Bool.false_and]
        rw [e] at k
        exact ⟨_, rfl, iteT (k H (Same.refl _))⟩
    | int i => exact iteT (k H (Same.refl _))
    | bl b => exact iteT (k H (Same.refl _))
    | non => exact iteT (k H (Same.refl _))
    | lst a xs h => exact iteT (k H (Same.refl _))
    | tup a xs h => exact iteT (k H (Same.refl _))
    | dct a xs h => exact iteT (k H (Same.refl _))
def Fine (z : Str) : Prop := PyData.strOk z = true ∧ z.length ≤ 100
def spOdd : Sp := fun vs H Q _ => ∃ p q : Addr, vs = [.ref p] ∧ HandAt H p q ∧ ∀ (x : V) (n : String) (H' : Hp), Kd H' x n → (∀ z, x = .str z → Fine z) → HandAt H' p q → Keep H H' p → Q x H'
theorem fine_up {z : Str} (h : Low z) (l : z.length ≤ 20) : Fine (PySem.Txt.upper z) := by
  have a : ∀ c ∈ z.cps.toList, c < 128 := fun c hc => by have := h c hc; omega
  rw [PyProof.Rows.upper_ascii a]
  refine ⟨?_, ?_⟩
  · unfold PyData.strOk
    rw [← Array.all_toList, Array.toList_map, List.all_map]
    refine List.all_eq_true.mpr fun c hc => decide_eq_true ?_
    have h1 := h c hc
    show PyProof.Rows.up1 c < 0x110000
    unfold PyProof.Rows.up1
    split <;> omega
  · show (z.cps.map _).size ≤ 100
    rw [Array.size_map]
    have e : z.cps.size = z.length := rfl
    omega
theorem none2 {H : Hp} {a b : Addr} {o : HO} (h : upd H a o b = none) : H b = none ∧ b ≠ a := by
  have n : b ≠ a := fun e => by rw [e, upd_same] at h; cases h
  rw [upd_ne n] at h
  exact ⟨h, n⟩
theorem fine_low {z : Str} (h : Low z) (l : z.length ≤ 20) : Fine z := ⟨low_ok h, by omega⟩
theorem fine_app {a b : Str} (h : Fine a) (l : a.length ≤ 20) (hb : PyData.strOk b = true) (lb : b.length ≤ 20) : Fine (a ++ b) := by
  refine ⟨?_, by rw [len_app]; omega⟩
  have h1 := h.1
  unfold PyData.strOk at h1 hb ⊢
  rw [← Array.all_toList] at h1 hb ⊢
  rw [cps_app, List.all_append, h1, hb]
  rfl
theorem scOdd : FnScope ["_law_hand_here", "_law_word_here"] ["_law_hand_here"] (defScope sOdd) := ⟨rfl, rfl, rfl, by decide +kernel, rfl, by decide +kernel, by decide +kernel⟩
theorem ok_odd {f : Addr} {fd : FuncData} (F : Fun K "_law_odd" "_law_odd" sOdd f fd) (m : mg "_law_odd" = some (.ref f)) (W : HasF P w K mg base "_law_word" 3 ["_law_hand_here", "_law_most"] spWord) (O : HasF P w K mg base "_law_one" 3 ["_law_hand_here", "_law_rows_here"] spOne) : HasF P w K mg base "_law_odd" 4 ["_law_hand_here"] spOdd := by
  refine ⟨f, fd, ?_, m, F.kp, F.binds fun _ _ _ _ _ _ us hl => match us, hl with | [_], _ => rfl⟩
  obtain ⟨f2, fd2, W⟩ := W; obtain ⟨f3, fd3, O⟩ := O
  refine F.ok scOdd (fun vs H Q E h => ?_) (fun cdv A outer s H vs Q E hr h => ?_)
  · obtain ⟨a, b, rfl, _⟩ := h
    rfl
  · obtain ⟨p, q, rfl, hp, k⟩ := h
    refine ⟨_, pss_cons (ps_set (i := 1) scOdd.nd rfl (Or.inl rfl) (pe_call W.G hr (by rfl) W.m W.kp W.b .nil pass0 (pa_cons (pv 0) (pa_cons pe_int pa_nil))))
      (pss_one (ps_ret (pe_call O.G hr (by rfl) O.m O.kp O.b .nil pass0 (pa_cons (pv 0) (pa_cons (pe_lst (pa_cons pe_non (pa_cons pe_int (pa_cons pe_bl (pa_cons pe_str (pa_cons (pe_upper (pv 1)) (pa_cons (pe_op op_add_str (pv 1) pe_str) (pa_cons (pe_op op_add_str (pv 1) pe_str) (pa_cons (pe_tup (pa_cons (pv 1) pa_nil)) (pa_cons (pe_lst (pa_cons (pv 1) pa_nil)) (pa_cons (pe_un un_neg pe_int) (pa_cons (pe_op op_add_str (pv 1) pe_str) (pa_cons (pv 1) (pa_cons (pe_disp (pps_cons (pv 1) (pv 1) pps_nil) (by rfl) (by rfl) (fun z => by cases z) (by decide)) pa_nil)))))))))))))) pa_nil))))), ?_⟩
    refine ⟨_, rfl, p, q, 5, rfl, hp, by decide, by decide, fun z H1 z0 z1 low hp1 k1 => ?_⟩
    have z1 : z.length ≤ 5 := z1
    have add : ∀ t : Str, t.length ≤ 20 → z.length + t.length ≤ sizeLine := fun t ht => Nat.le_of_lt (small1000 (by omega))
    refine ⟨_, rfl, _, rfl, ⟨_, rfl⟩, _, rfl, rfl, by omega, _, rfl, _, _, rfl, rfl, add _ (by decide +kernel), _, rfl, _, _, rfl, rfl, add _ (by decide +kernel), _, rfl, (by show 1 ≤ sizeLine; decide), fun t ht => ?_⟩
    refine ⟨_, rfl, (by show 1 ≤ sizeLine; decide), fun l hl => ?_⟩
    refine ⟨_, rfl, _, rfl, _, _, rfl, rfl, add _ (by decide +kernel), _, rfl, fun d hd => ?_⟩
    refine ⟨_, rfl, _, rfl, upd_same, [(Sum.inr z, .str z)], rfl, (by show 1 ≤ 15; decide), (by show 13 ≤ sizeLine; decide), fun r hr => ?_⟩
    rw [upd_upd] at hr ⊢
    obtain ⟨hl0, lt⟩ := none2 hl
    obtain ⟨hd1, dl⟩ := none2 hd
    obtain ⟨hd0, dt⟩ := none2 hd1
    obtain ⟨hr2, rd⟩ := none2 hr
    obtain ⟨hr1, rl⟩ := none2 hr2
    obtain ⟨hr0, rt⟩ := none2 hr1
    have back : ∀ a, H1 a = none → H a = none := fun a h => by
      cases e : H a with
      | none => rfl
      | some o => exact absurd h (by rw [k1 a o e (hp1.ap h)]; exact fun z => nomatch z)
    refine ⟨p, q, r, _, rfl, (((hp1.upd (hp1.ap ht) (hp1.aq ht)).upd (hp1.ap hl0) (hp1.aq hl0)).upd (hp1.ap hd0) (hp1.aq hd0)).upd (hp1.ap hr0) (hp1.aq hr0), upd_same, hp1.ap hr0, (by show 0 < 13; decide), (by show 13 ≤ 1000; decide), fun x H5 hx hp5 k5 => ?_⟩
    have kk : Keep H H5 p := (keepUpd (keepUpd (keepUpd (keepUpd k1 (back t ht)) (back l hl0)) (back d hd0)) (back r hr0)).trans k5
    have at_t : H5 t = some (.tup [.str z]) := k5 t _ (by rw [upd_ne rt.symm, upd_ne dt.symm, upd_ne lt.symm, upd_same]) (hp1.ap ht)
    have at_l : H5 l = some (.lst [.str z]) := k5 l _ (by rw [upd_ne rl.symm, upd_ne dl.symm, upd_same]) (hp1.ap hl0)
    have at_d : H5 d = some (.dK (mergeK [] [(Sum.inr z, .str z)])) := k5 d _ (by rw [upd_ne rd.symm, upd_same]) (hp1.ap hd0)
    have fz : Fine z := fine_low low (by omega)
    have nt : ∀ (a : Addr) (y : Str), (.ref a : V) = .str y → Fine y := fun a y e => nomatch e
    have st : ∀ (u : Str), Fine u → ∀ y, (.str u : V) = .str y → Fine y := fun u h y e => by cases e; exact h
    simp only [List.mem_cons, List.not_mem_nil, or_false] at hx
    rcases hx with e | e | e | e | e | e | e | e | e | e | e | e | e <;> subst e
    · exact k _ _ _ .non (fun y e => nomatch e) hp5 kk
    · exact k _ _ _ (.int _) (fun y e => nomatch e) hp5 kk
    · exact k _ _ _ (.bl _) (fun y e => nomatch e) hp5 kk
    · exact k _ _ _ (.str _) (st _ ⟨by decide +kernel, by decide +kernel⟩) hp5 kk
    · exact k _ _ _ (.str _) (st _ (fine_up low (by omega))) hp5 kk
    · exact k _ _ _ (.str _) (st _ (fine_app fz (by omega) (by decide +kernel) (by decide +kernel))) hp5 kk
    · exact k _ _ _ (.str _) (st _ (fine_app fz (by omega) (by decide +kernel) (by decide +kernel))) hp5 kk
    · exact k _ _ _ (.tup _ _ at_t) (nt t) hp5 kk
    · exact k _ _ _ (.lst _ _ at_l) (nt l) hp5 kk
    · exact k _ _ _ (.int _) (fun y e => nomatch e) hp5 kk
    · exact k _ _ _ (.str _) (st _ (fine_app fz (by omega) (by decide +kernel) (by decide +kernel))) hp5 kk
    · exact k _ _ _ (.str _) (st _ fz) hp5 kk
    · exact k _ _ _ (.dct _ _ at_d) (nt d) hp5 kk
end
end Kx

set_option maxHeartbeats 4000000
namespace Kx
open PySem L2
/-! own errors with fields -/
/-- __init__ of such an error: both are stored -/
def spInit2 (K : PySem.W.Frag) (C : Addr) (f1 f2 : Str) : Sp := fun vs H Q _ => ∃ (a : Addr) (y z : V), vs = [.ref a, y, z] ∧ OexC K C ∧ PySem.W.findIn K (.ref C) f1 = some none ∧ PySem.W.findIn K (.ref C) f2 = some none ∧ H a = some (exo a C none) ∧
  ∀ (d : Addr) (H' : Hp), H d = none → d ≠ a → H' a = some (exo a C (some d)) → H' d = some (exd d [(f2, z), (f1, y)]) → (∀ b o, H b = some o → b ≠ a → H' b = some o) → Q .non H'
section
variable {P : Program} {w : World} {K : PySem.W.Frag} {mg : Str → Option Value} {base : Heap}
theorem scBadKinds : FnScope ["self", "index", "what"] ["self", "index", "what"] (defScope sBadKinds_init) := ⟨rfl, rfl, rfl, by decide +kernel, rfl, by decide +kernel, by decide +kernel⟩
theorem ok_BadKinds {f C : Addr} {fd : FuncData} (F : Fun K "__init__" "BadKinds.__init__" sBadKinds_init f fd) : FnOk P w K mg base CX0 1 f fd ["self", "index", "what"] (spInit2 K C "index" "what") := by
  refine F.ok scBadKinds (fun vs H Q E h => ?_) (fun cdv A outer s H vs Q E hr h => ?_)
  · obtain ⟨a, y, z, rfl, _⟩ := h
    rfl
  · obtain ⟨a, y, z, rfl, T, n1, n2, ha, k⟩ := h
    refine ⟨_, pss_cons (ps_ost (pv 0) (pv 1)) (pss_one (ps_ost (pv 0) (pv 2))), ?_⟩
    refine ⟨_, rfl, _, rfl, a, C, rfl, T, n1, .inl ⟨ha, fun dx hdx ne => ?_⟩⟩
    refine ⟨_, rfl, _, rfl, a, C, rfl, T, n2, .inr ⟨dx, _, upd_same, by rw [upd_ne ne, upd_same], (by show 1 ≤ 900; decide), ?_⟩⟩
    refine k dx _ hdx ne (by rw [upd_ne ne.symm, upd_same]) upd_same fun b o e nb => ?_
    rw [upd_ne (ne_of_none e hdx), upd_ne nb, upd_ne (ne_of_none e hdx)]
    exact e
/-- __init__ of an error with one field -/
def spInit1 (K : PySem.W.Frag) (C : Addr) (f1 : Str) : Sp := fun vs H Q _ => ∃ (a : Addr) (y : V), vs = [.ref a, y] ∧ OexC K C ∧ PySem.W.findIn K (.ref C) f1 = some none ∧ H a = some (exo a C none) ∧
  ∀ (d : Addr) (H' : Hp), H d = none → d ≠ a → H' a = some (exo a C (some d)) → H' d = some (exd d [(f1, y)]) → (∀ b o, H b = some o → b ≠ a → H' b = some o) → Q .non H'
theorem scNoKind : FnScope ["self", "name"] ["self", "name"] (defScope sNoKind_init) := ⟨rfl, rfl, rfl, by decide +kernel, rfl, by decide +kernel, by decide +kernel⟩
theorem ok_NoKind {f C : Addr} {fd : FuncData} (F : Fun K "__init__" "NoKind.__init__" sNoKind_init f fd) : FnOk P w K mg base CX0 1 f fd ["self", "name"] (spInit1 K C "name") := by
  refine F.ok scNoKind (fun vs H Q E h => ?_) (fun cdv A outer s H vs Q E hr h => ?_)
  · obtain ⟨a, y, rfl, _⟩ := h
    rfl
  · obtain ⟨a, y, rfl, T, n1, ha, k⟩ := h
    refine ⟨_, pss_one (ps_ost (pv 0) (pv 1)), ?_⟩
    refine ⟨_, rfl, _, rfl, a, C, rfl, T, n1, .inl ⟨ha, fun dx hdx ne => ?_⟩⟩
    refine k dx _ hdx ne upd_same (by rw [upd_ne ne, upd_same]) fun b o e nb => ?_
    rw [upd_ne nb, upd_ne (ne_of_none e hdx)]
    exact e
end
/-- what is known of an error's class -/
structure ErC (P : Program) (w : World) (K : PySem.W.Frag) (mg : Str → Option Value) (base : Heap) (x : Str) (ps : List Str) (C fI : Addr) (fd : FuncData) (sp : Sp) : Prop where
  T : OexC K C
  iC : PySem.W.findIn K (.ref C) "__init__" = some (some (.ref fI))
  tI : PySem.W.typeIn K (.ref fI) = some (.type "function")
  gC : mg x = some (.ref C)
  b : Binds K fd ps []
  G : FnOk P w K mg base CX0 1 fI fd ps sp
  xf : XfC K C
theorem fin2 {K : PySem.W.Frag} {C : Addr} {f1 f2 : Str} (T : OexC K C) (n1 : PySem.W.findIn K (.ref C) f1 = some none) (n2 : PySem.W.findIn K (.ref C) f2 = some none) {H : Hp} {y z : V} {Q : XK} (q : ∀ d H', H d = none → Same H H' → H' d = some (.xd [(f2, z), (f1, y)]) → Q (.ref C) (some d) H') :
    [y, z].length ≤ 1000 ∧ ∀ a, H a = none → spInit2 K C f1 f2 (.ref a :: ([y, z] ++ [])) (upd H a (exo a C none)) (fun v H2 => v = .non ∧ ∃ (d : Addr) (fs : List (Str × V)), H2 a = some (exo a C (some d)) ∧ H2 d = some (exd d fs) ∧ H d = none ∧ Q (.ref C) (some d) (upd (del H2 a) d (.xd fs))) (fun _ _ _ => False) := by
  refine ⟨(by show 2 ≤ 1000; decide), fun a ha => ⟨a, y, z, rfl, T, n1, n2, upd_same, fun d H' hd ne ea ed kp => ⟨rfl, d, _, ea, ed, ?_, ?_⟩⟩⟩
  · rw [upd_ne ne] at hd
    exact hd
  · rw [upd_ne ne] at hd
    refine q d _ hd (fun b o e => ?_) upd_same
    have nba := ne_of_none e ha
    rw [upd_ne (ne_of_none e hd), del_ne nba]
    exact kp b o (by rw [upd_ne nba]; exact e) nba
theorem fin1 {K : PySem.W.Frag} {C : Addr} {f1 : Str} (T : OexC K C) (n1 : PySem.W.findIn K (.ref C) f1 = some none) {H : Hp} {y : V} {Q : XK} (q : ∀ d H', H d = none → Same H H' → H' d = some (.xd [(f1, y)]) → Q (.ref C) (some d) H') :
    [y].length ≤ 1000 ∧ ∀ a, H a = none → spInit1 K C f1 (.ref a :: ([y] ++ [])) (upd H a (exo a C none)) (fun v H2 => v = .non ∧ ∃ (d : Addr) (fs : List (Str × V)), H2 a = some (exo a C (some d)) ∧ H2 d = some (exd d fs) ∧ H d = none ∧ Q (.ref C) (some d) (upd (del H2 a) d (.xd fs))) (fun _ _ _ => False) := by
  refine ⟨(by show 1 ≤ 1000; decide), fun a ha => ⟨a, y, rfl, T, n1, upd_same, fun d H' hd ne ea ed kp => ⟨rfl, d, _, ea, ed, ?_, ?_⟩⟩⟩
  · rw [upd_ne ne] at hd
    exact hd
  · rw [upd_ne ne] at hd
    refine q d _ hd (fun b o e => ?_) upd_same
    have nba := ne_of_none e ha
    rw [upd_ne (ne_of_none e hd), del_ne nba]
    exact kp b o (by rw [upd_ne nba]; exact e) nba
end Kx

set_option maxHeartbeats 4000000
namespace Kx
open PySem PySem.Spec PyProof.Rows L2
/-! enumerate of a tuple -/
theorem meets_enum1 {v : Value} {o : Obj} {H : Heap → Prop} (B : Begins v o H) : Meets (Builtin.«enumerate.__new__» ⟨[.type "enumerate", v], []⟩) (fun _ R s => H s.heap ∧
    R (.ok (.ret (.ref (s.heap.push o).objs.size))) { s with heap := (s.heap.push o).push { cls := .type "enumerate", data := .fields #[.none, .bool false, .ref s.heap.objs.size, rawInt 0, .none, .none] } }) :=
  .of_wp fun prog w A R s got => by
    obtain ⟨hp, g, d, tk, os⟩ := s
    obtain ⟨there, got⟩ := got
    have sub := sub_enumerate
    have step : ∀ {A' : Around} {E : Value → Shared → Prop} {Q : Value → Shared → Prop}, Q (.ref hp.objs.size) ⟨hp.push o, g, d, tk, os⟩ → wpAny (model prog w) A' (pyIter v) Q E ⟨hp, g, d, tk, os⟩ := fun q => B.iter prog w _ _ ⟨hp, g, d, tk, os⟩ _ there q
    wp_walk using step
    refine wpAny_stack_any fun st => wpAny_pure ?_
    split
    · rename_i c _ _ _ _ _
      cases (c == Value.type "enumerate") <;> (wp_walk using step; exact ⟨_, rfl, got⟩)
    · wp_walk using step; exact ⟨_, rfl, got⟩
theorem call_enum1 {prog : Program} {w : World} {A : Around} {E : Value → Shared → Prop} {s : Shared} {v : Value} {o : Obj} {H : Heap → Prop} {Q : Value → Shared → Prop} (B : Begins v o H) (there : H s.heap)
    (next : ∀ h', IsEnum h' (s.heap.objs.size + 1) s.heap.objs.size 0 .none → h'.get? s.heap.objs.size = some o → (∀ b o, s.heap.get? b = some o → h'.get? b = some o) → Q (.ref (s.heap.objs.size + 1)) { s with heap := h' }) :
    wpAny (model prog w) A (call (.type "enumerate") [v]) Q E s := by
  refine callType_new F.called_enumerate (by decide) (F.typeCall_enumerate_1 _) (F.newCall_enumerate_1 _) (fun obj => F.args_object_init_2 obj _) F.entry_enumerate_new (meets_enum1 B) ⟨there, ?_⟩
  have z : (s.heap.push o).objs.size = s.heap.objs.size + 1 := Heap.size_push ..
  show _ ∧ _
  rw [z]
  have he : IsEnum ((s.heap.push o).push { cls := .type "enumerate", data := .fields #[.none, .bool false, .ref s.heap.objs.size, rawInt 0, .none, .none] }) (s.heap.objs.size + 1) s.heap.objs.size 0 .none := by
    have q := Heap.get?_push_size (s.heap.push o) (o := { cls := .type "enumerate", data := .fields #[.none, .bool false, .ref s.heap.objs.size, rawInt 0, .none, .none] }) rfl
    rw [z] at q
    exact q
  exact ⟨⟨_, he, rfl⟩, next _ he (Heap.get?_push_of_some _ (Heap.get?_push_size _ B.free)) fun b o x => Heap.get?_push_of_some _ (Heap.get?_push_of_some _ x)⟩
/-- the tuple at a, each item in a new pair -/
def IteT (K : PySem.W.Frag) (a : Addr) : It :=
  ⟨fun i H => ∃ (xs : List V) (x : V), SqT K H a xs ∧ xs[i]? = some x, fun i H v H' => ∃ T x, v = .ref T ∧ H T = none ∧ H' = upd H T (.tup [.int (i : Nat), x]) ∧ ∀ xs, SqT K H a xs → xs[i]? = some x, fun i H => ∃ xs : List V, SqT K H a xs ∧ xs.length = i⟩
theorem turn_enumT {P : Program} {w : World} {K : PySem.W.Frag} {elts : List Expr} {kk : Nat} {tpos : Pos} (a e it : Addr) :
    Turn P w K (.Tuple elts kk tpos) (IteT K a) [e, it] e (fun i h => (∃ old, IsEnum h e it ((i : Nat) : Int) old) ∧ h.IsTupleIter it a i ∧ e ≠ it ∧ a ≠ it ∧ a ≠ e) where
  mem := by simp
  obj := fun i h st b hb => by
    obtain ⟨⟨old, he⟩, ⟨o, ho, hc, hd⟩, _⟩ := st
    have e' : b = e ∨ b = it := by simpa using hb
    rcases e' with z | z <;> rw [z]
    · exact ⟨_, he, fun v q => nomatch q⟩
    · exact ⟨o, ho, fun v q => by rw [hd] at q; cases q⟩
  keep := fun i h h' st k => let ⟨⟨old, he⟩, hi, r⟩ := st; ⟨⟨old, k e (by simp) _ he⟩, hi.at fun o q => k it (by simp) o q, r⟩
  item := by
    rintro X rfl rfl rfl hc i pins s σ H E I hf ⟨⟨old, he⟩, hit, hne, hai, hae⟩ ⟨xs, x, hq, hx⟩
    obtain ⟨its, rv, p, hz⟩ := I.tuple hq
    obtain ⟨u, hu, ru⟩ := rv.get hx
    have hel : e < s.heap.objs.size := Heap.lt_size he
    have hil : it < s.heap.objs.size := by obtain ⟨_, q, _⟩ := hit; exact Heap.lt_size q
    have lt : i < its.toArray.size := by simpa using (List.getElem?_eq_some_iff.mp hu).1
    have D := Draws.tuple (prog := X.prog) (w := X.w) (A := X.A.in1) (I.ok.hd hc) it a hai its.toArray
    refine wpAny_pyNext_enum_itemC D he ⟨hit, p⟩ lt hne (by simp [hne, hae.symm]) fun v h' tk hv ho st' hT hsz hk => ?_
    obtain rfl : v = u := by
      have q : its.toArray[i]? = some v := hv
      rw [List.getElem?_toArray, hu] at q
      exact (Option.some.inj q).symm
    refine ⟨_, rfl, wpAny_letOwnedTupleGo_enum (s := { s with heap := h', toks := tk + 1 }) ho fun h'' he' sb => ?_⟩
    have hT2 : h''.get? s.heap.objs.size = some { cls := .type "tuple", data := .seq #[.int i tk, v] } := (sb.2 _ (Nat.ne_of_gt hel)).trans hT
    have new : ObjOk X.prog X.w (upd H s.heap.objs.size (.tup [.int (i : Nat), x])) h'' s.heap.objs.size (.tup [.int (i : Nat), x]) := ⟨by show 2 ≤ sizeLine; decide, [.int i tk, v], .cons ⟨_, rfl⟩ (.cons ru .nil), ⟨_, hT2, rfl, _, rfl⟩⟩
    have I1 : Inv X pins σ (upd H s.heap.objs.size (.tup [.int (i : Nat), x])) { s with heap := h'', toks := tk + 1 } :=
      I.turnedNew (ch := [e, it]) (fun b ob hb q => (sb.2 b (fun z => hb (by simp [z]))).trans (hk b ob (fun z => hb (by simp [z])) (fun z => hb (by simp [z])) q)) hf (Nat.le_refl _) new
    refine ⟨.ref s.heap.objs.size, _, I1, rfl, ⟨_, x, rfl, I.hok.fresh (Nat.le_refl _), rfl, fun ys hy => ?_⟩, ⟨⟨v, he'⟩, st'.1.at fun o q => (sb.2 it (Ne.symm hne)).trans q, hne, hai, hae⟩, fun b hb => ?_⟩
    · rw [I.tuple_inj hy hq]
      exact hx
    · have lt : b < s.heap.objs.size := by
        have e' : b = e ∨ b = it := by simpa using hb
        rcases e' with z | z <;> rw [z]
        · exact hel
        · exact hil
      rw [upd_ne (Nat.ne_of_lt lt)]
      exact (hf b hb).1
  done := by
    rintro X rfl rfl rfl hc i pins s σ H E I hf ⟨⟨old, he⟩, hit, hne, hai, hae⟩ ⟨xs, hq, hx⟩
    obtain ⟨its, rv, p, hz⟩ := I.tuple hq
    obtain ⟨f0, f1, f2, f3, f4, f5⟩ := hf it (by simp)
    have hl := rv.length
    have D := Draws.tuple (prog := X.prog) (w := X.w) (A := X.A.in1) (I.ok.hd hc) it a hai its.toArray
    have n : its.toArray.size = i := by rw [List.size_toArray, ← hl, hx]
    rw [n] at D
    exact wpAny_pyNext_enum_endD D he ⟨hit, p⟩ fun h' eb => ⟨rfl, I.turned (t' := s.toks) (fun b o hb q => eb b o hb q) f0 f1 f3 f4 f5⟩
  self := fun A i s Q E st h => let ⟨⟨_, he⟩, _⟩ := st; wpAny_pyIter_enum he h
/-- enumerate of a list or a tuple -/
def iEnumB (K : PySem.W.Frag) (ta : TA) : TI := fun σ H R => ta σ H fun vs H1 => ∃ a xs, vs = [.ref a] ∧ ((SqL K H1 a xs ∧ R (Ite K a) H1) ∨ (SqT K H1 a xs ∧ R (IteT K a) H1))
theorem pi_enumB {X : Cx} {e : Expr} {ta : TA} {p pos tpos : Pos} {elts : List Expr} {kk : Nat} (hg : Gl X "enumerate") (hm : X.mg "enumerate" = none) (ha : PA X [e] ta) (hs : starEach [e] X.env = [(false, eval e X.env)] := by rfl) :
    PI X (.Tuple elts kk tpos) (.Call (.Name "enumerate" p) [e] [] pos) (iEnumB X.K ta) := by
  refine ⟨fun pins s σ H R I h => Call_ (ld_blt I hg hm boot_enumerate (callWith_type1 (thn (ha.run pos pins s σ H _ I h) fun us s1 ⟨vs, H1, I1, r1, q1⟩ => ?_) hs rfl))⟩
  obtain ⟨a, xs, rfl, q⟩ := q1
  rw [Vals.ref1 r1]
  have fresh : ∀ {h' : Heap}, (∀ b o, s1.heap.get? b = some o → h'.get? b = some o) → Inv X pins σ H1 { s1 with heap := h' } := fun hk => I1.kept (t' := s1.toks) hk
  have fp : ∀ b ∈ [s1.heap.objs.size + 1, s1.heap.objs.size], FpOk X pins H1 b := fun b hb => by
    have e' : b = s1.heap.objs.size + 1 ∨ b = s1.heap.objs.size := by simpa using hb
    have le : s1.heap.objs.size ≤ b := by
      rcases e' with z | z <;> rw [z]
      · exact Nat.le_succ _
      · exact Nat.le_refl _
    exact I1.fpOk le (I1.hok.fresh le)
  rcases q with ⟨hq, q⟩ | ⟨hq, q⟩
  · obtain ⟨its, rv, pl, hz⟩ := I1.list hq
    exact call_enumerate_list pl.isList fun h' he hit hsz hk => wpAny_pyIter_enum he ⟨_, _, _, _, H1, rfl, fresh hk, turn_enum a (s1.heap.objs.size + 1) s1.heap.objs.size, ⟨⟨.none, he⟩, hit, Nat.succ_ne_self _⟩, fp, q⟩
  · obtain ⟨its, rv, pl, hz⟩ := I1.tuple hq
    obtain ⟨oa, ho, _⟩ := id pl
    have lt : a < s1.heap.objs.size := Heap.lt_size ho
    exact call_enum1 (begins_tuple a its.toArray) pl fun h' he hit hk => wpAny_pyIter_enum he ⟨_, _, _, _, H1, rfl, fresh hk, turn_enumT a (s1.heap.objs.size + 1) s1.heap.objs.size, ⟨⟨.none, he⟩, ⟨_, hit, rfl, rfl⟩, Nat.succ_ne_self _, Nat.ne_of_lt lt, Nat.ne_of_lt (Nat.lt_succ_of_lt lt)⟩, fp, q⟩
/-- what a for loop over J asks -/
abbrev Runs (J : It) (g : TG) (tb : TS) (D : Ends) (σ : L2.St) (H : Hp) : Prop := ∃ U : Nat → Nat → L2.St → Hp → Prop, (∃ m, U 0 m σ H) ∧ ∀ i m σ H, U i m σ H → (J.stop i H ∧ D.nx σ H) ∨ (J.go i H ∧ ∃ N : L2.St → Hp → Prop, (∀ σ' H', N σ' H' → ∃ m', m' < m ∧ U (i + 1) m' σ' H') ∧
  ∀ x H', J.yld i H x H' → g x σ H' fun σ2 H2 => tb { D with nx := N, ct := N, bk := D.nx } σ2 H2)
/-- over enumerate of a list or a tuple that stands still -/
theorem for_enumB {K : PySem.W.Frag} {a : Addr} {xs : List V} {g : TG} {tb : TS} {D : Ends} {σ : L2.St} {H : Hp} (W : Nat → L2.St → Hp → Prop) (start : W 0 σ H) (still : (∀ i σ H, W i σ H → SqL K H a xs) ∨ (∀ i σ H, W i σ H → SqT K H a xs))
    (turn : ∀ i x σ H T, xs[i]? = some x → W i σ H → H T = none → g (.ref T) σ (upd H T (.tup [.int (i : Nat), x])) fun σ2 H2 => tb { D with nx := W (i + 1), ct := W (i + 1), bk := D.nx } σ2 H2) (after : ∀ σ H, W xs.length σ H → D.nx σ H) :
    (SqL K H a xs ∧ Runs (Ite K a) g tb D σ H) ∨ (SqT K H a xs ∧ Runs (IteT K a) g tb D σ H) := by
  rcases still with still | still
  · refine .inl ⟨still _ _ _ start, fun i m σ H => m + i = xs.length ∧ W i σ H, ⟨xs.length, by omega, start⟩, fun i m σ H u => ?_⟩
    obtain ⟨e, u⟩ := u
    cases m with
    | zero =>
      obtain rfl : i = xs.length := by omega
      exact .inl ⟨⟨xs, still _ _ _ u, Nat.le_refl _⟩, after _ _ u⟩
    | succ m =>
      have lt : i < xs.length := by omega
      refine .inr ⟨⟨xs, xs[i], still _ _ _ u, List.getElem?_eq_getElem lt⟩, W (i + 1), fun σ' H' u' => ⟨m, Nat.lt_succ_self _, by omega, u'⟩, fun x H' y => ?_⟩
      obtain ⟨T, z, rfl, free, rfl, same⟩ := y
      exact turn i z σ H T (same xs (still _ _ _ u)) u free
  · refine .inr ⟨still _ _ _ start, fun i m σ H => m + i = xs.length ∧ W i σ H, ⟨xs.length, by omega, start⟩, fun i m σ H u => ?_⟩
    obtain ⟨e, u⟩ := u
    cases m with
    | zero =>
      obtain rfl : i = xs.length := by omega
      exact .inl ⟨⟨xs, still _ _ _ u, rfl⟩, after _ _ u⟩
    | succ m =>
      have lt : i < xs.length := by omega
      refine .inr ⟨⟨xs, xs[i], still _ _ _ u, List.getElem?_eq_getElem lt⟩, W (i + 1), fun σ' H' u' => ⟨m, Nat.lt_succ_self _, by omega, u'⟩, fun x H' y => ?_⟩
      obtain ⟨T, z, rfl, free, rfl, same⟩ := y
      exact turn i z σ H T (same xs (still _ _ _ u)) u free
/-- one of two targets' rules -/
theorem pg_or {X : Cx} {t : Expr} {g g' : TG} (h : PG X t g) (h' : PG X t g') : PG X t (fun v σ H Q => g v σ H Q ∨ g' v σ H Q) :=
  ⟨fun pins s σ H v u Q I r q => q.elim (fun q => h.run pins s σ H v u Q I r q) fun q => h'.run pins s σ H v u Q I r q⟩
end Kx

set_option maxHeartbeats 4000000
namespace Kx
open PySem PySem.Spec PyProof.Rows L2
section
variable {X : Cx} {C g : Addr} {sp : Sp} {E : XK} {CXx : CXT} {n : Nat}
/-- an instance as the library's lemmas know it -/
theorem inst_of {pins : List (Addr × Obj)} {σ : L2.St} {H : Hp} {s : Shared} {a dx : Addr} {fs : List (Str × V)} (I : Inv X pins σ H s) (h : H a = some (.ins C dx fs)) : ∃ ox od, PySem.W.InstAt s.heap a ox C od := by
  obtain ⟨mA, J, _⟩ := ins_get I.hok h
  obtain ⟨od, J, _⟩ := J.look
  exact ⟨_, _, J⟩
/-- x in o, o an instance whose class has its own __contains__ -/
def rInOwn (neg : Bool) (C : Addr) (sp : Sp) (E : XK) : R2 := fun x y H Q => ∃ a dx fs, y = .ref a ∧ H a = some (.ins C dx fs) ∧ sp [.ref a, x] H (fun z H' => ∃ b, z = .bl b ∧ Q (.bl (if neg then !b else b)) H') E
theorem op_inOwn (hs : PySem.W.findIn X.K (.ref C) "__contains__" = some (some (.ref g))) (hf : PySem.W.isFn X.K (.ref g) = true) (F : FnR X.prog X.w X.K X.mg X.base CXx n g sp) (hr : Room n X.A) (hx : Passes CXx X E) : OpR X (compareOp .In) (rInOwn false C sp E) := by
  intro pins s σ H x y v u Q I rx ry h
  obtain ⟨a, dx, fs, rfl, ha, q⟩ := h
  obtain rfl : u = Value.ref a := ry
  obtain ⟨ox, od, J⟩ := inst_of I ha
  obtain ⟨m, hF⟩ := I.fr
  refine PySem.W.in_K hF I.ok.mod.kin J hs hf (wpAny_mono (wpAny_call (run_fnR (us := [.ref a, v]) (vs := [.ref a, x]) F hr hx I (.cons rfl (.cons rx .nil)) q)) (fun w s' z => ?_) fun _ _ x => x)
  obtain ⟨z', H', I', rz, b, rfl, qz⟩ := z
  obtain rfl : w = Value.bool b := rz
  exact wpAny_truthy_bool ⟨.bl b, H', I', rfl, qz⟩
theorem op_notInOwn (hs : PySem.W.findIn X.K (.ref C) "__contains__" = some (some (.ref g))) (hf : PySem.W.isFn X.K (.ref g) = true) (F : FnR X.prog X.w X.K X.mg X.base CXx n g sp) (hr : Room n X.A) (hx : Passes CXx X E) : OpR X (compareOp .NotIn) (rInOwn true C sp E) := by
  intro pins s σ H x y v u Q I rx ry h
  obtain ⟨a, dx, fs, rfl, ha, q⟩ := h
  obtain rfl : u = Value.ref a := ry
  obtain ⟨ox, od, J⟩ := inst_of I ha
  obtain ⟨m, hF⟩ := I.fr
  refine PySem.W.notIn_K hF I.ok.mod.kin J hs hf (wpAny_mono (wpAny_call (run_fnR (us := [.ref a, v]) (vs := [.ref a, x]) F hr hx I (.cons rfl (.cons rx .nil)) q)) (fun w s' z => ?_) fun _ _ x => x)
  obtain ⟨z', H', I', rz, b, rfl, qz⟩ := z
  obtain rfl : w = Value.bool b := rz
  exact wpAny_truthy_bool ⟨.bl (!b), H', I', rfl, qz⟩
/-- len(o) by an own __len__ -/
def rLenOwn (C : Addr) (sp : Sp) (E : XK) : List V → Hp → VK → Prop := fun xs H Q => ∃ a dx fs, xs = [.ref a] ∧ H a = some (.ins C dx fs) ∧ sp [.ref a] H (fun z H' => ∃ k : Int, z = .int k ∧ 0 ≤ k ∧ k < 2 ^ 63 ∧ Q (.int k) H') E
theorem call_lenOwn (hs : PySem.W.findIn X.K (.ref C) "__len__" = some (some (.ref g))) (hf : PySem.W.isFn X.K (.ref g) = true) (F : FnR X.prog X.w X.K X.mg X.base CXx n g sp) (hr : Room (n + 1) X.A) (hx : Passes CXx X E) : CallR X (.builtin "len") (rLenOwn C sp E) := by
  intro pins s σ H xs us Q I r h
  obtain ⟨a, dx, fs, rfl, ha, q⟩ := h
  rw [Vals.ref1 r]
  obtain ⟨ox, od, J⟩ := inst_of I ha
  obtain ⟨m, hF⟩ := I.fr
  have run : codeAny (model X.prog X.w) X.A.in1 (.call (.ref g) ⟨[.ref a], []⟩) (fun r s' => match r with | .ok (.ret v) => EP X pins σ (fun z H' => ∃ k : Int, z = .int k ∧ 0 ≤ k ∧ k < 2 ^ 63 ∧ Q (.int k) H') v s' | .ok _ => False | .error e => X.xe e s') s := by
    refine codeAny_mono (F X.A.in1 X.stack s H [.ref a] [.ref a] _ E hr.in1 I.env0.in1 (.cons rfl .nil) q) fun r s' hq => ?_
    rcases r with e | (_ | _ | _ | u)
    · exact hx pins σ H s e s' I hq
    · exact hq.elim
    · exact hq.elim
    · exact hq.elim
    · exact I.after hq
  refine PySem.W.len_K hF I.ok.mod.kin J hs hf (wpAny_mono (wpAny_call run) (fun w s' z => ?_) fun _ _ x => x)
  obtain ⟨z', H', I', rz, k, rfl, k0, k1, qz⟩ := z
  obtain ⟨t, rfl⟩ := (show ∃ t, w = Value.int k t from rz)
  exact ⟨⟨k0, k1⟩, .int k, H', I'.tok _, ⟨_, rfl⟩, qz⟩
/-- o == y by an own __eq__, y any thing that is not of a class below -/
def rEqOwn (K : PySem.W.Frag) (C : Addr) (sp : Sp) (E : XK) : R2 := fun x y H Q => ∃ a dx fs, x = .ref a ∧ H a = some (.ins C dx fs) ∧ ((∃ b dy gs C', y = .ref b ∧ H b = some (.ins C' dy gs) ∧ PySem.W.notFirst K C (.ref C') = true) ∨ (∃ b ys, y = .ref b ∧ H b = some (.tup ys) ∧ PySem.W.notFirst K C (.type "tuple") = true)) ∧
  sp [.ref a, y] H (fun z H' => ∃ b, z = .bl b ∧ Q (.bl b) H') E
theorem op_eqOwn (hs : PySem.W.findIn X.K (.ref C) "__eq__" = some (some (.ref g))) (hf : PySem.W.isFn X.K (.ref g) = true) (F : FnR X.prog X.w X.K X.mg X.base CXx n g sp) (hr : Room n X.A) (hx : Passes CXx X E) : OpR X (compareOp .Eq) (rEqOwn X.K C sp E) := by
  intro pins s σ H x y v u Q I rx ry h
  obtain ⟨a, dx, fs, rfl, ha, hy, q⟩ := h
  obtain rfl : v = Value.ref a := rx
  obtain ⟨ox, od, J⟩ := inst_of I ha
  obtain ⟨m, hF⟩ := I.fr
  have go : ∀ tb, PySem.W.Looks (model X.prog X.w) s.heap (typeOf u) tb → PySem.W.notFirst X.K C tb = true → wpAny (model X.prog X.w) X.A (compareOp .Eq (.ref a) u) (EP X pins σ Q) X.xe s := fun tb hb hn => by
    refine PySem.W.cmp_K (op := .Eq) hr.units0 hF I.ok.mod.kin J hb hn hs hf (wpAny_mono (wpAny_call (run_fnR (us := [.ref a, u]) (vs := [.ref a, y]) F hr hx I (.cons rfl (.cons ry .nil)) q)) (fun w s' z => ?_) fun _ _ x => x)
    obtain ⟨z', H', I', rz, b, rfl, qz⟩ := z
    obtain rfl : w = Value.bool b := rz
    exact ⟨.bl b, H', I', rfl, qz⟩
  rcases hy with ⟨b, dy, gs, C', rfl, hb, hn⟩ | ⟨b, ys, rfl, hb, hn⟩
  · obtain rfl : u = Value.ref b := ry
    obtain ⟨ox', od', J'⟩ := inst_of I hb
    exact go _ J'.type hn
  · obtain rfl : u = Value.ref b := ry
    obtain ⟨_, _, _, o, h1, h2, _⟩ := (show ObjOk X.prog X.w H s.heap b (.tup ys) from I.hok b _ hb)
    exact go _ (PySem.W.kitAt_ty _ _ ⟨o, h1, h2⟩) hn
end
/-! != by the own __eq__ -/
section
variable {prog : Program} {w : World} {A : Around} {Er : Value → Shared → Prop} {s : Shared} {K : PySem.W.Frag} {x D f : Addr} {ox : Obj} {od : Option Obj} {b tb : Value}
theorem bound_ne {M : Model} {args : List Value} {Q : Option Value → Shared → Prop} (Y : K.In s.heap) (J : PySem.W.InstAt s.heap x ox D od) (hs : PySem.W.findIn K (.ref D) "__ne__" = some (some (.builtin "object.__ne__")))
    (h : wpAny M A (call (.builtin "object.__ne__") (.ref x :: args)) (fun v => Q (some v)) Er s) : wpAny M A (callSpecialIfBound? (.ref x) "__ne__" args) Q Er s := by
  simp only [callSpecialIfBound?, bindSpecialIfBound?]
  refine wpAny_holding (wpAny_bind (wpAny_bind (wpAny_bind (J.type.here ((PySem.W.looks_findIn Y hs).here (wpAny_bind (wpAny_askSetting (wpAny_ite ?_))))))))
  have fin : wpAny M A (call (.builtin "object.__ne__") ([.ref x] ++ args) >>= fun v => pure (some v)) Q Er s := wpAny_bind (wpAny_mono h (fun v s' z => wpAny_pure z) fun _ _ z => z)
  split
  · exact wpAny_bind (wpAny_of_eq (F.cmp_object.ne.bind _) (wpAny_pure (by exact fin)))
  · exact wpAny_tryCatch (wpAny_bind (wpAny_of_eq (F.cmp_object.ne.bind _) (wpAny_pure (by exact fin))))
/-- what the own __eq__ hands back, turned about -/
def NeBack (Q : Value → Shared → Prop) (v : Value) (s' : Shared) : Prop := match v with
  | .bool c => Q (.bool (!c)) s'
  | _ => False
theorem call_ne {Q : Value → Shared → Prop} (hu : A.units + 64 < cLine) (Y : K.In s.heap) (J : PySem.W.InstAt s.heap x ox D od) (hm : PySem.W.mroIn K D (.type "object") = some true) (he : PySem.W.findIn K (.ref D) "__eq__" = some (some (.ref f))) (hf : PySem.W.isFn K (.ref f) = true)
    (h : wpAny (model prog w) A.in1 (call (.ref f) [.ref x, b]) (NeBack Q) Er s) : wpAny (model prog w) A (call (.builtin "object.__ne__") [.ref x, b]) Q Er s := by
  refine wpAny_call (codeAny_call_builtin F.cmp_object.ne.plain F.cmpEntry_ne (PySem.W.check_slot F.cmpKind_ne F.cmpSplit_ne (J.type.andThen (PySem.W.looks_mroIn Y hm)) (F.cmpArgs_ne _ _) ?_))
  unfold Builtin.«object.__ne__»
  refine wpAny_bind (m := slotArgs "__ne__" 1 _) (wpAny_of_eq (a := (Value.ref x, [b])) rfl ?_)
  dsimp only
  refine wpAny_bind (wpAny_cRoomFor (A := A.in1) (by show A.units + 1 < cLine; omega) ?_)
  refine wpAny_bind (PySem.W.ifBound_K Y J he hf (wpAny_mono h (fun v s' hv => ?_) fun _ _ z => z))
  cases v with
  | bool c => exact wpAny_bind (wpAny_truthy_bool (wpAny_pure hv))
  | _ => exact hv.elim
theorem rich_ne {h₀ : Heap} {L : Addr} {m : Str → Option Value} {Q : Value → Shared → Prop} (hu : A.units + 64 < cLine) (F₀ : Fr h₀ L s.heap m) (X₀ : K.In h₀) (J : PySem.W.InstAt s.heap x ox D od) (hb : PySem.W.Looks (model prog w) s.heap (typeOf b) tb) (hn : PySem.W.notFirst K D tb = true)
    (hm : PySem.W.mroIn K D (.type "object") = some true) (hne : PySem.W.findIn K (.ref D) "__ne__" = some (some (.builtin "object.__ne__"))) (he : PySem.W.findIn K (.ref D) "__eq__" = some (some (.ref f))) (hf : PySem.W.isFn K (.ref f) = true)
    (h : wpAny (model prog w) A.in1 (call (.ref f) [.ref x, b]) (NeBack Q) Er s) : wpAny (model prog w) A (richCompare .NotEq (.ref x) b) Q Er s := by
  have Y := X₀.keeps F₀.keep
  have one : wpAny (model prog w) A (tryCompare (.ref x) "__ne__" b) (fun r s' => ∃ c, r = some (.bool c) ∧ Q (.bool c) s') Er s := by
    unfold tryCompare
    refine wpAny_bind (bound_ne Y J hne (call_ne hu Y J hm he hf (wpAny_mono h (fun v s' hv => ?_) fun _ _ z => z)))
    cases v with
    | bool c => exact wpAny_pure ⟨!c, rfl, hv⟩
    | _ => exact hv.elim
  unfold richCompare
  simp only [oneThing_ref]
  refine wpAny_holding (wpAny_bind (wpAny_cRoomFor (by omega) (wpAny_bind (J.type.here (wpAny_bind (hb.here ?_))))))
  have fin : ∀ (r : Option Value) (s' : Shared), (∃ c, r = some (.bool c) ∧ Q (.bool c) s') → ∃ c, r = some (.bool c) ∧ Q (.bool c) s' := fun _ _ z => z
  split
  · rename_i q
    have e : PySem.W.subIn K tb (.ref D) = some false := by
      rcases Bool.or_eq_true_iff.mp hn with e | e
      · rw [beq_iff_eq.mp e] at q; simp at q
      · exact beq_iff_eq.mp e
    refine wpAny_bind ((PySem.W.looks_subIn Y e).here ?_)
    simp only [Bool.false_eq_true, if_false]
    refine wpAny_bind (wpAny_mono one (fun r s' z => ?_) fun _ _ e => e)
    obtain ⟨v, rfl, hq⟩ := fin r s' z
    exact wpAny_pure hq
  · refine wpAny_bind (wpAny_pure ?_)
    simp only [Bool.false_eq_true, if_false]
    refine wpAny_bind (wpAny_mono one (fun r s' z => ?_) fun _ _ e => e)
    obtain ⟨v, rfl, hq⟩ := fin r s' z
    exact wpAny_pure hq
end
section
variable {X : Cx} {C g : Addr} {sp : Sp} {E : XK} {CXx : CXT} {n : Nat}
/-- o != y by an own __eq__, both of one class -/
def rNeOwn (C : Addr) (sp : Sp) (E : XK) : R2 := fun x y H Q => ∃ a dx fs b dy gs, x = .ref a ∧ H a = some (.ins C dx fs) ∧ y = .ref b ∧ H b = some (.ins C dy gs) ∧ sp [.ref a, .ref b] H (fun z H' => ∃ c, z = .bl c ∧ Q (.bl (!c)) H') E
theorem op_neOwn (hm : PySem.W.mroIn X.K C (.type "object") = some true) (hne : PySem.W.findIn X.K (.ref C) "__ne__" = some (some (.builtin "object.__ne__"))) (hs : PySem.W.findIn X.K (.ref C) "__eq__" = some (some (.ref g))) (hf : PySem.W.isFn X.K (.ref g) = true) (F : FnR X.prog X.w X.K X.mg X.base CXx n g sp) (hr : Room (n + 1) X.A) (hx : Passes CXx X E) :
    OpR X (compareOp .NotEq) (rNeOwn C sp E) := by
  intro pins s σ H x y v u Q I rx ry h
  obtain ⟨a, dx, fs, b, dy, gs, rfl, ha, rfl, hb, q⟩ := h
  obtain rfl : v = Value.ref a := rx
  obtain rfl : u = Value.ref b := ry
  obtain ⟨ox, od, J⟩ := inst_of I ha
  obtain ⟨ox', od', J'⟩ := inst_of I hb
  obtain ⟨m, hF⟩ := I.fr
  have run : codeAny (model X.prog X.w) X.A.in1 (.call (.ref g) ⟨[.ref a, .ref b], []⟩) (fun r s' => match r with | .ok (.ret v) => EP X pins σ (fun z H' => ∃ c, z = .bl c ∧ Q (.bl (!c)) H') v s' | .ok _ => False | .error e => X.xe e s') s := by
    refine codeAny_mono (F X.A.in1 X.stack s H [.ref a, .ref b] [.ref a, .ref b] _ E hr.in1 I.env0.in1 (.cons rfl (.cons rfl .nil)) q) fun r s' hq => ?_
    rcases r with e | (_ | _ | _ | u)
    · exact hx pins σ H s e s' I hq
    · exact hq.elim
    · exact hq.elim
    · exact hq.elim
    · exact I.after hq
  refine rich_ne hr.units hF I.ok.mod.kin J J'.type (by simp [PySem.W.notFirst]) hm hne hs hf (wpAny_mono (wpAny_call run) (fun w s' z => ?_) fun _ _ x => x)
  obtain ⟨z', H', I', rz, c, rfl, qz⟩ := z
  obtain rfl : w = Value.bool c := rz
  exact ⟨.bl (!c), H', I', rfl, qz⟩
end
end Kx

set_option maxHeartbeats 4000000
namespace Kx
open PySem PySem.Spec PyProof.Rows L2
/-- a def's promise that may speak of what runs around the call, and of the state at it -/
structure FnA (P : Program) (w : World) (K : PySem.W.Frag) (mg : Str → Option Value) (base : Heap) (CX : CXT) (k : Nat) (f : Addr) (fd : FuncData) (ps : List Str) (sp : Around → Shared → Sp) : Prop where
  len : ∀ A s vs H Q E, sp A s vs H Q E → vs.length = ps.length
  run : ∀ (A : Around) (outer : List Env) (s : Shared) (H : Hp) (args : Args) (us : List Value) (vs : List V) (Q : VK) (E : XK), Room k A → Env0 P w K mg base A outer s H → BindsTo s fd args (ps.zip us) → Vals vs us → sp A s vs H Q E →
    codeAny (model P w) A (.call (.ref f) args) (CR CX outer P w H s Q E) s
section
variable {P : Program} {w : World} {K : PySem.W.Frag} {mg : Str → Option Value} {base : Heap}
theorem okA {CX : CXT} {x qual : Str} {st : Stmt} {f : Addr} {fd : FuncData} {N ps : List Str} {k : Nat} {sp : Around → Shared → Sp} (F : Fun K x qual st f fd) (S : FnScope N ps (defScope st)) (len : ∀ A s vs H Q E, sp A s vs H Q E → vs.length = ps.length)
    (body : ∀ (cdv : Value) (A : Around) (outer : List Env) (s : Shared) (H : Hp) (vs : List V) (Q : VK) (E : XK), Room k (A.deeper (envOfC qual (defScope st) s.heap.objs.size f cdv)) → sp A s vs H Q E →
      ∃ t, PSs (cxOf CX P w K mg base N qual (defScope st) f cdv A outer s H E) (defBody st) t ∧ t { nx := fun _ H' => Q .non H', rt := Q } (start N vs) H) : FnA P w K mg base CX (k + 1) f fd ps sp := by
  obtain ⟨oc, od, kV, doc, pm, an, cdv, ct, osl, rfl, lk, hcd⟩ := F.ex
  refine ⟨len, fun A outer s H args us vs Q E hr e0 bind r h => ?_⟩
  have KX : K.In s.heap := e0.mod.kin.keeps fun b o e => (e0.bs b o e).1
  have noLim : s.heap.NoLimit := e0.mod.nolimit.keeps fun b o e => (e0.bs b o e).1
  have kinds : ∀ z ∈ ps.zip us, (defScope st).names.lookup z.1 = some .local ∨ ((defScope st).names.lookup z.1 = some .cell ∧ ((cellsFrom (s.heap.objs.size + 1) (defScope st).names []).lookup z.1).isSome = true) := fun ⟨n, v⟩ hz => by
    rcases S.par n (List.of_mem_zip hz).1 with q | q
    · exact .inl q
    · exact .inr ⟨q, PySem.W.cellsFrom_some _ _ _ (.inl q)⟩
  refine codeAny_call_function hr.depth (KX _ _ lk) rfl S.co S.gen rfl (PySem.W.codeRec_of KX hcd) (bind _ _ _ _ (wpAny_newFunctionEnv_cells S.kind kinds fun env he s1 z => ?_))
  subst he
  obtain ⟨t, ht, hq⟩ := body cdv A outer s H vs Q E (hr.deeper _) h
  refine ⟨noLim.keeps z.toInCall.keep, codeAny_func (wpAny_mono (ht.run [] s1 (start N vs) H _ (inv_start S hr.hd e0 (len _ _ _ _ _ _ h) r z) hq) (fun fl s' got => ?_) fun e s' got => got)⟩
  cases fl with
  | ret u => obtain ⟨v, σ', H', J, rv, q⟩ := got; exact ⟨v, H', J.os, J.bare, J.base, J.hok, rv, q⟩
  | next => obtain ⟨σ', H', J, q⟩ := got; exact ⟨V.non, H', J.os, J.bare, J.base, J.hok, rfl, q⟩
  | brk => obtain ⟨_, _, _, q⟩ := got; exact q.elim
  | cont => obtain ⟨_, _, _, q⟩ := got; exact q.elim
end
/-! iter of a tuple, and an own __iter__ that hands it back -/
/-- at it: an iterator over the tuple at t, at its beginning -/
def TitO (t it : Addr) : HO := .ext fun h => h.get? it = some { cls := .type "tuple_iterator", data := .fields #[.ref t, .int 0 0] }
theorem titO_ok {P : Program} {w : World} {H : Hp} {h : Heap} {t it : Addr} (e : h.get? it = some { cls := .type "tuple_iterator", data := .fields #[.ref t, .int 0 0] }) : ObjOk P w H h it (TitO t it) := ⟨e, ⟨_, e⟩, fun _ _ p k => k _ p⟩
section
variable {X : Cx}
def rIterT (K : PySem.W.Frag) (n : Nat) : List V → Hp → VK → Prop := fun xs H Q => ∃ (t : Addr) (zs : List V), xs = [.ref t] ∧ SqT K H t zs ∧ ∀ it, H it = none → n ≤ it → Q (.ref it) (upd H it (TitO t it))
theorem call_iterT : CallR X (.builtin "iter") (rIterT X.K X.s_0.heap.objs.size) := by
  intro pins s σ H xs us Q I r h
  obtain ⟨t, zs, rfl, hq, q⟩ := h
  rw [Vals.ref1 r]
  obtain ⟨its, rv, pl, hz⟩ := I.tuple hq
  refine Calls.call_function_entry (by decide +kernel) (by decide +kernel) PySem.W.kdk_entry_iter (PySem.W.kdk_args_iter _) ?_
  unfold Builtin.«iter»
  refine wpAny_bind (m := someArgs "iter" 1 2 _) (wpAny_of_eq (a := [Value.ref t]) (by first | rfl | kernel_rfl!) ?_)
  show wpAny _ _ (pyIter (.ref t) >>= _) _ _ _; refine wpAny_bind (wpAny_pyIter_tuple pl (wpAny_pure ⟨_, rfl, ?_⟩))
  exact ⟨.ref s.heap.objs.size, _, I.laid (t' := s.toks) (fun b u e => Heap.get?_push_of_some _ e) (Nat.le_refl _) (titO_ok (Heap.get?_push_size _ rfl)), rfl, q _ (I.hok.fresh (Nat.le_refl _)) I.sz⟩
/-- what an own __iter__ promises that hands back iter(t), t a tuple -/
def spIterT (K : PySem.W.Frag) (C : Addr) (T : List (Str × V) → Addr → List V → Prop) : Around → Shared → Sp := fun _ s vs H Q _ => ∃ (a dx : Addr) (fs : List (Str × V)), vs = [.ref a] ∧ H a = some (.ins C dx fs) ∧ ∃ t zs, T fs t zs ∧ SqT K H t zs ∧
  ∀ it, H it = none → s.heap.objs.size ≤ it → Q (.ref it) (upd H it (TitO t it))
/-- for x in o, o an instance with such an __iter__ -/
def iOwnT (K : PySem.W.Frag) (C : Addr) (T : List (Str × V) → Addr → List V → Prop) (te : TE) : TI := fun σ H R => te σ H fun x H1 => ∃ a dx fs t zs, x = .ref a ∧ H1 a = some (.ins C dx fs) ∧ T fs t zs ∧ SqT K H1 t zs ∧ R (Itt K t) H1
theorem pi_ownT {C g : Addr} {fd : FuncData} {n : Nat} {T : List (Str × V) → Addr → List V → Prop} {tg e : Expr} {te : TE} (hs : PySem.W.findIn X.K (.ref C) "__iter__" = some (some (.ref g))) (hf : PySem.W.isFn X.K (.ref g) = true) (F : FnA X.prog X.w X.K X.mg X.base CX0 n g fd ["self"] (spIterT X.K C T)) (hb : Binds X.K fd ["self"] []) (hr : Room n X.A) (he : PE X e te) :
    PI X tg e (iOwnT X.K C T te) := by
  refine ⟨fun pins s σ H R I h => thn (he.run pins s σ H _ I h) fun v s1 ⟨x, H1, I1, r1, q1⟩ => ?_⟩
  obtain ⟨a, dx, fs, t, zs, rfl, ha, hT, hq, q⟩ := q1
  obtain rfl : v = Value.ref a := r1
  obtain ⟨mA, J, _⟩ := ins_get I1.hok ha
  obtain ⟨od, J, _⟩ := J.look
  obtain ⟨m, hF⟩ := I1.fr
  refine PySem.W.owit_iter hF I1.ok.mod.kin J hs hf (wpAny_call (codeAny_mono (F.run X.A X.stack s1 H1 ⟨[.ref a], []⟩ [.ref a] [.ref a] (fun z H2 => ∃ it, z = .ref it ∧ H1 it = none ∧ s1.heap.objs.size ≤ it ∧ H2 = upd H1 it (TitO t it)) (fun _ _ _ => False) hr I1.env0
    (by have := hb s1 [.ref a] I1.kIn rfl; simpa using this) (.cons rfl .nil) ⟨a, dx, fs, rfl, ha, t, zs, hT, hq, fun it h1 h2 => ⟨it, rfl, h1, h2, rfl⟩⟩) fun r s2 got => ?_))
  rcases r with e | (_ | _ | _ | u)
  · exact got.elim
  · exact got.elim
  · exact got.elim
  · exact got.elim
  · obtain ⟨z, H2, I2, rz, it, rfl, h1, h2, rfl⟩ := I1.after got
    obtain rfl : u = Value.ref it := rz
    have at_ : s2.heap.get? it = some { cls := .type "tuple_iterator", data := .fields #[.ref t, .int 0 0] } := (I2.hok it _ upd_same).1
    have I3 : Inv X pins σ H1 s2 := by
      have z := ItX.inv_drop I2 (φ := _) upd_same
      rw [ItX.dropH_upd h1] at z
      exact z
    refine wpAny_bind (wpAny_typeOf (T := "tuple_iterator") ⟨_, at_, rfl⟩ (wpAny_of_eq PySem.F.slot_tuple_iterator_next.lookup ?_))
    exact ⟨it, [it], _, _, H1, rfl, I3, turn_tuple t it, ⟨_, at_, rfl, rfl⟩, (fun b hb => by
      have e : b = it := by simpa using hb
      rw [e]
      exact I1.fpOk h2 h1), q⟩
end
end Kx

set_option maxHeartbeats 4000000
namespace Kx
open PySem PySem.Spec PyProof.Rows L2
/-! tuple(dict): the keys in order -/
section
variable {prog : Program} {w : World} {A : Around} {E : Value → Shared → Prop} {s : Shared} {d : Addr} {n : Nat} {P : Nat → Value → Prop} {OK : Heap → Prop}
theorem code_tuple_new_dict {Q₁ : Value → Shared → Prop} (S : PySem.W.KdlSrc prog w "dict" d d n P OK) (hh : A.handled = none) (hok : OK s.heap) (hn : n ≤ sizeLine)
    (h : ∀ (h' : Heap) (tk : Nat) (acc : Array Value), (∀ b o, s.heap.get? b = some o → h'.get? b = some o) → ItemsOf P acc n →
      Q₁ (.ref h'.objs.size) { s with heap := h'.push { cls := .type "tuple", data := .seq acc }, toks := tk }) :
    codeAny (model prog w) A (.call (.builtin "tuple.__new__") ⟨[.type "tuple", .ref d], []⟩) (wants Q₁ E) s := by
  refine codeAny_of_tree ?_
  show wpAny _ A.in1 (do checkBuiltinCall "tuple.__new__" ⟨[.type "tuple", .ref d], []⟩; again (.builtin "tuple.__new__" ⟨[.type "tuple", .ref d], []⟩)) _ _ s
  refine wpAny_bind (wpAny_of_eq (F.newCall_tuple_1 _) (wpAny_pure ⟨plainId_quiet F.plain_tuple_new _, codeAny_builtin F.entry_tuple_new ?_⟩))
  rw [Around.under_plainId F.plain_tuple_new _]
  have hsub := sub_tuple_self
  have hinit := init_tuple_lookup
  have hmh := madeHere_tuple
  obtain ⟨od, hod, hcd⟩ := S.type _ hok
  have hTI : s.TypeIs (.ref d) "dict" := ⟨od, hod, hcd⟩
  have hh1 : A.in1.handled = none := hh
  wp_walk using wpAny_typeOf hTI, PySem.W.kdu_collect (A := A.in1) S hh1 hok hn
  intro h' tk acc hk hacc
  show wpAny _ _ (Builtin.Tuple.tupleExact acc.toList.toArray >>= fun v => ret v) _ _ _
  unfold Builtin.Tuple.tupleExact
  refine wpAny_bind (wpAny_newObj_type ?_ (by show acc.toList.toArray.size ≤ sizeLine; simp only [Array.toArray_toList]; rw [hacc.1]; exact hn))
  refine wpAny_pure ?_
  have e : acc.toList.toArray = acc := by simp
  rw [e]
  exact h h' tk acc hk hacc
theorem call_tuple_dict {Q : Value → Shared → Prop} (S : PySem.W.KdlSrc prog w "dict" d d n P OK) (hh : A.handled = none) (hok : OK s.heap) (hn : n ≤ sizeLine)
    (hQ : ∀ (h' : Heap) (tk : Nat) (acc : Array Value), (∀ b o, s.heap.get? b = some o → h'.get? b = some o) → ItemsOf P acc n →
      Q (.ref h'.objs.size) { s with heap := h'.push { cls := .type "tuple", data := .seq acc }, toks := tk }) :
    wpAny (model prog w) A (call (.type "tuple") [.ref d]) Q E s := by
  refine callType_codes (Q₁ := fun obj s₁ => s₁.TypeIs obj "tuple" ∧ Q obj s₁) F.called_tuple (F.typeCall_tuple_1 _) F.entry_object_init
    (code_tuple_new_dict (A := A.in1) S hh hok hn fun h' tk acc hk hacc => ⟨⟨_, Heap.get?_push_size _ rfl, rfl⟩, hQ h' tk acc hk hacc⟩) fun obj s₁ h₁ => ?_
  exact ⟨h₁.1, F.args_object_init_2 obj _, object_init_meets F.called_tuple.init.lookup F.called_tuple.made (by decide) prog w A.in1 _ s₁ ⟨h₁.1, rfl, h₁.2⟩⟩
end
def rTupD : List V → Hp → VK → Prop := fun xs H Q => ∃ p kvs, xs = [.ref p] ∧ H p = some (.dK kvs) ∧ ∀ q, H q = none → Q (.ref q) (upd H q (.tup (kvs.map fun kv => kV kv.1)))
theorem call_tuple_dK {X : Cx} (hc : X.calm = true) : CallR X (.type "tuple") rTupD := by
  intro pins s σ H xs us Q I r h
  obtain ⟨p, kvs, e, hk, q⟩ := h
  subst e
  obtain ⟨u, eu, rx⟩ := vals1 r
  subst eu
  obtain rfl : u = Value.ref p := rx
  obtain ⟨z, lo, vs, rk, hd⟩ := (show ObjOk X.prog X.w H s.heap p (.dK kvs) from I.hok p _ hk)
  obtain ⟨ep, hat⟩ := hd.dictAt
  have hl : kvs.length = vs.length := Paired.length rk
  refine call_tuple_dict (PySem.W.kdl_dict (knd := mixKind X.prog X.w) (kvs := vs) (ep := ep) lo) (I.ok.hd hc) hat (by rw [← hl]; exact z) fun h' tk acc' hkeep hacc => ?_
  have I2 : Inv X pins σ H { s with heap := h', toks := tk } := I.kept hkeep
  refine ⟨.ref h'.objs.size, upd H h'.objs.size (.tup (kvs.map fun kv => kV kv.1)), I2.laid (t' := tk) (fun c o e => Heap.get?_push_of_some _ e) (Nat.le_refl _) (show ObjOk X.prog X.w _ _ _ (.tup (kvs.map fun kv => kV kv.1)) from ⟨?_, acc'.toList, ?_, ?_⟩), rfl, q _ (I2.hok.fresh (Nat.le_refl _))⟩
  · rw [List.length_map]; exact z
  · have el : acc'.toList.length = acc'.size := by simp
    refine vals_of_at (by rw [List.length_map, el, hacc.1, hl]) fun j x w h1 h2 => ?_
    obtain ⟨k, y, hky, hi⟩ := hacc.2 j w (by rw [← Array.getElem?_toList]; exact h2)
    have e1 : (kvs.map (·.1))[j]? = some k := by
      rw [KV.keys rk, List.getElem?_map, hky] <;> rfl
    have e2 : (kvs.map fun kv => kV kv.1)[j]? = some (kV k) := by
      have e3 : (kvs.map fun kv => kV kv.1) = (kvs.map (·.1)).map kV := by rw [List.map_map] <;> rfl
      rw [e3, List.getElem?_map, e1] <;> rfl
    rw [e2] at h1
    cases h1
    exact keyIs_rel hi
  · rw [Array.toArray_toList]; exact IsTup.new _ _
end Kx

set_option maxHeartbeats 4000000
namespace Kx
open PySem L2
/-! rows of kinds: what is asked of them, in plain words -/
/-- a thing that is asked about: its kind, and its text is of known length -/
structure Thing (H : Hp) (x : V) (n : String) : Prop where
  kd : Kd H x n
  fine : ∀ z, x = .str z → PyData.strOk z = true ∧ z.length ≤ 100
theorem Thing.keep {H H' : Hp} {x : V} {n : String} (t : Thing H x n) (s : Same H H') : Thing H' x n := ⟨t.kd.keep s, t.fine⟩
theorem Kd.uniq {H : Hp} {x : V} {n m : String} (a : Kd H x n) (b : Kd H x m) : n = m := by
  cases a with
  | non => cases b; rfl
  | bl => cases b; rfl
  | int => cases b; rfl
  | str => cases b; rfl
  | lst a xs h => cases b with
    | lst _ ys h' => rfl
    | tup _ ys h' => rw [h] at h'; cases h'
    | dct _ ys h' => rw [h] at h'; cases h'
  | tup a xs h => cases b with
    | lst _ ys h' => rw [h] at h'; cases h'
    | tup _ ys h' => rfl
    | dct _ ys h' => rw [h] at h'; cases h'
  | dct a xs h => cases b with
    | lst _ ys h' => rw [h] at h'; cases h'
    | tup _ ys h' => rw [h] at h'; cases h'
    | dct _ ys h' => rfl
/-- a row, as it stands: a pair, or no sequence of two -/
inductive RowIs (H : Hp) : V → Option (V × V) → Prop where
  | lst {b : Addr} {n a : V} {t u : String} (h : H b = some (.lst [n, a])) (hn : Thing H n t) (ha : Thing H a u) : RowIs H (.ref b) (some (n, a))
  | tup {b : Addr} {n a : V} {t u : String} (h : H b = some (.tup [n, a])) (hn : Thing H n t) (ha : Thing H a u) : RowIs H (.ref b) (some (n, a))
  | lstN {b : Addr} {xs : List V} (h : H b = some (.lst xs)) (l : xs.length ≠ 2) : RowIs H (.ref b) none
  | tupN {b : Addr} {xs : List V} (h : H b = some (.tup xs)) (l : xs.length ≠ 2) : RowIs H (.ref b) none
  | oth {y : V} {n : String} (h : Kd H y n) (l : seqV n = false) : RowIs H y none
theorem RowIs.keep {H H' : Hp} {y : V} {r : Option (V × V)} (h : RowIs H y r) (s : Same H H') : RowIs H' y r := by
  cases h with
  | lst h hn ha => exact .lst (s _ _ h) (hn.keep s) (ha.keep s)
  | tup h hn ha => exact .tup (s _ _ h) (hn.keep s) (ha.keep s)
  | lstN h l => exact .lstN (s _ _ h) l
  | tupN h l => exact .tupN (s _ _ h) l
  | oth h l => exact .oth (h.keep s) l
theorem RowIs.kd {H : Hp} {y : V} {r : Option (V × V)} (h : RowIs H y r) : ∃ n, Kd H y n ∧ (seqV n = false → r = none) := by
  cases h with
  | lst h hn ha => exact ⟨_, .lst _ _ h, fun z => nomatch z⟩
  | tup h hn ha => exact ⟨_, .tup _ _ h, fun z => nomatch z⟩
  | lstN h l => exact ⟨_, .lst _ _ h, fun _ => rfl⟩
  | tupN h l => exact ⟨_, .tup _ _ h, fun _ => rfl⟩
  | oth h l => exact ⟨_, h, fun _ => rfl⟩
/-- the word for a row that may not follow the names -/
def rowWord (names : List Str) : Option (V × V) → Option Str
  | none => some "row"
  | some (.str z, a) => if isLab z then (if z = "year" then some "year" else if z ∈ names then some "double" else if wholeV a 0 2 then none else some "arity") else some "label"
  | some _ => some "label"
theorem rowWord_lab {names : List Str} {n a : V} (h : labV n = false) : rowWord names (some (n, a)) = some (Str.ofString "label") := by
  cases n with
  | str z =>
    have h : isLab z = false := h
    show (if isLab z = true then _ else _) = _
    rw [h]
    rfl
  | _ => rfl
theorem lab_str {n : V} (h : labV n = true) : ∃ z, n = .str z ∧ isLab z = true := by
  cases n with
  | str z => exact ⟨z, rfl, h⟩
  | _ => cases h
def wordV : Option Str → V
  | none => .non
  | some w => .str w
/-- the dict of the kinds that were read -/
def kvOf (ps : List (Str × V)) : List (Key × V) := ps.map fun p => (Sum.inr p.1, p.2)
theorem kv_in (z : Str) : ∀ ps : List (Str × V), (valV (kvOf ps) (Sum.inr z : Key)).isSome = decide (z ∈ ps.map (·.1))
  | [] => rfl
  | p :: ps => by
    have ih := kv_in z ps
    by_cases e : p.1 = z
    · have e1 : valV (kvOf (p :: ps)) (Sum.inr z : Key) = some p.2 := valV_pos (congrArg Sum.inr e)
      rw [e1]
      simp [e]
    · have e1 : valV (kvOf (p :: ps)) (Sum.inr z : Key) = valV (kvOf ps) (Sum.inr z : Key) := valV_neg fun q => e (Sum.inr.inj q)
      have e2 : ¬ z = p.1 := fun q => e q.symm
      rw [e1, ih]
      simp [e2]
structure Km (mg : Str → Option Value) : Prop where
  year : ∃ t, mg "YEAR" = some (.str "year" t)
  arity : ∃ t, mg "MOST_ARITY" = some (.int 2 t)
  many : ∃ t, mg "MOST_KINDS" = some (.int 6 t)
def spRowFault : Sp := fun vs H Q _ => ∃ (y : V) (d : Addr) (ps : List (Str × V)) (r : Option (V × V)), vs = [y, .ref d] ∧ RowIs H y r ∧ H d = some (.dK (kvOf ps)) ∧ ∀ H', Same H H' → Q (wordV (rowWord (ps.map (·.1)) r)) H'
section
variable {P : Program} {w : World} {K : PySem.W.Frag} {mg : Str → Option Value} {base : Heap}
theorem scRowFault : FnScope ["row", "arities", "name", "arity"] ["row", "arities"] (defScope sRowFault) := ⟨rfl, rfl, rfl, by decide +kernel, rfl, by decide +kernel, by decide +kernel⟩
theorem ok_rowfault {f : Addr} {fd : FuncData} (F : Fun K "_row_fault" "_row_fault" sRowFault f fd) (m : mg "_row_fault" = some (.ref f)) (T : Bl mg) (B : Bm mg) (M : Km mg) (Sq : HasF P w K mg base "is_sequence" 1 ["thing"] spSeq) (Lb : HasF P w K mg base "is_label" 1 ["thing"] spLabel) (W : HasF P w K mg base "is_whole" 1 ["thing", "low", "high"] spWhole) : HasF P w K mg base "_row_fault" 2 ["row", "arities"] spRowFault := by
  refine ⟨f, fd, ?_, m, F.kp, F.binds fun _ _ _ _ _ _ us hl => match us, hl with | [_, _], _ => rfl⟩
  obtain ⟨f1, fd1, Sq⟩ := Sq; obtain ⟨f2, fd2, Lb⟩ := Lb; obtain ⟨f3, fd3, W⟩ := W
  obtain ⟨t1, mY⟩ := M.year; obtain ⟨t2, mA⟩ := M.arity
  refine F.ok scRowFault (fun vs H Q E h => ?_) (fun cdv A outer s H vs Q E hr h => ?_)
  · obtain ⟨a, b, c, d, rfl, _⟩ := h
    rfl
  · obtain ⟨y, d, ps, r, rfl, hy, hd, k⟩ := h
    have hu := hu_of hr
    refine ⟨_, (C8.pss_cut (ps_if (PW.pt (pw_or (pt_not (pt_val (pe_call Sq.G hr (by rfl) Sq.m Sq.kp Sq.b .nil pass0 (pa_cons (pv 0) pa_nil)))) (pw_or1 (pt_cmpR op_ne (pe_callB call_len_seq (by rfl) T.len PySem.boot_len (pa_cons (pv 0) pa_nil)) pe_int (nomark _))))) (pss_one (ps_ret pe_str)) pss_nil)
    (C8.pss_cut (ps_asg (pv 0) (pg_or (pg_lst rfl (pgs_cons (pg_name (i := 2) scRowFault.nd rfl (.inl rfl)) (pgs_cons (pg_name (i := 3) scRowFault.nd rfl (.inl rfl)) pgs_nil))) (pg_tup rfl (pgs_cons (pg_name (i := 2) scRowFault.nd rfl (.inl rfl)) (pgs_cons (pg_name (i := 3) scRowFault.nd rfl (.inl rfl)) pgs_nil)))))
    (pss_cons (ps_if (pt_not (pt_val (pe_call Lb.G hr (by rfl) Lb.m Lb.kp Lb.b .nil pass0 (pa_cons (pv 2) pa_nil)))) (pss_one (ps_ret pe_str)) pss_nil)
    (pss_cons (ps_if (pt_cmpR op_eq (pv 2) (pe_glob (v := .str "year") rfl mY ⟨_, rfl⟩) (nomark _)) (pss_one (ps_ret pe_str)) pss_nil)
    (pss_cons (ps_if (pt_cmp (pc_din hu (pv 2) (pv 1))) (pss_one (ps_ret pe_str)) pss_nil)
    (pss_cons (ps_if (pt_not (pt_val (pe_call W.G hr (by rfl) W.m W.kp W.b .nil pass0 (pa_cons (pv 3) (pa_cons pe_int (pa_cons (pe_glob (v := .int 2) rfl mA ⟨_, rfl⟩) pa_nil)))))) (pss_one (ps_ret pe_str)) pss_nil)
    (pss_one (ps_ret pe_non)))))))), ?_⟩
    refine ⟨fun σ H1 => ∃ (b : Addr) (n a : V) (t u : String), y = .ref b ∧ r = some (n, a) ∧ σ = [some y, some (.ref d), none, none] ∧ Same H H1 ∧ (H1 b = some (.lst [n, a]) ∨ H1 b = some (.tup [n, a])) ∧ Thing H1 n t ∧ Thing H1 a u, ?_, ?_⟩
    · obtain ⟨n, kd, kn⟩ := hy.kd
      refine ⟨_, rfl, y, n, rfl, kd, fun H1 s1 => ⟨_, rfl, ?_⟩⟩
      have hy1 := hy.keep s1
      have bad : r = none → ∀ H', Same H H' → Q (.str "row") H' := fun e H' s => by
        subst e
        exact k H' s
      cases e1 : seqV n with
      | false => exact iteT (bad (kn e1) _ s1)
      | true =>
        refine iteF ?_
        cases hy1 with
        | lst h hn ha => exact ⟨_, rfl, _, _, rfl, .inl (SqL.of h), rfl, _, rfl, iteF ⟨_, _, _, _, _, rfl, rfl, rfl, s1, .inl h, hn, ha⟩⟩
        | tup h hn ha => exact ⟨_, rfl, _, _, rfl, .inr (SqT.of h), rfl, _, rfl, iteF ⟨_, _, _, _, _, rfl, rfl, rfl, s1, .inr h, hn, ha⟩⟩
        | lstN h l =>
          refine ⟨_, rfl, _, _, rfl, .inl (SqL.of h), rfl, _, rfl, ?_⟩
          rw [decide_eq_false (fun e => l (by have := V.int.inj e; omega))]
          exact iteT (bad rfl _ s1)
        | tupN h l =>
          refine ⟨_, rfl, _, _, rfl, .inr (SqT.of h), rfl, _, rfl, ?_⟩
          rw [decide_eq_false (fun e => l (by have := V.int.inj e; omega))]
          exact iteT (bad rfl _ s1)
        | oth h l =>
          rw [← (kd.keep s1).uniq h, e1] at l
          cases l
    rintro σ H1 ⟨b, n, a, t, u, rfl, rfl, rfl, s1, hb, hn, ha⟩
    have hd1 := s1 _ _ hd
    refine ⟨fun σ H' => σ = [some (.ref b), some (.ref d), some n, some a] ∧ H' = H1, ?_, ?_⟩
    · refine ⟨_, rfl, ?_⟩
      rcases hb with hb | hb
      · exact .inl ⟨b, _, rfl, SqL.of hb, rfl, _, _, rfl, _, _, rfl, rfl, rfl, rfl⟩
      · exact .inr ⟨b, _, rfl, SqT.of hb, rfl, _, _, rfl, _, _, rfl, rfl, rfl, rfl⟩
    rintro σ H2 ⟨rfl, rfl⟩
    refine ⟨_, rfl, n, t, rfl, hn.kd, (fun z e => Nat.le_of_lt (small1000 (by have := (hn.fine z e).2; omega))), _, rfl, ?_⟩
    cases e2 : labV n with
    | false =>
      refine iteT ?_
      have q := k _ s1
      rw [rowWord_lab e2] at q
      exact q
    | true =>
    refine iteF ?_
    obtain ⟨z, rfl, hz⟩ := lab_str e2
    have word : ∀ w' : Option Str, (if z = "year" then some (Str.ofString "year") else if z ∈ ps.map (·.1) then some (Str.ofString "double") else if wholeV a 0 2 = true then none else some (Str.ofString "arity")) = w' → ∀ H', Same H H' → Q (wordV w') H' := fun w' e H' s => by
      have q := k H' s
      have e3 : rowWord (ps.map (·.1)) (some (.str z, a)) = w' := by
        show (if isLab z = true then _ else _) = w'
        rw [if_pos hz]
        exact e
      rw [e3] at q
      exact q
    refine ⟨_, rfl, rfl, _, rfl, ?_⟩
    refine ite2 (fun h1 => ?_) (fun h1 => ?_)
    · have e3 : z = Str.ofString "year" := V.str.inj (of_decide_eq_true h1)
      exact word (some "year") (if_pos e3) _ s1
    have n3 : ¬ z = Str.ofString "year" := fun e => h1 (decide_eq_true (congrArg V.str e))
    refine ⟨_, rfl, _, rfl, d, _, rfl, DGet.k (k := Sum.inr z) hd1, _, rfl, ?_⟩
    have kin := kv_in z ps
    cases e4 : valV (kvOf ps) (Sum.inr z : Key) with
    | some v =>
      rw [e4] at kin
      have m4 : z ∈ ps.map (·.1) := of_decide_eq_true kin.symm
      exact iteT (word (some "double") (by rw [if_neg n3, if_pos m4]) _ s1)
    | none =>
      rw [e4] at kin
      have m4 : ¬ z ∈ ps.map (·.1) := of_decide_eq_false kin.symm
      refine iteF ⟨_, rfl, a, u, 0, 2, rfl, ha.kd, _, rfl, ?_⟩
      cases e5 : wholeV a 0 2 with
      | false => exact iteT (word (some "arity") (by rw [if_neg n3, if_neg m4, e5]; rfl) _ s1)
      | true => exact iteF (word none (by rw [if_neg n3, if_neg m4, e5]; rfl) _ s1)
end
end Kx

set_option maxHeartbeats 4000000
namespace Kx
open PySem L2
/-! Kinds(rows): the rows read one by one -/
def nameOf : Option (V × V) → Str
  | some (.str z, _) => z
  | _ => "?"
def arOf : Option (V × V) → V
  | some (_, a) => a
  | _ => .non
def prOf (r : Option (V × V)) : Str × V := (nameOf r, arOf r)
/-- where and why the first row is wrong -/
def scanK : List Str → Nat → List (Option (V × V)) → Option (Nat × Str)
  | _, _, [] => none
  | names, i, r :: rs => match rowWord names r with
    | some w => some (i, w)
    | none => scanK (names ++ [nameOf r]) (i + 1) rs
def rowsDue : Option (List (Option (V × V))) → Option (Nat × Str)
  | none => some (0, "rows")
  | some rs => if 1 ≤ rs.length ∧ rs.length ≤ 6 then scanK [] 0 rs else some (0, "rows")
/-- the things xs are the rows rs -/
def AllR (H : Hp) (xs : List V) (rs : List (Option (V × V))) : Prop := xs.length = rs.length ∧ ∀ (i : Nat) (y : V) (r : Option (V × V)), xs[i]? = some y → rs[i]? = some r → RowIs H y r
theorem AllR.keep {H H' : Hp} {xs : List V} {rs : List (Option (V × V))} (h : AllR H xs rs) (s : Same H H') : AllR H' xs rs := ⟨h.1, fun i y r e1 e2 => (h.2 i y r e1 e2).keep s⟩
inductive RowsIs (H : Hp) : V → Option (List (Option (V × V))) → Prop where
  | lst {b : Addr} {xs : List V} {rs : List (Option (V × V))} (h : H b = some (.lst xs)) (a : AllR H xs rs) (l : xs.length ≤ 100) : RowsIs H (.ref b) (some rs)
  | tup {b : Addr} {xs : List V} {rs : List (Option (V × V))} (h : H b = some (.tup xs)) (a : AllR H xs rs) (l : xs.length ≤ 100) : RowsIs H (.ref b) (some rs)
  | oth {y : V} {n : String} (h : Kd H y n) (l : seqV n = false) : RowsIs H y none
theorem RowsIs.kd {H : Hp} {y : V} {r : Option (List (Option (V × V)))} (h : RowsIs H y r) : ∃ n, Kd H y n ∧ (seqV n = false → r = none) := by
  cases h with
  | lst h a l => exact ⟨_, .lst _ _ h, fun z => nomatch z⟩
  | tup h a l => exact ⟨_, .tup _ _ h, fun z => nomatch z⟩
  | oth h l => exact ⟨_, h, fun _ => rfl⟩
theorem RowsIs.keep {H H' : Hp} {y : V} {r : Option (List (Option (V × V)))} (h : RowsIs H y r) (s : Same H H') : RowsIs H' y r := by
  cases h with
  | lst h a l => exact .lst (s _ _ h) (a.keep s) l
  | tup h a l => exact .tup (s _ _ h) (a.keep s) l
  | oth h l => exact .oth (h.keep s) l
/-- a Kinds stands at p: its pairs -/
structure KindsAt (C : Addr) (H : Hp) (p : Addr) (ps : List (Str × V)) : Prop where
  ob : ∃ (dx : Addr) (fs : List (Str × V)) (r n d : Addr) (ts : List Addr), H p = some (.ins C dx fs) ∧ fs.lookup ("rows" : Str) = some (.ref r) ∧ fs.lookup ("names" : Str) = some (.ref n) ∧ fs.lookup ("_arities" : Str) = some (.ref d) ∧
    (∀ m : Str, ¬ m = Str.ofString "rows" → ¬ m = Str.ofString "names" → ¬ m = Str.ofString "_arities" → fs.lookup m = none) ∧
    H r = some (.tup (ts.map V.ref)) ∧ ts.length = ps.length ∧ (∀ (i : Nat) (t : Addr) (q : Str × V), ts[i]? = some t → ps[i]? = some q → H t = some (.tup [.str q.1, q.2])) ∧
    H n = some (.tup (ps.map fun q => V.str q.1)) ∧ H d = some (.dK (kvOf ps))
theorem KindsAt.keep {C : Addr} {H H' : Hp} {p : Addr} {ps : List (Str × V)} (k : KindsAt C H p ps) (s : Same H H') : KindsAt C H' p ps := by
  obtain ⟨dx, fs, r, n, d, ts, h1, h2, h3, h4, h5, h6, h7, h8, h9, h10⟩ := k.ob
  exact ⟨dx, fs, r, n, d, ts, s _ _ h1, h2, h3, h4, h5, s _ _ h6, h7, fun i t q e1 e2 => s _ _ (h8 i t q e1 e2), s _ _ h9, s _ _ h10⟩
/-- a row that may follow is a label not seen and a small number -/
theorem rowWord_none {names : List Str} {r : Option (V × V)} (h : rowWord names r = none) : ∃ (z : Str) (k : Int), r = some (.str z, .int k) ∧ isLab z = true ∧ ¬ z = Str.ofString "year" ∧ ¬ z ∈ names ∧ 0 ≤ k ∧ k ≤ 2 := by
  cases r with
  | none => cases h
  | some p =>
    obtain ⟨n, a⟩ := p
    cases n with
    | str z =>
      have h : (if isLab z = true then (if z = Str.ofString "year" then some (Str.ofString "year") else if z ∈ names then some (Str.ofString "double") else if wholeV a 0 2 = true then none else some (Str.ofString "arity")) else some (Str.ofString "label")) = none := h
      by_cases h1 : isLab z = true
      · rw [if_pos h1] at h
        by_cases h2 : z = Str.ofString "year"
        · rw [if_pos h2] at h; cases h
        · rw [if_neg h2] at h
          by_cases h3 : z ∈ names
          · rw [if_pos h3] at h; cases h
          · rw [if_neg h3] at h
            by_cases h4 : wholeV a 0 2 = true
            · cases a with
              | int k =>
                have h4 : (decide (0 ≤ k) && decide (k ≤ 2)) = true := h4
                rw [Bool.and_eq_true, decide_eq_true_eq, decide_eq_true_eq] at h4
                exact ⟨z, k, rfl, h1, h2, h3, h4.1, h4.2⟩
              | _ => cases h4
            · rw [if_neg h4] at h; cases h
      · rw [if_neg h1] at h; cases h
    | _ => cases h
theorem scanK_step {names : List Str} {rs : List (Option (V × V))} {i : Nat} {r : Option (V × V)} (e : rs[i]? = some r) : scanK names i (rs.drop i) = match rowWord names r with
    | some w => some (i, w)
    | none => scanK (names ++ [nameOf r]) (i + 1) (rs.drop (i + 1)) := by
  have lt : i < rs.length := (List.getElem?_eq_some_iff.mp e).1
  have e2 : rs[i] = r := (List.getElem?_eq_some_iff.mp e).2
  rw [List.drop_eq_getElem_cons lt, e2]
  rfl
theorem take_succ_of {α : Type} {l : List α} {i : Nat} {x : α} (e : l[i]? = some x) : l.take (i + 1) = l.take i ++ [x] := by
  rw [List.take_add_one, e]
  rfl
theorem kvOf_put {ps : List (Str × V)} {z : Str} {a : V} (h : ¬ z ∈ ps.map (·.1)) : putK (kvOf ps) (Sum.inr z : Key) a = kvOf (ps ++ [(z, a)]) := by
  have e : valV (kvOf ps) (Sum.inr z : Key) = none := by
    have q := kv_in z ps
    rw [decide_eq_false h] at q
    cases e : valV (kvOf ps) (Sum.inr z : Key) with
    | none => rfl
    | some v => rw [e] at q; cases q
  rw [putK_new _ e]
  simp [kvOf]
theorem kvOf_keys (ps : List (Str × V)) : (kvOf ps).map (fun kv => kV kv.1) = ps.map fun q => V.str q.1 := by
  simp [kvOf, kV]
/-- what __init__ promises: the pairs, or the first wrong row -/
def spKinds (K : PySem.W.Frag) (C CB : Addr) : Sp := fun vs H Q E => ∃ (p dx : Addr) (y : V) (r : Option (List (Option (V × V)))), vs = [.ref p, y] ∧ H p = some (.ins C dx []) ∧ RowsIs H y r ∧ y ≠ .ref p ∧ y ≠ .ref dx ∧
  match rowsDue r with
  | some (i, w) => ∀ d H', H d = none → Same H H' → H' d = some (.xd [("what", .str w), ("index", .int (i : Nat))]) → E (.ref CB) (some d) H'
  | none => ∀ (rs : List (Option (V × V))) H', r = some rs → (∀ b o, H b = some o → b ≠ p → H' b = some o) → KindsAt C H' p (rs.map prOf) → Q .non H'
end Kx

set_option maxHeartbeats 4000000
namespace Kx
open PySem L2
/-- what is known of the class Kinds -/
structure KC (K : PySem.W.Frag) (C : Addr) : Prop where
  cl : Cls K C
  nR : NoAttr K C "rows"
  nN : NoAttr K C "names"
  nA : NoAttr K C "_arities"
  ca : PySem.W.findIn K (.ref C) "__class__" = some (some (.builtin "object.__class__"))
  cg : PySem.W.specialIn K (.builtin "object.__class__") "__get__" = some (some (.builtin "getset_descriptor.__get__"))
  ct : PySem.W.takesIn K (.builtin "object.__class__") = some true
  cm : PySem.W.mroIn K C (.type "object") = some true
  isT : PySem.W.kitOne K (.type "tuple") (.ref C) = some false
theorem s_rn : ¬ (Str.ofString "rows") = Str.ofString "names" := by decide +kernel
theorem s_ra : ¬ (Str.ofString "rows") = Str.ofString "_arities" := by decide +kernel
theorem s_na : ¬ (Str.ofString "names") = Str.ofString "_arities" := by decide +kernel
def kFs (r n d : Addr) : List (Str × V) := putF "_arities" (.ref d) (putF "names" (.ref n) (putF "rows" (.ref r) []))
theorem kFs_rows (r n d : Addr) : (kFs r n d).lookup ("rows" : Str) = some (.ref r) := by
  unfold kFs
  rw [lookup_putF, if_neg s_ra, lookup_putF, if_neg s_rn, lookup_putF, if_pos rfl]
theorem kFs_names (r n d : Addr) : (kFs r n d).lookup ("names" : Str) = some (.ref n) := by
  unfold kFs
  rw [lookup_putF, if_neg s_na, lookup_putF, if_pos rfl]
theorem kFs_ar (r n d : Addr) : (kFs r n d).lookup ("_arities" : Str) = some (.ref d) := by
  unfold kFs
  rw [lookup_putF, if_pos rfl]
theorem kFs_no (r n d : Addr) {m : Str} (h1 : ¬ m = Str.ofString "rows") (h2 : ¬ m = Str.ofString "names") (h3 : ¬ m = Str.ofString "_arities") : (kFs r n d).lookup m = none := by
  unfold kFs
  rw [lookup_putF, if_neg h3, lookup_putF, if_neg h2, lookup_putF, if_neg h1]
  rfl
section
variable {P : Program} {w : World} {K : PySem.W.Frag} {mg : Str → Option Value} {base : Heap}
theorem scKinds : FnScope ["self", "rows", "arities", "index", "row", "word", "name", "arity"] ["self", "rows"] (defScope sKinds_init) := ⟨rfl, rfl, rfl, by decide +kernel, rfl, by decide +kernel, by decide +kernel⟩
theorem ok_kinds {f C CB fB : Addr} {fd fdB : FuncData} (F : Fun K "__init__" "Kinds.__init__" sKinds_init f fd) (T : Bl mg) (B : Bm mg) (M : Km mg) (KX : KC K C) (Sq : HasF P w K mg base "is_sequence" 1 ["thing"] spSeq) (R : HasF P w K mg base "_row_fault" 2 ["row", "arities"] spRowFault)
    (EB : ErC P w K mg base "BadKinds" ["self", "index", "what"] CB fB fdB (spInit2 K CB "index" "what")) (n1 : PySem.W.findIn K (.ref CB) "index" = some none) (n2 : PySem.W.findIn K (.ref CB) "what" = some none) :
    FnOk P w K mg base (L2.CX P w) 3 f fd ["self", "rows"] (spKinds K C CB) := by
  obtain ⟨f1, fd1, Sq⟩ := Sq; obtain ⟨f2, fd2, R⟩ := R
  obtain ⟨t1, mM⟩ := M.many
  refine F.okX scKinds (fun vs H Q E h => ?_) (fun cdv A outer s H vs Q E hr h => ?_)
  · obtain ⟨p, dx, y, r, rfl, _⟩ := h
    rfl
  · obtain ⟨p, dx, y, r, rfl, hp, hy, yp, yd, k⟩ := h
    have hu := hu_of hr
    have hr1 : Room 1 _ := hr.mono (by decide)
    refine ⟨_, (C8.pss_cut (ps_if (PW.pt (pw_or (pt_not (pt_val (pe_call Sq.G hr1 (by rfl) Sq.m Sq.kp Sq.b .nil pass0 (pa_cons (pv 1) pa_nil)))) (pw_or1 (pt_not (pt_chain op_le op_le pe_int (pe_callB call_len_seq (by rfl) T.len PySem.boot_len (pa_cons (pv 1) pa_nil)) (pe_glob (v := .int 6) rfl mM ⟨_, rfl⟩)))))) (pss_one (ps_raise rfl (takes_of rfl rfl rfl rfl) (pmk_oex EB.T EB.iC EB.tI EB.G hr EB.b .nil pass0 (by rfl) EB.gC (pa_cons pe_int (pa_cons pe_str pa_nil))))) pss_nil)
    (pss_cons (ps_set (i := 2) scKinds.nd rfl (Or.inl rfl) pe_dnewK)
    (C8.pss_cut (ps_for (passes_of rfl) rfl (pi_enumB (by rfl) T.enumerate (pa_cons (pv 1) pa_nil)) (pg_tup rfl (pgs_cons (pg_name (i := 3) scKinds.nd rfl (Or.inl rfl)) (pgs_cons (pg_name (i := 4) scKinds.nd rfl (Or.inl rfl)) pgs_nil)))
        (pss_cons (ps_set (i := 5) scKinds.nd rfl (Or.inl rfl) (pe_call R.G hr (by rfl) R.m R.kp R.b .nil pass0 (pa_cons (pv 4) (pa_cons (pv 2) pa_nil))))
    (pss_cons (ps_if (pt_cmpR op_notN (pv 5) pe_non (nomark _)) (pss_one (ps_raise rfl (takes_of rfl rfl rfl rfl) (pmk_oex EB.T EB.iC EB.tI EB.G hr EB.b .nil pass0 (by rfl) EB.gC (pa_cons (pv 3) (pa_cons (pv 5) pa_nil))))) pss_nil)
    (pss_one (ps_dput hu (pv 2) (pe_ix ix_seq (pv 4) pe_int (fun _ _ => rfl)) (pe_ix ix_seq (pv 4) pe_int (fun _ _ => rfl)) rfl)))))
    (pss_cons (ps_fld (pv 0) (pe_callTy call_tuple_of (by rfl) B.tuple (by decide +kernel) (pa_cons (pe_lock (pe_lc (own := [("name", 6), ("arity", 7)]) (g := gTup K 2 (gCons (gName 6) (gCons (gName 7) gNil))) (tt := tYes) (by rfl) scKinds.nd (pi_items (pv 2)) (blkOk_by (own := [("name", 6), ("arity", 7)]) (N := ["self", "rows", "arities", "index", "row", "word", "name", "arity"]) (sc := defScope sKinds_init) (by decide +kernel))
        (fun _ _ _ _ _ => pg_tup rfl (pgs_cons (pg_name scKinds.nd rfl (.inl rfl)) (pgs_cons (pg_name scKinds.nd rfl (.inl rfl)) pgs_nil))) (fun _ _ _ _ _ => pts_nil) (fun _ _ _ _ _ => pe_tup (pa_cons (pv 6) (pa_cons (pv 7) pa_nil))))) pa_nil)) rfl)
    (pss_cons (ps_fld (pv 0) (pe_callTy (call_tuple_dK rfl) (by rfl) B.tuple (by decide +kernel) (pa_cons (pv 2) pa_nil)) rfl)
    (pss_one (ps_fld (pv 0) (pv 2) rfl))))))), ?_⟩
    -- the first test
    refine ⟨fun σ H1 => ∃ (b : Addr) (xs : List V) (rs : List (Option (V × V))), y = .ref b ∧ r = some rs ∧ σ = [some (.ref p), some (.ref b), none, none, none, none, none, none] ∧ Same H H1 ∧ (H1 b = some (.lst xs) ∨ H1 b = some (.tup xs)) ∧ AllR H1 xs rs ∧ 1 ≤ rs.length ∧ rs.length ≤ 6, ?_, ?_⟩
    · obtain ⟨n, kd, kn⟩ := hy.kd
      refine ⟨_, rfl, y, n, rfl, kd, fun H1 s1 => ⟨_, rfl, ?_⟩⟩
      have hy1 := hy.keep s1
      have bad : rowsDue r = some (0, Str.ofString "rows") → ∀ H', Same H H' → [V.int 0, V.str "rows"].length ≤ 1000 ∧ ∀ a, H' a = none → spInit2 K CB "index" "what" (.ref a :: ([V.int 0, V.str "rows"] ++ [])) (upd H' a (exo a CB none)) (fun v H2 => v = .non ∧ ∃ (d : Addr) (fs : List (Str × V)), H2 a = some (exo a CB (some d)) ∧ H2 d = some (exd d fs) ∧ H' d = none ∧ E (.ref CB) (some d) (upd (del H2 a) d (.xd fs))) (fun _ _ _ => False) := fun e H' s => by
        rw [e] at k
        exact fin2 EB.T n1 n2 fun d H2 hd s2 e2 => k d H2 (s.free hd) (s.trans s2) e2
      cases e1 : seqV n with
      | false => exact iteT (bad (by rw [kn e1]; rfl) _ s1)
      | true =>
        refine iteF ?_
        cases hy1 with
        | lst h a l =>
          rename_i b xs rs
          have al := a.1
          refine ⟨_, rfl, _, _, rfl, .inl (SqL.of h), _, _, rfl, rfl, _, rfl, ?_⟩
          refine ite2 (fun h1 => ?_) (fun h1 => ?_)
          · have h1 := of_decide_eq_true h1
            refine ⟨_, _, rfl, rfl, _, rfl, ?_⟩
            refine ite2 (fun h2 => ?_) (fun h2 => ?_)
            · have h2 : ¬ ((xs.length : Nat) : Int) ≤ 6 := fun e => by rw [decide_eq_true e] at h2; cases h2
              exact bad (by show (if _ then _ else _) = _; rw [if_neg (by omega)]) _ s1
            · have h2 : ((xs.length : Nat) : Int) ≤ 6 := by
                by_cases q : ((xs.length : Nat) : Int) ≤ 6
                · exact q
                · rw [decide_eq_false q] at h2
                  exact absurd rfl h2
              exact ⟨b, xs, rs, rfl, rfl, rfl, s1, .inl h, a, by omega, by omega⟩
          · have h1 : ¬ (1 : Int) ≤ ((xs.length : Nat) : Int) := fun e => h1 (decide_eq_true e)
            exact ⟨_, rfl, iteT (bad (by show (if _ then _ else _) = _; rw [if_neg (by omega)]) _ s1)⟩
        | tup h a l =>
          rename_i b xs rs
          have al := a.1
          refine ⟨_, rfl, _, _, rfl, .inr (SqT.of h), _, _, rfl, rfl, _, rfl, ?_⟩
          refine ite2 (fun h1 => ?_) (fun h1 => ?_)
          · have h1 := of_decide_eq_true h1
            refine ⟨_, _, rfl, rfl, _, rfl, ?_⟩
            refine ite2 (fun h2 => ?_) (fun h2 => ?_)
            · have h2 : ¬ ((xs.length : Nat) : Int) ≤ 6 := fun e => by rw [decide_eq_true e] at h2; cases h2
              exact bad (by show (if _ then _ else _) = _; rw [if_neg (by omega)]) _ s1
            · have h2 : ((xs.length : Nat) : Int) ≤ 6 := by
                by_cases q : ((xs.length : Nat) : Int) ≤ 6
                · exact q
                · rw [decide_eq_false q] at h2
                  exact absurd rfl h2
              exact ⟨b, xs, rs, rfl, rfl, rfl, s1, .inr h, a, by omega, by omega⟩
          · have h1 : ¬ (1 : Int) ≤ ((xs.length : Nat) : Int) := fun e => h1 (decide_eq_true e)
            exact ⟨_, rfl, iteT (bad (by show (if _ then _ else _) = _; rw [if_neg (by omega)]) _ s1)⟩
        | oth h l =>
          rw [← (kd.keep s1).uniq h, e1] at l
          cases l
    -- arities = {}
    rintro σ H1 ⟨b, xs, rs, rfl, rfl, rfl, s1, hb, al, l1, l6⟩ d hd
    have due : rowsDue (some rs) = scanK [] 0 rs := if_pos ⟨l1, l6⟩
    rw [due] at k
    have hd0 : H d = none := s1.free hd
    have bd : b ≠ d := by
      rcases hb with hb | hb
      · exact ne_of_none hb hd
      · exact ne_of_none hb hd
    have s2 : Same H1 (upd H1 d (.dK [])) := sameUpd (Same.refl _) hd
    -- the loop
    refine ⟨fun σ H2 => ∃ v3 v4 v5 : Option V, σ = [some (.ref p), some (.ref b), some (.ref d), v3, v4, v5, none, none] ∧ Same H1 H2 ∧ H2 d = some (.dK (kvOf (rs.map prOf))) ∧ scanK [] 0 rs = none, ?_, ?_⟩
    · refine ⟨_, rfl, b, xs, rfl, ?_⟩
      refine for_enumB (K := K) (a := b) (xs := xs) (fun i σ H2 => ∃ v3 v4 v5 : Option V, σ = [some (.ref p), some (.ref b), some (.ref d), v3, v4, v5, none, none] ∧ Same H1 H2 ∧ H2 d = some (.dK (kvOf ((rs.take i).map prOf))) ∧ scanK [] 0 rs = scanK (((rs.take i).map prOf).map (·.1)) i (rs.drop i))
        ⟨none, none, none, rfl, s2, upd_same, rfl⟩ ?_ ?_ ?_
      · rcases hb with hb | hb
        · exact .inl fun i σ H2 ⟨_, _, _, _, s, _⟩ => SqL.of (s _ _ hb)
        · exact .inr fun i σ H2 ⟨_, _, _, _, s, _⟩ => SqT.of (s _ _ hb)
      · rintro i x σ H2 t hi ⟨v3, v4, v5, rfl, s3, d3, sc⟩ ht
        have ltx : i < xs.length := (List.getElem?_eq_some_iff.mp hi).1
        have ltr : i < rs.length := by have := al.1; omega
        have hr' : rs[i]? = some rs[i] := List.getElem?_eq_getElem ltr
        have row := al.2 i x _ hi hr'
        have s4 : Same H1 (upd H2 t (.tup [.int (i : Nat), x])) := sameUpd s3 ht
        have dt : t ≠ d := (ne_of_none d3 ht).symm
        refine ⟨t, _, rfl, SqT.of upd_same, rfl, _, _, rfl, _, _, rfl, rfl, ?_⟩
        refine ⟨_, rfl, _, rfl, x, d, _, _, rfl, row.keep s4, by rw [upd_ne dt.symm]; exact d3, fun H3 s5 => ?_⟩
        have s6 : Same H1 H3 := s4.trans s5
        have d4 : H3 d = some (.dK (kvOf ((rs.take i).map prOf))) := s5 _ _ (by rw [upd_ne dt.symm]; exact d3)
        rw [scanK_step hr'] at sc
        cases e : rowWord (((rs.take i).map prOf).map (·.1)) rs[i] with
        | some w' =>
          rw [e] at sc
          rw [sc] at k
          refine ⟨_, rfl, rfl, _, rfl, iteT ?_⟩
          refine ⟨_, rfl, _, rfl, fin2 EB.T n1 n2 fun d' H4 hd' s7 e7 => k d' H4 ?_ (s1.trans (s6.trans s7)) e7⟩
          exact (s1.trans s6).free hd'
        | none =>
          rw [e] at sc
          refine ⟨_, rfl, rfl, _, rfl, iteF ?_⟩
          obtain ⟨z, kk, er, _, _, hnot, _, _⟩ := rowWord_none e
          have row3 := row.keep s6
          rw [er] at row3
          have len : (kvOf ((rs.take i).map prOf)).length < sizeLine := small1000 (by simp [kvOf]; omega)
          have put : ∀ {σ' : L2.St}, σ' = [some (V.ref p), some (V.ref b), some (V.ref d), some (V.int (i : Nat)), some x, some V.non, none, none] → ∃ v3 v4 v5 : Option V, σ' = [some (.ref p), some (.ref b), some (.ref d), v3, v4, v5, none, none] ∧ Same H1 (upd H3 d (.dK (putK (kvOf ((rs.take i).map prOf)) (Sum.inr z : Key) (V.int kk)))) ∧ upd H3 d (.dK (putK (kvOf ((rs.take i).map prOf)) (Sum.inr z : Key) (V.int kk))) d = some (.dK (kvOf ((rs.take (i + 1)).map prOf))) ∧ scanK [] 0 rs = scanK (((rs.take (i + 1)).map prOf).map (·.1)) (i + 1) (rs.drop (i + 1)) := fun es => by
            have et : (rs.take (i + 1)).map prOf = (rs.take i).map prOf ++ [(z, V.int kk)] := by
              rw [take_succ_of hr', List.map_append, er]
              rfl
            refine ⟨_, _, _, es, fun c o ec => ?_, ?_, ?_⟩
            · rw [upd_ne (ne_of_none ec hd)]
              exact s6 c o ec
            · rw [upd_same, kvOf_put hnot, et]
            · rw [sc, et, List.map_append, er]
              rfl
          cases row3 with
          | lst h hn ha => exact ⟨_, rfl, .inl ⟨_, _, _, _, rfl, rfl, SqL.of h, rfl, _, rfl, _, rfl, .inl ⟨_, _, _, _, rfl, rfl, SqL.of h, rfl, d, _, rfl, DPut.k (k := Sum.inr z) d4 len, put rfl⟩⟩⟩
          | tup h hn ha => exact ⟨_, rfl, .inr (.inl ⟨_, _, _, _, rfl, rfl, SqT.of h, rfl, _, rfl, _, rfl, .inr (.inl ⟨_, _, _, _, rfl, rfl, SqT.of h, rfl, d, _, rfl, DPut.k (k := Sum.inr z) d4 len, put rfl⟩)⟩)⟩
      · rintro σ H2 ⟨v3, v4, v5, rfl, s3, d3, sc⟩
        refine ⟨v3, v4, v5, rfl, s3, ?_, ?_⟩
        · rw [d3, al.1, List.take_length]
        · rw [sc, al.1, List.drop_length]; rfl
    -- the fields
    rintro σ H2 ⟨v3, v4, v5, rfl, s3, d3, sc⟩
    rw [sc] at k
    have pd : p ≠ d := ne_of_none (s1 _ _ hp) hd
    have hp2 : H2 p = some (.ins C dx []) := s3 _ _ (s1 _ _ hp)
    have pl : (rs.map prOf).length = rs.length := by simp
    refine ⟨d, _, d3, trivial, fun od => ?_⟩
    refine ⟨_, rfl, d, od, kvOf (rs.map prOf), rfl, upd_same, fun D hD => ?_⟩
    have Dd : D ≠ d := fun e => by rw [e, upd_same] at hD; cases hD
    have hD2 : H2 D = none := by rw [upd_ne Dd] at hD; exact hD
    refine lc_it walk_items (fun i H3 => (∀ c o, H2 c = some o → c ≠ d → H3 c = some o) ∧ H3 d = some (.frz od (.dK (kvOf (rs.map prOf)))) ∧ ∃ ts : List Addr, ts.length = i ∧ H3 D = some (.lst (ts.map V.ref)) ∧ ∀ (j : Nat) (t : Addr) (q : Str × V), ts[j]? = some t → (rs.map prOf)[j]? = some q → H3 t = some (.tup [.str q.1, q.2]))
      ⟨fun c o e n => ?_, ?_, [], rfl, upd_same, fun j t q e _ => by cases e⟩ (fun i H3 _ w => w.2.1) ?_ ?_
    · rw [upd_ne (ne_of_none e hD2), upd_ne n]
      exact e
    · rw [upd_ne Dd.symm, upd_same]
    · rintro i v H3 H4 hi ⟨kp, fz, ts, tl, hDs, hts⟩ ⟨t, x, y, rfl, ht, rfl, ex, ey⟩
      have lti : i < (rs.map prOf).length := by simpa [kvOf] using hi
      have eq : (rs.map prOf)[i]? = some (rs.map prOf)[i] := List.getElem?_eq_getElem lti
      have ekv : (kvOf (rs.map prOf))[i]? = some (Sum.inr (rs.map prOf)[i].1, (rs.map prOf)[i].2) := by
        unfold kvOf
        rw [List.getElem?_map, eq]
        rfl
      have ex : (kvOf (rs.map prOf))[i]?.map (fun kv => kV kv.1) = some x := ex
      have ey : (kvOf (rs.map prOf))[i]?.map Prod.snd = some y := ey
      rw [ekv] at ex ey
      cases ex
      cases ey
      refine ⟨t, _, rfl, SqT.of upd_same, rfl, _, _, rfl, _, _, rfl, rfl, rfl, ?_⟩
      have tD : t ≠ D := (ne_of_none hDs ht).symm
      have td : t ≠ d := (ne_of_none fz ht).symm
      refine ⟨_, rfl, _, rfl, (by show 2 ≤ sizeLine; decide), fun u hu' => ?_⟩
      have hu3 : H3 u = none := by
        by_cases e : u = t
        · rw [e]; exact ht
        · rw [upd_ne e] at hu'; exact hu'
      have uD : u ≠ D := (ne_of_none hDs hu3).symm
      have ud : u ≠ d := (ne_of_none fz hu3).symm
      refine ⟨ts.map V.ref, by rw [upd_ne uD.symm, upd_ne tD.symm]; exact hDs, small1000 (by simp; omega), fun c o e n => ?_, ?_, ts ++ [u], by simp [tl], by rw [upd_same, List.map_append]; rfl, fun j t' q e1 e2 => ?_⟩
      · have n1 : c ≠ u := ne_of_none (kp c o e n) hu3
        have n2 : c ≠ t := ne_of_none (kp c o e n) ht
        rw [upd_ne (ne_of_none e hD2), upd_ne n1, upd_ne n2]
        exact kp c o e n
      · rw [upd_ne Dd.symm, upd_ne ud.symm, upd_ne td.symm]
        exact fz
      · by_cases lt : j < ts.length
        · rw [List.getElem?_append_left lt] at e1
          have q3 := hts j t' q e1 e2
          have n0 : t' ≠ D := fun e => by rw [e, hDs] at q3; cases q3
          rw [upd_ne n0, upd_ne (ne_of_none q3 hu3), upd_ne (ne_of_none q3 ht)]
          exact q3
        · rw [List.getElem?_append_right (by omega)] at e1
          have j0 : j = i := by
            have := (List.getElem?_eq_some_iff.mp e1).1
            simp at this
            omega
          subst j0
          have e3 : t' = u := by
            rw [tl, Nat.sub_self] at e1
            exact (Option.some.inj e1).symm
          rw [eq] at e2
          cases e2
          rw [e3, upd_ne uD, upd_same]
          rfl
    rintro H3 ⟨kp, fz, ts, tl, hDs, hts⟩
    have tl : ts.length = (rs.map prOf).length := by rw [tl]; simp [kvOf]
    have al' : ∀ (c : Addr) (o : HO), H1 c = some o → H3 c = some o := fun c o e => kp c o (s3 c o e) (ne_of_none e hd)
    -- behind the lock
    have key : ∀ c, c ≠ d → upd H3 d (.dK (kvOf (rs.map prOf))) c = H3 c := fun c n => upd_ne n
    refine ⟨fz, D, _, rfl, .inl ⟨SqL.of (by rw [key D Dd]; exact hDs), fun l hl => ?_⟩⟩
    have ld : l ≠ d := fun e => by rw [e, upd_same] at hl; cases hl
    have l3 : H3 l = none := by rw [key l ld] at hl; exact hl
    have hp3 : H3 p = some (.ins C dx []) := kp p _ hp2 pd
    have lp : l ≠ p := (ne_of_none hp3 l3).symm
    refine ⟨_, rfl, p, C, dx, [], rfl, by rw [upd_ne lp.symm, key p pd]; exact hp3, KX.cl, KX.nR, by decide, ?_⟩
    refine ⟨_, rfl, d, kvOf (rs.map prOf), rfl, by rw [upd_ne pd.symm, upd_ne ld.symm, upd_same], fun n hn => ?_⟩
    have np : n ≠ p := fun e => by rw [e, upd_same] at hn; cases hn
    rw [upd_ne np] at hn
    have nl : n ≠ l := fun e => by rw [e, upd_same] at hn; cases hn
    rw [upd_ne nl] at hn
    have nd : n ≠ d := fun e => by rw [e, upd_same] at hn; cases hn
    have n3 : H3 n = none := by rw [key n nd] at hn; exact hn
    refine ⟨_, rfl, p, C, dx, _, rfl, by rw [upd_ne np.symm, upd_same], KX.cl, KX.nN, Nat.lt_of_le_of_lt (length_putF _ _ _) (by decide), ?_⟩
    refine ⟨_, rfl, _, rfl, p, C, dx, _, rfl, upd_same, KX.cl, KX.nA, Nat.lt_of_le_of_lt (Nat.le_trans (length_putF _ _ _) (Nat.succ_le_succ (length_putF _ _ _))) (by decide), ?_⟩
    refine k rs _ rfl (fun c o e nc => ?_) ⟨dx, kFs l n d, l, n, d, ts, upd_same, kFs_rows _ _ _, kFs_names _ _ _, kFs_ar _ _ _, fun m h1 h2 h3 => kFs_no _ _ _ h1 h2 h3, ?_, tl, fun i t q e1 e2 => ?_, ?_, ?_⟩
    · have e1 := s1 _ _ e
      have e3 := al' _ _ e1
      rw [upd_ne nc, upd_ne nc, upd_ne (ne_of_none e3 n3), upd_ne nc, upd_ne (ne_of_none e3 l3), key c (ne_of_none e1 hd)]
      exact e3
    · rw [upd_ne lp, upd_ne lp, upd_ne nl.symm, upd_ne lp, upd_same]
    · have q3 := hts i t q e1 e2
      have tp : t ≠ p := fun e => by rw [e, hp3] at q3; cases q3
      have td : t ≠ d := fun e => by rw [e, fz] at q3; cases q3
      rw [upd_ne tp, upd_ne tp, upd_ne (ne_of_none q3 n3), upd_ne tp, upd_ne (ne_of_none q3 l3), key t td]
      exact q3
    · rw [upd_ne np, upd_ne np, upd_same, kvOf_keys]
    · rw [upd_ne pd.symm, upd_ne pd.symm, upd_ne nd.symm, upd_ne pd.symm, upd_ne ld.symm, upd_same]
end
end Kx

set_option maxHeartbeats 4000000
namespace Kx
open PySem L2
/-! the methods of Kinds -/
def vv (ks : List (Str × Int)) : List (Str × V) := ks.map fun q => (q.1, V.int q.2)
def pd (q : Str × Int) : PyData := .tuple [.str q.1, .int q.2]
def kd (ks : List (Str × Int)) : PyData := .tuple (ks.map pd)
theorem eqv_kd : ∀ ks ls : List (Str × Int), PyData.eqvAll (ks.map pd) (ls.map pd) = decide (ks = ls)
  | [], [] => rfl
  | [], _ :: _ => rfl
  | _ :: _, [] => rfl
  | (a, i) :: ks, (b, j) :: ls => by
    have e : PyData.eqv (pd (a, i)) (pd (b, j)) = ((a == b) && ((i == j) && true)) := by
      simp [pd, PyData.eqv, PyData.eqvAll]
    show (PyData.eqv (pd (a, i)) (pd (b, j)) && PyData.eqvAll (ks.map pd) (ls.map pd)) = _
    rw [e, eqv_kd ks ls]
    by_cases h1 : a = b
    · by_cases h2 : i = j
      · simp [h1, h2]
      · simp [h1, h2]
    · simp [h1]
theorem small_pd : ∀ ks : List (Str × Int), (∀ q ∈ ks, PyData.strOk q.1 = true) → PyData.canLayAll0 (ks.map pd) = true ∧ PyData.depthAll (ks.map pd) ≤ 1
  | [], _ => ⟨rfl, Nat.zero_le _⟩
  | q :: ks, h => by
    obtain ⟨h1, h2⟩ := small_pd ks fun r m => h r (.tail _ m)
    have h3 := h q (.head _)
    refine ⟨?_, ?_⟩
    · show (PyData.canLay0 (pd q) && _) = true
      rw [h1]
      simp [pd, PyData.canLay0, PyData.canLayAll0, h3]
    · show max (PyData.depth (pd q)) (PyData.depthAll (ks.map pd)) ≤ 1
      have : PyData.depth (pd q) = 1 := by simp [pd, PyData.depth, PyData.depthAll]
      omega
theorem shaped_kd {ks : List (Str × Int)} (h : ∀ q ∈ ks, PyData.strOk q.1 = true) : SeqAt.shaped (kd ks) = true := by
  obtain ⟨h1, h2⟩ := small_pd ks h
  unfold SeqAt.shaped
  rw [Bool.and_eq_true]
  refine ⟨h1, decide_eq_true ?_⟩
  show PyData.depthAll (ks.map pd) + 1 ≤ 64
  omega
theorem dpAll_pd {K : PySem.W.Frag} {H : Hp} : ∀ (ks : List (Str × Int)) (ts : List Addr), ts.length = ks.length → (∀ (i : Nat) (t : Addr) (q : Str × Int), ts[i]? = some t → ks[i]? = some q → H t = some (.tup [.str q.1, .int q.2])) → DpAll K H (ts.map V.ref) (ks.map pd)
  | [], [], _, _ => .nil
  | [], _ :: _, h, _ => by cases h
  | _ :: _, [], h, _ => by cases h
  | q :: ks, t :: ts, h, f => .cons (.tup (SqT.of (f 0 t q rfl rfl)) (.cons (.str _) (.cons (.int _) .nil))) (dpAll_pd ks ts (Nat.succ.inj h) fun i t q e1 e2 => f (i + 1) t q e1 e2)
/-- the tuple of the pairs -/
def RowsT (K : PySem.W.Frag) (H : Hp) (r : Addr) (ks : List (Str × Int)) : Prop := Dp K H (.ref r) (kd ks)
theorem KindsAt.get {K : PySem.W.Frag} {C : Addr} {H : Hp} {p : Addr} {ks : List (Str × Int)} (k : KindsAt C H p (vv ks)) : ∃ (dx : Addr) (fs : List (Str × V)) (r n d : Addr) (ts : List Addr), H p = some (.ins C dx fs) ∧ fs.lookup ("rows" : Str) = some (.ref r) ∧ fs.lookup ("names" : Str) = some (.ref n) ∧ fs.lookup ("_arities" : Str) = some (.ref d) ∧
    (∀ m : Str, ¬ m = Str.ofString "rows" → ¬ m = Str.ofString "names" → ¬ m = Str.ofString "_arities" → fs.lookup m = none) ∧ H r = some (.tup (ts.map V.ref)) ∧ ts.length = ks.length ∧ Dp K H (.ref r) (kd ks) ∧ H n = some (.tup (ks.map fun q => V.str q.1)) ∧ H d = some (.dK (kvOf (vv ks))) ∧
    (∀ (i : Nat) (t : Addr) (q : Str × Int), ts[i]? = some t → ks[i]? = some q → H t = some (.tup [.str q.1, .int q.2])) := by
  obtain ⟨dx, fs, r, n, d, ts, h1, h2, h3, h4, h5, h6, h7, h8, h9, h10⟩ := k.ob
  have l : ts.length = ks.length := by rw [h7]; simp [vv]
  have f : ∀ (i : Nat) (t : Addr) (q : Str × Int), ts[i]? = some t → ks[i]? = some q → H t = some (.tup [.str q.1, .int q.2]) := fun i t q e1 e2 => h8 i t (q.1, .int q.2) e1 (by unfold vv; rw [List.getElem?_map, e2]; rfl)
  exact ⟨dx, fs, r, n, d, ts, h1, h2, h3, h4, h5, h6, l, .tup (SqT.of h6) (dpAll_pd ks ts l f), by rw [h9]; simp [vv], h10, f⟩
def spKEq (C : Addr) : Sp := fun vs H Q _ => ∃ (p : Addr) (y : V) (ks : List (Str × Int)), vs = [.ref p, y] ∧ KindsAt C H p (vv ks) ∧ (∀ q ∈ ks, PyData.strOk q.1 = true) ∧
  ((∃ (b : Addr) (ls : List (Str × Int)), y = .ref b ∧ KindsAt C H b (vv ls) ∧ (∀ q ∈ ls, PyData.strOk q.1 = true) ∧ Q (.bl (decide (ks = ls))) H) ∨ ∃ (b : Addr) (zs : List V), y = .ref b ∧ H b = some (.tup zs) ∧ Q (.bl false) H)
section
variable {P : Program} {w : World} {K : PySem.W.Frag} {mg : Str → Option Value} {base : Heap}
theorem KC.ty {C : Addr} (k : KC K C) {H : Hp} {a dx : Addr} {fs : List (Str × V)} (h : H a = some (.ins C dx fs)) : TyX K H (.ref a) (.ref C) := .base (.ins h k.cl k.ca k.cg k.ct k.cm)
theorem kit_self {K : PySem.W.Frag} {c : Value} : PySem.W.kitOne K c c = some true := by
  unfold PySem.W.kitOne
  rw [beq_self_eq_true]
  rfl
theorem scKEq : FnScope ["self", "other"] ["self", "other"] (defScope sKinds_eq) := ⟨rfl, rfl, rfl, by decide +kernel, rfl, by decide +kernel, by decide +kernel⟩
theorem ok_keq {f C : Addr} {fd : FuncData} (F : Fun K "__eq__" "Kinds.__eq__" sKinds_eq f fd) (B : Bm mg) (KX : KC K C) (mK : mg "Kinds" = some (.ref C)) : FnOk P w K mg base CX0 1 f fd ["self", "other"] (spKEq C) := by
  refine F.ok scKEq (fun vs H Q E h => ?_) (fun cdv A outer s H vs Q E hr h => ?_)
  · obtain ⟨p, y, ks, rfl, _⟩ := h
    rfl
  · obtain ⟨p, y, ks, rfl, hk, ok, h⟩ := h
    refine ⟨_, pss_one (ps_ret (pe_and (pe_callB call_isi (by rfl) B.isinstance (by decide +kernel) (pa_cons (pv 1) (pa_cons (pe_glob (v := .ref C) rfl mK rfl) pa_nil))) (pe_one (pe_cmpR (op_eqD hr.units) (pe_fld (pv 0) rfl) (pe_fld (pv 1) rfl) (nomark _))))), ?_⟩
    obtain ⟨dx, fs, r, n, d, ts, h1, h2, h3, h4, h5, h6, h7, h8, h9, h10, _⟩ := hk.get (K := K)
    rcases h with ⟨b, ls, rfl, hb, okb, k⟩ | ⟨b, zs, rfl, hb, k⟩
    · obtain ⟨dx', fs', r', n', d', ts', g1, g2, g3, g4, g5, g6, g7, g8, g9, g10, _⟩ := hb.get (K := K)
      refine ⟨_, rfl, _, _, _, _, _, rfl, .own C, KX.ty g1, kit_self, _, rfl, iteT ?_⟩
      refine ⟨_, rfl, p, C, dx, fs, _, rfl, h1, KX.cl, KX.nR, h2, _, rfl, b, C, dx', fs', _, rfl, g1, KX.cl, KX.nR, g2, kd ks, kd ls, h8, g8, shaped_kd ok, shaped_kd okb, ?_⟩
      rw [show PyData.eqv (kd ks) (kd ls) = decide (ks = ls) from eqv_kd ks ls]
      exact k
    · exact ⟨_, rfl, _, _, _, _, _, rfl, .own C, .base (.tup hb), KX.isT, _, rfl, iteF k⟩
end
end Kx

set_option maxHeartbeats 4000000
namespace Kx
open PySem L2
theorem lab_ok {z : Str} (h : isLab z = true) : PyData.strOk z = true ∧ z.length ≤ 6 := by
  unfold isLab at h
  rw [Bool.and_eq_true, Bool.and_eq_true, decide_eq_true_eq, decide_eq_true_eq] at h
  refine ⟨?_, h.2.1⟩
  unfold PyData.strOk
  rw [Array.all_eq_true]
  intro i hi
  have h3 := List.all_eq_true.mp h.2.2 z.cps[i] (by simp)
  unfold isLow at h3
  rw [decide_eq_true_eq]
  simp only [Bool.and_eq_true, decide_eq_true_eq] at h3
  omega
def kIn (ks : List (Str × Int)) (x : V) : Bool := match x with
  | .str z => decide (z ∈ ks.map (·.1))
  | _ => false
theorem kIn_val (ks : List (Str × Int)) (z : Str) : (valV (kvOf (vv ks)) (Sum.inr z : Key)).isSome = kIn ks (.str z) := by
  rw [kv_in]
  show decide (z ∈ (vv ks).map (·.1)) = decide (z ∈ ks.map (·.1))
  unfold vv
  rw [List.map_map]
  rfl
def spKLen (C : Addr) : Sp := fun vs H Q _ => ∃ (p : Addr) (ks : List (Str × Int)), vs = [.ref p] ∧ KindsAt C H p (vv ks) ∧ Q (.int (ks.length : Nat)) H
def spKIn (C : Addr) : Sp := fun vs H Q _ => ∃ (p : Addr) (x : V) (n : String) (ks : List (Str × Int)), vs = [.ref p, x] ∧ KindsAt C H p (vv ks) ∧ Kd H x n ∧ Q (.bl (kIn ks x)) H
def kAr (ks : List (Str × Int)) (x : V) : Option V := match x with
  | .str z => valV (kvOf (vv ks)) (Sum.inr z : Key)
  | _ => none
theorem kAr_in (ks : List (Str × Int)) (x : V) : (kAr ks x).isSome = kIn ks x := by
  cases x with
  | str z => exact kIn_val ks z
  | _ => rfl
def spKAr (C CN : Addr) : Sp := fun vs H Q E => ∃ (p : Addr) (x : V) (n : String) (ks : List (Str × Int)), vs = [.ref p, x] ∧ KindsAt C H p (vv ks) ∧ Kd H x n ∧
  match kAr ks x with
  | some v => Q v H
  | none => ∀ d H', H d = none → Same H H' → H' d = some (.xd [("name", x)]) → E (.ref CN) (some d) H'
section
variable {P : Program} {w : World} {K : PySem.W.Frag} {mg : Str → Option Value} {base : Heap}
theorem scKLen : FnScope ["self"] ["self"] (defScope sKinds_len) := ⟨rfl, rfl, rfl, by decide +kernel, rfl, by decide +kernel, by decide +kernel⟩
theorem ok_klen {f C : Addr} {fd : FuncData} (F : Fun K "__len__" "Kinds.__len__" sKinds_len f fd) (T : Bl mg) (KX : KC K C) : FnOk P w K mg base CX0 1 f fd ["self"] (spKLen C) := by
  refine F.ok scKLen (fun vs H Q E h => ?_) (fun cdv A outer s H vs Q E hr h => ?_)
  · obtain ⟨p, ks, rfl, _⟩ := h
    rfl
  · obtain ⟨p, ks, rfl, hk, k⟩ := h
    obtain ⟨dx, fs, r, n, d, ts, h1, h2, h3, h4, h5, h6, h7, h8, h9, h10, _⟩ := hk.get (K := K)
    refine ⟨_, pss_one (ps_ret (pe_callB call_len_seq (by rfl) T.len PySem.boot_len (pa_cons (pe_fld (pv 0) rfl) pa_nil))), ?_⟩
    refine ⟨_, rfl, p, C, dx, fs, _, rfl, h1, KX.cl, KX.nR, h2, r, _, rfl, .inr (SqT.of h6), ?_⟩
    rw [List.length_map, h7]
    exact k
theorem scKIter : FnScope ["self"] ["self"] (defScope sKinds_iter) := ⟨rfl, rfl, rfl, by decide +kernel, rfl, by decide +kernel, by decide +kernel⟩
/-- where the names stand -/
def NamesOf (fs : List (Str × V)) (t : Addr) (_ : List V) : Prop := fs.lookup ("names" : Str) = some (.ref t)
theorem ok_kiter {f C : Addr} {fd : FuncData} (F : Fun K "__iter__" "Kinds.__iter__" sKinds_iter f fd) (mI : mg "iter" = none) (KX : KC K C) : FnA P w K mg base CX0 1 f fd ["self"] (spIterT K C NamesOf) := by
  refine okA F scKIter (fun A s vs H Q E h => ?_) (fun cdv A outer s H vs Q E hr h => ?_)
  · obtain ⟨a, dx, fs, rfl, _⟩ := h
    rfl
  · obtain ⟨a, dx, fs, rfl, h1, t, zs, hT, hq, k⟩ := h
    refine ⟨_, pss_one (ps_ret (pe_callB call_iterT (by rfl) mI (by decide +kernel) (pa_cons (pe_fld (pv 0) rfl) pa_nil))), ?_⟩
    refine ⟨_, rfl, a, C, dx, fs, _, rfl, h1, KX.cl, KX.nN, hT, t, zs, rfl, hq, fun it e1 e2 => k it e1 e2⟩
theorem scKIn : FnScope ["self", "thing"] ["self", "thing"] (defScope sKinds_contains) := ⟨rfl, rfl, rfl, by decide +kernel, rfl, by decide +kernel, by decide +kernel⟩
theorem ok_kin {f C : Addr} {fd : FuncData} (F : Fun K "__contains__" "Kinds.__contains__" sKinds_contains f fd) (B : Bm mg) (KX : KC K C) : FnOk P w K mg base CX0 1 f fd ["self", "thing"] (spKIn C) := by
  refine F.ok scKIn (fun vs H Q E h => ?_) (fun cdv A outer s H vs Q E hr h => ?_)
  · obtain ⟨p, x, n, ks, rfl, _⟩ := h
    rfl
  · obtain ⟨p, x, n, ks, rfl, hk, kd', k⟩ := h
    have hu := hu_of hr
    obtain ⟨dx, fs, r, n', d, ts, h1, h2, h3, h4, h5, h6, h7, h8, h9, h10, _⟩ := hk.get (K := K)
    refine ⟨_, pss_one (ps_ret (pe_and (pe_callB call_isi (by rfl) B.isinstance (by decide +kernel) (pa_cons (pv 1) (pa_cons (pe_bltn (v := .ty "str") (by rfl) B.str (by decide +kernel) rfl) pa_nil))) (pe_one (pe_cmp (pc_din hu (pv 1) (pe_fld (pv 0) rfl)) rfl)))), ?_⟩
    refine ⟨_, rfl, x, _, _, _, _, rfl, .ty _, kd'.ty, kit_ty (kit_str kd'.kits), _, rfl, ?_⟩
    cases kd' with
    | str z =>
      refine iteT ⟨_, rfl, _, rfl, p, C, dx, fs, _, rfl, h1, KX.cl, KX.nA, h4, d, _, rfl, DGet.k (k := Sum.inr z) h10, ?_⟩
      rw [kIn_val]
      exact k
    | _ => exact iteF k
end
end Kx

set_option maxHeartbeats 4000000
namespace Kx
open PySem PySem.Spec PyProof.Rows L2
section
variable {X : Cx} {CX : CXT} {k : Nat} {f C : Addr} {fd : FuncData} {ps : List Str} {sp : Sp} {x m : Str} {p pos apos : Pos} {e o : Expr} {es : List Expr} {t : TA} {ta : TE} {Ew : L2.St → XK}
/-- C(..) that may be refused, what is wished then depending on the slots -/
theorem run_makeS {pins : List (Addr × Obj)} {σ : L2.St} {H : Hp} {s : Shared} {Q : VK} {us : List Value} {vs : List V} (M : Mk X.K C f) (F : FnOk X.prog X.w X.K X.mg X.base CX k f fd ps sp) (hr : Room (k + 1) X.A) (hb : Binds X.K fd ps [])
    (hx : PassesAt CX X σ (Ew σ)) (I : Inv X pins σ H s) (r : Vals vs us)
    (h : ∀ x dx, H x = none → H dx = none → dx ≠ x → sp (.ref x :: vs) (upd (upd H dx (.own x)) x (.ins C dx [])) (fun v H2 => v = .non ∧ Q (.ref x) H2) (Ew σ)) :
    wpAny (model X.prog X.w) X.A (call (.ref C) us) (EP X pins σ Q) X.xe s := by
  have hq := h (s.heap.objs.size + 1) s.heap.objs.size (I.hok.fresh (Nat.le_succ _)) (I.hok.fresh (Nat.le_refl _)) (Nat.ne_of_lt (Nat.lt_succ_self _))
  have J := Inv.made (C := C) I
  have r2 : Vals (V.ref (s.heap.objs.size + 1) :: vs) (Value.ref (s.heap.objs.size + 1) :: us) := .cons rfl r
  have hl : (Value.ref (s.heap.objs.size + 1) :: us ++ []).length = ps.length := by
    have e := r2.length
    rw [F.len _ _ _ _ hq] at e
    rw [List.append_nil]
    exact e.symm
  have bd := hb _ (Value.ref (s.heap.objs.size + 1) :: us) J.kIn hl
  rw [List.append_nil] at bd
  refine wpAny_call (make_map (f := f) I.kIn M.makes M.init (beq_iff_eq.mp M.fn) (codeAny_mono (F.run _ X.stack _ _ ⟨Value.ref (s.heap.objs.size + 1) :: us, []⟩ (Value.ref (s.heap.objs.size + 1) :: us) _ _ (Ew σ) (hr.make C us []) (J.env0.make C us []) bd r2 hq) fun r s' got => ?_))
  rcases r with e | (_ | _ | _ | u)
  · exact hx pins _ _ e s' J got
  · exact False.elim got
  · exact False.elim got
  · exact False.elim got
  · obtain ⟨v, H', J3, rv, ev, q3⟩ := J.after got
    subst ev
    exact ⟨rv, ⟨V.ref (s.heap.objs.size + 1), H', J3, rfl, q3⟩⟩
def tMakeS (C : Addr) (sp : Sp) (Ew : L2.St → XK) (t : TA) : TE := fun σ H Q => t σ H fun vs H1 => ∀ x dx, H1 x = none → H1 dx = none → dx ≠ x → sp (.ref x :: vs) (upd (upd H1 dx (.own x)) x (.ins C dx [])) (fun v H2 => v = .non ∧ Q (.ref x) H2) (Ew σ)
theorem pe_makeS (M : Mk X.K C f) (F : FnOk X.prog X.w X.K X.mg X.base CX k f fd ps sp) (hr : Room (k + 1) X.A) (hg : Gl X x) (hm : X.mg x = some (.ref C)) (hb : Binds X.K fd ps []) (hx : ∀ σ, PassesAt CX X σ (Ew σ))
    (ha : PA X (e :: es) t) (hdb : (x == ("__debug__" : Str)) = false := by decide) (he : starEach (e :: es) X.env = (false, eval e X.env) :: starEach es X.env := by rfl) (hpl : (backTo pos (starEach es X.env)).any (·.1) = false := by rfl) :
    PE X (.Call (.Name x p) (e :: es) [] pos) (tMakeS C sp Ew t) := by
  refine ⟨fun pins s σ H Q I h => wpAny_Call_Name_kw (ld_glob I hg hm ?_ hdb)⟩
  refine PySem.W.callWith_K (h₀ := X.base) I.ok.mod.kin M.kp (thn (ha.run pos pins s σ H _ I h) fun us s1 ⟨vs, H1, J, r, q⟩ => ⟨J.kIn, ?_⟩) he hpl
  exact run_makeS M F hr hb (hx σ) J r q
/-- o.m(..) that may be refused -/
def tMethW (C : Addr) (m : Str) (sp : Sp) (Ew : L2.St → XK) (ta : TE) (t : TA) : TE := fun σ H Q => ta σ H fun x H1 => ∃ a dx fs, x = .ref a ∧ H1 a = some (.ins C dx fs) ∧ fs.lookup m = none ∧ t σ H1 fun vs H2 => sp (.ref a :: vs) H2 Q (Ew σ)
theorem pe_methW {pl : Sem Bool} (he : PE X o ta) (c : Cls X.K C) (hm : Meth X.K C m f) (F : FnOk X.prog X.w X.K X.mg X.base CX k f fd ps sp) (hr : Room k X.A) (hb : Binds X.K fd ps []) (hx : ∀ σ, PassesAt CX X σ (Ew σ)) (ha : PA X (e :: es) t)
    (hst : starEach (e :: es) X.env = (false, eval e X.env) :: starEach es X.env := by rfl) (hpl : (backTo pos (starEach es X.env)).any (·.1) = false := by rfl)
    (ht : eval (.Call (.Attribute o m apos) (e :: es) [] pos) X.env = (do
      let ov ← eval o X.env
      standAt apos.atName
      let (f, first) ← holding [ov] (getMethod ov m pl)
      callWith pos f first (backTo pos (starEach (e :: es) X.env)) (backToKw pos (keywordEach [] X.env))) := by rfl) :
    PE X (.Call (.Attribute o m apos) (e :: es) [] pos) (tMethW C m sp Ew ta t) := by
  refine ⟨fun pins s σ H Q I h => PySem.W.methodCall_KW (pl := pl) (thn (he.run pins s σ H _ I h) fun u s1 ⟨x, H1, J, rx, a, dx, fs, ex, ea, l, q⟩ => ?_) ht⟩
  subst ex
  obtain rfl : u = Value.ref a := rx
  refine getmeth_ok J ea c hm l (PySem.W.callWith_K (first := [.ref a]) (h₀ := X.base) I.ok.mod.kin hm.kp (thn (ha.run pos pins s1 σ H1 _ J q) fun us s2 ⟨vs, H2, J2, r, q2⟩ => ⟨J2.kIn, ?_⟩) hst hpl)
  exact run_fnS (us := .ref a :: us) (vs := .ref a :: vs) F hr hb (hx σ) J2 (.cons rfl r) q2
end
section
variable {P : Program} {w : World} {K : PySem.W.Frag} {mg : Str → Option Value} {base : Heap}
/-- an own method as the library's lemmas want it -/
structure OwnM (P : Program) (w : World) (K : PySem.W.Frag) (mg : Str → Option Value) (base : Heap) (C : Addr) (m : Str) (k : Nat) (ps : List Str) (sp : Sp) (g : Addr) (fd : FuncData) : Prop where
  M : Meth K C m g
  G : FnOk P w K mg base CX0 k g fd ps sp
  b : Binds K fd ps []
theorem OwnM.raw {C g : Addr} {m : Str} {k : Nat} {ps : List Str} {sp : Sp} {fd : FuncData} (o : OwnM P w K mg base C m k ps sp g fd) : FnR P w K mg base CX0 k g sp := (o.G.raw o.b .nil).imp fun vs H Q E h => by rw [List.append_nil]; exact h
theorem scKAr : FnScope ["self", "name"] ["self", "name"] (defScope sKinds_arity_of) := ⟨rfl, rfl, rfl, by decide +kernel, rfl, by decide +kernel, by decide +kernel⟩
theorem ok_kar {f C CN fN gI : Addr} {fd fdN fdI : FuncData} (F : Fun K "arity_of" "Kinds.arity_of" sKinds_arity_of f fd) (KX : KC K C) (OI : OwnM P w K mg base C "__contains__" 1 ["self", "thing"] (spKIn C) gI fdI)
    (EN : ErC P w K mg base "NoKind" ["self", "name"] CN fN fdN (spInit1 K CN "name")) (n1 : PySem.W.findIn K (.ref CN) "name" = some none) : FnOk P w K mg base (L2.CX P w) 3 f fd ["self", "name"] (spKAr C CN) := by
  refine F.okX scKAr (fun vs H Q E h => ?_) (fun cdv A outer s H vs Q E hr h => ?_)
  · obtain ⟨p, x, n, ks, rfl, _⟩ := h
    rfl
  · obtain ⟨p, x, n, ks, rfl, hk, kd', k⟩ := h
    have hu := hu_of hr
    have hr1 : Room 1 _ := hr.mono (by decide)
    obtain ⟨dx, fs, r, n', d, ts, h1, h2, h3, h4, h5, h6, h7, h8, h9, h10, _⟩ := hk.get (K := K)
    refine ⟨_, (pss_cons (ps_if (pt_cmpR (op_notInOwn OI.M.at_ OI.M.fn OI.raw hr1 pass0) (pv 1) (pv 0) (by rfl)) (pss_one (ps_raise rfl (takes_of rfl rfl rfl rfl) (pmk_oex EN.T EN.iC EN.tI EN.G hr EN.b .nil pass0 (by rfl) EN.gC (pa_cons (pv 1) pa_nil)))) pss_nil)
    (pss_one (ps_ret (pe_dget hu (pe_fld (pv 0) rfl) (pv 1) (fun _ _ => rfl))))), ?_⟩
    refine ⟨_, rfl, _, rfl, p, dx, fs, rfl, h1, p, x, n, ks, rfl, hk, kd', _, rfl, _, rfl, ?_⟩
    have e0 := kAr_in ks x
    cases e1 : kAr ks x with
    | none =>
      rw [e1] at e0 k
      rw [← e0]
      exact iteT ⟨_, rfl, fin1 EN.T n1 fun d' H4 hd' s7 e7 => k d' H4 hd' s7 e7⟩
    | some v =>
      rw [e1] at e0 k
      rw [← e0]
      refine iteF ⟨_, rfl, p, C, dx, fs, _, rfl, h1, KX.cl, KX.nA, h4, _, rfl, d, v, rfl, ?_, k⟩
      cases x with
      | str z =>
        have e1 : valV (kvOf (vv ks)) (Sum.inr z : Key) = some v := e1
        rw [← e1]
        exact DGet.k (k := Sum.inr z) h10
      | _ => cases e1
end
end Kx

set_option maxHeartbeats 4000000
namespace Kx
open PySem L2
theorem pi_or {X : Cx} {t e : Expr} {u v : TI} (h : PI X t e u) (h' : PI X t e v) : PI X t e (fun σ H R => u σ H R ∨ v σ H R) :=
  ⟨fun pins s σ H R I q => q.elim (fun q => h.run pins s σ H R I q) fun q => h'.run pins s σ H R I q⟩
/-- a deed, as it stands -/
inductive DeedIs (H : Hp) : V → Option (List V) → Prop where
  | lst {b : Addr} {xs : List V} (h : H b = some (.lst xs)) (t : ∀ x ∈ xs, ∃ n, Thing H x n) (l : xs.length ≤ 100) : DeedIs H (.ref b) (some xs)
  | tup {b : Addr} {xs : List V} (h : H b = some (.tup xs)) (t : ∀ x ∈ xs, ∃ n, Thing H x n) (l : xs.length ≤ 100) : DeedIs H (.ref b) (some xs)
  | oth {y : V} {n : String} (h : Kd H y n) (l : seqV n = false) : DeedIs H y none
theorem DeedIs.keep {H H' : Hp} {y : V} {r : Option (List V)} (h : DeedIs H y r) (s : Same H H') : DeedIs H' y r := by
  cases h with
  | lst h t l => exact .lst (s _ _ h) (fun x m => (t x m).imp fun n q => q.keep s) l
  | tup h t l => exact .tup (s _ _ h) (fun x m => (t x m).imp fun n q => q.keep s) l
  | oth h l => exact .oth (h.keep s) l
theorem DeedIs.kd {H : Hp} {y : V} {r : Option (List V)} (h : DeedIs H y r) : ∃ n, Kd H y n ∧ (seqV n = false → r = none) := by
  cases h with
  | lst h a l => exact ⟨_, .lst _ _ h, fun z => nomatch z⟩
  | tup h a l => exact ⟨_, .tup _ _ h, fun z => nomatch z⟩
  | oth h l => exact ⟨_, h, fun _ => rfl⟩
/-- the number of persons of the kind -/
def kNum (ks : List (Str × Int)) (x : V) : Option Int := match x with
  | .str z => (ks.find? fun q => decide (q.1 = z)).map (·.2)
  | _ => none
theorem kAr_num : ∀ (ks : List (Str × Int)) (x : V), kAr ks x = (kNum ks x).map V.int := by
  intro ks x
  cases x with
  | str z =>
    show valV (kvOf (vv ks)) (Sum.inr z : Key) = ((ks.find? fun q => decide (q.1 = z)).map (·.2)).map V.int
    induction ks with
    | nil => rfl
    | cons q ks ih =>
      by_cases e : q.1 = z
      · have e1 : valV (kvOf (vv (q :: ks))) (Sum.inr z : Key) = some (V.int q.2) := valV_pos (congrArg Sum.inr e)
        rw [e1, List.find?_cons_of_pos (by simpa using e)]
        rfl
      · have e1 : valV (kvOf (vv (q :: ks))) (Sum.inr z : Key) = valV (kvOf (vv ks)) (Sum.inr z : Key) := valV_neg fun h => e (Sum.inr.inj h)
        rw [e1, ih, List.find?_cons_of_neg (by simpa using e)]
  | _ => rfl
def deedWord (ks : List (Str × Int)) : Option (List V) → Option Str
  | none => some "deed"
  | some [] => some "deed"
  | some (x :: xs) => match kNum ks x with
    | none => some "kind"
    | some k => if ((xs.length : Nat) : Int) = k then (if xs.all labV then none else some "person") else some "arity"
def spFault (C : Addr) : Sp := fun vs H Q _ => ∃ (p : Addr) (y : V) (r : Option (List V)) (ks : List (Str × Int)), vs = [.ref p, y] ∧ KindsAt C H p (vv ks) ∧ DeedIs H y r ∧ (∀ q ∈ ks, 0 ≤ q.2 ∧ q.2 ≤ 2) ∧ ∀ H', Same H H' → Q (wordV (deedWord ks r)) H'
theorem atI0 (x : V) (xs : List V) : atI (x :: xs) 0 = some x := by
  simp [atI, ixN]
theorem cut1 (x : V) (xs : List V) : cutV (x :: xs) (some 1) none = xs := by
  unfold cutV
  have e1 : HT.sIx (x :: xs).length 0 (some 1) = 1 := by
    simp [HT.sIx]
    try omega
  have e2 : HT.sIx (x :: xs).length (x :: xs).length none = (x :: xs).length := rfl
  rw [e1, e2]
  simp
theorem whole (x : V) (xs : List V) : ¬ (HT.sIx (x :: xs).length 0 (some 1) = 0 ∧ HT.sIx (x :: xs).length (x :: xs).length none = (x :: xs).length) := by
  have e1 : HT.sIx (x :: xs).length 0 (some 1) = 1 := by
    simp [HT.sIx]
    try omega
  rw [e1]
  exact fun h => absurd h.1 (by decide)
section
variable {P : Program} {w : World} {K : PySem.W.Frag} {mg : Str → Option Value} {base : Heap}
theorem scFault : FnScope ["self", "deed", "person"] ["self", "deed"] (defScope sKinds_fault) := ⟨rfl, rfl, rfl, by decide +kernel, rfl, by decide +kernel, by decide +kernel⟩
theorem ok_fault {f C gI : Addr} {fd fdI : FuncData} (F : Fun K "fault" "Kinds.fault" sKinds_fault f fd) (T : Bl mg) (KX : KC K C) (OI : OwnM P w K mg base C "__contains__" 1 ["self", "thing"] (spKIn C) gI fdI) (Sq : HasF P w K mg base "is_sequence" 1 ["thing"] spSeq) (Lb : HasF P w K mg base "is_label" 1 ["thing"] spLabel) :
    FnOk P w K mg base CX0 2 f fd ["self", "deed"] (spFault C) := by
  obtain ⟨f1, fd1, Sq⟩ := Sq; obtain ⟨f2, fd2, Lb⟩ := Lb
  refine F.ok scFault (fun vs H Q E h => ?_) (fun cdv A outer s H vs Q E hr h => ?_)
  · obtain ⟨p, y, r, ks, rfl, _⟩ := h
    rfl
  · obtain ⟨p, y, r, ks, rfl, hk, hy, kb, k⟩ := h
    have hu := hu_of hr
    refine ⟨_, (C8.pss_cut (ps_if (PW.pt (pw_or (pt_not (pt_val (pe_call Sq.G hr (by rfl) Sq.m Sq.kp Sq.b .nil pass0 (pa_cons (pv 1) pa_nil)))) (pw_or1 (pt_cmpR op_eq (pe_callB call_len_seq (by rfl) T.len PySem.boot_len (pa_cons (pv 1) pa_nil)) pe_int (nomark _))))) (pss_one (ps_ret pe_str)) pss_nil)
    (pss_cons (ps_if (pt_cmpR (op_notInOwn OI.M.at_ OI.M.fn OI.raw hr pass0) (pe_ix ix_seq (pv 1) pe_int (fun _ _ => rfl)) (pv 0) (by rfl)) (pss_one (ps_ret pe_str)) pss_nil)
    (pss_cons (ps_if (pt_cmpR op_ne (pe_callB call_len_seq (by rfl) T.len PySem.boot_len (pa_cons (pv 1) pa_nil)) (pe_op op_add pe_int (pe_dget hu (pe_fld (pv 0) rfl) (pe_ix ix_seq (pv 1) pe_int (fun _ _ => rfl)) (fun _ _ => rfl))) (nomark _)) (pss_one (ps_ret pe_str)) pss_nil)
    (C8.pss_cut (ps_for PassesOwn.never rfl (pi_or (pi_list (pe_slice sl_list (pv 1) (po_some pe_int) po_none)) (pi_tup (pe_slice sl_tup (pv 1) (po_some pe_int) po_none))) (pg_name (i := 2) scFault.nd rfl (Or.inl rfl))
        (pss_one (ps_if (pt_not (pt_val (pe_call Lb.G hr (by rfl) Lb.m Lb.kp Lb.b .nil pass0 (pa_cons (pv 2) pa_nil)))) (pss_one (ps_ret pe_str)) pss_nil)))
    (pss_one (ps_ret pe_non)))))), ?_⟩
    obtain ⟨dx, fs, r0, n', d, ts, h1, h2, h3, h4, h5, h6, h7, h8, h9, h10, _⟩ := hk.get (K := K)
    refine ⟨fun σ H1 => ∃ (b : Addr) (x : V) (xs : List V), y = .ref b ∧ r = some (x :: xs) ∧ σ = [some (.ref p), some (.ref b), none] ∧ Same H H1 ∧ (H1 b = some (.lst (x :: xs)) ∨ H1 b = some (.tup (x :: xs))) ∧ (∀ z ∈ x :: xs, ∃ n, Thing H1 z n) ∧ xs.length ≤ 100, ?_, ?_⟩
    · obtain ⟨n, kd', kn⟩ := hy.kd
      refine ⟨_, rfl, y, n, rfl, kd', fun H1 s1 => ⟨_, rfl, ?_⟩⟩
      have hy1 := hy.keep s1
      cases e1 : seqV n with
      | false => exact iteT (by have e := kn e1; subst e; exact k _ s1)
      | true =>
        refine iteF ?_
        cases hy1 with
        | lst h t l =>
          rename_i b xs
          refine ⟨_, rfl, _, _, rfl, .inl (SqL.of h), rfl, _, rfl, ?_⟩
          cases xs with
          | nil => exact iteT (k _ s1)
          | cons x xs =>
            rw [decide_eq_false (fun e => by have := V.int.inj e; simp at this; omega)]
            refine iteF ⟨b, x, xs, rfl, rfl, rfl, s1, .inl h, t, by simp at l; omega⟩
        | tup h t l =>
          rename_i b xs
          refine ⟨_, rfl, _, _, rfl, .inr (SqT.of h), rfl, _, rfl, ?_⟩
          cases xs with
          | nil => exact iteT (k _ s1)
          | cons x xs =>
            rw [decide_eq_false (fun e => by have := V.int.inj e; simp at this; omega)]
            refine iteF ⟨b, x, xs, rfl, rfl, rfl, s1, .inr h, t, by simp at l; omega⟩
        | oth h l =>
          rw [← (kd'.keep s1).uniq h, e1] at l
          cases l
    rintro σ H1 ⟨b, x, xs, rfl, rfl, rfl, s1, hb, ht, hl⟩
    obtain ⟨nx, tx⟩ := ht x (.head _)
    have hk1 := hk.keep s1
    have ixr : ∀ {Q' : V → Hp → Prop}, Q' x H1 → rIx K (.ref b) (.int 0) H1 Q' := fun q => by
      rcases hb with hb | hb
      · exact .inl ⟨_, _, _, _, rfl, rfl, SqL.of hb, atI0 _ _, q⟩
      · exact .inr (.inl ⟨_, _, _, _, rfl, rfl, SqT.of hb, atI0 _ _, q⟩)
    refine ⟨_, rfl, ixr ⟨_, rfl, p, dx, fs, rfl, s1 _ _ h1, p, x, nx, ks, rfl, hk1, tx.kd, _, rfl, _, rfl, ?_⟩⟩
    have e0 := kAr_in ks x
    have e2 := kAr_num ks x
    cases e1 : kNum ks x with
    | none =>
      rw [e1] at e2
      rw [e2] at e0
      rw [← e0]
      refine iteT ?_
      have q := k _ s1
      rw [show deedWord ks (some (x :: xs)) = some (Str.ofString "kind") by show (match kNum ks x with | none => _ | some k => _) = _; rw [e1]] at q
      exact q
    | some m =>
      rw [e1] at e2
      rw [e2] at e0
      rw [← e0]
      have mk : m = m ∧ 0 ≤ m ∧ m ≤ 2 := by
        refine ⟨rfl, ?_⟩
        cases x with
        | str z =>
          have e1 : (ks.find? fun q => decide (q.1 = z)).map (·.2) = some m := e1
          cases e3 : ks.find? fun q => decide (q.1 = z) with
          | none => rw [e3] at e1; cases e1
          | some q =>
            rw [e3] at e1
            have e4 : q.2 = m := Option.some.inj e1
            rw [← e4]
            exact kb q (List.mem_of_find?_eq_some e3)
        | _ => cases e1
      have word : deedWord ks (some (x :: xs)) = if ((xs.length : Nat) : Int) = m then (if xs.all labV then none else some (Str.ofString "person")) else some (Str.ofString "arity") := by
        show (match kNum ks x with | none => _ | some k => _) = _
        rw [e1]
      rw [word] at k
      refine iteF ⟨_, rfl, b, x :: xs, rfl, ?_, ?_⟩
      · rcases hb with hb | hb
        · exact .inl (SqL.of hb)
        · exact .inr (SqT.of hb)
      have get : DGet H1 d x (some (V.int m)) := by
        cases x with
        | str z =>
          have e2 : valV (kvOf (vv ks)) (Sum.inr z : Key) = some (V.int m) := e2
          rw [← e2]
          exact DGet.k (k := Sum.inr z) (s1 _ _ h10)
        | _ => cases e1
      refine ⟨_, rfl, p, C, dx, fs, _, rfl, s1 _ _ h1, KX.cl, KX.nA, h4, _, rfl, ?_⟩
      refine ixr ⟨d, V.int m, rfl, get, ?_⟩
      refine ⟨_, _, rfl, rfl, rfl, _, rfl, ?_⟩
      have eqn : (V.int (((x :: xs).length : Nat) : Int) = V.int (1 + m)) ↔ ((xs.length : Nat) : Int) = m := by
        constructor
        · intro e
          have := V.int.inj e
          simp at this
          omega
        · intro e
          simp
          omega
      refine ite2 (fun q1 => ?_) (fun q1 => ?_)
      · have n1 : ¬ ((xs.length : Nat) : Int) = m := fun e => by rw [decide_eq_true (eqn.mpr e)] at q1; cases q1
        have q := k _ s1
        rw [if_neg n1] at q
        exact q
      have e3 : ((xs.length : Nat) : Int) = m := by
        by_cases e : ((xs.length : Nat) : Int) = m
        · exact e
        · rw [decide_eq_false (fun h => e (eqn.mp h))] at q1
          exact absurd rfl q1
      rw [if_pos e3] at k
      -- the persons
      refine ⟨fun σ H2 => xs.all labV = true ∧ Same H H2, ?_, ?_⟩
      · rcases hb with hb | hb
        · refine .inl ⟨_, rfl, _, rfl, b, _, rfl, SqL.of hb, fun q hq => ⟨q, rfl, ⟨_, SqL.of upd_same⟩, for_list (K := K) (a := q) (xs := cutV (x :: xs) (some 1) none) (fun i σ H2 => ∃ v, σ = [some (.ref p), some (.ref b), v] ∧ Same (upd H1 q (.lst (cutV (x :: xs) (some 1) none))) H2 ∧ (xs.take i).all labV = true)
            ⟨none, rfl, Same.refl _, rfl⟩ (fun i σ H2 _ ⟨_, _, s2, _⟩ => SqL.of (s2 _ _ upd_same)) ?_ ?_⟩⟩
          · rintro i z σ H2 hi ⟨v, rfl, s2, al⟩
            rw [cut1] at hi
            have s3 : Same H1 H2 := (sameUpd (Same.refl _) hq).trans s2
            obtain ⟨n, tz⟩ := ht z (.tail _ (List.mem_of_getElem? hi))
            refine ⟨_, rfl, z, n, rfl, (tz.keep s3).kd, (fun y e => Nat.le_of_lt (small1000 (by have := (tz.fine y e).2; omega))), _, rfl, ?_⟩
            cases e5 : labV z with
            | false =>
              refine iteT ?_
              have q3 := k _ (s1.trans s3)
              rw [if_neg (fun h => by rw [List.all_eq_true.mp h z (List.mem_of_getElem? hi)] at e5; cases e5)] at q3
              exact q3
            | true =>
              refine iteF ⟨some z, rfl, s2, ?_⟩
              rw [take_succ_of hi, List.all_append, al]
              simp [e5]
          · rintro σ H2 ⟨v, rfl, s2, al⟩
            rw [cut1, List.take_length] at al
            exact ⟨al, s1.trans ((sameUpd (Same.refl _) hq).trans s2)⟩
        · refine .inr ⟨_, rfl, _, rfl, b, _, rfl, SqT.of hb, whole x xs, fun q hq => ⟨q, rfl, ⟨_, SqT.of upd_same⟩, for_tup (K := K) (a := q) (xs := cutV (x :: xs) (some 1) none) (fun i σ H2 => ∃ v, σ = [some (.ref p), some (.ref b), v] ∧ Same (upd H1 q (.tup (cutV (x :: xs) (some 1) none))) H2 ∧ (xs.take i).all labV = true)
            ⟨none, rfl, Same.refl _, rfl⟩ (fun i σ H2 _ ⟨_, _, s2, _⟩ => SqT.of (s2 _ _ upd_same)) ?_ ?_⟩⟩
          · rintro i z σ H2 hi ⟨v, rfl, s2, al⟩
            rw [cut1] at hi
            have s3 : Same H1 H2 := (sameUpd (Same.refl _) hq).trans s2
            obtain ⟨n, tz⟩ := ht z (.tail _ (List.mem_of_getElem? hi))
            refine ⟨_, rfl, z, n, rfl, (tz.keep s3).kd, (fun y e => Nat.le_of_lt (small1000 (by have := (tz.fine y e).2; omega))), _, rfl, ?_⟩
            cases e5 : labV z with
            | false =>
              refine iteT ?_
              have q3 := k _ (s1.trans s3)
              rw [if_neg (fun h => by rw [List.all_eq_true.mp h z (List.mem_of_getElem? hi)] at e5; cases e5)] at q3
              exact q3
            | true =>
              refine iteF ⟨some z, rfl, s2, ?_⟩
              rw [take_succ_of hi, List.all_append, al]
              simp [e5]
          · rintro σ H2 ⟨v, rfl, s2, al⟩
            rw [cut1, List.take_length] at al
            exact ⟨al, s1.trans ((sameUpd (Same.refl _) hq).trans s2)⟩
      rintro σ H2 ⟨al, s2⟩
      have q := k _ s2
      rw [al] at q
      exact q
end
end Kx

set_option maxHeartbeats 4000000
namespace Kx
open PySem PySem.Spec PyProof.Rows L2
/-! plain data of which dicts of one pair are part, and its repr -/
inductive Dd (H : Hp) : Nat → V → PyData → Prop where
  | non {n : Nat} : Dd H n .non .none
  | bl {n : Nat} (b : Bool) : Dd H n (.bl b) (.bool b)
  | int {n : Nat} (i : Int) (h : i.natAbs < 10 ^ 25) : Dd H n (.int i) (.int i)
  | str {n : Nat} (z : Str) (h : Fine z) : Dd H n (.str z) (.str z)
  | lst {n : Nat} {a : Addr} {xs : List V} {ds : List PyData} (h : H a = some (.lst xs)) (l : xs.length ≤ 10) (e : xs.length = ds.length) (f : ∀ (i : Nat) (x : V) (d : PyData), xs[i]? = some x → ds[i]? = some d → Dd H n x d) : Dd H (n + 1) (.ref a) (.list ds)
  | tup {n : Nat} {a : Addr} {xs : List V} {ds : List PyData} (h : H a = some (.tup xs)) (l : xs.length ≤ 10) (e : xs.length = ds.length) (f : ∀ (i : Nat) (x : V) (d : PyData), xs[i]? = some x → ds[i]? = some d → Dd H n x d) : Dd H (n + 1) (.ref a) (.tuple ds)
  | dct {n : Nat} {a : Addr} {z : Str} {v : V} {dv : PyData} (h : H a = some (.dK [(Sum.inr z, v)])) (hz : Fine z) (hv : Dd H n v dv) : Dd H (n + 1) (.ref a) (.dict [(.str z, dv)])
theorem Dd.keep {H H' : Hp} {n : Nat} {x : V} {d : PyData} (h : Dd H n x d) (s : Same H H') : Dd H' n x d := by
  induction h with
  | non => exact .non
  | bl b => exact .bl b
  | int i h => exact .int i h
  | str z h => exact .str z h
  | lst h l e f ih => exact .lst (s _ _ h) l e ih
  | tup h l e f ih => exact .tup (s _ _ h) l e ih
  | dct h hz hv ih => exact .dct (s _ _ h) hz ih
theorem Dd.up {H : Hp} {n : Nat} {x : V} {d : PyData} (h : Dd H n x d) : Dd H (n + 1) x d := by
  induction h with
  | non => exact .non
  | bl b => exact .bl b
  | int i h => exact .int i h
  | str z h => exact .str z h
  | lst h l e f ih => exact .lst h l e ih
  | tup h l e f ih => exact .tup h l e ih
  | dct h hz hv ih => exact .dct h hz ih
theorem Dd.thing {H : Hp} {n : Nat} {x : V} {d : PyData} (h : Dd H n x d) : ∃ t, Thing H x t := by
  cases h with
  | non => exact ⟨_, .non, fun z e => nomatch e⟩
  | bl b => exact ⟨_, .bl b, fun z e => nomatch e⟩
  | int i h => exact ⟨_, .int i, fun z e => nomatch e⟩
  | str z h => exact ⟨_, .str z, fun y e => by cases e; exact h⟩
  | lst h l e f => exact ⟨_, .lst _ _ h, fun z e => nomatch e⟩
  | tup h l e f => exact ⟨_, .tup _ _ h, fun z e => nomatch e⟩
  | dct h hz hv => exact ⟨_, .dct _ _ h, fun z e => nomatch e⟩
/-- a bound of what it takes -/
def BB : Nat → Nat
  | 0 => 100
  | n + 1 => 10 * (BB n + 1) + 102
theorem BB_up : ∀ n, 100 ≤ BB n ∧ BB n ≤ BB (n + 1)
  | 0 => by decide
  | n + 1 => by
    have h := BB_up n
    have e1 : BB (n + 1) = 10 * (BB n + 1) + 102 := rfl
    have e2 : BB (n + 1 + 1) = 10 * (BB (n + 1) + 1) + 102 := rfl
    omega
/-- small, shown in few signs -/
def Sm (n : Nat) (d : PyData) : Prop := d.depth ≤ n ∧ d.showable = true ∧ d.leavesShort 30 = true ∧ d.bulk ≤ BB n
theorem all_sm {n : Nat} : ∀ {ds : List PyData}, (∀ d ∈ ds, Sm n d) → PyData.depthAll ds ≤ n ∧ PyData.showableAll ds = true ∧ PyData.leavesShortAll 30 ds = true ∧ PyData.bulkAll ds ≤ ds.length * (BB n + 1)
  | [], _ => ⟨Nat.zero_le _, rfl, rfl, by simp [PyData.bulkAll]⟩
  | d :: ds, h => by
    obtain ⟨h1, h2, h3, h4⟩ := h d (.head _)
    obtain ⟨g1, g2, g3, g4⟩ := all_sm fun e m => h e (.tail _ m)
    refine ⟨Nat.max_le.mpr ⟨h1, g1⟩, ?_, ?_, ?_⟩
    · show (PyData.showable d && PyData.showableAll ds) = true
      rw [h2, g2]
      rfl
    · show (PyData.leavesShort 30 d && PyData.leavesShortAll 30 ds) = true
      rw [h3, g3]
      rfl
    · show PyData.bulk d + 1 + PyData.bulkAll ds ≤ (ds.length + 1) * (BB n + 1)
      rw [Nat.add_mul, Nat.one_mul]
      omega
theorem int_short {i : Int} (h : i.natAbs < 10 ^ 25) : decide (i.natAbs.log2 < 1920) = true ∧ (PyData.shown (.int i)).length ≤ 30 := by
  refine ⟨decide_eq_true ?_, ?_⟩
  · by_cases e : i.natAbs = 0
    · rw [e]; decide
    · have : i.natAbs < 2 ^ 84 := by omega
      have := (Nat.log2_lt e).mpr this
      omega
  · have e := int_text_length_le10 (k := 25) (by decide) h
    show (Str.ofString (toString i)).length ≤ 30
    rw [PySem.ofString_length]
    omega
theorem fine_signs {z : Str} (h : Fine z) : (z.cps.toList.all fun c => decide (c < 16 ^ 8)) = true := by
  have h1 := h.1
  unfold PyData.strOk at h1
  rw [← Array.all_toList] at h1
  refine List.all_eq_true.mpr fun c hc => decide_eq_true ?_
  have := of_decide_eq_true (List.all_eq_true.mp h1 c hc)
  omega
theorem str_sm {n : Nat} {z : Str} (h : Fine z) : Sm n (.str z) := by
  refine ⟨Nat.zero_le _, rfl, fine_signs h, ?_⟩
  have := h.2
  have := (BB_up n).1
  have e : PyData.bulk (.str z) = z.length := rfl
  omega
theorem Dd.sm {H : Hp} {n : Nat} {x : V} {d : PyData} (h : Dd H n x d) : Sm n d := by
  induction h with
  | non => exact ⟨Nat.zero_le _, rfl, rfl, Nat.zero_le _⟩
  | bl b => exact ⟨Nat.zero_le _, rfl, rfl, Nat.zero_le _⟩
  | int i h => exact ⟨Nat.zero_le _, (int_short h).1, decide_eq_true (int_short h).2, Nat.zero_le _⟩
  | str z h => exact str_sm h
  | @lst n a xs ds h l e f ih =>
    obtain ⟨g1, g2, g3, g4⟩ := all_sm (n := n) (ds := ds) fun d hd => by
      obtain ⟨i, hi⟩ := List.mem_iff_getElem?.mp hd
      have lt : i < xs.length := by rw [e]; exact (List.getElem?_eq_some_iff.mp hi).1
      exact ih i xs[i] d (List.getElem?_eq_getElem lt) hi
    refine ⟨Nat.succ_le_succ g1, g2, g3, ?_⟩
    have e1 : BB (n + 1) = 10 * (BB n + 1) + 102 := rfl
    have e2 : ds.length * (BB n + 1) ≤ 10 * (BB n + 1) := Nat.mul_le_mul_right _ (by omega)
    show PyData.bulkAll ds ≤ _
    omega
  | @tup n a xs ds h l e f ih =>
    obtain ⟨g1, g2, g3, g4⟩ := all_sm (n := n) (ds := ds) fun d hd => by
      obtain ⟨i, hi⟩ := List.mem_iff_getElem?.mp hd
      have lt : i < xs.length := by rw [e]; exact (List.getElem?_eq_some_iff.mp hi).1
      exact ih i xs[i] d (List.getElem?_eq_getElem lt) hi
    refine ⟨Nat.succ_le_succ g1, g2, g3, ?_⟩
    have e1 : BB (n + 1) = 10 * (BB n + 1) + 102 := rfl
    have e2 : ds.length * (BB n + 1) ≤ 10 * (BB n + 1) := Nat.mul_le_mul_right _ (by omega)
    show PyData.bulkAll ds ≤ _
    omega
  | @dct n a z v dv h hz hv ih =>
    obtain ⟨h1, h2, h3, h4⟩ := ih
    obtain ⟨g1, g2, g3, g4⟩ := str_sm (n := n) hz
    refine ⟨?_, ?_, ?_, ?_⟩
    · show max (max (PyData.depth (.str z)) (PyData.depth dv)) 0 + 1 ≤ n + 1
      have : PyData.depth (.str z) = 0 := rfl
      omega
    · show (PyData.showable (.str z) && PyData.showable dv && true) = true
      rw [g2, h2]
      rfl
    · show (PyData.leavesShort 30 (.str z) && PyData.leavesShort 30 dv && true) = true
      rw [g3, h3]
      rfl
    · show PyData.bulk (.str z) + PyData.bulk dv + 2 + 0 ≤ _
      have e1 : BB (n + 1) = 10 * (BB n + 1) + 102 := rfl
      have e : PyData.bulk (.str z) = z.length := rfl
      have := hz.2
      omega
theorem Sm.fits {n : Nat} {d : PyData} (h : Sm n d) (l : n ≤ 3) : d.shown.length ≤ sizeLine := by
  have q := PyData.shown_le_bulk 30 (by decide) d h.2.2.1
  have b : BB n ≤ 112432 := by
    rcases (by omega : n = 0 ∨ n = 1 ∨ n = 2 ∨ n = 3) with e | e | e | e <;> subst e <;> decide
  have := h.2.2.2
  rw [sizeLine_eq]
  omega
section
variable {X : Cx} {pins : List (Addr × Obj)} {σ : L2.St} {H : Hp} {s : Shared}
theorem readsAll_at {h : Heap} : ∀ {us : List Value} {ds : List PyData}, us.length = ds.length → (∀ (i : Nat) (u : Value) (d : PyData), us[i]? = some u → ds[i]? = some d → ∃ as, Reads h u d as) → ∃ as, ReadsAll h us ds as
  | [], [], _, _ => ⟨[], .nil⟩
  | [], _ :: _, e, _ => by cases e
  | _ :: _, [], e, _ => by cases e
  | u :: us, d :: ds, e, f => by
    obtain ⟨as, r1⟩ := f 0 u d rfl rfl
    obtain ⟨bs, r2⟩ := readsAll_at (us := us) (ds := ds) (Nat.succ.inj e) fun i u d h1 h2 => f (i + 1) u d h1 h2
    exact ⟨as ++ bs, .cons r1 r2⟩
def encK : Key → PyData
  | .inl i => .int i
  | .inr x => .str x
theorem mix_reads {h : Heap} {k : Key} {key : Value} (e : keyIs k key = true) : Reads h key (encK k) [] := by
  rcases keyIs_shape e with ⟨i, t, e1, e2⟩ | ⟨x, t, e1, e2⟩
  · subst e1; subst e2; exact .int i t
  · subst e1; subst e2; exact .str x t
/-- each shown as the library shows it -/
abbrev Shn (P : Program) (w : World) (h : Heap) (u : Value) (d : PyData) : Prop := ∃ bs, ReadAtMost h d.depth bs ∧ ReprK P w bs h d.depth u d.shown
theorem allK {P : Program} {w : World} {h : Heap} : ∀ {us : List Value} {ds : List PyData}, us.length = ds.length → (∀ (i : Nat) (u : Value) (d : PyData), us[i]? = some u → ds[i]? = some d → Shn P w h u d) →
    ∃ bs, ReadAtMost h (PyData.depthAll ds) bs ∧ ReprAllK P w bs h (PyData.depthAll ds) us (PyData.shownAll ds)
  | [], [], _, _ => ⟨[], (fun _ h => nomatch h), .nil⟩
  | [], _ :: _, e, _ => by cases e
  | _ :: _, [], e, _ => by cases e
  | u :: us, d :: ds, e, f => by
    obtain ⟨b1, hb1, k1⟩ := f 0 u d rfl rfl
    obtain ⟨b2, hb2, k2⟩ := allK (us := us) (ds := ds) (Nat.succ.inj e) fun i u d h1 h2 => f (i + 1) u d h1 h2
    refine ⟨b1 ++ b2, fun b hm => ?_, .cons ((k1.more fun b hb => List.mem_append_left _ hb).level_le (Nat.le_max_left _ _)) (k2.more_le (fun b hb => List.mem_append_right _ hb) (Nat.le_max_right _ _))⟩
    rcases List.mem_append.mp hm with hm | hm
    · obtain ⟨d', as', r', hd'⟩ := hb1 b hm
      exact ⟨d', as', r', Nat.le_trans hd' (Nat.le_max_left _ _)⟩
    · obtain ⟨d', as', r', hd'⟩ := hb2 b hm
      exact ⟨d', as', r', Nat.le_trans hd' (Nat.le_max_right _ _)⟩
theorem Dd.reads (I : Inv X pins σ H s) {n : Nat} {x : V} {d : PyData} (h : Dd H n x d) : ∀ u, RelV x u → ∃ as, Reads s.heap u d as := by
  induction h with
  | non => intro u r; cases r; exact ⟨_, .none⟩
  | bl b => intro u r; cases r; exact ⟨_, .bool b⟩
  | int i h => intro u r; obtain ⟨t, rfl⟩ := r; exact ⟨_, .int i t⟩
  | str z h => intro u r; obtain ⟨t, rfl⟩ := r; exact ⟨_, .str z t⟩
  | @lst n a xs ds h l e f ih =>
    intro u r
    cases r
    obtain ⟨its, rv, ⟨o, m, ho, hc, _, hd⟩, _⟩ := I.list (SqL.of h)
    have hl := rv.length
    obtain ⟨as, hr⟩ := readsAll_at (h := s.heap) (us := its) (ds := ds) (by omega) fun i u d h1 h2 => by
      have lt : i < xs.length := by have := (List.getElem?_eq_some_iff.mp h1).1; omega
      obtain ⟨u', hu, ru⟩ := rv.get (List.getElem?_eq_getElem lt)
      rw [h1] at hu
      cases hu
      exact ih i _ d (List.getElem?_eq_getElem lt) h2 u ru
    exact ⟨_, Reads.list ho hc hd (by simpa using hr)⟩
  | @tup n a xs ds h l e f ih =>
    intro u r
    cases r
    obtain ⟨its, rv, ⟨o, ho, hc, m, hd⟩, _⟩ := I.tuple (SqT.of h)
    have hl := rv.length
    obtain ⟨as, hr⟩ := readsAll_at (h := s.heap) (us := its) (ds := ds) (by omega) fun i u d h1 h2 => by
      have lt : i < xs.length := by have := (List.getElem?_eq_some_iff.mp h1).1; omega
      obtain ⟨u', hu, ru⟩ := rv.get (List.getElem?_eq_getElem lt)
      rw [h1] at hu
      cases hu
      exact ih i _ d (List.getElem?_eq_getElem lt) h2 u ru
    exact ⟨_, Reads.tuple ho hc hd (by simpa using hr)⟩
  | @dct n a z v dv h hz hv ih =>
    intro u r
    cases r
    obtain ⟨_, _, vs, rk, hd⟩ := dk_of I.hok h
    cases rk with
    | cons hp ht =>
      rename_i kv vs
      cases ht
      obtain ⟨k, w⟩ := kv
      obtain ⟨e1, e2⟩ := hp
      have e1 : (Sum.inr z : Key) = k := e1
      subst e1
      obtain ⟨as, r1⟩ := ih w e2
      exact ⟨a :: (as ++ []), PyProof.V.reads_dictOf (enc := encK) (fun k key e => mix_reads e) hd (.cons r1 .nil)⟩
/-- the parts of a thing that is shown -/
inductive Part (P : Program) (w : World) (h : Heap) : Value → PyData → Prop where
  | non : Part P w h .none .none
  | bl (b : Bool) : Part P w h (.bool b) (.bool b)
  | int (i : Int) (t : Tok) : Part P w h (.int i t) (.int i)
  | str (x : Str) (t : Tok) : Part P w h (.str x t) (.str x)
  | lst {a : Addr} {o : Obj} {vs : Array Value} {m : Nat} {xs : List PyData} (h1 : h.get? a = some o) (h2 : o.cls = .type "list") (h3 : o.data = .seq vs m) (l : vs.toList.length = xs.length) (k : ∀ (i : Nat) (u : Value) (d : PyData), vs.toList[i]? = some u → xs[i]? = some d → Shn P w h u d) : Part P w h (.ref a) (.list xs)
  | tup {a : Addr} {o : Obj} {vs : Array Value} {m : Nat} {xs : List PyData} (h1 : h.get? a = some o) (h2 : o.cls = .type "tuple") (h3 : o.data = .seq vs m) (l : vs.toList.length = xs.length) (k : ∀ (i : Nat) (u : Value) (d : PyData), vs.toList[i]? = some u → xs[i]? = some d → Shn P w h u d) : Part P w h (.ref a) (.tuple xs)
  | dct {a : Addr} {o : Obj} {es : Array DictEntry} {m : Nat} {kvs : List (PyData × PyData)} (h1 : h.get? a = some o) (h2 : o.cls = .type "dict") (h3 : o.data = .dict es m) (sy : (a == sysModules) = false) (l1 : (es.toList.map (·.key)).length = kvs.length) (l2 : (es.toList.map (·.val)).length = kvs.length)
      (k1 : ∀ (i : Nat) (u : Value) (d : PyData), (es.toList.map (·.key))[i]? = some u → (kvs.map (·.1))[i]? = some d → Shn P w h u d) (k2 : ∀ (i : Nat) (u : Value) (d : PyData), (es.toList.map (·.val))[i]? = some u → (kvs.map (·.2))[i]? = some d → Shn P w h u d) : Part P w h (.ref a) (.dict kvs)
end
end Kx

set_option maxHeartbeats 4000000
namespace Kx
open PySem PySem.Spec PyProof.Rows L2
theorem Part.shn {P : Program} {w : World} {h : Heap} {u : Value} {d : PyData} {as : List Addr} (p : Part P w h u d) (r : Reads h u d as) (hs : d.showable = true) (hz : d.shown.length ≤ sizeLine) : Shn P w h u d := by
  cases p with
  | non => exact ⟨[], (fun _ h => nomatch h), by simp only [PyData.shown]; exact .of_is ReprIs.none _ _ _⟩
  | bl b => exact ⟨[], (fun _ h => nomatch h), by simp only [PyData.shown]; exact .of_is (ReprIs.bool b) _ _ _⟩
  | int i t => exact ⟨[], (fun _ h => nomatch h), by simp only [PyData.shown]; exact .of_is (ReprIs.int t (by simpa [PyData.showable] using hs)) _ _ _⟩
  | str x t => exact ⟨[], (fun _ h => nomatch h), by simp only [PyData.shown]; exact .of_is (ReprIs.str x t (by simpa only [PyData.shown] using hz)) _ _ _⟩
  | @lst a o vs m xs h1 h2 h3 l k =>
    obtain ⟨bs, hb, hk⟩ := allK l k
    have hna : a ∉ bs := not_mem_of_deeper r (by simp only [PyData.depth]; omega) hb
    refine ⟨a :: bs, ReadAtMost.cons r (by simp only [PyData.depth]; omega) hb, ?_⟩
    simp only [PyData.depth, PyData.shown]
    obtain ⟨vl⟩ := vs
    cases vl with
    | nil =>
      cases xs with
      | nil => simp only [PyData.shownAll, listText_nil]; exact ReprK.listEmpty h1 h2 h3
      | cons x xs => cases l
    | cons x vl => exact ReprK.list h1 h2 h3 hna (by simpa using hk.length_eq) (fun i y e => hk.item i y (by simpa using e))
  | @tup a o vs m xs h1 h2 h3 l k =>
    obtain ⟨bs, hb, hk⟩ := allK l k
    have hna : a ∉ bs := not_mem_of_deeper r (by simp only [PyData.depth]; omega) hb
    refine ⟨a :: bs, ReadAtMost.cons r (by simp only [PyData.depth]; omega) hb, ?_⟩
    simp only [PyData.depth, PyData.shown]
    exact ReprK.tuple h1 h2 h3 hna hk
  | @dct a o es m kvs h1 h2 h3 sy l1 l2 k1 k2 =>
    obtain ⟨b1, hb1, q1⟩ := allK (ds := kvs.map (·.1)) (by simpa using l1) k1
    obtain ⟨b2, hb2, q2⟩ := allK (ds := kvs.map (·.2)) (by simpa using l2) k2
    have hb : ReadAtMost h (PyData.depthKv kvs) (b1 ++ b2) := (hb1.mono (PyData.depthAll_keys_le kvs)).append (hb2.mono (PyData.depthAll_vals_le kvs))
    have hna : a ∉ b1 ++ b2 := not_mem_of_deeper r (by simp only [PyData.depth]; omega) hb
    refine ⟨a :: (b1 ++ b2), ReadAtMost.cons r (by simp only [PyData.depth]; omega) hb, ?_⟩
    simp only [PyData.depth, PyData.shown, PyData.shownKv_eq]
    exact ReprK.dict h1 h2 h3 sy hna (ReprEntriesK.of_two es.toList _ _ (q1.more_le (fun b hb => List.mem_append_left _ hb) (PyData.depthAll_keys_le kvs)) (q2.more_le (fun b hb => List.mem_append_right _ hb) (PyData.depthAll_vals_le kvs)))
section
variable {X : Cx} {pins : List (Addr × Obj)} {σ : L2.St} {H : Hp} {s : Shared}
theorem Dd.part (I : Inv X pins σ H s) {n : Nat} {x : V} {d : PyData} (h : Dd H n x d) : n ≤ 3 → ∀ u, RelV x u → Part X.prog X.w s.heap u d := by
  induction h with
  | non => intro _ u r; cases r; exact .non
  | bl b => intro _ u r; cases r; exact .bl b
  | int i h => intro _ u r; obtain ⟨t, rfl⟩ := r; exact .int i t
  | str z h => intro _ u r; obtain ⟨t, rfl⟩ := r; exact .str z t
  | @lst n a xs ds h l e f ih =>
    intro hn u r
    cases r
    obtain ⟨its, rv, ⟨o, m, ho, hc, _, hd⟩, _⟩ := I.list (SqL.of h)
    have hl := rv.length
    refine .lst ho hc hd (by simp; omega) fun i u d h1 h2 => ?_
    have h1 : its[i]? = some u := by simpa using h1
    have lt : i < xs.length := by have := (List.getElem?_eq_some_iff.mp h1).1; omega
    obtain ⟨u', hu, ru⟩ := rv.get (List.getElem?_eq_getElem lt)
    rw [h1] at hu
    cases hu
    have g := f i _ d (List.getElem?_eq_getElem lt) h2
    obtain ⟨as, rd⟩ := g.reads I u ru
    exact (ih i _ d (List.getElem?_eq_getElem lt) h2 (by omega) u ru).shn rd g.sm.2.1 (g.sm.fits (by omega))
  | @tup n a xs ds h l e f ih =>
    intro hn u r
    cases r
    obtain ⟨its, rv, ⟨o, ho, hc, m, hd⟩, _⟩ := I.tuple (SqT.of h)
    have hl := rv.length
    refine .tup ho hc hd (by simp; omega) fun i u d h1 h2 => ?_
    have h1 : its[i]? = some u := by simpa using h1
    have lt : i < xs.length := by have := (List.getElem?_eq_some_iff.mp h1).1; omega
    obtain ⟨u', hu, ru⟩ := rv.get (List.getElem?_eq_getElem lt)
    rw [h1] at hu
    cases hu
    have g := f i _ d (List.getElem?_eq_getElem lt) h2
    obtain ⟨as, rd⟩ := g.reads I u ru
    exact (ih i _ d (List.getElem?_eq_getElem lt) h2 (by omega) u ru).shn rd g.sm.2.1 (g.sm.fits (by omega))
  | @dct n a z v dv h hz hv ih =>
    intro hn u r
    cases r
    obtain ⟨_, lo, vs, rk, hd⟩ := dk_of I.hok h
    cases rk with
    | cons hp ht =>
      rename_i kv vs
      cases ht
      obtain ⟨k, w⟩ := kv
      obtain ⟨e1, e2⟩ := hp
      have e1 : (Sum.inr z : Key) = k := e1
      subst e1
      obtain ⟨o, es, ep, ho, hx, hdat, _, hps, _⟩ := hd
      obtain ⟨as, rd⟩ := hv.reads I w e2
      have sv : Shn X.prog X.w s.heap w dv := (ih (by omega) w e2).shn rd hv.sm.2.1 (hv.sm.fits (by omega))
      obtain ⟨el⟩ := es
      have hps : Pairs (mixKind X.prog X.w) el [(Sum.inr z, w)] := hps
      cases hps with
      | @cons e _ _ _ hk hvv hr =>
        cases hr
        have key : keyIs (Sum.inr z) e.key = true := hk
        have sk : Shn X.prog X.w s.heap e.key (.str z) := by
          rcases keyIs_shape key with ⟨i, t, q1, q2⟩ | ⟨y, t, q1, q2⟩
          · cases q1
          · cases q1
            rw [q2]
            exact (Part.str z t).shn (.str z t) rfl ((str_sm (n := 0) hz).fits (by decide))
        have hv1 : e.val = w := hvv
        refine .dct ho hx.1 hdat lo rfl rfl (fun i u d g1 g2 => ?_) (fun i u d g1 g2 => ?_)
        · cases i with
          | zero => cases g1; cases g2; exact sk
          | succ i => cases g2
        · cases i with
          | zero => cases g1; cases g2; show Shn X.prog X.w s.heap e.val dv; rw [hv1]; exact sv
          | succ i => cases g2
end
section
variable {X : Cx}
def rReprD : List V → Hp → VK → Prop := fun xs H Q => ∃ (x : V) (n : Nat) (d : PyData), xs = [x] ∧ Dd H n x d ∧ n ≤ 3 ∧ Q (.str d.shown) H
theorem call_reprD (hg : X.A.guards = some []) (hu : X.A.units + 64 < cLine) : CallR X (.builtin "repr") rReprD := by
  intro pins s σ H xs us Q I r h
  obtain ⟨x, n, d, rfl, hd, hn, q⟩ := h
  obtain ⟨u, rfl, rx⟩ := vals1 r
  have sm := hd.sm
  have fit := sm.fits hn
  obtain ⟨as, rd⟩ := hd.reads I u rx
  have pt := hd.part I hn u rx
  have dp := sm.1
  have fin : ∀ {v : Str} (t : Tok) (h' : Heap) (tk : Nat), v = d.shown → (∀ b o, s.heap.get? b = some o → h'.get? b = some o) → EP X pins σ Q (.str v t) { s with heap := h', toks := tk } := fun t h' tk e kp => by
    subst e
    exact ⟨.str d.shown, H, I.kept kp, ⟨t, rfl⟩, q⟩
  cases pt with
  | non => exact PySem.P.repr_of_none (fin _ _ _ rfl fun _ _ e => e)
  | bl b => exact PySem.P.repr_of_bool (fin _ _ _ rfl fun _ _ e => e)
  | int i t => exact PySem.P.repr_of_int (of_decide_eq_true sm.2.1) (fin _ _ _ rfl fun _ _ e => e)
  | str z t => exact PySem.P.repr_of_str (fin _ _ _ rfl fun _ _ e => e) fit
  | @lst a o vs m xs h1 h2 h3 l k =>
    obtain ⟨bs, hb, hk⟩ := allK l k
    have hna : a ∉ bs := not_mem_of_deeper rd (by simp only [PyData.depth]; omega) hb
    have dp : PyData.depthAll xs + 1 ≤ n := dp
    refine call_repr_slot (by omega) ⟨o, h1, h2⟩ F.slot_list_repr.toG ?_
    obtain ⟨vl⟩ := vs
    cases vl with
    | nil =>
      cases xs with
      | nil => exact call_list_repr_empty ⟨o, h1, h2⟩ h1 h3 ⟨_, _, rfl, fin _ _ _ (by simp only [PyData.shown, PyData.shownAll, listText_nil]) fun _ _ e => e⟩
      | cons x xs => cases l
    | cons x vl => exact call_list_reprK h1 h2 h3 hna (by simpa using hk.length_eq) (fun i y e => hk.item i y (by simpa using e)) hg (fun b _ => Clear.nil b) (by show X.A.units + 1 + _ < cLine; omega) (fun _ _ e => e) (fun h' u tk kp => ⟨_, _, rfl, fin _ _ _ (by simp only [PyData.shown]) kp⟩) (by simpa only [PyData.shown] using fit)
  | @tup a o vs m xs h1 h2 h3 l k =>
    obtain ⟨bs, hb, hk⟩ := allK l k
    have hna : a ∉ bs := not_mem_of_deeper rd (by simp only [PyData.depth]; omega) hb
    have dp : PyData.depthAll xs + 1 ≤ n := dp
    exact call_repr_slot (by omega) ⟨o, h1, h2⟩ F.slot_tuple_repr (call_tuple_reprK h1 h2 h3 hna hk hg (fun b _ => Clear.nil b) (by show X.A.units + 1 + _ < cLine; omega) (fun _ _ e => e) (fun h' u tk kp => ⟨_, _, rfl, fin _ _ _ (by simp only [PyData.shown]) kp⟩) (by simpa only [PyData.shown] using fit))
  | @dct a o es m kvs h1 h2 h3 sy l1 l2 k1 k2 =>
    obtain ⟨b1, hb1, q1⟩ := allK (ds := kvs.map (·.1)) (by simpa using l1) k1
    obtain ⟨b2, hb2, q2⟩ := allK (ds := kvs.map (·.2)) (by simpa using l2) k2
    have hb : ReadAtMost s.heap (PyData.depthKv kvs) (b1 ++ b2) := (hb1.mono (PyData.depthAll_keys_le kvs)).append (hb2.mono (PyData.depthAll_vals_le kvs))
    have hna : a ∉ b1 ++ b2 := not_mem_of_deeper rd (by simp only [PyData.depth]; omega) hb
    have dp : PyData.depthKv kvs + 1 ≤ n := dp
    exact call_repr_slot (by omega) ⟨o, h1, h2⟩ F.slot_dict_repr (call_dict_reprK h1 h2 h3 sy hna (ReprEntriesK.of_two es.toList _ _ (q1.more_le (fun b hb => List.mem_append_left _ hb) (PyData.depthAll_keys_le kvs)) (q2.more_le (fun b hb => List.mem_append_right _ hb) (PyData.depthAll_vals_le kvs))) hg (fun b _ => Clear.nil b) (by show X.A.units + 1 + _ < cLine; omega) (fun _ _ e => e) (fun h' u tk kp => ⟨_, _, rfl, fin _ _ _ (by simp only [PyData.shown, PyData.shownKv_eq]) kp⟩) (by rw [← PyData.shownKv_eq]; simpa only [PyData.shown] using fit))
end
end Kx

set_option maxHeartbeats 4000000
namespace Kx
open PySem L2
/-- the heap but for the hand -/
def wo (p : Addr) (H : Hp) : Hp := fun b => if b = p then none else H b
theorem wo_same {H : Hp} {p : Addr} : Same (wo p H) H := fun b o e => by
  unfold wo at e
  by_cases h : b = p
  · rw [if_pos h] at e; cases e
  · rw [if_neg h] at e; exact e
theorem wo_ne {H : Hp} {p b : Addr} (h : b ≠ p) : wo p H b = H b := if_neg h
theorem wo_keep {H H' : Hp} {p : Addr} (k : Keep H H' p) : Same (wo p H) (wo p H') := fun b o e => by
  unfold wo at e ⊢
  by_cases h : b = p
  · rw [if_pos h] at e; cases e
  · rw [if_neg h] at e ⊢; exact k b o e h
theorem wo_at {H : Hp} {p b : Addr} {o : HO} (h : H b = some o) (n : b ≠ p) : wo p H b = some o := by rw [wo_ne n]; exact h
theorem wo_mono {H H' : Hp} {p : Addr} (s : Same H H') : Same (wo p H) (wo p H') := wo_keep fun b o e _ => s b o e
/-- which row it is -/
theorem Dd.row {H : Hp} {n : Nat} {y : V} {d : PyData} (h : Dd H n y d) : ∃ r, RowIs H y r := by
  have one : ∀ {m : Nat} {xs : List V} {ds : List PyData}, xs.length = ds.length → (∀ (i : Nat) (x : V) (d : PyData), xs[i]? = some x → ds[i]? = some d → Dd H m x d) → (∃ a b t u, xs = [a, b] ∧ Thing H a t ∧ Thing H b u) ∨ xs.length ≠ 2 := fun {m xs ds} e f => by
    match xs, ds, e with
    | [], _, _ => exact .inr (by simp)
    | [_], _, _ => exact .inr (by simp)
    | _ :: _ :: _ :: _, _, _ => exact .inr (by simp)
    | [a, b], [da, db], _ =>
      obtain ⟨t, ht⟩ := (f 0 a da rfl rfl).thing
      obtain ⟨u, hu⟩ := (f 1 b db rfl rfl).thing
      exact .inl ⟨a, b, t, u, rfl, ht, hu⟩
    | [_, _], [], e => cases e
    | [_, _], [_], e => cases e
    | [_, _], _ :: _ :: _ :: _, e => cases e
  cases h with
  | non => exact ⟨_, .oth .non rfl⟩
  | bl b => exact ⟨_, .oth (.bl b) rfl⟩
  | int i h => exact ⟨_, .oth (.int i) rfl⟩
  | str z h => exact ⟨_, .oth (.str z) rfl⟩
  | lst h l e f =>
    rcases one e f with ⟨a, b, t, u, rfl, ht, hu⟩ | q
    · exact ⟨_, .lst h ht hu⟩
    · exact ⟨_, .lstN h q⟩
  | tup h l e f =>
    rcases one e f with ⟨a, b, t, u, rfl, ht, hu⟩ | q
    · exact ⟨_, .tup h ht hu⟩
    · exact ⟨_, .tupN h q⟩
  | dct h hz hv => exact ⟨_, .oth (.dct _ _ h) rfl⟩
theorem allR_of {H : Hp} {m : Nat} : ∀ {xs : List V} {ds : List PyData}, xs.length = ds.length → (∀ (i : Nat) (x : V) (d : PyData), xs[i]? = some x → ds[i]? = some d → Dd H m x d) → ∃ rs, AllR H xs rs
  | [], _, _, _ => ⟨[], rfl, fun i y r e => by cases e⟩
  | x :: xs, [], e, _ => by cases e
  | x :: xs, d :: ds, e, f => by
    obtain ⟨r, hr⟩ := (f 0 x d rfl rfl).row
    obtain ⟨rs, h1, h2⟩ := allR_of (xs := xs) (ds := ds) (Nat.succ.inj e) fun i x d e1 e2 => f (i + 1) x d e1 e2
    refine ⟨r :: rs, congrArg Nat.succ h1, fun i y q e1 e2 => ?_⟩
    cases i with
    | zero => cases e1; cases e2; exact hr
    | succ i => exact h2 i y q e1 e2
theorem Dd.rows {H : Hp} {n : Nat} {y : V} {d : PyData} (h : Dd H n y d) : ∃ r, RowsIs H y r := by
  cases h with
  | non => exact ⟨_, .oth .non rfl⟩
  | bl b => exact ⟨_, .oth (.bl b) rfl⟩
  | int i h => exact ⟨_, .oth (.int i) rfl⟩
  | str z h => exact ⟨_, .oth (.str z) rfl⟩
  | lst h l e f => obtain ⟨rs, q⟩ := allR_of e f; exact ⟨_, .lst h q (by omega)⟩
  | tup h l e f => obtain ⟨rs, q⟩ := allR_of e f; exact ⟨_, .tup h q (by omega)⟩
  | dct h hz hv => exact ⟨_, .oth (.dct _ _ h) rfl⟩
theorem things_of {H : Hp} {m : Nat} {xs : List V} {ds : List PyData} (e : xs.length = ds.length) (f : ∀ (i : Nat) (x : V) (d : PyData), xs[i]? = some x → ds[i]? = some d → Dd H m x d) : ∀ x ∈ xs, ∃ n, Thing H x n := fun x hx => by
  obtain ⟨i, hi⟩ := List.mem_iff_getElem?.mp hx
  have lt : i < ds.length := by rw [← e]; exact (List.getElem?_eq_some_iff.mp hi).1
  exact (f i x _ hi (List.getElem?_eq_getElem lt)).thing
theorem Dd.deed {H : Hp} {n : Nat} {y : V} {d : PyData} (h : Dd H n y d) : ∃ r, DeedIs H y r := by
  cases h with
  | non => exact ⟨_, .oth .non rfl⟩
  | bl b => exact ⟨_, .oth (.bl b) rfl⟩
  | int i h => exact ⟨_, .oth (.int i) rfl⟩
  | str z h => exact ⟨_, .oth (.str z) rfl⟩
  | lst h l e f => exact ⟨_, .lst h (things_of e f) (by omega)⟩
  | tup h l e f => exact ⟨_, .tup h (things_of e f) (by omega)⟩
  | dct h hz hv => exact ⟨_, .oth (.dct _ _ h) rfl⟩
theorem inV_strs (z : Str) : ∀ ys : List Str, inV (.str z) (ys.map V.str) = decide (z ∈ ys)
  | [] => rfl
  | y :: ys => by
    have ih := inV_strs z ys
    show (eqV (.str y) (.str z) || inV (.str z) (ys.map V.str)) = _
    rw [ih]
    by_cases e : z = y
    · subst e
      simp [eqV]
    · have e' : ¬ y = z := fun q => e q.symm
      simp [eqV, e, e']
/-- the word for a row, "" for none -/
def dueV (names : List Str) (r : Option (V × V)) : Str := (rowWord names r).getD ""
def spLRow : Sp := fun vs H Q _ => ∃ (y : V) (l : Addr) (names : List Str) (r : Option (V × V)), vs = [y, .ref l] ∧ RowIs H y r ∧ H l = some (.lst (names.map V.str)) ∧ ∀ H', Same H H' → Q (.str (dueV names r)) H'
section
variable {P : Program} {w : World} {K : PySem.W.Frag} {mg : Str → Option Value} {base : Heap}
theorem scLRow : FnScope ["_law_row", "_law_names"] ["_law_row", "_law_names"] (defScope sLRowDue) := ⟨rfl, rfl, rfl, by decide +kernel, rfl, by decide +kernel, by decide +kernel⟩
theorem ok_lrow {f : Addr} {fd : FuncData} (F : Fun K "_law_row_due" "_law_row_due" sLRowDue f fd) (m : mg "_law_row_due" = some (.ref f)) (T : Bl mg) (B : Bm mg) (L : HasF P w K mg base "_law_label" 1 ["_law_thing"] spLLab) : HasF P w K mg base "_law_row_due" 2 ["_law_row", "_law_names"] spLRow := by
  refine ⟨f, fd, ?_, m, F.kp, F.binds fun _ _ _ _ _ _ us hl => match us, hl with | [_, _], _ => rfl⟩
  obtain ⟨f1, fd1, L⟩ := L
  refine F.ok scLRow (fun vs H Q E h => ?_) (fun cdv A outer s H vs Q E hr h => ?_)
  · obtain ⟨a, b, c, d, rfl, _⟩ := h
    rfl
  · obtain ⟨y, l, names, r, rfl, hy, hl, k⟩ := h
    refine ⟨_, (C8.pss_cut (ps_if (PW.pt (pw_or (pt_not (pt_val (pe_callB call_isiT (by rfl) B.isinstance (by decide +kernel) (pa_cons (pv 0) (pa_cons (pe_tup (pa_cons (pe_bltn (v := .ty "list") (by rfl) B.list (by decide +kernel) rfl) (pa_cons (pe_bltn (v := .ty "tuple") (by rfl) B.tuple (by decide +kernel) rfl) pa_nil))) pa_nil))))) (pw_or1 (pt_cmpR op_ne (pe_callB call_len_seq (by rfl) T.len PySem.boot_len (pa_cons (pv 0) pa_nil)) pe_int (nomark _))))) (pss_one (ps_ret pe_str)) pss_nil)
    (pss_cons (ps_if (pt_not (pt_val (pe_call L.G hr (by rfl) L.m L.kp L.b .nil pass0 (pa_cons (pe_ix ix_seq (pv 0) pe_int (fun _ _ => rfl)) pa_nil)))) (pss_one (ps_ret pe_str)) pss_nil)
    (pss_cons (ps_if (pt_cmpR op_eq (pe_ix ix_seq (pv 0) pe_int (fun _ _ => rfl)) pe_str (nomark _)) (pss_one (ps_ret pe_str)) pss_nil)
    (pss_cons (ps_if (pt_cmpR op_in_seq (pe_ix ix_seq (pv 0) pe_int (fun _ _ => rfl)) (pv 1) (by rfl)) (pss_one (ps_ret pe_str)) pss_nil)
    (pss_cons (ps_if (PW.pt (pw_or (pt_val (pe_callB call_isi (by rfl) B.isinstance (by decide +kernel) (pa_cons (pe_ix ix_seq (pv 0) pe_int (fun _ _ => rfl)) (pa_cons (pe_bltn (v := .ty "bool") (by rfl) B.bool (by decide +kernel) rfl) pa_nil)))) (pw_or (pt_not (pt_val (pe_callB call_isi (by rfl) B.isinstance (by decide +kernel) (pa_cons (pe_ix ix_seq (pv 0) pe_int (fun _ _ => rfl)) (pa_cons (pe_bltn (v := .ty "int") (by rfl) T.int (by decide +kernel) rfl) pa_nil))))) (pw_or1 (pt_not (pt_chain op_le op_le pe_int (pe_ix ix_seq (pv 0) pe_int (fun _ _ => rfl)) pe_int)))))) (pss_one (ps_ret pe_str)) pss_nil)
    (pss_one (ps_ret pe_str))))))), ?_⟩
    refine ⟨fun σ H1 => ∃ (b : Addr) (n a : V) (t u : String), y = .ref b ∧ r = some (n, a) ∧ σ = [some y, some (.ref l)] ∧ Same H H1 ∧ (H1 b = some (.lst [n, a]) ∨ H1 b = some (.tup [n, a])) ∧ Thing H1 n t ∧ Thing H1 a u, ?_, ?_⟩
    · obtain ⟨n, kd, kn⟩ := hy.kd
      refine ⟨_, rfl, by decide, fun t0 ht0 => ?_⟩
      have s1 : Same H (upd H t0 (.tup [.ty "list", .ty "tuple"])) := sameUpd (Same.refl _) ht0
      refine ⟨y, t0, _, _, _, _, rfl, upd_same, .cons (.ty _) (.cons (.ty _) .nil), (kd.keep s1).ty, kit_seq kd.kits, _, rfl, ?_⟩
      have hy1 := hy.keep s1
      have bad : r = none → ∀ H', Same H H' → Q (.str "row") H' := fun e H' s => by
        subst e
        exact k H' s
      cases e1 : seqV n with
      | false => exact iteT (bad (kn e1) _ s1)
      | true =>
        refine iteF ?_
        cases hy1 with
        | lst h hn ha => exact ⟨_, rfl, _, _, rfl, .inl (SqL.of h), rfl, _, rfl, iteF ⟨_, _, _, _, _, rfl, rfl, rfl, s1, .inl h, hn, ha⟩⟩
        | tup h hn ha => exact ⟨_, rfl, _, _, rfl, .inr (SqT.of h), rfl, _, rfl, iteF ⟨_, _, _, _, _, rfl, rfl, rfl, s1, .inr h, hn, ha⟩⟩
        | lstN h l =>
          refine ⟨_, rfl, _, _, rfl, .inl (SqL.of h), rfl, _, rfl, ?_⟩
          rw [decide_eq_false (fun e => l (by have := V.int.inj e; omega))]
          exact iteT (bad rfl _ s1)
        | tupN h l =>
          refine ⟨_, rfl, _, _, rfl, .inr (SqT.of h), rfl, _, rfl, ?_⟩
          rw [decide_eq_false (fun e => l (by have := V.int.inj e; omega))]
          exact iteT (bad rfl _ s1)
        | oth h l =>
          rw [← (kd.keep s1).uniq h, e1] at l
          cases l
    rintro σ H1 ⟨b, n, a, t, u, rfl, rfl, rfl, s1, hb, hn, ha⟩
    have hl1 := s1 _ _ hl
    have ix0 : ∀ {H' : Hp} {Q' : V → Hp → Prop}, Same H1 H' → Q' n H' → rIx K (.ref b) (.int 0) H' Q' := fun s q => by
      rcases hb with hb | hb
      · exact .inl ⟨_, _, _, _, rfl, rfl, SqL.of (s _ _ hb), rfl, q⟩
      · exact .inr (.inl ⟨_, _, _, _, rfl, rfl, SqT.of (s _ _ hb), rfl, q⟩)
    have ix1 : ∀ {H' : Hp} {Q' : V → Hp → Prop}, Same H1 H' → Q' a H' → rIx K (.ref b) (.int 1) H' Q' := fun s q => by
      rcases hb with hb | hb
      · exact .inl ⟨_, _, _, _, rfl, rfl, SqL.of (s _ _ hb), rfl, q⟩
      · exact .inr (.inl ⟨_, _, _, _, rfl, rfl, SqT.of (s _ _ hb), rfl, q⟩)
    refine ⟨_, rfl, ix0 (Same.refl _) ⟨n, t, rfl, hn.kd, hn.fine, fun H2 s2 => ⟨_, rfl, ?_⟩⟩⟩
    have s3 := s1.trans s2
    cases e2 : labV n with
    | false =>
      refine iteT ?_
      have q := k _ s3
      rw [show dueV names (some (n, a)) = Str.ofString "label" by unfold dueV; rw [rowWord_lab e2]; rfl] at q
      exact q
    | true =>
    refine iteF ?_
    obtain ⟨z, rfl, hz⟩ := lab_str e2
    have word : ∀ w' : Option Str, (if z = Str.ofString "year" then some (Str.ofString "year") else if z ∈ names then some (Str.ofString "double") else if wholeV a 0 2 = true then none else some (Str.ofString "arity")) = w' → ∀ H', Same H H' → Q (.str (w'.getD "")) H' := fun w' e H' s => by
      have q := k H' s
      have e3 : rowWord names (some (.str z, a)) = w' := by
        show (if isLab z = true then _ else _) = w'
        rw [if_pos hz]
        exact e
      unfold dueV at q
      rw [e3] at q
      exact q
    refine ⟨_, rfl, ix0 s2 ⟨rfl, _, rfl, ?_⟩⟩
    refine ite2 (fun h1 => ?_) (fun h1 => ?_)
    · have e3 : z = Str.ofString "year" := V.str.inj (of_decide_eq_true h1)
      exact word (some (Str.ofString "year")) (if_pos e3) _ s3
    have n3 : ¬ z = Str.ofString "year" := fun e => h1 (decide_eq_true (congrArg V.str e))
    refine ⟨_, rfl, ix0 s2 ⟨_, rfl, l, _, rfl, .inl (SqL.of (s2 _ _ hl1)), rfl, by simp [flatV], _, rfl, ?_⟩⟩
    rw [show inV (V.str z) (names.map V.str) = decide (z ∈ names) from inV_strs z names]
    refine ite2 (fun h2 => ?_) (fun h2 => ?_)
    · have e4 : z ∈ names := of_decide_eq_true h2
      exact word (some (Str.ofString "double")) (by rw [if_neg n3, if_pos e4]) _ s3
    have n4 : ¬ z ∈ names := fun e => h2 (decide_eq_true e)
    refine ⟨_, rfl, ix1 s2 ⟨a, _, _, _, _, rfl, .ty _, (ha.keep s2).kd.ty, kit_ty (kit_bool ha.kd.kits), _, rfl, ?_⟩⟩
    have wv : ∀ b, wholeV a 0 2 = b → ∀ H', Same H H' → Q (.str (if b then (Str.ofString "") else Str.ofString "arity")) H' := fun b e H' s => by
      have q := word (if b then none else some (Str.ofString "arity")) (by rw [if_neg n3, if_neg n4, e]) H' s
      cases b <;> exact q
    obtain ⟨ka, fa⟩ := ha
    cases ka with
    | int i =>
      refine iteF ⟨_, rfl, ix1 s2 ⟨.int i, _, _, _, _, rfl, .ty _, (Kd.int (H := H2) i).ty, kit_ty (kit_int (Kd.int (H := H2) i).kits), _, rfl, ?_⟩⟩
      refine iteF ?_
      refine ⟨_, rfl, ix1 s2 ⟨_, _, rfl, rfl, _, rfl, ?_⟩⟩
      refine ite2 (fun h5 => ?_) (fun h5 => ?_)
      · have h5 : (0 : Int) ≤ i := of_decide_eq_true h5
        refine ⟨_, _, rfl, rfl, _, rfl, ?_⟩
        refine ite2 (fun h6 => ?_) (fun h6 => ?_)
        · have h6 : ¬ i ≤ 2 := fun e => by rw [decide_eq_true e] at h6; cases h6
          exact wv false (by simp [wholeV, h6]) _ s3
        · have h6 : i ≤ 2 := by
            by_cases e : i ≤ 2
            · exact e
            · rw [decide_eq_false e] at h6
              exact absurd rfl h6
          exact wv true (by simp [wholeV, h5, h6]) _ s3
      · have h5 : ¬ (0 : Int) ≤ i := fun e => h5 (decide_eq_true e)
        exact ⟨_, rfl, iteT (wv false (by simp [wholeV, h5]) _ s3)⟩
    | bl b => exact iteT (wv false rfl _ s3)
    | non =>
      refine iteF ⟨_, rfl, ix1 s2 ⟨.non, _, _, _, _, rfl, .ty _, (Kd.non (H := H2)).ty, kit_ty (kit_int (Kd.non (H := H2)).kits), _, rfl, iteT (wv false rfl _ s3)⟩⟩
    | str y =>
      refine iteF ⟨_, rfl, ix1 s2 ⟨.str y, _, _, _, _, rfl, .ty _, (Kd.str (H := H2) y).ty, kit_ty (kit_int (Kd.str (H := H2) y).kits), _, rfl, iteT (wv false rfl _ s3)⟩⟩
    | lst c xs h =>
      refine iteF ⟨_, rfl, ix1 s2 ⟨.ref c, _, _, _, _, rfl, .ty _, (Kd.lst c xs (s2 _ _ h)).ty, kit_ty (kit_int (Kd.lst c xs (s2 _ _ h)).kits), _, rfl, iteT (wv false rfl _ s3)⟩⟩
    | tup c xs h =>
      refine iteF ⟨_, rfl, ix1 s2 ⟨.ref c, _, _, _, _, rfl, .ty _, (Kd.tup c xs (s2 _ _ h)).ty, kit_ty (kit_int (Kd.tup c xs (s2 _ _ h)).kits), _, rfl, iteT (wv false rfl _ s3)⟩⟩
    | dct c xs h =>
      refine iteF ⟨_, rfl, ix1 s2 ⟨.ref c, _, _, _, _, rfl, .ty _, (Kd.dct c xs (s2 _ _ h)).ty, kit_ty (kit_int (Kd.dct c xs (s2 _ _ h)).kits), _, rfl, iteT (wv false rfl _ s3)⟩⟩
end
end Kx

set_option maxHeartbeats 4000000
namespace Kx
open PySem L2
theorem rowWord_ne {names : List Str} {r : Option (V × V)} {w : Str} (h : rowWord names r = some w) : ¬ w = Str.ofString "" := by
  have p1 : ¬ Str.ofString "row" = Str.ofString "" := by decide +kernel
  have p2 : ¬ Str.ofString "label" = Str.ofString "" := by decide +kernel
  have p3 : ¬ Str.ofString "year" = Str.ofString "" := by decide +kernel
  have p4 : ¬ Str.ofString "double" = Str.ofString "" := by decide +kernel
  have p5 : ¬ Str.ofString "arity" = Str.ofString "" := by decide +kernel
  cases r with
  | none => cases h; exact p1
  | some q =>
    obtain ⟨n, a⟩ := q
    cases n with
    | str z =>
      have h : (if isLab z = true then (if z = Str.ofString "year" then some (Str.ofString "year") else if z ∈ names then some (Str.ofString "double") else if wholeV a 0 2 = true then none else some (Str.ofString "arity")) else some (Str.ofString "label")) = some w := h
      split at h
      · split at h
        · cases h; exact p3
        · split at h
          · cases h; exact p4
          · split at h
            · cases h
            · cases h; exact p5
      · cases h; exact p2
    | _ => cases h; exact p2
def spLDue : Sp := fun vs H Q _ => ∃ (y : V) (r : Option (List (Option (V × V)))), vs = [y] ∧ RowsIs H y r ∧
  match rowsDue r with
  | none => ∀ H', Same H H' → Q .non H'
  | some (i, w) => ∀ t H', Same H H' → H t = none → H' t = some (.tup [.int (i : Nat), .str w]) → Q (.ref t) H'
section
variable {P : Program} {w : World} {K : PySem.W.Frag} {mg : Str → Option Value} {base : Heap}
theorem scLDue : FnScope ["_law_rows_here", "_law_names", "_law_index", "_law_row", "_law_what"] ["_law_rows_here"] (defScope sLDue) := ⟨rfl, rfl, rfl, by decide +kernel, rfl, by decide +kernel, by decide +kernel⟩
theorem ok_ldue {f : Addr} {fd : FuncData} (F : Fun K "_law_due" "_law_due" sLDue f fd) (m : mg "_law_due" = some (.ref f)) (T : Bl mg) (B : Bm mg) (R : HasF P w K mg base "_law_row_due" 2 ["_law_row", "_law_names"] spLRow) : HasF P w K mg base "_law_due" 3 ["_law_rows_here"] spLDue := by
  refine ⟨f, fd, ?_, m, F.kp, F.binds fun _ _ _ _ _ _ us hl => match us, hl with | [_], _ => rfl⟩
  obtain ⟨f1, fd1, R⟩ := R
  refine F.ok scLDue (fun vs H Q E h => ?_) (fun cdv A outer s H vs Q E hr h => ?_)
  · obtain ⟨a, b, rfl, _⟩ := h
    rfl
  · obtain ⟨y, r, rfl, hy, k⟩ := h
    refine ⟨_, (C8.pss_cut (ps_if (PW.pt (pw_or (pt_not (pt_val (pe_callB call_isiT (by rfl) B.isinstance (by decide +kernel) (pa_cons (pv 0) (pa_cons (pe_tup (pa_cons (pe_bltn (v := .ty "list") (by rfl) B.list (by decide +kernel) rfl) (pa_cons (pe_bltn (v := .ty "tuple") (by rfl) B.tuple (by decide +kernel) rfl) pa_nil))) pa_nil))))) (pw_or1 (pt_not (pt_chain op_le op_le pe_int (pe_callB call_len_seq (by rfl) T.len PySem.boot_len (pa_cons (pv 0) pa_nil)) pe_int))))) (pss_one (ps_ret (pe_tup (pa_cons pe_int (pa_cons pe_str pa_nil))))) pss_nil)
    (pss_cons (ps_set (i := 1) scLDue.nd rfl (Or.inl rfl) (pe_lst pa_nil))
    (C8.pss_cut (ps_for PassesOwn.never rfl (pi_enumB (by rfl) T.enumerate (pa_cons (pv 0) pa_nil)) (pg_tup rfl (pgs_cons (pg_name (i := 2) scLDue.nd rfl (Or.inl rfl)) (pgs_cons (pg_name (i := 3) scLDue.nd rfl (Or.inl rfl)) pgs_nil)))
        (pss_cons (ps_set (i := 4) scLDue.nd rfl (Or.inl rfl) (pe_call R.G hr (by rfl) R.m R.kp R.b .nil pass0 (pa_cons (pv 3) (pa_cons (pv 1) pa_nil))))
    (pss_cons (ps_if (pt_cmpR op_ne (pv 4) pe_str (nomark _)) (pss_one (ps_ret (pe_tup (pa_cons (pv 2) (pa_cons (pv 4) pa_nil))))) pss_nil)
    (pss_one (ps_expr (pe_bm PySem.F.plainAttrs_list PySem.F.slot_list_append PySem.F.type_list_append mt_append (pv 1) (pa_cons (pe_ix ix_seq (pv 3) pe_int (fun _ _ => rfl)) pa_nil)))))))
    (pss_one (ps_ret pe_non))))), ?_⟩
    refine ⟨fun σ H1 => ∃ (b : Addr) (xs : List V) (rs : List (Option (V × V))), y = .ref b ∧ r = some rs ∧ σ = [some (.ref b), none, none, none, none] ∧ Same H H1 ∧ (H1 b = some (.lst xs) ∨ H1 b = some (.tup xs)) ∧ AllR H1 xs rs ∧ 1 ≤ rs.length ∧ rs.length ≤ 6, ?_, ?_⟩
    · obtain ⟨n, kd, kn⟩ := hy.kd
      refine ⟨_, rfl, by decide, fun t0 ht0 => ?_⟩
      have s1 : Same H (upd H t0 (.tup [.ty "list", .ty "tuple"])) := sameUpd (Same.refl _) ht0
      refine ⟨y, t0, _, _, _, _, rfl, upd_same, .cons (.ty _) (.cons (.ty _) .nil), (kd.keep s1).ty, kit_seq kd.kits, _, rfl, ?_⟩
      have hy1 := hy.keep s1
      have bad : rowsDue r = some (0, Str.ofString "rows") → ∀ H', Same H H' → [V.int 0, V.str "rows"].length ≤ sizeLine ∧ ∀ t, H' t = none → Q (.ref t) (upd H' t (.tup [V.int 0, V.str "rows"])) := fun e H' s => by
        rw [e] at k
        exact ⟨(by show 2 ≤ sizeLine; decide), fun t ht => k t _ (sameUpd s ht) (s.free ht) upd_same⟩
      cases e1 : seqV n with
      | false => exact iteT (bad (by rw [kn e1]; rfl) _ s1)
      | true =>
        refine iteF ?_
        cases hy1 with
        | lst h a l =>
          rename_i b xs rs
          have al := a.1
          refine ⟨_, rfl, _, _, rfl, .inl (SqL.of h), _, _, rfl, rfl, _, rfl, ?_⟩
          refine ite2 (fun h1 => ?_) (fun h1 => ?_)
          · have h1 := of_decide_eq_true h1
            refine ⟨_, _, rfl, rfl, _, rfl, ?_⟩
            refine ite2 (fun h2 => ?_) (fun h2 => ?_)
            · have h2 : ¬ ((xs.length : Nat) : Int) ≤ 6 := fun e => by rw [decide_eq_true e] at h2; cases h2
              exact bad (by show (if _ then _ else _) = _; rw [if_neg (by omega)]) _ s1
            · have h2 : ((xs.length : Nat) : Int) ≤ 6 := by
                by_cases q : ((xs.length : Nat) : Int) ≤ 6
                · exact q
                · rw [decide_eq_false q] at h2
                  exact absurd rfl h2
              exact ⟨b, xs, rs, rfl, rfl, rfl, s1, .inl h, a, by omega, by omega⟩
          · have h1 : ¬ (1 : Int) ≤ ((xs.length : Nat) : Int) := fun e => h1 (decide_eq_true e)
            exact ⟨_, rfl, iteT (bad (by show (if _ then _ else _) = _; rw [if_neg (by omega)]) _ s1)⟩
        | tup h a l =>
          rename_i b xs rs
          have al := a.1
          refine ⟨_, rfl, _, _, rfl, .inr (SqT.of h), _, _, rfl, rfl, _, rfl, ?_⟩
          refine ite2 (fun h1 => ?_) (fun h1 => ?_)
          · have h1 := of_decide_eq_true h1
            refine ⟨_, _, rfl, rfl, _, rfl, ?_⟩
            refine ite2 (fun h2 => ?_) (fun h2 => ?_)
            · have h2 : ¬ ((xs.length : Nat) : Int) ≤ 6 := fun e => by rw [decide_eq_true e] at h2; cases h2
              exact bad (by show (if _ then _ else _) = _; rw [if_neg (by omega)]) _ s1
            · have h2 : ((xs.length : Nat) : Int) ≤ 6 := by
                by_cases q : ((xs.length : Nat) : Int) ≤ 6
                · exact q
                · rw [decide_eq_false q] at h2
                  exact absurd rfl h2
              exact ⟨b, xs, rs, rfl, rfl, rfl, s1, .inr h, a, by omega, by omega⟩
          · have h1 : ¬ (1 : Int) ≤ ((xs.length : Nat) : Int) := fun e => h1 (decide_eq_true e)
            exact ⟨_, rfl, iteT (bad (by show (if _ then _ else _) = _; rw [if_neg (by omega)]) _ s1)⟩
        | oth h l =>
          rw [← (kd.keep s1).uniq h, e1] at l
          cases l
    rintro σ H1 ⟨b, xs, rs, rfl, rfl, rfl, s1, hb, al, l1, l6⟩
    have due : rowsDue (some rs) = scanK [] 0 rs := if_pos ⟨l1, l6⟩
    rw [due] at k
    refine ⟨Nat.zero_le _, fun d hd => ?_⟩
    have hd0 : H d = none := s1.free hd
    have s2 : Same H1 (upd H1 d (.lst [])) := sameUpd (Same.refl _) hd
    refine ⟨fun σ H2 => Same H1 H2 ∧ scanK [] 0 rs = none, ?_, ?_⟩
    · refine ⟨_, rfl, b, xs, rfl, ?_⟩
      refine for_enumB (K := K) (a := b) (xs := xs) (fun i σ H2 => ∃ v2 v3 v4 : Option V, σ = [some (.ref b), some (.ref d), v2, v3, v4] ∧ Same H1 H2 ∧ H2 d = some (.lst (((rs.take i).map nameOf).map V.str)) ∧ scanK [] 0 rs = scanK ((rs.take i).map nameOf) i (rs.drop i))
        ⟨none, none, none, rfl, s2, upd_same, rfl⟩ ?_ ?_ ?_
      · rcases hb with hb | hb
        · exact .inl fun i σ H2 ⟨_, _, _, _, s, _⟩ => SqL.of (s _ _ hb)
        · exact .inr fun i σ H2 ⟨_, _, _, _, s, _⟩ => SqT.of (s _ _ hb)
      · rintro i x σ H2 t hi ⟨v2, v3, v4, rfl, s3, d3, sc⟩ ht
        have ltx : i < xs.length := (List.getElem?_eq_some_iff.mp hi).1
        have ltr : i < rs.length := by have := al.1; omega
        have hr' : rs[i]? = some rs[i] := List.getElem?_eq_getElem ltr
        have row := al.2 i x _ hi hr'
        have s4 : Same H1 (upd H2 t (.tup [.int (i : Nat), x])) := sameUpd s3 ht
        have dt : t ≠ d := (ne_of_none d3 ht).symm
        refine ⟨t, _, rfl, SqT.of upd_same, rfl, _, _, rfl, _, _, rfl, rfl, ?_⟩
        refine ⟨_, rfl, _, rfl, x, d, _, _, rfl, row.keep s4, by rw [upd_ne dt.symm]; exact d3, fun H3 s5 => ?_⟩
        have s6 : Same H1 H3 := s4.trans s5
        have d4 : H3 d = some (.lst (((rs.take i).map nameOf).map V.str)) := s5 _ _ (by rw [upd_ne dt.symm]; exact d3)
        rw [scanK_step hr'] at sc
        unfold dueV
        cases e : rowWord ((rs.take i).map nameOf) rs[i] with
        | some w' =>
          rw [e] at sc
          rw [sc] at k
          refine ⟨_, rfl, rfl, _, rfl, ?_⟩
          have ne : ¬ (V.str ((some w').getD "") = V.str "") := fun h => rowWord_ne e (V.str.inj h)
          rw [decide_eq_false ne]
          refine iteT ⟨_, rfl, _, rfl, (by show 2 ≤ sizeLine; decide), fun t' ht' => ?_⟩
          exact k t' _ (s1.trans (sameUpd s6 ht')) ((s1.trans s6).free ht') upd_same
        | none =>
          rw [e] at sc
          refine ⟨_, rfl, rfl, _, rfl, iteF ?_⟩
          obtain ⟨z, kk, er, _, _, hnot, _, _⟩ := rowWord_none e
          have row3 := row.keep s6
          rw [er] at row3
          have next : ∀ {σ' : L2.St}, σ' = [some (V.ref b), some (V.ref d), some (V.int (i : Nat)), some x, some (V.str "")] → ∃ v2 v3 v4 : Option V, σ' = [some (.ref b), some (.ref d), v2, v3, v4] ∧ Same H1 (upd H3 d (.lst (((rs.take i).map nameOf).map V.str ++ [V.str z]))) ∧ upd H3 d (.lst (((rs.take i).map nameOf).map V.str ++ [V.str z])) d = some (.lst (((rs.take (i + 1)).map nameOf).map V.str)) ∧ scanK [] 0 rs = scanK ((rs.take (i + 1)).map nameOf) (i + 1) (rs.drop (i + 1)) := fun es => by
            have et : (rs.take (i + 1)).map nameOf = (rs.take i).map nameOf ++ [z] := by
              rw [take_succ_of hr', List.map_append, er]
              rfl
            refine ⟨_, _, _, es, fun c o ec => ?_, ?_, ?_⟩
            · rw [upd_ne (ne_of_none ec hd)]
              exact s6 c o ec
            · rw [upd_same, et, List.map_append]
              rfl
            · rw [sc, et, er]
              rfl
          have len : (((rs.take i).map nameOf).map V.str).length < sizeLine := small1000 (by simp; omega)
          cases row3 with
          | lst h hn ha => exact ⟨_, rfl, .inl ⟨rfl, _, SqL.of d4⟩, _, rfl, .inl ⟨_, _, _, _, rfl, rfl, SqL.of h, rfl, d, _, _, rfl, rfl, d4, len, next rfl⟩⟩
          | tup h hn ha => exact ⟨_, rfl, .inl ⟨rfl, _, SqL.of d4⟩, _, rfl, .inr (.inl ⟨_, _, _, _, rfl, rfl, SqT.of h, rfl, d, _, _, rfl, rfl, d4, len, next rfl⟩)⟩
      · rintro σ H2 ⟨v2, v3, v4, rfl, s3, d3, sc⟩
        refine ⟨s3, ?_⟩
        rw [sc, al.1, List.drop_length]; rfl
    rintro σ H2 ⟨s3, sc⟩
    rw [sc] at k
    exact k _ (s1.trans s3)
end
end Kx

set_option maxHeartbeats 4000000
namespace Kx
open PySem L2
/-- x is the pair q -/
def PairIs (H : Hp) (x : V) (q : Str × Int) : Prop := ∃ t, x = .ref t ∧ (H t = some (.lst [.str q.1, .int q.2]) ∨ H t = some (.tup [.str q.1, .int q.2]))
theorem PairIs.keep {H H' : Hp} {x : V} {q : Str × Int} (h : PairIs H x q) (s : Same H H') : PairIs H' x q := by
  obtain ⟨t, e, h⟩ := h
  exact ⟨t, e, h.imp (s _ _) (s _ _)⟩
/-- xs are the pairs ks -/
def ItemsAt (H : Hp) (xs : List V) (ks : List (Str × Int)) : Prop := xs.length = ks.length ∧ ∀ (i : Nat) (x : V) (q : Str × Int), xs[i]? = some x → ks[i]? = some q → PairIs H x q
theorem ItemsAt.keep {H H' : Hp} {xs : List V} {ks : List (Str × Int)} (h : ItemsAt H xs ks) (s : Same H H') : ItemsAt H' xs ks := ⟨h.1, fun i x q e1 e2 => (h.2 i x q e1 e2).keep s⟩
theorem ItemsAt.add {H : Hp} {xs : List V} {ks : List (Str × Int)} {x : V} {q : Str × Int} (h : ItemsAt H xs ks) (hx : PairIs H x q) : ItemsAt H (xs ++ [x]) (ks ++ [q]) := by
  refine ⟨by simp [h.1], fun i y r e1 e2 => ?_⟩
  by_cases lt : i < xs.length
  · rw [List.getElem?_append_left lt] at e1
    rw [List.getElem?_append_left (by rw [← h.1]; exact lt)] at e2
    exact h.2 i y r e1 e2
  · have e : i = xs.length := by
      have := (List.getElem?_eq_some_iff.mp e1).1
      simp at this
      omega
    subst e
    rw [List.getElem?_append_right (by omega), Nat.sub_self] at e1
    rw [h.1, List.getElem?_append_right (by omega), Nat.sub_self] at e2
    cases e1
    cases e2
    exact hx
def GoodL (H : Hp) (b : Addr) (ks : List (Str × Int)) : Prop := ∃ xs, H b = some (.lst xs) ∧ ItemsAt H xs ks
theorem GoodL.keep {H H' : Hp} {b : Addr} {ks : List (Str × Int)} (h : GoodL H b ks) (s : Same H H') : GoodL H' b ks := by
  obtain ⟨xs, h1, h2⟩ := h
  exact ⟨xs, s _ _ h1, h2.keep s⟩
structure GoodK (ks : List (Str × Int)) : Prop where
  lo : 1 ≤ ks.length
  hi : ks.length ≤ 6
  each : ∀ q ∈ ks, isLab q.1 = true ∧ ¬ q.1 = Str.ofString "year" ∧ 0 ≤ q.2 ∧ q.2 ≤ 2
  nd : (ks.map (·.1)).Nodup
def lastOf (z : Str) : Option Nat := z.cps.toList.getLast?
theorem abcdef_at : ∀ n : Fin 6, (Str.ofString "abcdef").cps.toList[n.1]? = some (97 + n.1) := by decide +kernel
theorem abcdef_ix {i : Nat} (h : i < 6) : atI (Str.ofString "abcdef").cps.toList ((0 : Int) + i) = some (97 + i) := by
  rw [Int.zero_add]
  exact atI_nat (abcdef_at ⟨i, h⟩)
theorem lab_of {z : Str} (h1 : 1 ≤ z.length) (h2 : z.length ≤ 6) (h3 : Low z) : isLab z = true := by
  unfold isLab
  rw [decide_eq_true h1, decide_eq_true h2, Bool.true_and, Bool.true_and]
  refine List.all_eq_true.mpr fun c hc => ?_
  have := h3 c hc
  unfold isLow
  simp only [Bool.and_eq_true, decide_eq_true_eq]
  omega
theorem last_app (z : Str) (n : Nat) : lastOf (z ++ ⟨#[n]⟩) = some n := by
  unfold lastOf
  rw [cps_app]
  simp
theorem last_year : lastOf (Str.ofString "year") = some 114 := by decide +kernel
theorem nd_last : ∀ {ks : List (Str × Int)} {m : Nat}, (∀ (i : Nat) (q : Str × Int), ks[i]? = some q → lastOf q.1 = some (m + i)) → (ks.map (·.1)).Nodup
  | [], _, _ => List.nodup_nil
  | q :: ks, m, h => by
    rw [List.map_cons, List.nodup_cons]
    refine ⟨fun hm => ?_, nd_last (m := m + 1) fun i r e => by rw [h (i + 1) r e]; congr 1; omega⟩
    obtain ⟨r, hr, e⟩ := List.mem_map.mp hm
    obtain ⟨i, hi⟩ := List.mem_iff_getElem?.mp hr
    have e1 := h 0 q rfl
    have e2 := h (i + 1) r hi
    rw [e, e1] at e2
    have := Option.some.inj e2
    omega
def spLKinds : Sp := fun vs H Q _ => ∃ p q : Addr, vs = [.ref p] ∧ HandAt H p q ∧ ∀ (b : Addr) (ks : List (Str × Int)) (H' : Hp), GoodK ks → GoodL (wo p H') b ks → H b = none → HandAt H' p q → Keep H H' p → Q (.ref b) H'
section
variable {P : Program} {w : World} {K : PySem.W.Frag} {mg : Str → Option Value} {base : Heap}
theorem scLKinds : FnScope ["_law_hand_here", "_law_rows_here", "_law_k"] ["_law_hand_here"] (defScope sLKinds) := ⟨rfl, rfl, rfl, by decide +kernel, rfl, by decide +kernel, by decide +kernel⟩
theorem ok_lkinds {f : Addr} {fd : FuncData} (F : Fun K "_law_kinds" "_law_kinds" sLKinds f fd) (m : mg "_law_kinds" = some (.ref f)) (T : Bl mg) (D : HasF P w K mg base "_law_draw" 2 ["_law_hand_here", "_law_many"] spDraw) (W : HasF P w K mg base "_law_word" 3 ["_law_hand_here", "_law_most"] spWord) : HasF P w K mg base "_law_kinds" 4 ["_law_hand_here"] spLKinds := by
  refine ⟨f, fd, ?_, m, F.kp, F.binds fun _ _ _ _ _ _ us hl => match us, hl with | [_], _ => rfl⟩
  obtain ⟨f1, fd1, D⟩ := D; obtain ⟨f2, fd2, W⟩ := W
  refine F.ok scLKinds (fun vs H Q E h => ?_) (fun cdv A outer s H vs Q E hr h => ?_)
  · obtain ⟨a, b, rfl, _⟩ := h
    rfl
  · obtain ⟨p, q, rfl, hp, k⟩ := h
    have hr2 : Room 2 _ := hr.mono (by decide)
    refine ⟨_, (pss_cons (ps_set (i := 1) scLKinds.nd rfl (Or.inl rfl) (pe_lst pa_nil))
    (pss_cons (ps_for PassesOwn.never rfl (pi_range1 (by rfl) T.range (pa_cons (pe_op op_add pe_int (pe_call D.G hr2 (by rfl) D.m D.kp D.b .nil pass0 (pa_cons (pv 0) (pa_cons pe_int pa_nil)))) pa_nil)) (pg_name (i := 2) scLKinds.nd rfl (.inl rfl))
        (pss_one (ps_expr (pe_bm PySem.F.plainAttrs_list PySem.F.slot_list_append PySem.F.type_list_append mt_append (pv 1) (pa_cons (pe_tup (pa_cons (pe_op op_add_str (pe_call W.G hr (by rfl) W.m W.kp W.b .nil pass0 (pa_cons (pv 0) (pa_cons pe_int pa_nil))) (pe_ix ix_str pe_str (pv 2) (fun _ _ => rfl))) (pa_cons (pe_call D.G hr2 (by rfl) D.m D.kp D.b .nil pass0 (pa_cons (pv 0) (pa_cons pe_int pa_nil))) pa_nil))) pa_nil)))))
    (pss_one (ps_ret (pv 1))))), ?_⟩
    refine ⟨Nat.zero_le _, fun a ha => ?_⟩
    have nap := hp.ap ha
    have naq := hp.aq ha
    refine ⟨_, rfl, p, q, 6, rfl, hp.upd nap naq, by decide, by decide, fun z H1 z0 z1 hp1 k1 => ?_⟩
    have k1' : Keep H H1 p := fun b u e ne => k1 b u (by rw [upd_ne (ne_of_none e ha)]; exact e) ne
    refine ⟨_, _, rfl, rfl, _, rfl, by omega, by omega, for_range (n := (1 + z).toNat) (fun i σ H2 => ∃ (xs : List V) (ks : List (Str × Int)) (v : Option V), σ = [some (.ref p), some (.ref a), v] ∧ ks.length = i ∧ H2 a = some (.lst xs) ∧ ItemsAt (wo a (wo p H2)) xs ks ∧
        (∀ r ∈ ks, isLab r.1 = true ∧ 0 ≤ r.2 ∧ r.2 ≤ 2) ∧ (∀ (j : Nat) (r : Str × Int), ks[j]? = some r → lastOf r.1 = some (97 + j)) ∧ HandAt H2 p q ∧ Keep H H2 p)
      ⟨[], [], none, rfl, rfl, k1 a _ upd_same nap, ⟨rfl, fun i x r e => by cases e⟩, (fun r hr => nomatch hr), (fun j r e => by cases e), hp1, k1'⟩ ?_ ?_⟩
    · rintro i σ H2 hi ⟨xs, ks, v, rfl, hl, ha2, it, ea, la, hp2, k2⟩
      have i6 : i < 6 := by omega
      refine ⟨_, rfl, .inl ⟨rfl, _, SqL.of ha2⟩, _, rfl, p, q, 5, rfl, hp2, by decide, by decide, fun y H3 y0 y1 low hp3 k3 => ?_⟩
      have y1 : y.length ≤ 5 := y1
      refine ⟨_, rfl, _, _, _, rfl, rfl, by decide, abcdef_ix i6, _, _, rfl, rfl, (by show y.length + 1 ≤ sizeLine; exact small1000 (by omega)), ?_⟩
      refine ⟨_, rfl, p, q, 3, rfl, hp3, by decide, by decide, fun u H4 u0 u1 hp4 k4 => ?_⟩
      refine ⟨(by show 2 ≤ sizeLine; decide), fun t ht => ?_⟩
      have k5 : Keep H2 H4 p := k3.trans k4
      have ha4 : H4 a = some (.lst xs) := k5 a _ ha2 nap
      have ta : t ≠ a := (ne_of_none ha4 ht).symm
      have tp : t ≠ p := hp4.ap ht
      have len : (y ++ (⟨#[97 + i]⟩ : Str)).length = y.length + 1 := by rw [len_app]; rfl
      have it4 : ItemsAt (wo a (wo p (upd (upd H4 t (.tup [.str (y ++ ⟨#[97 + i]⟩), .int u])) a (.lst (xs ++ [.ref t]))))) xs ks := by
        refine it.keep (fun c o e => ?_)
        have ca : c ≠ a := fun h => by rw [h] at e; unfold wo at e; rw [if_pos rfl] at e; cases e
        rw [wo_ne ca] at e ⊢
        have cp : c ≠ p := fun h => by rw [h] at e; unfold wo at e; rw [if_pos rfl] at e; cases e
        rw [wo_ne cp] at e ⊢
        have e4 := k5 c o e cp
        rw [upd_ne ca, upd_ne (ne_of_none e4 ht)]
        exact e4
      have low' : Low (y ++ ⟨#[97 + i]⟩) := low.app (Low.one (by omega))
      refine ⟨a, xs, _, rfl, rfl, by rw [upd_ne ta.symm]; exact ha4, small1000 (by rw [it.1, hl]; omega), xs ++ [.ref t], ks ++ [(y ++ ⟨#[97 + i]⟩, u)], _, rfl, by simp [hl], upd_same, it4.add ⟨t, rfl, .inr ?_⟩, fun r hr => ?_, fun j r e => ?_, ?_, ?_⟩
      · rw [wo_ne ta, wo_ne tp, upd_ne ta, upd_same]
      · rcases List.mem_append.mp hr with e | e
        · exact ea r e
        · rw [List.mem_singleton.mp e]
          exact ⟨lab_of (by rw [len]; omega) (by rw [len]; omega) low', u0, by show u ≤ 2; omega⟩
      · by_cases lt : j < ks.length
        · rw [List.getElem?_append_left lt] at e
          exact la j r e
        · have ej : j = i := by
            have := (List.getElem?_eq_some_iff.mp e).1
            simp at this
            omega
          subst ej
          rw [List.getElem?_append_right (by omega), hl, Nat.sub_self] at e
          cases e
          exact last_app _ _
      · exact (hp4.upd tp (hp4.aq ht)).upd nap naq
      · refine fun c o e ne => ?_
        have e4 := k4 c o (k3 c o (k2 c o e ne) ne) ne
        rw [upd_ne (ne_of_none e ha), upd_ne (ne_of_none e4 ht)]
        exact e4
    · rintro σ H2 ⟨xs, ks, v, rfl, hl, ha2, it, ea, la, hp2, k2⟩
      refine ⟨_, rfl, k a ks H2 ⟨by omega, by omega, fun r hr => ⟨(ea r hr).1, fun e => ?_, (ea r hr).2⟩, nd_last la⟩ ⟨xs, wo_at ha2 nap, it.keep wo_same⟩ ha hp2 k2⟩
      obtain ⟨j, hj⟩ := List.mem_iff_getElem?.mp hr
      have e1 := la j r hj
      rw [e, last_year] at e1
      have := Option.some.inj e1
      have lt := (List.getElem?_eq_some_iff.mp hj).1
      omega
end
end Kx

set_option maxHeartbeats 4000000
namespace Kx
open PySem L2
abbrev Dds (H : Hp) (n : Nat) (xs : List V) (ds : List PyData) : Prop := Paired (fun x d => Dd H n x d) xs ds
theorem Dds.get {H : Hp} {n : Nat} {xs : List V} {ds : List PyData} (h : Dds H n xs ds) : ∀ (i : Nat) (x : V) (d : PyData), xs[i]? = some x → ds[i]? = some d → Dd H n x d := by
  induction h with
  | nil => intro i x d e; cases e
  | cons h t ih =>
    intro i x d e1 e2
    cases i with
    | zero => cases e1; cases e2; exact h
    | succ i => exact ih i x d e1 e2
theorem Dd.lstP {H : Hp} {n : Nat} {a : Addr} {xs : List V} {ds : List PyData} (h : H a = some (.lst xs)) (l : xs.length ≤ 10) (hs : Dds H n xs ds) : Dd H (n + 1) (.ref a) (.list ds) := .lst h l (Paired.length hs) hs.get
theorem Dd.tupP {H : Hp} {n : Nat} {a : Addr} {xs : List V} {ds : List PyData} (h : H a = some (.tup xs)) (l : xs.length ≤ 10) (hs : Dds H n xs ds) : Dd H (n + 1) (.ref a) (.tuple ds) := .tup h l (Paired.length hs) hs.get
theorem Dds.of {H : Hp} {n : Nat} : ∀ {xs : List V} {ds : List PyData}, xs.length = ds.length → (∀ (i : Nat) (x : V) (d : PyData), xs[i]? = some x → ds[i]? = some d → Dd H n x d) → Dds H n xs ds
  | [], [], _, _ => .nil
  | [], _ :: _, e, _ => by cases e
  | _ :: _, [], e, _ => by cases e
  | _ :: _, _ :: _, e, f => .cons (f 0 _ _ rfl rfl) (Dds.of (Nat.succ.inj e) fun i x d e1 e2 => f (i + 1) x d e1 e2)
theorem Dds.keep {H H' : Hp} {n : Nat} {xs : List V} {ds : List PyData} (h : Dds H n xs ds) (s : Same H H') : Dds H' n xs ds := by
  induction h with
  | nil => exact .nil
  | cons h t ih => exact .cons (h.keep s) ih
theorem Dds.up {H : Hp} {n : Nat} {xs : List V} {ds : List PyData} (h : Dds H n xs ds) : Dds H (n + 1) xs ds := by
  induction h with
  | nil => exact .nil
  | cons h t ih => exact .cons h.up ih
/-- what is new since H -/
def nw (H H' : Hp) : Hp := fun a => match H a with
  | none => H' a
  | some _ => none
theorem nw_at {H H' : Hp} {a : Addr} {o : HO} (h0 : H a = none) (h : H' a = some o) : nw H H' a = some o := by
  unfold nw
  rw [h0]
  exact h
theorem nw_get {H H' : Hp} {a : Addr} {o : HO} (h : nw H H' a = some o) : H a = none ∧ H' a = some o := by
  unfold nw at h
  cases e : H a with
  | none => rw [e] at h; exact ⟨rfl, h⟩
  | some u => rw [e] at h; cases h
theorem nw_wo {H H' : Hp} {p : Addr} {o : HO} (hp : H p = some o) : Same (nw H H') (wo p H') := fun a u e => by
  obtain ⟨e0, e1⟩ := nw_get e
  exact wo_at e1 fun h => by rw [h, hp] at e0; cases e0
def spOdd2 : Sp := fun vs H Q _ => ∃ p q : Addr, vs = [.ref p] ∧ HandAt H p q ∧ ∀ (x : V) (d : PyData) (H' : Hp), Dd (nw H H') 1 x d → HandAt H' p q → Keep H H' p → Q x H'
section
variable {P : Program} {w : World} {K : PySem.W.Frag} {mg : Str → Option Value} {base : Heap}
theorem ok_odd2 {f : Addr} {fd : FuncData} (F : Fun K "_law_odd" "_law_odd" sOdd f fd) (m : mg "_law_odd" = some (.ref f)) (W : HasF P w K mg base "_law_word" 3 ["_law_hand_here", "_law_most"] spWord) (O : HasF P w K mg base "_law_one" 3 ["_law_hand_here", "_law_rows_here"] spOne) : HasF P w K mg base "_law_odd" 4 ["_law_hand_here"] spOdd2 := by
  refine ⟨f, fd, ?_, m, F.kp, F.binds fun _ _ _ _ _ _ us hl => match us, hl with | [_], _ => rfl⟩
  obtain ⟨f2, fd2, W⟩ := W; obtain ⟨f3, fd3, O⟩ := O
  refine F.ok scOdd (fun vs H Q E h => ?_) (fun cdv A outer s H vs Q E hr h => ?_)
  · obtain ⟨a, b, rfl, _⟩ := h
    rfl
  · obtain ⟨p, q, rfl, hp, k⟩ := h
    refine ⟨_, pss_cons (ps_set (i := 1) scOdd.nd rfl (Or.inl rfl) (pe_call W.G hr (by rfl) W.m W.kp W.b .nil pass0 (pa_cons (pv 0) (pa_cons pe_int pa_nil))))
      (pss_one (ps_ret (pe_call O.G hr (by rfl) O.m O.kp O.b .nil pass0 (pa_cons (pv 0) (pa_cons (pe_lst (pa_cons pe_non (pa_cons pe_int (pa_cons pe_bl (pa_cons pe_str (pa_cons (pe_upper (pv 1)) (pa_cons (pe_op op_add_str (pv 1) pe_str) (pa_cons (pe_op op_add_str (pv 1) pe_str) (pa_cons (pe_tup (pa_cons (pv 1) pa_nil)) (pa_cons (pe_lst (pa_cons (pv 1) pa_nil)) (pa_cons (pe_un un_neg pe_int) (pa_cons (pe_op op_add_str (pv 1) pe_str) (pa_cons (pv 1) (pa_cons (pe_disp (pps_cons (pv 1) (pv 1) pps_nil) (by rfl) (by rfl) (fun z => by cases z) (by decide)) pa_nil)))))))))))))) pa_nil))))), ?_⟩
    refine ⟨_, rfl, p, q, 5, rfl, hp, by decide, by decide, fun z H1 z0 z1 low hp1 k1 => ?_⟩
    have z1 : z.length ≤ 5 := z1
    have add : ∀ t : Str, t.length ≤ 20 → z.length + t.length ≤ sizeLine := fun t ht => Nat.le_of_lt (small1000 (by omega))
    refine ⟨_, rfl, _, rfl, ⟨_, rfl⟩, _, rfl, rfl, by omega, _, rfl, _, _, rfl, rfl, add _ (by decide +kernel), _, rfl, _, _, rfl, rfl, add _ (by decide +kernel), _, rfl, (by show 1 ≤ sizeLine; decide), fun t ht => ?_⟩
    refine ⟨_, rfl, (by show 1 ≤ sizeLine; decide), fun l hl => ?_⟩
    refine ⟨_, rfl, _, rfl, _, _, rfl, rfl, add _ (by decide +kernel), _, rfl, fun d hd => ?_⟩
    refine ⟨_, rfl, _, rfl, upd_same, [(Sum.inr z, .str z)], rfl, (by show 1 ≤ 15; decide), (by show 13 ≤ sizeLine; decide), fun r hr => ?_⟩
    rw [upd_upd] at hr ⊢
    obtain ⟨hl0, lt⟩ := none2 hl
    obtain ⟨hd1, dl⟩ := none2 hd
    obtain ⟨hd0, dt⟩ := none2 hd1
    obtain ⟨hr2, rd⟩ := none2 hr
    obtain ⟨hr1, rl⟩ := none2 hr2
    obtain ⟨hr0, rt⟩ := none2 hr1
    have back : ∀ a, H1 a = none → H a = none := fun a h => by
      cases e : H a with
      | none => rfl
      | some o => exact absurd h (by rw [k1 a o e (hp1.ap h)]; exact fun z => nomatch z)
    refine ⟨p, q, r, _, rfl, (((hp1.upd (hp1.ap ht) (hp1.aq ht)).upd (hp1.ap hl0) (hp1.aq hl0)).upd (hp1.ap hd0) (hp1.aq hd0)).upd (hp1.ap hr0) (hp1.aq hr0), upd_same, hp1.ap hr0, (by show 0 < 13; decide), (by show 13 ≤ 1000; decide), fun x H5 hx hp5 k5 => ?_⟩
    have kk : Keep H H5 p := (keepUpd (keepUpd (keepUpd (keepUpd k1 (back t ht)) (back l hl0)) (back d hd0)) (back r hr0)).trans k5
    have at_t : H5 t = some (.tup [.str z]) := k5 t _ (by rw [upd_ne rt.symm, upd_ne dt.symm, upd_ne lt.symm, upd_same]) (hp1.ap ht)
    have at_l : H5 l = some (.lst [.str z]) := k5 l _ (by rw [upd_ne rl.symm, upd_ne dl.symm, upd_same]) (hp1.ap hl0)
    have at_d : H5 d = some (.dK (mergeK [] [(Sum.inr z, .str z)])) := k5 d _ (by rw [upd_ne rd.symm, upd_same]) (hp1.ap hd0)
    have fz : Fine z := fine_low low (by omega)
    have pt : t ≠ p := hp1.ap ht
    have pl : l ≠ p := hp1.ap hl0
    have pd : d ≠ p := hp1.ap hd0
    simp only [List.mem_cons, List.not_mem_nil, or_false] at hx
    rcases hx with e | e | e | e | e | e | e | e | e | e | e | e | e <;> subst e
    · exact k _ _ _ .non hp5 kk
    · exact k _ _ _ (.int _ (by decide)) hp5 kk
    · exact k _ _ _ (.bl _) hp5 kk
    · exact k _ _ _ (.str _ ⟨by decide +kernel, by decide +kernel⟩) hp5 kk
    · exact k _ _ _ (.str _ (fine_up low (by omega))) hp5 kk
    · exact k _ _ _ (.str _ (fine_app fz (by omega) (by decide +kernel) (by decide +kernel))) hp5 kk
    · exact k _ _ _ (.str _ (fine_app fz (by omega) (by decide +kernel) (by decide +kernel))) hp5 kk
    · exact k _ _ _ (Dd.tupP (nw_at (back t ht) at_t) (by show 1 ≤ 10; decide) (.cons (.str z fz) .nil)) hp5 kk
    · exact k _ _ _ (Dd.lstP (nw_at (back l hl0) at_l) (by show 1 ≤ 10; decide) (.cons (.str z fz) .nil)) hp5 kk
    · exact k _ _ _ (.int _ (by decide)) hp5 kk
    · exact k _ _ _ (.str _ (fine_app fz (by omega) (by decide +kernel) (by decide +kernel))) hp5 kk
    · exact k _ _ _ (.str _ fz) hp5 kk
    · exact k _ _ _ (.dct (nw_at (back d hd0) at_d) fz (.str z fz)) hp5 kk
end
end Kx

set_option maxHeartbeats 4000000
namespace Kx
open PySem L2
def rLstOf (K : PySem.W.Frag) : List V → Hp → VK → Prop := fun xs H Q => ∃ p ys, xs = [.ref p] ∧ (SqL K H p ys ∨ SqT K H p ys) ∧ ∀ l, H l = none → Q (.ref l) (upd H l (.lst ys))
theorem call_lstK {X : Cx} {K : PySem.W.Frag} (h : X.K = K) : CallR X (.type "list") (rLstOf K) := by
  subst h
  exact call_list_of
theorem ix_seqK {X : Cx} {K : PySem.W.Frag} (h : X.K = K) : IxR X (rIx K) := by
  subst h
  exact ix_seq
def spLRows : Sp := fun vs H Q _ => ∃ p q : Addr, vs = [.ref p] ∧ HandAt H p q ∧ ∀ (b : Addr) (ds : List PyData) (H' : Hp), Dd (wo p H') 3 (.ref b) (.list ds) → HandAt H' p q → Keep H H' p → Q (.ref b) H'
/-- the heap but for the hand and one list more -/
def hid (b p : Addr) (H : Hp) : Hp := wo b (wo p H)
theorem hid_at {b p c : Addr} {H : Hp} {o : HO} (h : H c = some o) (n1 : c ≠ b) (n2 : c ≠ p) : hid b p H c = some o := by
  unfold hid
  rw [wo_ne n1, wo_ne n2]
  exact h
theorem hid_keep {b p : Addr} {H H' : Hp} (k : Keep H H' p) : Same (hid b p H) (hid b p H') := wo_mono (wo_keep k)
theorem hid_wo {b p : Addr} {H : Hp} : Same (hid b p H) (wo p H) := wo_same
theorem hid_b {b p : Addr} {H : Hp} {o : HO} : Same (hid b p H) (hid b p (upd H b o)) := fun c u e => by
  unfold hid at e ⊢
  have cb : c ≠ b := fun h => by rw [h] at e; unfold wo at e; rw [if_pos rfl] at e; cases e
  rw [wo_ne cb] at e ⊢
  have cp : c ≠ p := fun h => by rw [h] at e; unfold wo at e; rw [if_pos rfl] at e; cases e
  rw [wo_ne cp] at e ⊢
  rw [upd_ne cb]
  exact e
theorem hid_get {b p c : Addr} {H : Hp} {o : HO} (h : hid b p H c = some o) : H c = some o ∧ c ≠ b ∧ c ≠ p := by
  unfold hid at h
  have cb : c ≠ b := fun e => by rw [e] at h; unfold wo at h; rw [if_pos rfl] at h; cases h
  rw [wo_ne cb] at h
  have cp : c ≠ p := fun e => by rw [e] at h; unfold wo at h; rw [if_pos rfl] at h; cases h
  rw [wo_ne cp] at h
  exact ⟨h, cb, cp⟩
/-- where we stand: the hand, the list at b, the rest as it was -/
structure Fr (b p q : Addr) (ys : List V) (H0 Hs H : Hp) : Prop where
  hb : H b = some (.lst ys)
  bp : b ≠ p
  hp : HandAt H p q
  kp : Keep H0 H p
  sm : Same (hid b p Hs) (hid b p H)
  b0 : H0 b = none
  bq : b ≠ q
theorem Fr.new {b p q l : Addr} {ys : List V} {H0 Hs H : Hp} {o : HO} (f : Fr b p q ys H0 Hs H) (hl : H l = none) : Fr b p q ys H0 Hs (upd H l o) ∧ hid b p (upd H l o) l = some o ∧ Same (hid b p H) (hid b p (upd H l o)) := by
  have lb : l ≠ b := (ne_of_none f.hb hl).symm
  have lp : l ≠ p := f.hp.ap hl
  have l0 : H0 l = none := by
    cases e : H0 l with
    | none => rfl
    | some u => exact absurd hl (by rw [f.kp l u e lp]; exact fun z => nomatch z)
  have k : Keep H (upd H l o) p := fun c u e _ => by rw [upd_ne (ne_of_none e hl)]; exact e
  exact ⟨⟨by rw [upd_ne lb.symm]; exact f.hb, f.bp, f.hp.upd lp (f.hp.aq hl), keepUpd f.kp l0, f.sm.trans (hid_keep k), f.b0, f.bq⟩, hid_at upd_same lb lp, hid_keep k⟩
theorem Fr.draw {b p q : Addr} {ys : List V} {H0 Hs H H' : Hp} (f : Fr b p q ys H0 Hs H) (k : Keep H H' p) (h : HandAt H' p q) : Fr b p q ys H0 Hs H' ∧ Same (hid b p H) (hid b p H') :=
  ⟨⟨k b _ f.hb f.bp, f.bp, h, f.kp.trans k, f.sm.trans (hid_keep k), f.b0, f.bq⟩, hid_keep k⟩
def FineK (ks : List (Str × Int)) : Prop := ∀ r ∈ ks, Low r.1 ∧ r.1.length ≤ 6 ∧ 0 ≤ r.2 ∧ r.2 ≤ 2
theorem lab_low {z : Str} (h : isLab z = true) : Low z ∧ z.length ≤ 6 := by
  unfold isLab at h
  rw [Bool.and_eq_true, Bool.and_eq_true, decide_eq_true_eq, decide_eq_true_eq] at h
  refine ⟨fun c hc => ?_, h.2.1⟩
  have h3 := List.all_eq_true.mp h.2.2 c hc
  unfold isLow at h3
  simp only [Bool.and_eq_true, decide_eq_true_eq] at h3
  omega
theorem GoodK.fine {ks : List (Str × Int)} (g : GoodK ks) : FineK ks := fun r hr => ⟨(lab_low (g.each r hr).1).1, (lab_low (g.each r hr).1).2, (g.each r hr).2.2⟩
theorem pair_dd {H : Hp} {x : V} {r : Str × Int} (h : PairIs H x r) (l : Low r.1) (l6 : r.1.length ≤ 6) (i0 : 0 ≤ r.2) (i2 : r.2 ≤ 2) : ∃ d, Dd H 1 x d := by
  obtain ⟨t, rfl, h | h⟩ := h
  · exact ⟨_, Dd.lstP h (by show 2 ≤ 10; decide) (.cons (.str _ (fine_low l (by omega))) (.cons (.int _ (by omega)) .nil))⟩
  · exact ⟨_, Dd.tupP h (by show 2 ≤ 10; decide) (.cons (.str _ (fine_low l (by omega))) (.cons (.int _ (by omega)) .nil))⟩
theorem items_dd {H : Hp} : ∀ {xs : List V} {ks : List (Str × Int)}, ItemsAt H xs ks → FineK ks → ∃ ds, Dds H 1 xs ds
  | [], _, _, _ => ⟨[], .nil⟩
  | _ :: _, [], h, _ => by cases h.1
  | x :: xs, r :: ks, h, f => by
    obtain ⟨l, l6, i0, i2⟩ := f r (.head _)
    obtain ⟨d, hd⟩ := pair_dd (h.2 0 x r rfl rfl) l l6 i0 i2
    obtain ⟨ds, hs⟩ := items_dd (xs := xs) (ks := ks) ⟨Nat.succ.inj h.1, fun i y q e1 e2 => h.2 (i + 1) y q e1 e2⟩ fun q m => f q (.tail _ m)
    exact ⟨d :: ds, .cons hd hs⟩
theorem Dds.set {H : Hp} {n : Nat} {xs : List V} {ds : List PyData} {x : V} {d : PyData} (h : Dds H n xs ds) (hd : Dd H n x d) : ∀ j, Dds H n (xs.set j x) (ds.set j d) := by
  induction h with
  | nil => intro j; exact .nil
  | cons h t ih =>
    intro j
    cases j with
    | zero => exact .cons hd t
    | succ j => exact .cons h (ih j)
theorem Dds.mem {H : Hp} {n : Nat} {xs : List V} {ds : List PyData} (h : Dds H n xs ds) {x : V} (m : x ∈ xs) : ∃ d, Dd H n x d := by
  induction h with
  | nil => cases m
  | cons h t ih =>
    cases m with
    | head => exact ⟨_, h⟩
    | tail _ m => exact ih m
theorem hid_swap {b c p : Addr} {H : Hp} {o : HO} (hc : H c = none) : Same (hid b p H) (hid c p (upd H c o)) := fun a u e => by
  obtain ⟨e1, n1, n2⟩ := hid_get e
  have ac := ne_of_none e1 hc
  exact hid_at (by rw [upd_ne ac]; exact e1) ac n2
theorem ItemsAt.addn {H : Hp} {ks : List (Str × Int)} {x : V} {r : Str × Int} (hx : PairIs H x r) : ∀ (n : Nat) {xs : List V}, ItemsAt H xs ks → ItemsAt H (xs ++ List.replicate n x) (ks ++ List.replicate n r)
  | 0, xs, h => by simpa using h
  | n + 1, xs, h => by
    rw [List.replicate_succ', List.replicate_succ', ← List.append_assoc, ← List.append_assoc]
    exact (ItemsAt.addn hx n h).add hx
theorem flat_rep {α : Type} (x : α) : ∀ n, (List.replicate n [x]).flatten = List.replicate n x
  | 0 => rfl
  | n + 1 => by rw [List.replicate_succ, List.flatten_cons, flat_rep x n, List.replicate_succ]; rfl
theorem Fr.put {b p q c : Addr} {ys : List V} {H0 Hs H : Hp} {o : HO} (f : Fr b p q ys H0 Hs H) (n0 : H0 c = none) (ns : Hs c = none) (cb : c ≠ b) (cp : c ≠ p) (cq : c ≠ q) : Fr b p q ys H0 Hs (upd H c o) :=
  ⟨by rw [upd_ne cb.symm]; exact f.hb, f.bp, f.hp.upd cp cq, keepUpd f.kp n0, fun a u e => by
    obtain ⟨e1, n1, n2⟩ := hid_get (f.sm a u e)
    have ac : a ≠ c := fun h => by rw [h] at e; rw [(hid_get e).1] at ns; cases ns
    exact hid_at (by rw [upd_ne ac]; exact e1) n1 n2, f.b0, f.bq⟩
theorem wo_put {b p c : Addr} {H : Hp} {o : HO} : Same (wo c (hid b p H)) (wo c (hid b p (upd H c o))) := fun a u e => by
  have ac : a ≠ c := fun h => by rw [h] at e; unfold wo at e; rw [if_pos rfl] at e; cases e
  rw [wo_ne ac] at e ⊢
  obtain ⟨e1, n1, n2⟩ := hid_get e
  exact hid_at (by rw [upd_ne ac]; exact e1) n1 n2
theorem nw_hid {H H' : Hp} {b p : Addr} {o o' : HO} (hb : H b = some o) (hp : H p = some o') : Same (nw H H') (hid b p H') := fun a u e => by
  obtain ⟨e0, e1⟩ := nw_get e
  exact hid_at e1 (fun h => by rw [h, hb] at e0; cases e0) fun h => by rw [h, hp] at e0; cases e0
theorem HandAt.at_ {H : Hp} {p q : Addr} (h : HandAt H p q) : ∃ o, H p = some o := by
  obtain ⟨cs, a, b, c, h1, h2⟩ := h
  exact ⟨_, h1⟩
section
variable {P : Program} {w : World} {K : PySem.W.Frag} {mg : Str → Option Value} {base : Heap}
abbrev nLRows : List Str := ["_law_hand_here", "_law_rows_here", "_law_good", "_law_k", "_law_place", "_law_name", "_law_arity", "_law_odd_here", "_law_bad", "_law_row"]
theorem scLRows : FnScope nLRows ["_law_hand_here"] (defScope sLRows) := ⟨rfl, rfl, rfl, by decide +kernel, rfl, by decide +kernel, by decide +kernel⟩
theorem ok_lrows {f : Addr} {fd : FuncData} (F : Fun K "_law_rows" "_law_rows" sLRows f fd) (m : mg "_law_rows" = some (.ref f)) (T : Bl mg) (B : Bm mg) (D : HasF P w K mg base "_law_draw" 2 ["_law_hand_here", "_law_many"] spDraw) (O : HasF P w K mg base "_law_one" 3 ["_law_hand_here", "_law_rows_here"] spOne)
    (G : HasF P w K mg base "_law_kinds" 4 ["_law_hand_here"] spLKinds) (Od : HasF P w K mg base "_law_odd" 4 ["_law_hand_here"] spOdd2) : HasF P w K mg base "_law_rows" 5 ["_law_hand_here"] spLRows := by
  refine ⟨f, fd, ?_, m, F.kp, F.binds fun _ _ _ _ _ _ us hl => match us, hl with | [_], _ => rfl⟩
  obtain ⟨f1, fd1, D⟩ := D; obtain ⟨f2, fd2, O⟩ := O; obtain ⟨f3, fd3, G⟩ := G; obtain ⟨f4, fd4, Od⟩ := Od
  refine F.ok scLRows (fun vs H Q E h => ?_) (fun cdv A outer s H vs Q E hr h => ?_)
  · obtain ⟨a, b, rfl, _⟩ := h
    rfl
  · obtain ⟨p, q, rfl, hp, k⟩ := h
    have hr2 : Room 2 _ := hr.mono (by decide)
    have hr3 : Room 3 _ := hr.mono (by decide)
    refine ⟨_, (C8.pss_cut (ps_setLc (i := 1) (own := [("_law_row", 9)]) (g := gName 9) (tt := tYes) (by rfl) scLRows.nd rfl rfl (sw_true rfl rfl rfl (by decide +kernel)) (pi_list (pe_call G.G hr (by rfl) G.m G.kp G.b .nil pass0 (pa_cons (pv 0) pa_nil))) (blkOk_by (own := [("_law_row", 9)]) (N := nLRows) (sc := defScope sLRows) (by decide +kernel))
        (fun _ _ _ _ _ => pg_name (i := 9) scLRows.nd rfl (Or.inl rfl)) (fun _ _ _ _ _ => pts_nil) (fun _ _ _ _ _ => (pe_lst (pa_cons (pe_ix (ix_seqK (K := K) rfl) (pv 9) pe_int (fun _ _ => rfl)) (pa_cons (pe_ix (ix_seqK (K := K) rfl) (pv 9) pe_int (fun _ _ => rfl)) pa_nil)))))
    (C8.pss_cut (ps_if (pt_cmpR op_eq (pe_call D.G hr2 (by rfl) D.m D.kp D.b .nil pass0 (pa_cons (pv 0) (pa_cons pe_int pa_nil))) pe_int (nomark _)) (pss_one (ps_set (i := 1) scLRows.nd rfl (Or.inl rfl) (pe_op op_cat (pv 1) (pe_op op_rep (pe_lst (pa_cons (pe_lst (pa_cons pe_str (pa_cons pe_int pa_nil))) pa_nil)) (pe_op op_sub pe_int (pe_callB call_len_seq (by rfl) T.len PySem.boot_len (pa_cons (pv 1) pa_nil))))))) pss_nil)
    (pss_cons (ps_if (pt_cmpR op_eq (pe_call D.G hr2 (by rfl) D.m D.kp D.b .nil pass0 (pa_cons (pv 0) (pa_cons pe_int pa_nil))) pe_int (nomark _)) (pss_one (ps_ret (pv 1))) pss_nil)
    (C8.pss_cut (ps_setLc (i := 2) (own := [("_law_row", 9)]) (g := gName 9) (tt := tYes) (by rfl) scLRows.nd rfl rfl (sw_true rfl rfl rfl (by decide +kernel)) (pi_list (pv 1)) (blkOk_by (own := [("_law_row", 9)]) (N := nLRows) (sc := defScope sLRows) (by decide +kernel))
        (fun _ _ _ _ _ => pg_name (i := 9) scLRows.nd rfl (Or.inl rfl)) (fun _ _ _ _ _ => pts_nil) (fun _ _ _ _ _ => (pe_callTy (r := rLstOf K) (T := "list") (call_lstK rfl) (by rfl) B.list (by decide +kernel) (pa_cons (pv 9) pa_nil))))
    (C8.pss_cut (ps_for PassesOwn.never rfl (pi_range1 (by rfl) T.range (pa_cons (pe_op op_add pe_int (pe_call D.G hr2 (by rfl) D.m D.kp D.b .nil pass0 (pa_cons (pv 0) (pa_cons pe_int pa_nil)))) pa_nil)) (pg_name (i := 3) scLRows.nd rfl (.inl rfl))
        (pss_cons (ps_set (i := 4) scLRows.nd rfl (Or.inl rfl) (pe_call D.G hr2 (by rfl) D.m D.kp D.b .nil pass0 (pa_cons (pv 0) (pa_cons (pe_callB call_len_seq (by rfl) T.len PySem.boot_len (pa_cons (pv 1) pa_nil)) pa_nil))))
    (pss_cons (ps_par (i := 5) (j := 6) (by rfl) scLRows.nd rfl rfl (by decide) rfl rfl (pa_cons (pe_ix ix_seq (pe_ix ix_seq (pv 2) (pv 4) (fun _ _ => rfl)) pe_int (fun _ _ => rfl)) (pa_cons (pe_ix ix_seq (pe_ix ix_seq (pv 2) (pv 4) (fun _ _ => rfl)) pe_int (fun _ _ => rfl)) pa_nil)) (by rfl))
    (C8.pss_cut (ps_set (i := 7) scLRows.nd rfl (Or.inl rfl) (pe_call O.G hr3 (by rfl) O.m O.kp O.b .nil pass0 (pa_cons (pv 0) (pa_cons (pe_lst (pa_cons pe_int (pa_cons (pe_un un_neg pe_int) (pa_cons pe_bl (pa_cons pe_non (pa_cons pe_str (pa_cons (pe_op op_pow pe_int pe_int) (pa_cons (pe_lst (pa_cons pe_int pa_nil)) pa_nil)))))))) pa_nil))))
    (C8.pss_cut (ps_set (i := 8) scLRows.nd rfl (Or.inl rfl) (pe_lst (pa_cons pe_non (pa_cons (pe_lst (pa_cons (pv 5) pa_nil)) (pa_cons (pe_lst (pa_cons (pv 5) (pa_cons (pv 6) (pa_cons pe_int pa_nil)))) (pa_cons (pe_tup (pa_cons (pv 5) pa_nil)) (pa_cons (pe_op op_add_str (pv 5) pe_str) (pa_cons (pe_lst (pa_cons (pe_call Od.G hr (by rfl) Od.m Od.kp Od.b .nil pass0 (pa_cons (pv 0) pa_nil)) (pa_cons (pv 6) pa_nil))) (pa_cons (pe_lst (pa_cons pe_str (pa_cons (pv 6) pa_nil))) (pa_cons (pe_lst (pa_cons (pe_ix ix_seq (pe_ix ix_seq (pv 2) pe_int (fun _ _ => rfl)) pe_int (fun _ _ => rfl)) (pa_cons (pv 6) pa_nil))) (pa_cons (pe_lst (pa_cons (pv 5) (pa_cons (pv 7) pa_nil))) pa_nil)))))))))))
    (pss_one (ps_asg (pe_call O.G hr3 (by rfl) O.m O.kp O.b .nil pass0 (pa_cons (pv 0) (pa_cons (pv 8) pa_nil))) (pg_sub (pv 1) (pv 4) set_list))))))))
    (pss_one (ps_ret (pv 1)))))))), ?_⟩
    -- rows of lists
    refine ⟨fun σ H1 => ∃ (b : Addr) (xs : List V) (ks : List (Str × Int)), σ = [some (.ref p), some (.ref b), none, none, none, none, none, none, none, none] ∧ Fr b p q xs H H1 H1 ∧ ItemsAt (hid b p H1) xs ks ∧ FineK ks ∧ 1 ≤ xs.length ∧ xs.length ≤ 6, ?_, ?_⟩
    · refine ⟨_, rfl, p, q, rfl, hp, fun b0 ks H1 gk gl b0n hp1 k1 => ?_⟩
      obtain ⟨xs, hx, it⟩ := gl
      have hb0 := wo_same _ _ hx
      have fk := gk.fine
      refine ⟨b0, rfl, ⟨_, SqL.of hb0⟩, fun D hD => ?_⟩
      have Dp : D ≠ p := hp1.ap hD
      have D0 : H D = none := by
        cases e : H D with
        | none => rfl
        | some u => exact absurd hD (by rw [k1 D u e Dp]; exact fun z => nomatch z)
      have xlen : xs.length = ks.length := it.1
      refine lc_list (K := K) (a := b0) (xs := xs) (fun i H3 => ∃ ys : List V, H3 D = some (.lst ys) ∧ ItemsAt (hid D p H3) ys (ks.take i) ∧ HandAt H3 p q ∧ Keep H H3 p ∧ Same (hid D p H1) (hid D p H3))
        ⟨[], upd_same, ⟨by simp, fun i x r e => by cases e⟩, hp1.upd Dp (hp1.aq hD), keepUpd k1 D0, hid_b⟩ (fun i H3 _ ⟨_, _, _, _, _, s⟩ => SqL.of (hid_get (s b0 _ (hid_at hb0 (ne_of_none hb0 hD) (by rintro rfl; rw [wo, if_pos rfl] at hx; cases hx)))).1) ?_ ?_
      · rintro i x H3 hi ⟨ys, hys, ity, hp3, k3, s3⟩
        have lti : i < ks.length := by have := (List.getElem?_eq_some_iff.mp hi).1; omega
        have hq : ks[i]? = some ks[i] := List.getElem?_eq_getElem lti
        have px := it.2 i x _ hi hq
        obtain ⟨t, rfl, ht⟩ := px
        have at3 : ∀ {o : HO}, wo p H1 t = some o → H3 t = some o := fun {o} e => by
          have tp : t ≠ p := fun h => by rw [h] at e; unfold wo at e; rw [if_pos rfl] at e; cases e
          have e1 := wo_same _ _ e
          exact (hid_get (s3 t o (hid_at e1 (ne_of_none e1 hD) tp))).1
        have ix : ∀ {j : Int} {v : V} {Q' : V → Hp → Prop}, atI [V.str ks[i].1, V.int ks[i].2] j = some v → Q' v H3 → rIx K (.ref t) (.int j) H3 Q' := fun e q => by
          rcases ht with h | h
          · exact .inl ⟨_, _, _, _, rfl, rfl, SqL.of (at3 h), e, q⟩
          · exact .inr (.inl ⟨_, _, _, _, rfl, rfl, SqT.of (at3 h), e, q⟩)
        refine ⟨rfl, ?_⟩
        refine ⟨_, rfl, ix rfl ⟨_, rfl, ix rfl ⟨(by show 2 ≤ sizeLine; decide), fun l hl => ?_⟩⟩⟩
        have lD : l ≠ D := (ne_of_none hys hl).symm
        have lp : l ≠ p := hp3.ap hl
        have l0 : H l = none := by
          cases e : H l with
          | none => rfl
          | some u => exact absurd hl (by rw [k3 l u e lp]; exact fun z => nomatch z)
        have kl : Keep H3 (upd H3 l (.lst [V.str ks[i].1, V.int ks[i].2])) p := fun c u e _ => by rw [upd_ne (ne_of_none e hl)]; exact e
        refine ⟨ys, by rw [upd_ne lD.symm]; exact hys, small1000 (by rw [ity.1, List.length_take]; have := gk.hi; omega), ys ++ [.ref l], upd_same, ?_, (hp3.upd lp (hp3.aq hl)).upd Dp (hp1.aq hD), keepUpd (keepUpd k3 l0) D0, (s3.trans (hid_keep kl)).trans hid_b⟩
        rw [take_succ_of hq]
        exact ((ity.keep (hid_keep kl)).keep hid_b).add ⟨l, rfl, .inl (hid_b l _ (hid_at upd_same lD lp))⟩
      · rintro H3 ⟨ys, hys, ity, hp3, k3, s3⟩
        rw [xlen, List.take_length] at ity
        exact ⟨D, ys, ks, rfl, ⟨hys, Dp, hp3, k3, Same.refl _, D0, hp1.aq hD⟩, ity, fk, by rw [ity.1]; exact gk.lo, by rw [ity.1]; exact gk.hi⟩
    rintro σ H1 ⟨b1, xs1, ks1, rfl, fr1, it1, fk1, lo1, hi1⟩
    refine ⟨fun σ H1 => ∃ (b : Addr) (xs : List V) (ks : List (Str × Int)), σ = [some (.ref p), some (.ref b), none, none, none, none, none, none, none, none] ∧ Fr b p q xs H H1 H1 ∧ ItemsAt (hid b p H1) xs ks ∧ FineK ks ∧ 1 ≤ xs.length ∧ xs.length ≤ 7, ?_, ?_⟩
    · refine ⟨_, rfl, p, q, 12, rfl, fr1.hp, by decide, by decide, fun z H2 z0 z1 hp2 k2 => ⟨rfl, _, rfl, ?_⟩⟩
      obtain ⟨fr2, s2⟩ := fr1.draw k2 hp2
      have it2 := it1.keep s2
      refine ite2 (fun _ => ?_) (fun _ => ?_)
      · refine ⟨_, rfl, (by show 2 ≤ sizeLine; decide), fun l hl => ⟨(by show 1 ≤ sizeLine; decide), fun t ht => ?_⟩⟩
        obtain ⟨fr3, at3, s3⟩ := fr2.new (o := .lst [V.str "g", V.int 1]) hl
        obtain ⟨fr4, at4, s4⟩ := fr3.new (o := .lst [V.ref l]) ht
        refine ⟨_, rfl, b1, _, rfl, .inl (SqL.of fr4.hb), _, _, rfl, rfl, ?_⟩
        have kn : (7 - ((xs1.length : Nat) : Int)).toNat = 7 - xs1.length := by omega
        refine ⟨t, _, _, rfl, rfl, upd_same, by omega, by omega, (by rw [kn]; show 1 * _ ≤ _; exact Nat.le_of_lt (small1000 (by omega))), fun n hn => ?_⟩
        obtain ⟨fr5, at5, s5⟩ := fr4.new (o := .lst (List.replicate (7 - ((xs1.length : Nat) : Int)).toNat [V.ref l]).flatten) hn
        refine ⟨b1, n, _, _, rfl, rfl, fr5.hb, upd_same, ?_, fun c hc => ?_⟩
        · rw [kn, flat_rep, List.length_replicate]
          exact Nat.le_of_lt (small1000 (by omega))
        · obtain ⟨fr6, at6, s6⟩ := fr5.new (o := .lst (xs1 ++ (List.replicate (7 - ((xs1.length : Nat) : Int)).toNat [V.ref l]).flatten)) hc
          have cp : c ≠ p := (hid_get at6).2.2
          have c0 : H c = none := by
            cases e : H c with
            | none => rfl
            | some u => exact absurd hc (by rw [fr5.kp c u e cp]; exact fun z => nomatch z)
          have lx : (xs1 ++ (List.replicate (7 - ((xs1.length : Nat) : Int)).toNat [V.ref l]).flatten).length = 7 := by
            rw [kn, flat_rep, List.length_append, List.length_replicate]
            omega
          refine ⟨c, _, ks1 ++ List.replicate (7 - xs1.length) (Str.ofString "g", 1), rfl, ⟨upd_same, cp, fr6.hp, fr6.kp, Same.refl _, c0, fr5.hp.aq hc⟩, ?_, ?_, by omega, by omega⟩
          · have ez : (List.replicate (7 - ((xs1.length : Nat) : Int)).toNat [V.ref l]).flatten = List.replicate (7 - xs1.length) (V.ref l) := by rw [kn, flat_rep]
            have sw := hid_swap (b := b1) (p := p) (o := .lst (xs1 ++ (List.replicate (7 - ((xs1.length : Nat) : Int)).toNat [V.ref l]).flatten)) hc
            have main := ItemsAt.addn (r := (Str.ofString "g", 1)) ⟨l, rfl, .inl (sw _ _ (s5 _ _ (s4 _ _ at3)))⟩ (7 - xs1.length) (it2.keep (((s3.trans s4).trans s5).trans sw))
            rw [← ez] at main
            exact main
          · intro r hr'
            rcases List.mem_append.mp hr' with e | e
            · exact fk1 r e
            · rw [(List.mem_replicate.mp e).2]
              exact ⟨(lab_low (by decide +kernel)).1, by decide +kernel, by decide, by decide⟩
      · exact ⟨b1, xs1, ks1, rfl, ⟨fr2.hb, fr2.bp, fr2.hp, fr2.kp, Same.refl _, fr2.b0, fr2.bq⟩, it2, fk1, lo1, by omega⟩
    clear it1 fr1 lo1 hi1 fk1
    rintro σ H2 ⟨b, xs, ks, rfl, fr2, it2, fk, lo, hi⟩
    refine ⟨_, rfl, p, q, 2, rfl, fr2.hp, by decide, by decide, fun z H3 z0 z1 hp3 k3 => ⟨rfl, _, rfl, ?_⟩⟩
    obtain ⟨fr3, s3⟩ := fr2.draw k3 hp3
    have it3 := it2.keep s3
    obtain ⟨ds, hds⟩ := items_dd it3 fk
    refine ite2 (fun _ => ?_) (fun _ => ?_)
    · exact ⟨_, rfl, k b ds H3 (Dd.lstP (wo_at fr3.hb fr3.bp) (by omega) (hds.keep hid_wo)).up hp3 fr3.kp⟩
    refine ⟨fun σ H4 => ∃ (g : Addr) (gs : List V), σ = [some (.ref p), some (.ref b), some (.ref g), none, none, none, none, none, none, none] ∧ Fr b p q xs H H3 H4 ∧ hid b p H4 g = some (.lst gs) ∧ ItemsAt (hid b p H4) gs ks, ?_, ?_⟩
    · refine ⟨_, rfl, b, rfl, ⟨_, SqL.of fr3.hb⟩, fun D hD => ?_⟩
      have Db : D ≠ b := (ne_of_none fr3.hb hD).symm
      have Dp : D ≠ p := hp3.ap hD
      have Dq : D ≠ q := hp3.aq hD
      have D0 : H D = none := by
        cases e : H D with
        | none => rfl
        | some u => exact absurd hD (by rw [fr3.kp D u e Dp]; exact fun z => nomatch z)
      have fr3' : Fr b p q xs H H3 H3 := ⟨fr3.hb, fr3.bp, fr3.hp, fr3.kp, Same.refl _, fr3.b0, fr3.bq⟩
      refine lc_list (K := K) (a := b) (xs := xs) (fun i H5 => ∃ ys : List V, H5 D = some (.lst ys) ∧ ItemsAt (wo D (hid b p H5)) ys (ks.take i) ∧ Fr b p q xs H H3 H5)
        ⟨[], upd_same, ⟨by simp, fun i x r e => by cases e⟩, fr3'.put D0 hD Db Dp Dq⟩ (fun i H5 _ ⟨_, _, _, f⟩ => SqL.of f.hb) ?_ ?_
      · rintro i x H5 hi ⟨ys, hys, ity, fr5⟩
        have lti : i < ks.length := by have := (List.getElem?_eq_some_iff.mp hi).1; have := it3.1; omega
        have hq : ks[i]? = some ks[i] := List.getElem?_eq_getElem lti
        obtain ⟨t, rfl, ht⟩ := (it3.keep fr5.sm).2 i x _ hi hq
        refine ⟨rfl, ?_⟩
        refine ⟨_, rfl, t, [V.str ks[i].1, V.int ks[i].2], rfl, ht.imp (fun h => SqL.of (hid_get h).1) (fun h => SqT.of (hid_get h).1), fun l hl => ?_⟩
        have lD : l ≠ D := (ne_of_none hys hl).symm
        obtain ⟨fr6, at6, s6⟩ := fr5.new (o := .lst [V.str ks[i].1, V.int ks[i].2]) hl
        refine ⟨ys, by rw [upd_ne lD.symm]; exact hys, small1000 (by rw [ity.1, List.length_take]; have := it3.1; omega), ys ++ [.ref l], upd_same, ?_, fr6.put D0 hD Db Dp Dq⟩
        rw [take_succ_of hq]
        have six : Same (wo D (hid b p H5)) (wo D (hid b p (upd H5 l (.lst [V.str ks[i].1, V.int ks[i].2])))) := wo_mono s6
        exact ((ity.keep six).keep wo_put).add ⟨l, rfl, .inl (wo_put l _ (wo_at at6 lD))⟩
      · rintro H5 ⟨ys, hys, ity, fr5⟩
        rw [it3.1, List.take_length] at ity
        exact ⟨D, ys, rfl, fr5, hid_at hys Db Dp, ity.keep wo_same⟩
    rintro σ H4 ⟨g, gs, rfl, fr4, hg, itg⟩
    have hds4 := (hds.keep fr4.sm).up
    have gsl : gs.length = ks.length := itg.1
    have xsl : xs.length = ks.length := it3.1
    have fr4' : Fr b p q xs H H4 H4 := ⟨fr4.hb, fr4.bp, fr4.hp, fr4.kp, Same.refl _, fr4.b0, fr4.bq⟩
    clear it2 it3 hds s3 fr2 fr3 k3 hp3
    -- the loop
    refine ⟨fun σ H5 => ∃ (ys : List V) (es : List PyData) (v3 v4 v5 v6 v7 v8 : Option V), σ = [some (.ref p), some (.ref b), some (.ref g), v3, v4, v5, v6, v7, v8, none] ∧ ys.length = xs.length ∧ Fr b p q ys H H4 H5 ∧ Dds (hid b p H5) 2 ys es, ?_, ?_⟩
    · refine ⟨_, rfl, p, q, 2, rfl, fr4.hp, by decide, by decide, fun z H5 z0 z1 hp5 k5 => ?_⟩
      obtain ⟨fr5, s5⟩ := fr4'.draw k5 hp5
      refine ⟨_, _, rfl, rfl, _, rfl, by omega, by omega, for_range (n := (1 + z).toNat) (fun i σ H5 => ∃ (ys : List V) (es : List PyData) (v3 v4 v5 v6 v7 v8 : Option V), σ = [some (.ref p), some (.ref b), some (.ref g), v3, v4, v5, v6, v7, v8, none] ∧ ys.length = xs.length ∧ Fr b p q ys H H4 H5 ∧ Dds (hid b p H5) 2 ys es)
        ⟨xs, ds, none, none, none, none, none, none, rfl, rfl, fr5, hds4.keep s5⟩ ?_ fun σ H6 h => h⟩
      rintro i σ H6 hi' ⟨ys, es, v3, v4, v5, v6, v7, v8, rfl, yl, fr6, he⟩
      have n1 : 1 ≤ ys.length := by omega
      -- place
      refine ⟨_, rfl, _, rfl, b, _, rfl, .inl (SqL.of fr6.hb), p, q, _, rfl, fr6.hp, by omega, (by omega), fun u H7 u0 u1 hp7 k7 => ?_⟩
      obtain ⟨fr7, s7⟩ := fr6.draw k7 hp7
      have he7 := he.keep s7
      obtain ⟨m, rfl⟩ : ∃ m : Nat, u = m := ⟨u.toNat, by omega⟩
      have mk : m < ks.length := by omega
      have hq : ks[m]? = some ks[m] := List.getElem?_eq_getElem mk
      have hgm : gs[m]? = some gs[m] := List.getElem?_eq_getElem (by omega)
      obtain ⟨nl, n6, a0, a2⟩ := fk ks[m] (List.getElem_mem mk)
      have gat : ∀ {Hx : Hp}, Fr b p q ys H H4 Hx → Hx g = some (.lst gs) := fun f => (hid_get (f.sm _ _ hg)).1
      have ixg : ∀ {Hx : Hp} {r : Nat} {x : V} {Q' : V → Hp → Prop}, Fr b p q ys H H4 Hx → gs[r]? = some x → Q' x Hx → rIx K (.ref g) (.int (r : Nat)) Hx Q' := fun f e q => .inl ⟨_, _, _, _, rfl, rfl, SqL.of (gat f), atI_nat e, q⟩
      have ixr : ∀ {Hx : Hp} {r : Nat} {x : V} {kr : Str × Int} {j : Int} {v : V} {Q' : V → Hp → Prop}, Fr b p q ys H H4 Hx → gs[r]? = some x → ks[r]? = some kr → atI [V.str kr.1, V.int kr.2] j = some v → Q' v Hx → rIx K x (.int j) Hx Q' := fun f e1 e2 e q => by
        obtain ⟨t, rfl, ht⟩ := (itg.keep f.sm).2 _ _ _ e1 e2
        rcases ht with h | h
        · exact .inl ⟨_, _, _, _, rfl, rfl, SqL.of (hid_get h).1, e, q⟩
        · exact .inr (.inl ⟨_, _, _, _, rfl, rfl, SqT.of (hid_get h).1, e, q⟩)
      -- name, arity
      refine ⟨_, rfl, _, rfl, ixg fr7 hgm (ixr fr7 hgm hq rfl ⟨_, rfl, _, rfl, ixg fr7 hgm (ixr fr7 hgm hq rfl ?_)⟩)⟩
      refine ⟨_, _, rfl, ?_⟩
      -- an odd arity
      refine ⟨fun σ H8 => ∃ (od : V) (d : PyData), σ = [some (.ref p), some (.ref b), some (.ref g), some (.int (0 + (i : Nat))), some (.int (m : Nat)), some (.str ks[m].1), some (.int ks[m].2), some od, v8, none] ∧ Fr b p q ys H H4 H8 ∧ Dds (hid b p H8) 2 ys es ∧ Dd (hid b p H8) 1 od d, ?_, ?_⟩
      · refine ⟨_, rfl, _, rfl, _, _, rfl, rfl, ⟨by decide, by decide, by decide⟩, (by show 1 ≤ sizeLine; decide), fun l hl => ?_⟩
        obtain ⟨fr8, at8, s8⟩ := fr7.new (o := .lst [V.int 1]) hl
        refine ⟨(by show 7 ≤ sizeLine; decide), fun r hr' => ?_⟩
        obtain ⟨fr9, at9, s9⟩ := fr8.new (o := .lst [V.int 3, V.int (-1), V.bl true, V.non, V.str "1", V.int (10 ^ (20 : Int).toNat), V.ref l]) hr'
        refine ⟨p, q, r, _, rfl, fr9.hp, upd_same, (hid_get at9).2.2, (by show 0 < 7; decide), (by show 7 ≤ 1000; decide), fun x H8 hx hp8 k8 => ?_⟩
        obtain ⟨fr10, s10⟩ := fr9.draw k8 hp8
        have dd : ∃ d, Dd (hid b p H8) 1 x d := by
          simp only [List.mem_cons, List.not_mem_nil, or_false] at hx
          rcases hx with e | e | e | e | e | e | e <;> subst e
          · exact ⟨_, .int _ (by decide)⟩
          · exact ⟨_, .int _ (by decide)⟩
          · exact ⟨_, .bl _⟩
          · exact ⟨_, .non⟩
          · exact ⟨_, .str _ ⟨by decide +kernel, by decide +kernel⟩⟩
          · exact ⟨_, .int _ (by decide)⟩
          · exact ⟨_, Dd.lstP (s10 _ _ (s9 _ _ at8)) (by show 1 ≤ 10; decide) (.cons (.int _ (by decide)) .nil)⟩
        obtain ⟨d, dd⟩ := dd
        exact ⟨x, d, rfl, fr10, he7.keep ((s8.trans s9).trans s10), dd⟩
      rintro σ H8 ⟨od, d, rfl, fr8, he8, hod⟩
      have fz : Fine ks[m].1 := fine_low nl (by omega)
      refine ⟨fun σ H9 => ∃ (c : Addr) (bs : List V) (cs : List PyData), σ = [some (.ref p), some (.ref b), some (.ref g), some (.int (0 + (i : Nat))), some (.int (m : Nat)), some (.str ks[m].1), some (.int ks[m].2), some od, some (.ref c), none] ∧ Fr b p q ys H H4 H9 ∧ Dds (hid b p H9) 2 ys es ∧ H9 c = some (.lst bs) ∧ c ≠ p ∧ bs.length = 9 ∧ Dds (hid b p H9) 2 bs cs, ?_, ?_⟩
      · -- [name]; [name, arity, 1]; (name,); name + "ab"
        refine ⟨_, rfl, (by show 1 ≤ sizeLine; decide), fun a1 h1 => ?_⟩
        obtain ⟨f1, t1, s1⟩ := fr8.new (o := .lst [V.str ks[m].1]) h1
        refine ⟨_, rfl, _, rfl, (by show 3 ≤ sizeLine; decide), fun a2' h2 => ?_⟩
        obtain ⟨f2, t2, s2⟩ := f1.new (o := .lst [V.str ks[m].1, V.int ks[m].2, V.int 1]) h2
        refine ⟨_, rfl, (by show 1 ≤ sizeLine; decide), fun a3 h3 => ?_⟩
        obtain ⟨f3, t3, s3⟩ := f2.new (o := .tup [V.str ks[m].1]) h3
        refine ⟨_, rfl, _, _, rfl, rfl, (Nat.le_of_lt (small1000 (by have : (Str.ofString "ab").length = 2 := by decide +kernel
                                                                     omega))), ?_⟩
        -- [odd(hand), arity]
        refine ⟨_, rfl, p, q, rfl, f3.hp, fun x4 d4 H10 hx4 hp10 k10 => ?_⟩
        obtain ⟨f4, s4⟩ := f3.draw k10 hp10
        refine ⟨_, rfl, (by show 2 ≤ sizeLine; decide), fun a4 h4 => ?_⟩
        obtain ⟨f5, t5, s5⟩ := f4.new (o := .lst [x4, V.int ks[m].2]) h4
        obtain ⟨op, hop⟩ := f3.hp.at_
        have hx4 := (hx4.keep (nw_hid f3.hb hop)).keep s5
        -- ["year", arity]; [good[0][0], arity]; [name, odd]
        refine ⟨_, rfl, (by show 2 ≤ sizeLine; decide), fun a5 h5 => ?_⟩
        obtain ⟨f6, t6, s6⟩ := f5.new (o := .lst [V.str "year", V.int ks[m].2]) h5
        have k0 : ks[0]? = some ks[0] := List.getElem?_eq_getElem (by omega)
        have g0 : gs[0]? = some gs[0] := List.getElem?_eq_getElem (by omega)
        refine ⟨_, rfl, ixg f6 g0 (ixr f6 g0 k0 rfl ⟨_, rfl, (by show 2 ≤ sizeLine; decide), fun a6 h6 => ?_⟩)⟩
        obtain ⟨f7, t7, s7⟩ := f6.new (o := .lst [V.str ks[0].1, V.int ks[m].2]) h6
        refine ⟨_, rfl, _, rfl, (by show 2 ≤ sizeLine; decide), fun a7 h7 => ?_⟩
        obtain ⟨f8, t8, s8⟩ := f7.new (o := .lst [V.str ks[m].1, od]) h7
        refine ⟨(by show 9 ≤ sizeLine; decide), fun c hc => ?_⟩
        obtain ⟨f9, t9, s9⟩ := f8.new (o := .lst [V.non, V.ref a1, V.ref a2', V.ref a3, V.str (ks[m].1 ++ Str.ofString "ab"), V.ref a4, V.ref a5, V.ref a6, V.ref a7]) hc
        have s49 := ((s6.trans s7).trans s8).trans s9
        have s19 := (((s2.trans s3).trans s4).trans s5).trans s49
        have s29 := ((s3.trans s4).trans s5).trans s49
        have s39 := (s4.trans s5).trans s49
        have iv : ∀ {n : Nat} {Hx : Hp}, Dd Hx n (V.int ks[m].2) (.int ks[m].2) := .int _ (by omega)
        obtain ⟨nl0, n60, _, _⟩ := fk ks[0] (List.getElem_mem _)
        obtain ⟨cs, hcs⟩ : ∃ cs, Dds (hid b p (upd (upd (upd (upd (upd H10 a4 (.lst [x4, V.int ks[m].2])) a5 (.lst [V.str "year", V.int ks[m].2])) a6 (.lst [V.str ks[0].1, V.int ks[m].2])) a7 (.lst [V.str ks[m].1, od])) c (.lst [V.non, V.ref a1, V.ref a2', V.ref a3, V.str (ks[m].1 ++ Str.ofString "ab"), V.ref a4, V.ref a5, V.ref a6, V.ref a7]))) 2 [V.non, V.ref a1, V.ref a2', V.ref a3, V.str (ks[m].1 ++ Str.ofString "ab"), V.ref a4, V.ref a5, V.ref a6, V.ref a7] cs := ⟨_,
          .cons .non (.cons (Dd.lstP (s19 _ _ t1) (by show 1 ≤ 10; decide) (.cons (.str _ fz) .nil)) (.cons (Dd.lstP (s29 _ _ t2) (by show 3 ≤ 10; decide) (.cons (.str _ fz) (.cons iv (.cons (.int _ (by decide)) .nil)))) (.cons (Dd.tupP (s39 _ _ t3) (by show 1 ≤ 10; decide) (.cons (.str _ fz) .nil))
          (.cons (.str _ (fine_app fz (by omega) (by decide +kernel) (by decide +kernel))) (.cons (Dd.lstP (s49 _ _ t5) (by show 2 ≤ 10; decide) (.cons (hx4.keep s49) (.cons iv .nil))) (.cons (Dd.lstP (((s7.trans s8).trans s9) _ _ t6) (by show 2 ≤ 10; decide) (.cons (.str _ ⟨by decide +kernel, by decide +kernel⟩) (.cons iv .nil)))
          (.cons (Dd.lstP ((s8.trans s9) _ _ t7) (by show 2 ≤ 10; decide) (.cons (.str _ (fine_low nl0 (by omega))) (.cons iv .nil))) (.cons (Dd.lstP (s9 _ _ t8) (by show 2 ≤ 10; decide) (.cons (.str _ fz) (.cons (hod.keep (s1.trans s19)) .nil))) .nil))))))))⟩
        exact ⟨c, _, cs, rfl, f9, he8.keep (s1.trans s19), upd_same, (hid_get t9).2.2, rfl, hcs⟩
      rintro σ H9 ⟨c, bs, cs, rfl, fr9, he9, hc9, cp9, bl, hbs⟩
      -- rows[place] = one(bad)
      refine ⟨_, rfl, _, rfl, p, q, c, bs, rfl, fr9.hp, hc9, cp9, by omega, by omega, fun x H10 hx hp10 k10 => ?_⟩
      obtain ⟨fr10, s10⟩ := fr9.draw k10 hp10
      obtain ⟨dx, hdx⟩ := (hbs.keep s10).mem hx
      refine ⟨_, rfl, _, rfl, b, ys, _, m, rfl, rfl, fr10.hb, (by unfold ixN; rw [if_pos (by omega), if_pos (by omega)]; rfl), ys.set m x, es.set m dx, _, _, _, _, _, _, rfl, by rw [List.length_set]; exact yl, ?_, ?_⟩
      · exact ⟨upd_same, fr10.bp, fr10.hp.upd fr10.bp fr10.bq, keepUpd fr10.kp fr10.b0, fr10.sm.trans hid_b, fr10.b0, fr10.bq⟩
      · exact ((he9.keep s10).keep hid_b).set (hdx.keep hid_b) m
    rintro σ H5 ⟨ys, es, v3, v4, v5, v6, v7, v8, rfl, yl, fr5, he⟩
    exact ⟨_, rfl, k b es H5 (Dd.lstP (wo_at fr5.hb fr5.bp) (by omega) (he.keep hid_wo)) fr5.hp fr5.kp⟩
end
end Kx

set_option maxHeartbeats 4000000
namespace Kx
open PySem PySem.Spec PySem.Calls PyProof.Rows PySem.W
section
variable {prog : Program} {w : World} {A : Around} {E : Value → Shared → Prop} {s : Shared} {K : Frag} {x D : Addr} {ox : Obj}
theorem findObj_dataO {C : Addr} {od : Option Obj} {name : Str} {a g : Value} (hc : (clsIn K C).isSome = true) (ha : findIn K (.ref C) name = some (some a)) (hg : specialIn K a "__get__" = some (some g)) (ht : takesIn K a = some true) : findObj K C od name = some (.bind g a) := by
  obtain ⟨cd, hc⟩ := Option.isSome_iff_exists.mp hc
  unfold findObj
  rw [hc, Option.bind_some, ha, Option.bind_some]
  simp [hg, ht]
theorem kin_classO {od : Option Obj} {Q : Option Value → Shared → Prop} (hga : findIn K (.ref D) "__getattribute__" = some (some (.builtin "BaseException.__getattribute__"))) (hgt : findIn K (.ref D) "__getattr__" = some none) (hsub : subIn K (.ref D) (.type "BaseException") = some true)
    (hdct : hasDictIn K D = true) (ha : findIn K (.ref D) "__class__" = some (some (.builtin "object.__class__")))
    (hn : specialIn K (.builtin "object.__class__") "__get__" = some (some (.builtin "getset_descriptor.__get__"))) (htk : takesIn K (.builtin "object.__class__") = some true) (hm : mroIn K D (.type "object") = some true)
    (X : K.In s.heap) (I : InstAt s.heap x ox D od) (h : Q (some (.ref D)) { s with toks := s.toks + 1 }) : wpAny (model prog w) A (getAttr? (.ref x) "__class__") Q E s := by
  have hf : findObj K D od "__class__" = some (.bind (.builtin "getset_descriptor.__get__") (.builtin "object.__class__")) := findObj_dataO (by obtain ⟨cd, hc, _⟩ := any_some hdct; rw [hc]; rfl) ha hn htk
  obtain ⟨hp, g, d, t, os⟩ := s
  have L0 := I.type (M := model prog w)
  have L1 := looks_findIn (M := model prog w) X hga
  have L2 := looks_findIn (M := model prog w) X hgt
  have L3 := looks_find (M := model prog w) X I hf
  have sub : Looks (model prog w) hp (isInstance (.ref x) (.type "BaseException")) true := L0.andThen (looks_subIn X hsub)
  have hx0 : (false && onTheHeap (Value.builtin "BaseException.__getattribute__")) = false := rfl
  have hx2 : (Value.builtin "BaseException.__getattribute__" == Value.builtin "object.__getattribute__") = false := by decide +kernel
  have hx1 : (onTheHeap (Value.ref D) && Value.builtin "BaseException.__getattribute__" == Value.builtin "object.__getattribute__") = false := by rw [hx2]; rfl
  unfold getAttr? getAttrBy? getAttrBy
  refine wpAny_bind (wpAny_mkText (wpAny_bind (wpAny_attempt (wpAny_holding (wpAny_bind (L0.at (wpAny_bind (L1.at ?_))))))))
  show wpAny _ _ (if (onTheHeap (Value.ref D) && Value.builtin "BaseException.__getattribute__" == Value.builtin "object.__getattribute__") = true then _ else _) _ _ _
  rw [hx1, if_neg Bool.false_ne_true]
  unfold getAttrByItsOwn hookBefore
  refine wpAny_bind ?_
  rw [if_pos (show onTheHeap (Value.ref D) = true from rfl)]
  refine L2.at ?_
  refine wpAny_bind (wpAny_attempt (wpAny_holding ?_))
  unfold callGetattribute
  rw [hx0, if_neg Bool.false_ne_true]
  unfold boundAndCalled
  rw [PySem.F.excAttr_ValueError.ga.bind (.ref x)]
  refine wpAny_bind (wpAny_pure ?_)
  show wpAny _ _ (call (.builtin "BaseException.__getattribute__") [.ref x, .str "__class__" t]) _ _ _
  refine wpAny_call (codeAny_call_builtin PySem.F.excAttr_ValueError.ga.plain PySem.F.entry_bexc_ga ?_)
  refine @check_slot (model prog w) _ _ ⟨hp, g, d, t + 1, os⟩ "BaseException.__getattribute__" "BaseException" "__getattribute__" (.ref x) [.str "__class__" t] [] _ (by decide +kernel) (by decide +kernel) sub (PySem.F.args_bexc_ga (.ref x) (.str "__class__" t)) ?_
  unfold Builtin.«object.__getattribute__»
  refine wpAny_bind (wpAny_of_eq (a := ((Value.ref x : Value), [Value.str "__class__" t])) (by first | rfl | (simp only [slotArgs]; rfl)) ?_)
  refine wpAny_bind (wpAny_pure (wpAny_bind (L0.at (wpAny_bind (L3.at ?_)))))
  show wpAny _ _ (holding [Value.builtin "object.__class__"] (call (.builtin "getset_descriptor.__get__") [.builtin "object.__class__", .ref x, .ref D]) >>= ret) _ _ _
  refine wpAny_bind (wpAny_holding (wpAny_call (class_get (s := ⟨hp, g, d, t + 1, os⟩) (ox := ox) (od := od) X I hm ?_)))
  refine wpAny_pure ?_
  show wpAny _ _ (handedOut (.ref D)) _ _ _
  rw [handedOut_of (v := .ref D) rfl]
  first
    | exact wpAny_pure (wpAny_pure h)
    | exact wpAny_pure h
    | exact wpAny_pure (wpAny_bind (wpAny_pure (wpAny_pure h)))
theorem kitx_excO {od : Option Obj} (hga : findIn K (.ref D) "__getattribute__" = some (some (.builtin "BaseException.__getattribute__"))) (hgt : findIn K (.ref D) "__getattr__" = some none) (hsub : subIn K (.ref D) (.type "BaseException") = some true) (hdct : hasDictIn K D = true) (ha : findIn K (.ref D) "__class__" = some (some (.builtin "object.__class__")))
    (hn : specialIn K (.builtin "object.__class__") "__get__" = some (some (.builtin "getset_descriptor.__get__"))) (htk : takesIn K (.builtin "object.__class__") = some true) (hm : mroIn K D (.type "object") = some true) :
    KitX K (.ref x) (.ref D) (fun h => InstAt h x ox D od) where
  ty := fun _ _ _ I => I.type
  it := fun _ _ X _ => by
    obtain ⟨cdD, hcD, _⟩ := any_some hdct
    unfold clsIn at hcD
    split at hcD
    · rename_i c' d' cd' sl' ho
      intro A' Q' E' s' k q
      unfold isType loadHead
      exact wpAny_bind (wpAny_loadPart (k _ _ (X _ _ ho)) (wpAny_pure q))
    · cases hcD
  ne := fun h tp dd its n sl X htp => by
    obtain ⟨cdD, hcD, _⟩ := any_some hdct
    refine Bool.eq_false_iff.mpr fun q => ?_
    have e : D = tp := Value.ref.inj (beq_iff_eq.mp q)
    subst e
    unfold clsIn at hcD
    split at hcD
    · rename_i c' d' cd' sl' ho
      have z := (X _ _ ho).symm.trans htp
      cases z
    · cases hcD
  ca := fun X I k => kin_classO hga hgt hsub hdct ha hn htk hm X I k
end
end Kx
namespace Kx
open PySem PySem.Spec PyProof.Rows L2
/-- isinstance(e, c), e a caught error that has fields -/
def rIsEd (K : PySem.W.Frag) (a : Addr) (cls : Value) (d : Option Addr) (D : Addr) : List V → Hp → VK → Prop := fun xs H Q => cls = .ref D ∧ (d = none ∨ ∃ (dd : Addr) (fs : List (Str × V)), d = some dd ∧ H dd = some (.xd fs)) ∧ rIsE K D a xs H Q
theorem call_isEd {X : Cx} {K : PySem.W.Frag} {a D : Addr} {oe : Obj} {cls : Value} {d : Option Addr} {pn : List (Addr × Obj)} (hK : X.K = K) (C : ExcC K D) (hz : Zc cls d oe) (hf : ∃ vs, oe.data = .fields vs) : CallR (X.suite a ((a, oe) :: pn)) (.builtin "isinstance") (rIsEd K a cls d D) := by
  subst hK
  intro pins s σ H xs us Q I r h
  obtain ⟨hcl, hd, c, cv, b, rfl, hcv, e, q⟩ := h
  subst hcl
  cases r with
  | cons rx rr =>
    cases rr with
    | cons rt rr =>
      cases rr
      cases rx
      have ec := hcv _ rt
      subst ec
      obtain ⟨hget, _⟩ := I.pin (a, oe) (List.mem_append.mpr (.inl List.mem_cons_self))
      obtain ⟨vs, hv⟩ := hf
      have J : ∃ od, PySem.W.InstAt s.heap a oe D od := by
        rcases hd with hd | ⟨dd, fs, hd, he⟩
        · subst hd
          obtain ⟨oc, od, oda, osl⟩ := oe
          obtain ⟨h1, h2⟩ := hz
          dsimp only at h1 h2 hv
          subst h1 h2 hv
          exact ⟨none, hget, rfl, rfl, trivial⟩
        · subst hd
          obtain ⟨mA, hns, hr⟩ := (show ObjOk X.prog X.w H s.heap dd (.xd fs) from I.hok dd _ he)
          obtain ⟨od, ho, hl⟩ := lookIn_ns hns
          exact ⟨some od, hget, hz.1, by unfold PySem.W.notCls; rw [hv] <;> rfl, by rw [hz.2]; exact ho⟩
      obtain ⟨od, J⟩ := J
      exact PySem.W.kia_one (kitx_excO C.hg C.hk C.hs C.hd C.ha C.hn C.ht C.hm) I.kIn J e (fun z => nomatch z) fun tk => ⟨.bl b, H, I.kept (t' := tk) fun _ _ z => z, rfl, q⟩
end Kx

set_option maxHeartbeats 4000000
namespace Kx
open PySem L2
section
variable {P : Program} {w : World} {K : PySem.W.Frag} {mg : Str → Option Value} {base : Heap}
theorem scRefused : FnScope ["_law_rows_here", "e"] ["_law_rows_here"] (defScope sLRefused) := ⟨rfl, rfl, rfl, by decide +kernel, rfl, by decide +kernel, by decide +kernel⟩
theorem ok_refused {f C CB CS gI : Addr} {fd fdI : FuncData} (F : Fun K "_law_refused" "_law_refused" sLRefused f fd) (m : mg "_law_refused" = some (.ref f)) (B : Bm mg) (MK : Mk K C gI) (G : FnOk P w K mg base (L2.CX P w) 3 gI fdI ["self", "rows"] (spKinds K C CB)) (bK : Binds K fdI ["self", "rows"] []) (mK : mg "Kinds" = some (.ref C))
    (mB : mg "BadKinds" = some (.ref CB)) (mS : mg "SearchError" = some (.ref CS)) (XB : XfC K CB) (EB : ExcC K CB) (n1 : PySem.W.findIn K (.ref CB) "index" = some none) (n2 : PySem.W.findIn K (.ref CB) "what" = some none) (tB : PySem.W.exmOne K (.ref CB) (.ref CB) = some true) (kS : PySem.W.kitOne K (.ref CB) (.ref CS) = some true) :
    HasF P w K mg base "_law_refused" 5 ["_law_rows_here"] spLDue := by
  refine ⟨f, fd, ?_, m, F.kp, F.binds fun _ _ _ _ _ _ us hl => match us, hl with | [_], _ => rfl⟩
  refine F.ok scRefused (fun vs H Q E h => ?_) (fun cdv A outer s H vs Q E hr h => ?_)
  · obtain ⟨a, b, rfl, _⟩ := h
    rfl
  · obtain ⟨y, r, rfl, hy, k⟩ := h
    refine ⟨_, (pss_cons (ps_try_as (i := 1) (Wout := fun _ _ _ _ => False) rfl rfl scRefused.nd rfl rfl ⟨rfl, by decide, .inl mB⟩ takes0
        (fun W pn xe tk _ => pss_one (ps_expr (pe_makeS MK G hr (by rfl) mK bK (fun σ => passAt tk σ) (pa_cons (pv 0) pa_nil))))
        (fun a oe cls d pn hz hf => pss_one (ps_ret (pe_ifExp (pt_val (pe_callB (call_isEd (K := K) (D := CB) rfl EB hz hf) (by rfl) B.isinstance (by decide +kernel) (pa_cons (pv 1) (pa_cons (pe_glob (v := .ref CS) rfl mS rfl) pa_nil)))) (pe_tup (pa_cons (pe_xf XB n1 hz hf (pv 1)) (pa_cons (pe_xf XB n2 hz hf (pv 1)) pa_nil))) pe_non))))
    (pss_one (ps_ret pe_non))), ?_⟩
    refine ⟨_, rfl, fun x dx hx hdx ne => ?_⟩
    have s0 : Same H (upd (upd H dx (.own x)) x (.ins C dx [])) := (sameUpd (Same.refl _) hdx).trans (sameUpd (Same.refl _) (by rw [upd_ne ne.symm]; exact hx))
    have yn : ∀ a, H a = none → y ≠ .ref a := fun a ha e => by
      obtain ⟨n, kd, _⟩ := hy.kd
      subst e
      cases kd with
      | lst _ xs h => rw [h] at ha; cases ha
      | tup _ xs h => rw [h] at ha; cases ha
      | dct _ xs h => rw [h] at ha; cases ha
    refine ⟨x, dx, y, r, rfl, upd_same, hy.keep s0, yn x hx, yn dx hdx, ?_⟩
    cases e : rowsDue r with
    | none =>
      rw [e] at k
      refine fun rs H' er kp ka => ⟨rfl, ?_⟩
      exact k H' fun b o hb => kp b o (s0 b o hb) (ne_of_none hb hx)
    | some iw =>
      obtain ⟨i, w'⟩ := iw
      rw [e] at k
      refine fun d H' hd s1 ed => ⟨true, tB, fun _ a ha => ?_, fun q => nomatch q⟩
      refine ⟨_, rfl, rfl, .inr ⟨d, _, rfl, ed⟩, .ref CS, .ref CS, true, rfl, fun u e => e, kS, _, rfl, iteT ?_⟩
      refine ⟨_, rfl, rfl, rfl, d, _, .int (i : Nat), rfl, ed, rfl, _, rfl, rfl, rfl, d, _, .str w', rfl, ed, rfl, (by show 2 ≤ sizeLine; decide), fun t ht => ?_⟩
      have s2 : Same H H' := s0.trans s1
      exact k t _ (sameUpd s2 ht) (s2.free ht) upd_same
end
end Kx

set_option maxHeartbeats 4000000
namespace Kx
open PySem L2
def spLAr (C : Addr) : Sp := fun vs H Q _ => ∃ (p : Addr) (x : V) (n : String) (ks : List (Str × Int)), vs = [.ref p, x] ∧ KindsAt C H p (vv ks) ∧ Kd H x n ∧
  match kAr ks x with
  | some v => ∀ t H', Same H H' → H t = none → H' t = some (.tup [v]) → Q (.ref t) H'
  | none => ∀ t H', Same H H' → H t = none → H' t = some (.lst [.str "none", x]) → Q (.ref t) H'
section
variable {P : Program} {w : World} {K : PySem.W.Frag} {mg : Str → Option Value} {base : Heap}
theorem scLAr : FnScope ["_law_kinds_here", "_law_name", "e"] ["_law_kinds_here", "_law_name"] (defScope sLArityOf) := ⟨rfl, rfl, rfl, by decide +kernel, rfl, by decide +kernel, by decide +kernel⟩
theorem ok_lar {f C CN gA : Addr} {fd fdA : FuncData} (F : Fun K "_law_arity_of" "_law_arity_of" sLArityOf f fd) (m : mg "_law_arity_of" = some (.ref f)) (KX : KC K C) (MA : Meth K C "arity_of" gA) (G : FnOk P w K mg base (L2.CX P w) 3 gA fdA ["self", "name"] (spKAr C CN)) (bA : Binds K fdA ["self", "name"] [])
    (mN : mg "NoKind" = some (.ref CN)) (XN : XfC K CN) (n1 : PySem.W.findIn K (.ref CN) "name" = some none) (tN : PySem.W.exmOne K (.ref CN) (.ref CN) = some true) :
    HasF P w K mg base "_law_arity_of" 5 ["_law_kinds_here", "_law_name"] (spLAr C) := by
  refine ⟨f, fd, ?_, m, F.kp, F.binds fun _ _ _ _ _ _ us hl => match us, hl with | [_, _], _ => rfl⟩
  refine F.ok scLAr (fun vs H Q E h => ?_) (fun cdv A outer s H vs Q E hr h => ?_)
  · obtain ⟨a, b, c, d, rfl, _⟩ := h
    rfl
  · obtain ⟨p, x, n, ks, rfl, hk, kd', k⟩ := h
    have hr3 : Room 3 _ := hr.mono (by decide)
    refine ⟨_, pss_one (ps_try_as (i := 2) (Wout := fun _ _ _ _ => False) rfl rfl scLAr.nd rfl rfl ⟨rfl, by decide, .inl mN⟩ takes0
        (fun W pn xe tk _ => pss_one (ps_ret (pe_tup (pa_cons (pe_methW (pv 0) KX.cl MA G hr3 bA (fun σ => passAt tk σ) (pa_cons (pv 1) pa_nil)) pa_nil))))
        (fun a oe cls d pn hz hf => pss_one (ps_ret (pe_lst (pa_cons pe_str (pa_cons (pe_xf XN n1 hz hf (pv 2)) pa_nil)))))), ?_⟩
    obtain ⟨dx, fs, r, n', d, ts, h1, h2, h3, h4, h5, h6, h7, h8, h9, h10, _⟩ := hk.get (K := K)
    refine ⟨_, rfl, p, dx, fs, rfl, h1, h5 _ (by decide +kernel) (by decide +kernel) (by decide +kernel), _, rfl, p, x, n, ks, rfl, hk, kd', ?_⟩
    cases e : kAr ks x with
    | some v =>
      rw [e] at k
      exact ⟨(by show 1 ≤ sizeLine; decide), fun t ht => k t _ (sameUpd (Same.refl _) ht) ht upd_same⟩
    | none =>
      rw [e] at k
      refine fun d' H' hd s1 ed => ⟨true, tN, fun _ a ha => ?_, fun q => nomatch q⟩
      refine ⟨_, rfl, rfl, rfl, d', _, x, rfl, ed, rfl, (by show 2 ≤ sizeLine; decide), fun t ht => ?_⟩
      exact k t _ (sameUpd s1 ht) (s1.free ht) upd_same
end
end Kx

set_option maxHeartbeats 4000000
namespace Kx
open PySem PySem.Spec PyProof.Rows L2
/-! two lists of whatever things: of other lengths, or with the very same things at each place -/
theorem eqV_self : ∀ x : V, flatV x = true → eqV x x = true
  | .non, _ => rfl
  | .bl b, _ => by simp [eqV]
  | .int i, _ => by simp [eqV]
  | .str z, _ => by simp [eqV]
section
variable {X : Cx}
def rNeL (K : PySem.W.Frag) : R2 := fun x y H Q => ∃ a b xs ys, x = .ref a ∧ y = .ref b ∧ SqL K H a xs ∧ SqL K H b ys ∧ ((xs.length ≠ ys.length ∧ Q (.bl true) H) ∨ (xs = ys ∧ (∀ z ∈ xs, flatV z = true ∨ ∃ c, z = .ref c) ∧ Q (.bl false) H))
theorem op_neL (hu : X.A.units + 64 < cLine) : OpR X (compareOp .NotEq) (rNeL X.K) := by
  intro pins s σ H x y v u Q I rx ry h
  obtain ⟨a, b, xs, ys, rfl, rfl, ha, hb, h⟩ := h
  obtain rfl : v = Value.ref a := rx
  obtain rfl : u = Value.ref b := ry
  obtain ⟨its, rv, pl, hz⟩ := I.list ha
  obtain ⟨ius, ru, pu, hw⟩ := I.list hb
  have l1 := rv.length
  have l2 := ru.length
  rcases h with ⟨ne, q⟩ | ⟨rfl, fl, q⟩
  · exact SeqAt.RcNeAt.lists_lengths pl.isList pu.isList (by simp only [List.size_toArray, bne_iff_ne, ne_eq]; omega) (by omega) X.prog X.w X.xe _ ⟨.bl true, H, I, rfl, q⟩
  · have e := SeqAt.RcNeAt.lists (e := fun _ => true) (A := X.A) pl.isList pu.isList (by simp only [List.size_toArray]; omega) (by omega) fun j h1 h2 => by
      have hj : j < xs.length := by simp only [List.size_toArray] at h1; omega
      obtain ⟨v1, e1, r1⟩ := rv.get (List.getElem?_eq_getElem hj)
      obtain ⟨v2, e2, r2⟩ := ru.get (List.getElem?_eq_getElem hj)
      have g1 : its.toArray[j] = v1 := by
        have := (List.getElem?_eq_some_iff.mp e1).2
        simpa using this
      have g2 : ius.toArray[j] = v2 := by
        have := (List.getElem?_eq_some_iff.mp e2).2
        simpa using this
      rw [g1, g2]
      rcases fl xs[j] (List.getElem_mem hj) with f | ⟨c, ec⟩
      · have z := eqAt_V (A := X.A.in1) (s := s) r1 r2 f f
        rw [eqV_self _ f] at z
        exact z
      · rw [ec] at r1 r2
        obtain rfl : v1 = Value.ref c := r1
        obtain rfl : v2 = Value.ref c := r2
        exact SeqAt.EqAt.same _
    refine e X.prog X.w X.xe _ ⟨.bl false, H, I, ?_, q⟩
    show Value.bool _ = Value.bool false
    simp
end
end Kx

set_option maxHeartbeats 4000000
namespace Kx
open PySem L2
def spLDeed : Sp := fun vs H Q _ => ∃ (b : Addr) (ks : List (Str × Int)) (y : V) (r : Option (List V)), vs = [.ref b, y] ∧ GoodL H b ks ∧ GoodK ks ∧ DeedIs H y r ∧ ∀ H', Same H H' → Q (wordV (deedWord ks r)) H'
theorem kNum_step {ks : List (Str × Int)} {i : Nat} {q : Str × Int} (nd : (ks.map (·.1)).Nodup) (e : ks[i]? = some q) (z : Str) : kNum (ks.take (i + 1)) (.str z) = if q.1 = z then some q.2 else kNum (ks.take i) (.str z) := by
  show ((ks.take (i + 1)).find? fun r => decide (r.1 = z)).map (·.2) = _
  rw [take_succ_of e, List.find?_append]
  by_cases h : q.1 = z
  · rw [if_pos h]
    have none : (ks.take i).find? (fun r => decide (r.1 = z)) = none := by
      rw [List.find?_eq_none]
      intro r hr hz
      have hz : r.1 = z := of_decide_eq_true hz
      obtain ⟨j, hj⟩ := List.mem_iff_getElem?.mp hr
      have lt : j < i := by
        have := (List.getElem?_eq_some_iff.mp hj).1
        rw [List.length_take] at this
        omega
      rw [List.getElem?_take_of_lt lt] at hj
      have a : (ks.map (·.1))[j]? = some z := by rw [List.getElem?_map, hj, ← hz]; rfl
      have b : (ks.map (·.1))[i]? = some z := by rw [List.getElem?_map, e, ← h]; rfl
      have := (List.getElem?_inj (by have := (List.getElem?_eq_some_iff.mp a).1; exact this) nd).mp (a.trans b.symm)
      omega
    rw [none, List.find?_cons_of_pos (by simpa using h)]
    rfl
  · rw [if_neg h, List.find?_cons_of_neg (by simpa using h), List.find?_nil, Option.or_none]
    rfl
theorem few_filt {xs : List V} (i : Nat) (h : xs.length ≤ 1000) : ((xs.take i).filter fun z => !labV z).length ≤ 1000 := by
  have h1 := List.length_filter_le (fun z => !labV z) (xs.take i)
  have h2 : (xs.take i).length ≤ xs.length := by
    rw [List.length_take]
    omega
  omega
theorem filt_all (xs : List V) : (xs.filter fun z => !labV z).length = 0 ↔ xs.all labV = true := by
  rw [List.length_eq_zero_iff, List.filter_eq_nil_iff, List.all_eq_true]
  constructor
  · intro h z hz
    have := h z hz
    simpa using this
  · intro h z hz
    simp [h z hz]
section
variable {P : Program} {w : World} {K : PySem.W.Frag} {mg : Str → Option Value} {base : Heap}
abbrev nLDeed : List Str := ["_law_rows_here", "_law_deed", "_law_many", "_law_row", "_law_person"]
theorem scLDeed : FnScope nLDeed ["_law_rows_here", "_law_deed"] (defScope sLDeedDue) := ⟨rfl, rfl, rfl, by decide +kernel, rfl, by decide +kernel, by decide +kernel⟩
theorem ok_ldeed {f : Addr} {fd : FuncData} (F : Fun K "_law_deed_due" "_law_deed_due" sLDeedDue f fd) (m : mg "_law_deed_due" = some (.ref f)) (T : Bl mg) (B : Bm mg) (L : HasF P w K mg base "_law_label" 1 ["_law_thing"] spLLab) : HasF P w K mg base "_law_deed_due" 2 ["_law_rows_here", "_law_deed"] spLDeed := by
  refine ⟨f, fd, ?_, m, F.kp, F.binds fun _ _ _ _ _ _ us hl => match us, hl with | [_, _], _ => rfl⟩
  obtain ⟨f1, fd1, L⟩ := L
  refine F.ok scLDeed (fun vs H Q E h => ?_) (fun cdv A outer s H vs Q E hr h => ?_)
  · obtain ⟨a, b, c, d, rfl, _⟩ := h
    rfl
  · obtain ⟨b, ks, y, r, rfl, hb, gk, hy, k⟩ := h
    refine ⟨_, (C8.pss_cut (ps_if (PW.pt (pw_or (pt_not (pt_val (pe_callB call_isiT (by rfl) B.isinstance (by decide +kernel) (pa_cons (pv 1) (pa_cons (pe_tup (pa_cons (pe_bltn (v := .ty "list") (by rfl) B.list (by decide +kernel) rfl) (pa_cons (pe_bltn (v := .ty "tuple") (by rfl) B.tuple (by decide +kernel) rfl) pa_nil))) pa_nil))))) (pw_or1 (pt_cmpR op_eq (pe_callB call_len_seq (by rfl) T.len PySem.boot_len (pa_cons (pv 1) pa_nil)) pe_int (nomark _))))) (pss_one (ps_ret pe_str)) pss_nil)
    (pss_cons (ps_set (i := 2) scLDeed.nd rfl (Or.inl rfl) (pe_un un_neg pe_int))
    (C8.pss_cut (ps_for PassesOwn.never rfl (pi_list (pv 0)) (pg_name (i := 3) scLDeed.nd rfl (Or.inl rfl))
        (pss_one (ps_if (PW.pt (pw_and (pt_val (pe_callB call_isi (by rfl) B.isinstance (by decide +kernel) (pa_cons (pe_ix ix_seq (pv 1) pe_int (fun _ _ => rfl)) (pa_cons (pe_bltn (v := .ty "str") (by rfl) B.str (by decide +kernel) rfl) pa_nil)))) (pw_and1 (pt_cmpR op_eq (pe_ix ix_seq (pv 3) pe_int (fun _ _ => rfl)) (pe_ix ix_seq (pv 1) pe_int (fun _ _ => rfl)) (nomark _))))) (pss_one (ps_set (i := 2) scLDeed.nd rfl (Or.inl rfl) (pe_ix ix_seq (pv 3) pe_int (fun _ _ => rfl)))) pss_nil)))
    (pss_cons (ps_if (pt_cmpR op_lt (pv 2) pe_int (nomark _)) (pss_one (ps_ret pe_str)) pss_nil)
    (pss_cons (ps_if (pt_cmpR op_ne (pe_callB call_len_seq (by rfl) T.len PySem.boot_len (pa_cons (pv 1) pa_nil)) (pe_op op_add (pv 2) pe_int) (nomark _)) (pss_one (ps_ret pe_str)) pss_nil)
    (pss_cons (ps_if (pt_cmpR (op_neL hr.units) (pe_lc (own := [("_law_person", 4)]) (g := gName 4) (by rfl) scLDeed.nd (pi_or (pi_list (pe_slice sl_list (pv 1) (po_some pe_int) po_none)) (pi_tup (pe_slice sl_tup (pv 1) (po_some pe_int) po_none))) (blkOk_by (own := [("_law_person", 4)]) (N := nLDeed) (sc := defScope sLDeedDue) (by decide +kernel))
          (fun _ _ _ _ _ => pg_name (i := 4) scLDeed.nd rfl (Or.inl rfl)) (fun _ _ _ _ _ => pts_one (pt_not (pt_val (pe_call L.G hr (by rfl) L.m L.kp L.b .nil pass0 (pa_cons (pv 4) pa_nil))))) (fun _ _ _ _ _ => (pv 4))) (pe_lst pa_nil) (nomark _)) (pss_one (ps_ret pe_str)) pss_nil)
    (pss_one (ps_ret pe_non)))))))), ?_⟩
    obtain ⟨xs0, hx0, it0⟩ := hb
    refine ⟨fun σ H1 => ∃ (b' : Addr) (x : V) (xs : List V), y = .ref b' ∧ r = some (x :: xs) ∧ σ = [some (.ref b), some (.ref b'), none, none, none] ∧ Same H H1 ∧ (H1 b' = some (.lst (x :: xs)) ∨ H1 b' = some (.tup (x :: xs))) ∧ (∀ z ∈ x :: xs, ∃ n, Thing H1 z n) ∧ xs.length ≤ 100, ?_, ?_⟩
    · obtain ⟨n, kd', kn⟩ := hy.kd
      refine ⟨_, rfl, by decide, fun t0 ht0 => ?_⟩
      have s1 : Same H (upd H t0 (.tup [.ty "list", .ty "tuple"])) := sameUpd (Same.refl _) ht0
      refine ⟨y, t0, _, _, _, _, rfl, upd_same, .cons (.ty _) (.cons (.ty _) .nil), (kd'.keep s1).ty, kit_seq kd'.kits, _, rfl, ?_⟩
      have hy1 := hy.keep s1
      cases e1 : seqV n with
      | false => exact iteT (by have e := kn e1; subst e; exact k _ s1)
      | true =>
        refine iteF ?_
        cases hy1 with
        | lst h t l =>
          rename_i b' xs
          refine ⟨_, rfl, _, _, rfl, .inl (SqL.of h), rfl, _, rfl, ?_⟩
          cases xs with
          | nil => exact iteT (k _ s1)
          | cons x xs =>
            rw [decide_eq_false (fun e => by have := V.int.inj e; simp at this; omega)]
            refine iteF ⟨b', x, xs, rfl, rfl, rfl, s1, .inl h, t, by simp at l; omega⟩
        | tup h t l =>
          rename_i b' xs
          refine ⟨_, rfl, _, _, rfl, .inr (SqT.of h), rfl, _, rfl, ?_⟩
          cases xs with
          | nil => exact iteT (k _ s1)
          | cons x xs =>
            rw [decide_eq_false (fun e => by have := V.int.inj e; simp at this; omega)]
            refine iteF ⟨b', x, xs, rfl, rfl, rfl, s1, .inr h, t, by simp at l; omega⟩
        | oth h l =>
          rw [← (kd'.keep s1).uniq h, e1] at l
          cases l
    rintro σ H1 ⟨b', x, xs, rfl, rfl, rfl, s1, hb', ht, hl⟩
    obtain ⟨nx, tx⟩ := ht x (.head _)
    have ixd : ∀ {H2 : Hp} {Q' : V → Hp → Prop}, Same H1 H2 → Q' x H2 → rIx K (.ref b') (.int 0) H2 Q' := fun s q => by
      rcases hb' with h | h
      · exact .inl ⟨_, _, _, _, rfl, rfl, SqL.of (s _ _ h), atI0 _ _, q⟩
      · exact .inr (.inl ⟨_, _, _, _, rfl, rfl, SqT.of (s _ _ h), atI0 _ _, q⟩)
    refine ⟨_, rfl, ?_⟩
    -- the kind
    refine ⟨fun σ H2 => ∃ v, σ = [some (.ref b), some (.ref b'), some (.int ((kNum ks x).getD (-1))), v, none] ∧ Same H1 H2, ?_, ?_⟩
    · refine ⟨_, rfl, b, rfl, ⟨_, SqL.of (s1 _ _ hx0)⟩, for_list (K := K) (a := b) (xs := xs0) (fun i σ H2 => ∃ v, σ = [some (.ref b), some (.ref b'), some (.int ((kNum (ks.take i) x).getD (-1))), v, none] ∧ Same H1 H2)
        ⟨none, by cases x <;> rfl, Same.refl _⟩ (fun i σ H2 _ ⟨_, _, s2⟩ => SqL.of (s2 _ _ (s1 _ _ hx0))) ?_ ?_⟩
      · rintro i z σ H2 hi ⟨v, rfl, s2⟩
        have lti : i < ks.length := by have := (List.getElem?_eq_some_iff.mp hi).1; have := it0.1; omega
        have hq : ks[i]? = some ks[i] := List.getElem?_eq_getElem lti
        obtain ⟨t, rfl, hpt⟩ := ((it0.keep s1).keep s2).2 i z _ hi hq
        have ixp : ∀ {j : Int} {v : V} {Q' : V → Hp → Prop}, atI [V.str ks[i].1, V.int ks[i].2] j = some v → Q' v H2 → rIx K (.ref t) (.int j) H2 Q' := fun e q => by
          rcases hpt with h | h
          · exact .inl ⟨_, _, _, _, rfl, rfl, SqL.of h, e, q⟩
          · exact .inr (.inl ⟨_, _, _, _, rfl, rfl, SqT.of h, e, q⟩)
        refine ⟨_, rfl, ixd s2 ⟨x, _, _, _, _, rfl, .ty _, (tx.keep s2).kd.ty, kit_ty (kit_str tx.kd.kits), _, rfl, ?_⟩⟩
        have same : (∀ w, x ≠ .str w) → kNum (ks.take (i + 1)) x = kNum (ks.take i) x := fun h => by
          cases x with
          | str w => exact absurd rfl (h w)
          | _ => rfl
        obtain ⟨kx, fx⟩ := tx
        cases kx with
        | str w =>
          refine iteT ⟨_, rfl, ixp rfl ⟨_, rfl, ixd s2 ⟨rfl, _, rfl, ?_⟩⟩⟩
          rw [kNum_step gk.nd hq w]
          refine ite2 (fun h1 => ?_) (fun h1 => ?_)
          · have e : ks[i].1 = w := V.str.inj (of_decide_eq_true h1)
            rw [if_pos e]
            exact ⟨_, rfl, ixp rfl ⟨_, rfl, s2⟩⟩
          · have e : ¬ ks[i].1 = w := fun e => h1 (decide_eq_true (congrArg V.str e))
            rw [if_neg e]
            exact ⟨_, rfl, s2⟩
        | non => rw [same (fun w e => nomatch e)]; exact iteF ⟨_, rfl, s2⟩
        | bl b0 => rw [same (fun w e => nomatch e)]; exact iteF ⟨_, rfl, s2⟩
        | int b0 => rw [same (fun w e => nomatch e)]; exact iteF ⟨_, rfl, s2⟩
        | lst a0 l0 h0 => rw [same (fun w e => nomatch e)]; exact iteF ⟨_, rfl, s2⟩
        | tup a0 l0 h0 => rw [same (fun w e => nomatch e)]; exact iteF ⟨_, rfl, s2⟩
        | dct a0 l0 h0 => rw [same (fun w e => nomatch e)]; exact iteF ⟨_, rfl, s2⟩
      · rintro σ H2 ⟨v, rfl, s2⟩
        rw [it0.1, List.take_length]
        exact ⟨v, rfl, s2⟩
    rintro σ H2 ⟨v, rfl, s2⟩
    refine ⟨_, rfl, _, _, rfl, rfl, _, rfl, ?_⟩
    cases e1 : kNum ks x with
    | none =>
      refine iteT ?_
      have q := k _ (s1.trans s2)
      rw [show deedWord ks (some (x :: xs)) = some (Str.ofString "kind") by show (match kNum ks x with | none => _ | some k => _) = _; rw [e1]] at q
      exact q
    | some m =>
      have word : deedWord ks (some (x :: xs)) = if ((xs.length : Nat) : Int) = m then (if xs.all labV then none else some (Str.ofString "person")) else some (Str.ofString "arity") := by
        show (match kNum ks x with | none => _ | some k => _) = _
        rw [e1]
      rw [word] at k
      have m0 : 0 ≤ m := by
        cases x with
        | str z =>
          have e1 : (ks.find? fun q => decide (q.1 = z)).map (·.2) = some m := e1
          cases e3 : ks.find? fun q => decide (q.1 = z) with
          | none => rw [e3] at e1; cases e1
          | some q =>
            rw [e3] at e1
            have e4 : q.2 = m := Option.some.inj e1
            rw [← e4]
            exact (gk.each q (List.mem_of_find?_eq_some e3)).2.2.1
        | _ => cases e1
      rw [show decide (((some m).getD (-1) : Int) < 0) = false from decide_eq_false (by show ¬ m < 0; omega)]
      refine iteF ⟨_, rfl, b', x :: xs, rfl, hb'.imp (fun h => SqL.of (s2 _ _ h)) (fun h => SqT.of (s2 _ _ h)), _, rfl, _, _, rfl, rfl, rfl, _, rfl, ?_⟩
      have eqn : (V.int (((x :: xs).length : Nat) : Int) = V.int (m + 1)) ↔ ((xs.length : Nat) : Int) = m := by
        constructor
        · intro e
          have := V.int.inj e
          simp at this
          omega
        · intro e
          simp
          omega
      refine ite2 (fun q1 => ?_) (fun q1 => ?_)
      · have n1 : ¬ ((xs.length : Nat) : Int) = m := fun e => by
          have z : decide (V.int (((x :: xs).length : Nat) : Int) = V.int (((some m).getD (-1) : Int) + 1)) = true := decide_eq_true (eqn.mpr e)
          rw [z] at q1
          cases q1
        have q := k _ (s1.trans s2)
        rw [if_neg n1] at q
        exact q
      have e3 : ((xs.length : Nat) : Int) = m := by
        by_cases e : ((xs.length : Nat) : Int) = m
        · exact e
        · have z : decide (V.int (((x :: xs).length : Nat) : Int) = V.int (((some m).getD (-1) : Int) + 1)) = false := decide_eq_false (fun h => e (eqn.mp h))
          rw [z] at q1
          exact absurd rfl q1
      rw [if_pos e3] at k
      rcases hb' with hb' | hb'
      · refine .inl ⟨_, rfl, _, rfl, b', _, rfl, SqL.of (s2 _ _ hb'), fun q hq => ⟨q, rfl, ⟨_, SqL.of upd_same⟩, fun D hD => lc_list (K := K) (a := q) (xs := cutV (x :: xs) (some 1) none) (fun i H3 => Same (upd H2 q (.lst (cutV (x :: xs) (some 1) none))) H3 ∧ H3 D = some (.lst ((xs.take i).filter fun z => !labV z)))
          ⟨sameUpd (Same.refl _) hD, upd_same⟩ (fun i H3 _ w => SqL.of (w.1 _ _ upd_same)) ?_ ?_⟩⟩
        · rintro i z H3 hi ⟨s3, hDs⟩
          rw [cut1] at hi
          have s4 : Same H1 H3 := (s2.trans (sameUpd (Same.refl _) hq)).trans s3
          obtain ⟨n, tz⟩ := ht z (.tail _ (List.mem_of_getElem? hi))
          refine ⟨rfl, _, rfl, z, n, rfl, (tz.keep s4).kd, tz.fine, fun H4 s5 => ⟨_, rfl, ?_⟩⟩
          have tk : (xs.take (i + 1)).filter (fun z => !labV z) = (xs.take i).filter (fun z => !labV z) ++ (if labV z then [] else [z]) := by
            rw [take_succ_of hi, List.filter_append]
            cases q : labV z <;> simp [q]
          rw [tk]
          cases e5 : labV z with
          | true =>
            refine iteF ⟨s3.trans s5, ?_⟩
            simpa using s5 _ _ hDs
          | false =>
            refine iteT ⟨_, rfl, (xs.take i).filter fun z => !labV z, s5 _ _ hDs, small1000 (few_filt i (by omega)), fun c o ec => ?_, upd_same⟩
            rw [upd_ne (ne_of_none ec hD)]
            exact (s3.trans s5) c o ec
        · rintro H3 ⟨s3, hDs⟩
          rw [cut1, List.take_length] at hDs
          refine ⟨Nat.zero_le _, fun e he => ⟨D, e, _, [], rfl, rfl, SqL.of (by rw [upd_ne (ne_of_none hDs he)]; exact hDs), SqL.of upd_same, ?_⟩⟩
          have s4 : Same H (upd H3 e (.lst [])) := sameUpd ((s1.trans ((s2.trans (sameUpd (Same.refl _) hq)).trans s3))) he
          by_cases all : xs.all labV = true
          · have nil := List.length_eq_zero_iff.mp ((filt_all xs).mpr all)
            refine .inr ⟨nil, (fun z hz => by rw [nil] at hz; cases hz), _, rfl, iteF ?_⟩
            have q := k _ s4
            rw [if_pos all] at q
            exact q
          · refine .inl ⟨fun e => all ((filt_all xs).mp e), _, rfl, iteT ?_⟩
            have q := k _ s4
            rw [if_neg all] at q
            exact q
      · refine .inr ⟨_, rfl, _, rfl, b', _, rfl, SqT.of (s2 _ _ hb'), whole x xs, fun q hq => ⟨q, rfl, ⟨_, SqT.of upd_same⟩, fun D hD => lc_tup (K := K) (a := q) (xs := cutV (x :: xs) (some 1) none) (fun i H3 => Same (upd H2 q (.tup (cutV (x :: xs) (some 1) none))) H3 ∧ H3 D = some (.lst ((xs.take i).filter fun z => !labV z)))
          ⟨sameUpd (Same.refl _) hD, upd_same⟩ (fun i H3 _ w => SqT.of (w.1 _ _ upd_same)) ?_ ?_⟩⟩
        · rintro i z H3 hi ⟨s3, hDs⟩
          rw [cut1] at hi
          have s4 : Same H1 H3 := (s2.trans (sameUpd (Same.refl _) hq)).trans s3
          obtain ⟨n, tz⟩ := ht z (.tail _ (List.mem_of_getElem? hi))
          refine ⟨rfl, _, rfl, z, n, rfl, (tz.keep s4).kd, tz.fine, fun H4 s5 => ⟨_, rfl, ?_⟩⟩
          have tk : (xs.take (i + 1)).filter (fun z => !labV z) = (xs.take i).filter (fun z => !labV z) ++ (if labV z then [] else [z]) := by
            rw [take_succ_of hi, List.filter_append]
            cases q : labV z <;> simp [q]
          rw [tk]
          cases e5 : labV z with
          | true =>
            refine iteF ⟨s3.trans s5, ?_⟩
            simpa using s5 _ _ hDs
          | false =>
            refine iteT ⟨_, rfl, (xs.take i).filter fun z => !labV z, s5 _ _ hDs, small1000 (few_filt i (by omega)), fun c o ec => ?_, upd_same⟩
            rw [upd_ne (ne_of_none ec hD)]
            exact (s3.trans s5) c o ec
        · rintro H3 ⟨s3, hDs⟩
          rw [cut1, List.take_length] at hDs
          refine ⟨Nat.zero_le _, fun e he => ⟨D, e, _, [], rfl, rfl, SqL.of (by rw [upd_ne (ne_of_none hDs he)]; exact hDs), SqL.of upd_same, ?_⟩⟩
          have s4 : Same H (upd H3 e (.lst [])) := sameUpd ((s1.trans ((s2.trans (sameUpd (Same.refl _) hq)).trans s3))) he
          by_cases all : xs.all labV = true
          · have nil := List.length_eq_zero_iff.mp ((filt_all xs).mpr all)
            refine .inr ⟨nil, (fun z hz => by rw [nil] at hz; cases hz), _, rfl, iteF ?_⟩
            have q := k _ s4
            rw [if_pos all] at q
            exact q
          · refine .inl ⟨fun e => all ((filt_all xs).mp e), _, rfl, iteT ?_⟩
            have q := k _ s4
            rw [if_neg all] at q
            exact q
end
end Kx

set_option maxHeartbeats 4000000
namespace Kx
open PySem L2
def spPersons : Sp := fun vs H Q _ => ∃ p q : Addr, vs = [.ref p] ∧ HandAt H p q ∧ ∀ (b : Addr) (ys : List Str) (H' : Hp), wo p H' b = some (.lst (ys.map V.str)) → ys ≠ [] → ys.length ≤ 6 → (∀ y ∈ ys, Fine y) → HandAt H' p q → Keep H H' p → Q (.ref b) H'
def E0p : Hp := fun _ => none
theorem hid_E0 {b p : Addr} {H : Hp} : Same (hid b p E0p) H := fun c o e => by
  have z := (hid_get e).1
  cases z
theorem cut0 (xs : List V) : cutV xs none (some 0) = [] := by
  unfold cutV
  have e1 : HT.sIx xs.length xs.length (some 0) = 0 := by simp [HT.sIx]
  rw [e1]
  simp
theorem cut_sub {xs : List V} {lo hi : Option Int} {z : V} (h : z ∈ cutV xs lo hi) : z ∈ xs := List.mem_of_mem_drop (List.mem_of_mem_take h)
section
variable {P : Program} {w : World} {K : PySem.W.Frag} {mg : Str → Option Value} {base : Heap}
abbrev nPers : List Str := ["_law_hand_here", "_law_persons_here", "_law_k", "_law_word_here", "_law_person"]
theorem scPers : FnScope nPers ["_law_hand_here"] (defScope sLPersons) := ⟨rfl, rfl, rfl, by decide +kernel, rfl, by decide +kernel, by decide +kernel⟩
theorem ok_persons {f : Addr} {fd : FuncData} (F : Fun K "_law_persons" "_law_persons" sLPersons f fd) (m : mg "_law_persons" = some (.ref f)) (T : Bl mg) (D : HasF P w K mg base "_law_draw" 2 ["_law_hand_here", "_law_many"] spDraw) (W : HasF P w K mg base "_law_word" 3 ["_law_hand_here", "_law_most"] spWord) (O : HasF P w K mg base "_law_one" 3 ["_law_hand_here", "_law_rows_here"] spOne) : HasF P w K mg base "_law_persons" 4 ["_law_hand_here"] spPersons := by
  refine ⟨f, fd, ?_, m, F.kp, F.binds fun _ _ _ _ _ _ us hl => match us, hl with | [_], _ => rfl⟩
  obtain ⟨f1, fd1, D⟩ := D; obtain ⟨f2, fd2, W⟩ := W; obtain ⟨f3, fd3, O⟩ := O
  refine F.ok scPers (fun vs H Q E h => ?_) (fun cdv A outer s H vs Q E hr h => ?_)
  · obtain ⟨a, b, rfl, _⟩ := h
    rfl
  · obtain ⟨p, q, rfl, hp, k⟩ := h
    have hr2 : Room 2 _ := hr.mono (by decide)
    refine ⟨_, (pss_cons (ps_set (i := 1) scPers.nd rfl (Or.inr rfl) (pe_lst pa_nil))
    (C8.pss_cut (ps_for PassesOwn.never rfl (pi_range1 (by rfl) T.range (pa_cons (pe_op op_add pe_int (pe_call D.G hr2 (by rfl) D.m D.kp D.b .nil pass0 (pa_cons (pv 0) (pa_cons pe_int pa_nil)))) pa_nil)) (pg_name (i := 2) scPers.nd rfl (.inl rfl))
        (pss_cons (ps_set (i := 3) scPers.nd rfl (Or.inl rfl) (pe_call O.G hr (by rfl) O.m O.kp O.b .nil pass0 (pa_cons (pv 0) (pa_cons (pe_lst (pa_cons pe_str (pa_cons pe_str (pa_cons pe_str (pa_cons (pe_call W.G hr (by rfl) W.m W.kp W.b .nil pass0 (pa_cons (pv 0) (pa_cons pe_int pa_nil))) (pa_cons (pe_call W.G hr (by rfl) W.m W.kp W.b .nil pass0 (pa_cons (pv 0) (pa_cons pe_int pa_nil))) pa_nil)))))) pa_nil))))
    (pss_one (ps_expr (pe_bm PySem.F.plainAttrs_list PySem.F.slot_list_append PySem.F.type_list_append mt_append (pv 1) (pa_cons (pv 3) pa_nil))))))
    (pss_one (ps_ret (pe_lc (own := [("_law_k", 2), ("_law_person", 4)]) (g := gTup K 2 (gCons (gName 2) (gCons (gName 4) gNil))) (by rfl) scPers.nd (pi_enumB (by rfl) T.enumerate (pa_cons (pv 1) pa_nil)) (blkOk_by (own := [("_law_k", 2), ("_law_person", 4)]) (N := nPers) (sc := defScope sLPersons) (by decide +kernel))
          (fun _ _ _ _ _ => pg_tup rfl (pgs_cons (pg_name scPers.nd rfl (.inl rfl)) (pgs_cons (pg_name scPers.nd rfl (.inl rfl)) pgs_nil))) (fun _ _ _ _ _ => pts_one (t := tTest (tOp (rIn K true) (tVar 4) (tSl (rSlL K) (tVar 1) tNoPart (tPart (tVar 2))))) (pt_cmpR (X := _) op_notIn_seq (pv 4) (pe_slice sl_list (pv 1) po_none (po_some (pv 2))) (by rfl))) (fun _ _ _ _ _ => (pv 4))))))), ?_⟩
    refine ⟨Nat.zero_le _, fun a ha => ?_⟩
    have nap := hp.ap ha
    have naq := hp.aq ha
    refine ⟨fun σ H2 => ∃ (ys : List Str) (v2 v3 : Option V), σ = [some (.ref p), some (.ref a), v2, v3, none] ∧ 1 ≤ ys.length ∧ ys.length ≤ 6 ∧ (∀ y ∈ ys, Fine y) ∧ Fr a p q (ys.map V.str) H E0p H2, ?_, ?_⟩
    · have fr0 : Fr a p q [] H E0p (upd H a (.lst [])) := ⟨upd_same, nap, hp.upd nap naq, keepUpd Keep.refl ha, hid_E0, ha, naq⟩
      refine ⟨_, rfl, p, q, 5, rfl, fr0.hp, by decide, by decide, fun z H1 z0 z1 hp1 k1 => ?_⟩
      obtain ⟨fr1, _⟩ := fr0.draw k1 hp1
      refine ⟨_, _, rfl, rfl, _, rfl, by omega, by omega, for_range (n := (2 + z).toNat) (fun i σ H2 => ∃ (ys : List Str) (v2 v3 : Option V), σ = [some (.ref p), some (.ref a), v2, v3, none] ∧ ys.length = i ∧ (∀ y ∈ ys, Fine y) ∧ Fr a p q (ys.map V.str) H E0p H2)
        ⟨[], none, none, rfl, rfl, (fun y hy => nomatch hy), fr1⟩ ?_ ?_⟩
      · rintro i σ H2 hi ⟨ys, v2, v3, rfl, yl, fy, fr2⟩
        refine ⟨_, rfl, _, rfl, p, q, 1, rfl, fr2.hp, by decide, by decide, fun u H3 u0 u1 lu hp3 k3 => ?_⟩
        obtain ⟨fr3, _⟩ := fr2.draw k3 hp3
        refine ⟨_, rfl, p, q, 6, rfl, fr3.hp, by decide, by decide, fun w' H4 w0 w1 lw hp4 k4 => ?_⟩
        obtain ⟨fr4, _⟩ := fr3.draw k4 hp4
        refine ⟨(by show 5 ≤ sizeLine; decide), fun r hr' => ?_⟩
        obtain ⟨fr5, at5, _⟩ := fr4.new (o := .lst [V.str "a", V.str "b", V.str "c", V.str u, V.str w']) hr'
        refine ⟨p, q, r, _, rfl, fr5.hp, upd_same, (hid_get at5).2.2, (by show 0 < 5; decide), (by show 5 ≤ 1000; decide), fun x H5 hx hp5 k5 => ?_⟩
        obtain ⟨fr6, _⟩ := fr5.draw k5 hp5
        have u1 : u.length ≤ 1 := u1
        have w1 : w'.length ≤ 6 := w1
        obtain ⟨y, rfl, hy⟩ : ∃ y, x = V.str y ∧ Fine y := by
          simp only [List.mem_cons, List.not_mem_nil, or_false] at hx
          rcases hx with e | e | e | e | e <;> subst e
          · exact ⟨_, rfl, by decide +kernel, by decide +kernel⟩
          · exact ⟨_, rfl, by decide +kernel, by decide +kernel⟩
          · exact ⟨_, rfl, by decide +kernel, by decide +kernel⟩
          · exact ⟨_, rfl, fine_low lu (by omega)⟩
          · exact ⟨_, rfl, fine_low lw (by omega)⟩
        refine ⟨_, rfl, .inl ⟨rfl, _, SqL.of fr6.hb⟩, _, rfl, a, _, _, rfl, rfl, fr6.hb, small1000 (by rw [List.length_map]; omega), ys ++ [y], _, _, rfl, by simp [yl], (fun t ht => (List.mem_append.mp ht).elim (fy t) fun e => by rw [List.mem_singleton.mp e]; exact hy), ?_⟩
        exact ⟨by rw [upd_same, List.map_append]; rfl, nap, fr6.hp.upd nap naq, keepUpd fr6.kp ha, hid_E0, ha, naq⟩
      · rintro σ H2 ⟨ys, v2, v3, rfl, yl, fy, fr2⟩
        exact ⟨ys, v2, v3, rfl, by omega, by omega, fy, fr2⟩
    rintro σ H2 ⟨ys, v2, v3, rfl, lo, hi6, fy, fr2⟩
    refine ⟨_, rfl, a, ys.map V.str, rfl, .inl ⟨SqL.of fr2.hb, fun D hD => ?_⟩⟩
    have Da : D ≠ a := (ne_of_none fr2.hb hD).symm
    have Dp : D ≠ p := fr2.hp.ap hD
    have Dq : D ≠ q := fr2.hp.aq hD
    have D0 : H D = none := by
      cases e : H D with
      | none => rfl
      | some u => exact absurd hD (by rw [fr2.kp D u e Dp]; exact fun z => nomatch z)
    refine lc_it walk_enum (fun i H3 => ∃ zs : List Str, H3 D = some (.lst (zs.map V.str)) ∧ zs.length ≤ i ∧ (0 < i → zs ≠ []) ∧ (∀ y ∈ zs, Fine y) ∧ Fr a p q (ys.map V.str) H E0p H3)
      ⟨[], upd_same, Nat.zero_le _, (fun h => absurd h (by decide)), (fun y hy => nomatch hy), fr2.put D0 rfl Da Dp Dq⟩ (fun i H3 _ ⟨_, _, _, _, _, f⟩ => SqL.of f.hb) ?_ ?_
    · rintro i v H3 H4 hi ⟨zs, hz, zl, zn, fz, fr3⟩ ⟨t, x, y, rfl, ht, rfl, ex, ey⟩
      cases ex
      have ey : (ys.map V.str)[i]? = some y := ey
      obtain ⟨w', hw, rfl⟩ : ∃ w', ys[i]? = some w' ∧ V.str w' = y := by
        rw [List.getElem?_map] at ey
        cases e : ys[i]? with
        | none => rw [e] at ey; cases ey
        | some w' => rw [e] at ey; exact ⟨w', rfl, Option.some.inj ey⟩
      obtain ⟨fr4, at4, _⟩ := fr3.new (o := .tup [V.int (i : Nat), V.str w']) ht
      have tD : t ≠ D := (ne_of_none hz ht).symm
      refine ⟨t, _, rfl, SqT.of upd_same, rfl, _, _, rfl, _, _, rfl, rfl, rfl, ?_⟩
      refine ⟨_, rfl, _, rfl, _, rfl, _, rfl, a, _, rfl, SqL.of fr4.hb, fun s' hs => ?_⟩
      obtain ⟨fr5, at5, _⟩ := fr4.new (o := .lst (cutV (ys.map V.str) none (some (i : Nat)))) hs
      have hz4 : upd (upd H3 t (.tup [V.int (i : Nat), V.str w'])) s' (.lst (cutV (ys.map V.str) none (some (i : Nat)))) D = some (.lst (zs.map V.str)) := by
        have e4 : upd H3 t (.tup [V.int (i : Nat), V.str w']) D = some (.lst (zs.map V.str)) := by rw [upd_ne tD.symm]; exact hz
        rw [upd_ne (ne_of_none e4 hs)]
        exact e4
      have hy : Fine w' := fy w' (List.mem_of_getElem? hw)
      refine ⟨s', cutV (ys.map V.str) none (some (i : Nat)), rfl, .inl (SqL.of upd_same), rfl, ?_, _, rfl, ?_⟩
      · refine List.all_eq_true.mpr fun z hz => ?_
        obtain ⟨u, _, rfl⟩ := List.mem_map.mp (cut_sub hz)
        rfl
      cases e : inV (V.str w') (cutV (ys.map V.str) none (some (i : Nat))) with
      | false =>
        refine iteT ⟨_, rfl, zs.map V.str, hz4, small1000 (by rw [List.length_map]; have := hi; rw [List.length_map] at this; omega), zs ++ [w'], ?_, by simp; omega, (fun _ => by simp), (fun u hu => (List.mem_append.mp hu).elim (fz u) fun e => by rw [List.mem_singleton.mp e]; exact hy), fr5.put D0 rfl Da Dp Dq⟩
        rw [upd_same, List.map_append]
        rfl
      | true =>
        refine iteF ⟨zs, hz4, by omega, fun _ => ?_, fz, fr5⟩
        by_cases i0 : i = 0
        · subst i0
          rw [show cutV (ys.map V.str) none (some ((0 : Nat) : Int)) = [] from cut0 _] at e
          cases e
        · exact zn (by omega)
    · rintro H3 ⟨zs, hz, zl, zn, fz, fr3⟩
      refine k D zs H3 (wo_at hz Dp) (zn (by rw [List.length_map]; omega)) (by rw [List.length_map] at zl; omega) fz fr3.hp fr3.kp
end
end Kx

set_option maxHeartbeats 4000000
namespace Kx
open PySem L2
/-- what a deed is made of: rows at b, persons at c -/
structure Mat (H : Hp) (p q b c : Addr) (ks : List (Str × Int)) (ys : List Str) : Prop where
  hp : HandAt H p q
  gl : GoodL (wo p H) b ks
  gk : GoodK ks
  hc : wo p H c = some (.lst (ys.map V.str))
  ne : ys ≠ []
  few : ys.length ≤ 6
  fine : ∀ y ∈ ys, Fine y
theorem Mat.keep {H H' : Hp} {p q b c : Addr} {ks : List (Str × Int)} {ys : List Str} (m : Mat H p q b c ks ys) (k : Keep H H' p) (hp : HandAt H' p q) : Mat H' p q b c ks ys :=
  ⟨hp, m.gl.keep (wo_keep k), m.gk, wo_keep k _ _ m.hc, m.ne, m.few, m.fine⟩
theorem wo_get {p b : Addr} {H : Hp} {o : HO} (h : wo p H b = some o) : H b = some o ∧ b ≠ p := ⟨wo_same _ _ h, fun e => by rw [e] at h; unfold wo at h; rw [if_pos rfl] at h; cases h⟩
def spMade : Sp := fun vs H Q _ => ∃ (p q b c : Addr) (ks : List (Str × Int)) (ys : List Str), vs = [.ref p, .ref b, .ref c] ∧ Mat H p q b c ks ys ∧ ∀ (a : Addr) (zs : List Str) (H' : Hp), Fr a p q (zs.map V.str) H E0p H' → 1 ≤ zs.length → zs.length ≤ 3 → (∀ z ∈ zs, Fine z) → Q (.ref a) H'
def spOddDeed : Sp := fun vs H Q _ => ∃ (p q b c : Addr) (ks : List (Str × Int)) (ys : List Str), vs = [.ref p, .ref b, .ref c] ∧ Mat H p q b c ks ys ∧ ∀ (x : V) (d : PyData) (H' : Hp), Dd (wo p H') 2 x d → HandAt H' p q → Keep H H' p → Q x H'
section
variable {P : Program} {w : World} {K : PySem.W.Frag} {mg : Str → Option Value} {base : Heap}
theorem scMade : FnScope ["_law_hand_here", "_law_rows_here", "_law_persons_here", "_law_row", "_law_deed", "_law_k"] ["_law_hand_here", "_law_rows_here", "_law_persons_here"] (defScope sLMadeDeed) := ⟨rfl, rfl, rfl, by decide +kernel, rfl, by decide +kernel, by decide +kernel⟩
theorem ok_made {f : Addr} {fd : FuncData} (F : Fun K "_law_made_deed" "_law_made_deed" sLMadeDeed f fd) (m : mg "_law_made_deed" = some (.ref f)) (T : Bl mg) (O : HasF P w K mg base "_law_one" 3 ["_law_hand_here", "_law_rows_here"] spOne) : HasF P w K mg base "_law_made_deed" 4 ["_law_hand_here", "_law_rows_here", "_law_persons_here"] spMade := by
  refine ⟨f, fd, ?_, m, F.kp, F.binds fun _ _ _ _ _ _ us hl => match us, hl with | [_, _, _], _ => rfl⟩
  obtain ⟨f3, fd3, O⟩ := O
  refine F.ok scMade (fun vs H Q E h => ?_) (fun cdv A outer s H vs Q E hr h => ?_)
  · obtain ⟨a, b, c, d, e, f, rfl, _⟩ := h
    rfl
  · obtain ⟨p, q, b, c, ks, ys, rfl, M, k⟩ := h
    refine ⟨_, (pss_cons (ps_set (i := 3) scMade.nd rfl (Or.inl rfl) (pe_call O.G hr (by rfl) O.m O.kp O.b .nil pass0 (pa_cons (pv 0) (pa_cons (pv 1) pa_nil))))
    (pss_cons (ps_set (i := 4) scMade.nd rfl (Or.inl rfl) (pe_lst (pa_cons (pe_ix ix_seq (pv 3) pe_int (fun _ _ => rfl)) pa_nil)))
    (C8.pss_cut (ps_for PassesOwn.never rfl (pi_range1 (by rfl) T.range (pa_cons (pe_ix ix_seq (pv 3) pe_int (fun _ _ => rfl)) pa_nil)) (pg_name (i := 5) scMade.nd rfl (.inl rfl))
        (pss_one (ps_expr (pe_bm PySem.F.plainAttrs_list PySem.F.slot_list_append PySem.F.type_list_append mt_append (pv 4) (pa_cons (pe_call O.G hr (by rfl) O.m O.kp O.b .nil pass0 (pa_cons (pv 0) (pa_cons (pv 2) pa_nil))) pa_nil)))))
    (pss_one (ps_ret (pv 4)))))), ?_⟩
    obtain ⟨xs, hx, it⟩ := M.gl
    have gk := M.gk
    have lxs := it.1
    refine ⟨_, rfl, _, rfl, p, q, b, xs, rfl, M.hp, (wo_get hx).1, (wo_get hx).2, (by have := gk.lo; omega), (by have := gk.hi; omega), fun x H1 hxm hp1 k1 => ?_⟩
    obtain ⟨i, hi⟩ := List.mem_iff_getElem?.mp hxm
    have lti : i < ks.length := by have := (List.getElem?_eq_some_iff.mp hi).1; omega
    have hq : ks[i]? = some ks[i] := List.getElem?_eq_getElem lti
    have M1 := M.keep k1 hp1
    obtain ⟨t, rfl, ht⟩ := (it.keep (wo_keep k1)).2 i x _ hi hq
    obtain ⟨lab, _, a0, a2⟩ := gk.each _ (List.getElem_mem lti)
    have fz : Fine ks[i].1 := ⟨(lab_ok lab).1, by have := (lab_ok lab).2; omega⟩
    have ixr : ∀ {H2 : Hp} {j : Int} {v : V} {Q' : V → Hp → Prop}, Keep H1 H2 p → atI [V.str ks[i].1, V.int ks[i].2] j = some v → Q' v H2 → rIx K (.ref t) (.int j) H2 Q' := fun kk e q => by
      rcases ht with h | h
      · exact .inl ⟨_, _, _, _, rfl, rfl, SqL.of (kk _ _ (wo_get h).1 (wo_get h).2), e, q⟩
      · exact .inr (.inl ⟨_, _, _, _, rfl, rfl, SqT.of (kk _ _ (wo_get h).1 (wo_get h).2), e, q⟩)
    refine ⟨_, rfl, ixr Keep.refl rfl ⟨(by show 1 ≤ sizeLine; decide), fun a ha => ?_⟩⟩
    have nap := hp1.ap ha
    have naq := hp1.aq ha
    have ha0 : H a = none := by
      cases e : H a with
      | none => rfl
      | some u => exact absurd ha (by rw [k1 a u e nap]; exact fun z => nomatch z)
    have kk : Keep H1 (upd H1 a (.lst [V.str ks[i].1])) p := fun c u e _ => by rw [upd_ne (ne_of_none e ha)]; exact e
    have fr0 : Fr a p q ([ks[i].1].map V.str) H E0p (upd H1 a (.lst [V.str ks[i].1])) := ⟨upd_same, nap, hp1.upd nap naq, keepUpd k1 ha0, hid_E0, ha0, naq⟩
    have M2 := M1.keep kk fr0.hp
    refine ⟨fun σ H2 => ∃ (zs : List Str), σ[4]? = some (some (.ref a)) ∧ 1 ≤ zs.length ∧ zs.length ≤ 3 ∧ (∀ z ∈ zs, Fine z) ∧ Fr a p q (zs.map V.str) H E0p H2, ?_, ?_⟩
    · refine ⟨_, rfl, ixr kk rfl ⟨_, rfl, by omega, by omega, for_range (n := ks[i].2.toNat) (fun j σ H2 => ∃ (zs : List Str) (v : Option V), σ = [some (.ref p), some (.ref b), some (.ref c), some (.ref t), some (.ref a), v] ∧ zs.length = j + 1 ∧ (∀ z ∈ zs, Fine z) ∧ Fr a p q (zs.map V.str) H E0p H2 ∧ wo p H2 c = some (.lst (ys.map V.str)) ∧ a ≠ c)
        ⟨[ks[i].1], none, rfl, rfl, (fun z hz => by rw [List.mem_singleton.mp hz]; exact fz), fr0, M2.hc, fun e => by rw [e] at ha; rw [(wo_get M1.hc).1] at ha; cases ha⟩ ?_ ?_⟩⟩
      · rintro j σ H2 hj ⟨zs, v, rfl, zl, fz', fr2, hc2, ac⟩
        refine ⟨_, rfl, .inl ⟨rfl, _, SqL.of fr2.hb⟩, _, rfl, _, rfl, p, q, c, _, rfl, fr2.hp, (wo_get hc2).1, (wo_get hc2).2, (by rw [List.length_map]; exact List.length_pos_iff.mpr M.ne), (by rw [List.length_map]; have := M.few; omega), fun x H3 hx3 hp3 k3 => ?_⟩
        obtain ⟨fr3, _⟩ := fr2.draw k3 hp3
        obtain ⟨y, hy, rfl⟩ := List.mem_map.mp hx3
        have hc3 := wo_keep k3 _ _ hc2
        refine ⟨a, _, _, rfl, rfl, fr3.hb, small1000 (by rw [List.length_map]; omega), zs ++ [y], _, rfl, by simp [zl], (fun z hz => (List.mem_append.mp hz).elim (fz' z) fun e => by rw [List.mem_singleton.mp e]; exact M.fine y hy), ⟨by rw [upd_same, List.map_append]; rfl, nap, fr3.hp.upd nap naq, keepUpd fr3.kp ha0, hid_E0, ha0, naq⟩, ?_, ac⟩
        exact wo_at (by rw [upd_ne ac.symm]; exact (wo_get hc3).1) (wo_get hc3).2
      · rintro σ H2 ⟨zs, v, rfl, zl, fz', fr2, _⟩
        exact ⟨zs, rfl, by omega, by omega, fz', fr2⟩
    rintro σ H2 ⟨zs, e4, l1, l3, fz', fr2⟩
    exact ⟨_, e4, k a zs H2 fr2 l1 l3 fz'⟩
end
end Kx

set_option maxHeartbeats 4000000
namespace Kx
open PySem L2
theorem strs_dds {H : Hp} {n : Nat} : ∀ {zs : List Str}, (∀ z ∈ zs, Fine z) → Dds H n (zs.map V.str) (zs.map PyData.str)
  | [], _ => .nil
  | z :: zs, h => .cons (.str z (h z (.head _))) (strs_dds fun y m => h y (.tail _ m))
theorem strs_dd {H : Hp} {a : Addr} {zs : List Str} (h : H a = some (.lst (zs.map V.str))) (l : zs.length ≤ 10) (f : ∀ z ∈ zs, Fine z) : Dd H 1 (.ref a) (.list (zs.map PyData.str)) := Dd.lstP h (by rw [List.length_map]; exact l) (strs_dds f)
section
variable {P : Program} {w : World} {K : PySem.W.Frag} {mg : Str → Option Value} {base : Heap}
theorem scOddDeed : FnScope ["_law_hand_here", "_law_rows_here", "_law_persons_here", "_law_deed", "_law_way", "_law_place"] ["_law_hand_here", "_law_rows_here", "_law_persons_here"] (defScope sLOddDeed) := ⟨rfl, rfl, rfl, by decide +kernel, rfl, by decide +kernel, by decide +kernel⟩
theorem ok_odddeed {f : Addr} {fd : FuncData} (F : Fun K "_law_odd_deed" "_law_odd_deed" sLOddDeed f fd) (m : mg "_law_odd_deed" = some (.ref f)) (T : Bl mg) (B : Bm mg) (D : HasF P w K mg base "_law_draw" 2 ["_law_hand_here", "_law_many"] spDraw) (O : HasF P w K mg base "_law_one" 3 ["_law_hand_here", "_law_rows_here"] spOne) (Od : HasF P w K mg base "_law_odd" 4 ["_law_hand_here"] spOdd2)
    (G : HasF P w K mg base "_law_made_deed" 4 ["_law_hand_here", "_law_rows_here", "_law_persons_here"] spMade) : HasF P w K mg base "_law_odd_deed" 5 ["_law_hand_here", "_law_rows_here", "_law_persons_here"] spOddDeed := by
  refine ⟨f, fd, ?_, m, F.kp, F.binds fun _ _ _ _ _ _ us hl => match us, hl with | [_, _, _], _ => rfl⟩
  obtain ⟨f1, fd1, D⟩ := D; obtain ⟨f2, fd2, O⟩ := O; obtain ⟨f3, fd3, Od⟩ := Od; obtain ⟨f4, fd4, G⟩ := G
  refine F.ok scOddDeed (fun vs H Q E h => ?_) (fun cdv A outer s H vs Q E hr h => ?_)
  · obtain ⟨a, b, c, d, e, f, rfl, _⟩ := h
    rfl
  · obtain ⟨p, q, b, c, ks, ys, rfl, M, k⟩ := h
    have hr2 : Room 2 _ := hr.mono (by decide)
    have hr3 : Room 3 _ := hr.mono (by decide)
    refine ⟨_, (pss_cons (ps_set (i := 3) scOddDeed.nd rfl (Or.inl rfl) (pe_call G.G hr (by rfl) G.m G.kp G.b .nil pass0 (pa_cons (pv 0) (pa_cons (pv 1) (pa_cons (pv 2) pa_nil)))))
    (pss_cons (ps_set (i := 4) scOddDeed.nd rfl (Or.inl rfl) (pe_call D.G hr2 (by rfl) D.m D.kp D.b .nil pass0 (pa_cons (pv 0) (pa_cons pe_int pa_nil))))
    (pss_cons (ps_if (pt_cmpR op_eq (pv 4) pe_int (nomark _)) (pss_one (ps_ret (pe_call O.G hr3 (by rfl) O.m O.kp O.b .nil pass0 (pa_cons (pv 0) (pa_cons (pe_lst (pa_cons pe_non (pa_cons pe_str (pa_cons (pe_ix ix_list (pv 3) pe_int (fun _ _ => rfl)) (pa_cons pe_int (pa_cons (pe_disp (pps_cons (pe_ix ix_list (pv 3) pe_int (fun _ _ => rfl)) pe_int pps_nil) (by rfl) (by rfl) (fun z => by cases z) (by decide)) (pa_cons (pe_lst pa_nil) pa_nil))))))) pa_nil))))) pss_nil)
    (pss_cons (ps_if (pt_cmpR op_eq (pv 4) pe_int (nomark _)) (pss_one (ps_ret (pe_op op_cat (pe_lst (pa_cons (pe_call Od.G hr (by rfl) Od.m Od.kp Od.b .nil pass0 (pa_cons (pv 0) pa_nil)) pa_nil)) (pe_slice sl_list (pv 3) (po_some pe_int) po_none)))) pss_nil)
    (pss_cons (ps_if (pt_cmpR op_eq (pv 4) pe_int (nomark _)) (pss_one (ps_ret (pe_op op_cat (pv 3) (pe_lst (pa_cons (pe_call O.G hr3 (by rfl) O.m O.kp O.b .nil pass0 (pa_cons (pv 0) (pa_cons (pv 2) pa_nil))) pa_nil))))) pss_nil)
    (pss_cons (ps_if (pt_cmpR op_eq (pv 4) pe_int (nomark _)) (pss_one (ps_ret (pe_slice sl_list (pv 3) po_none (po_some (pe_op op_sub (pe_callB call_len_seq (by rfl) T.len PySem.boot_len (pa_cons (pv 3) pa_nil)) pe_int))))) pss_nil)
    (C8.pss_cut (ps_if (PW.pt (pw_and (pt_cmpR op_eq (pv 4) pe_int (nomark _)) (pw_and1 (pt_cmpR op_gt (pe_callB call_len_seq (by rfl) T.len PySem.boot_len (pa_cons (pv 3) pa_nil)) pe_int (nomark _))))) (pss_cons (ps_set (i := 5) scOddDeed.nd rfl (Or.inl rfl) (pe_op op_add pe_int (pe_call D.G hr2 (by rfl) D.m D.kp D.b .nil pass0 (pa_cons (pv 0) (pa_cons (pe_op op_sub (pe_callB call_len_seq (by rfl) T.len PySem.boot_len (pa_cons (pv 3) pa_nil)) pe_int) pa_nil)))))
    (pss_one (ps_asg (pe_call Od.G hr (by rfl) Od.m Od.kp Od.b .nil pass0 (pa_cons (pv 0) pa_nil)) (pg_sub (pv 3) (pv 5) set_list)))) pss_nil)
    (pss_one (ps_ret (pe_ifExp (pt_cmpR op_lt (pv 4) pe_int (nomark _)) (pv 3) (pe_callTy call_tuple_of (by rfl) B.tuple (by decide +kernel) (pa_cons (pv 3) pa_nil)))))))))))), ?_⟩
    refine ⟨_, rfl, _, rfl, _, rfl, p, q, b, c, ks, ys, rfl, M, fun a zs H1 fr1 l1 l3 fz => ?_⟩
    refine ⟨_, rfl, p, q, 9, rfl, fr1.hp, by decide, by decide, fun u H2 u0 u1 hp2 k2 => ?_⟩
    obtain ⟨fr2, s2⟩ := fr1.draw k2 hp2
    obtain ⟨z, rest, rfl⟩ : ∃ z rest, zs = z :: rest := by
      cases zs with
      | nil => cases l1
      | cons z rest => exact ⟨z, rest, rfl⟩
    have fz0 := fz z (.head _)
    have fzr : ∀ y ∈ rest, Fine y := fun y m => fz y (.tail _ m)
    have l2 : rest.length ≤ 2 := by simpa using l3
    have M2 := M.keep fr2.kp fr2.hp
    have end_ : ∀ {x : V} {d : PyData} {H' : Hp} {xs : List V}, Fr a p q xs H E0p H' → Dd (wo p H') 2 x d → Q x H' := fun f h => k _ _ _ h f.hp f.kp
    -- 0
    refine ⟨_, rfl, rfl, _, rfl, ?_⟩
    refine ite2 (fun _ => ?_) (fun _ => ?_)
    · refine ⟨_, rfl, _, rfl, a, _, _, _, rfl, rfl, SqL.of fr2.hb, atI0 _ _, fun d hd => ?_⟩
      obtain ⟨fr3, at3, s3⟩ := fr2.new (o := .dK []) hd
      refine ⟨_, rfl, a, _, _, _, rfl, rfl, SqL.of fr3.hb, atI0 _ _, upd_same, [(Sum.inr z, .int 1)], rfl, (by show 1 ≤ 15; decide), ?_⟩
      rw [upd_upd]
      obtain ⟨fr4, at4, s4⟩ := fr2.new (o := .dK (mergeK [] [(Sum.inr z, V.int 1)])) hd
      refine ⟨Nat.zero_le _, fun e he => ?_⟩
      obtain ⟨fr5, at5, s5⟩ := fr4.new (o := .lst []) he
      refine ⟨(by show 6 ≤ sizeLine; decide), fun r hr' => ?_⟩
      obtain ⟨fr6, at6, s6⟩ := fr5.new (o := .lst [V.non, V.str "", V.str z, V.int 5, V.ref d, V.ref e]) hr'
      refine ⟨p, q, r, _, rfl, fr6.hp, upd_same, (hid_get at6).2.2, (by show 0 < 6; decide), (by show 6 ≤ 1000; decide), fun x H7 hx hp7 k7 => ?_⟩
      obtain ⟨fr7, s7⟩ := fr6.draw k7 hp7
      have at4' := s7 _ _ (s6 _ _ (s5 _ _ at4))
      have at5' := s7 _ _ (s6 _ _ at5)
      simp only [List.mem_cons, List.not_mem_nil, or_false] at hx
      rcases hx with e | e | e | e | e | e <;> subst e
      · exact end_ fr7 .non
      · exact end_ fr7 (.str _ ⟨by decide +kernel, by decide +kernel⟩)
      · exact end_ fr7 (.str _ fz0)
      · exact end_ fr7 (.int _ (by decide))
      · exact end_ fr7 (Dd.keep (.dct (n := 1) at4' fz0 (.int 1 (by decide))) hid_wo)
      · exact end_ fr7 (Dd.keep (Dd.lstP (n := 1) at5' (Nat.zero_le _) .nil) hid_wo)
    -- 1
    refine ⟨_, rfl, rfl, _, rfl, ?_⟩
    refine ite2 (fun _ => ?_) (fun _ => ?_)
    · refine ⟨_, rfl, p, q, rfl, fr2.hp, fun x d H3 hx hp3 k3 => ?_⟩
      obtain ⟨fr3, s3⟩ := fr2.draw k3 hp3
      obtain ⟨op, hop⟩ := fr2.hp.at_
      have hx3 := hx.keep (nw_hid fr2.hb hop)
      refine ⟨(by show 1 ≤ sizeLine; decide), fun l hl => ?_⟩
      obtain ⟨fr4, at4, s4⟩ := fr3.new (o := .lst [x]) hl
      refine ⟨_, rfl, _, rfl, a, _, rfl, SqL.of fr4.hb, fun c' hc' => ?_⟩
      obtain ⟨fr5, at5, s5⟩ := fr4.new (o := .lst (cutV (List.map V.str (z :: rest)) (some 1) none)) hc'
      refine ⟨l, c', _, _, rfl, rfl, (hid_get (s5 _ _ at4)).1, upd_same, ?_, fun e he => ?_⟩
      · rw [List.map_cons, cut1, List.length_map]
        exact Nat.le_of_lt (small1000 (by show 1 + _ ≤ _; omega))
      · obtain ⟨fr6, at6, s6⟩ := fr5.new (o := .lst ([x] ++ cutV (List.map V.str (z :: rest)) (some 1) none)) he
        have all : Dds (hid a p (upd (upd (upd H3 l (.lst [x])) c' (.lst (cutV (List.map V.str (z :: rest)) (some 1) none))) e (.lst ([x] ++ cutV (List.map V.str (z :: rest)) (some 1) none)))) 1 ([x] ++ cutV (List.map V.str (z :: rest)) (some 1) none) (d :: rest.map PyData.str) := by
          have e1 : cutV (List.map V.str (z :: rest)) (some 1) none = rest.map V.str := by rw [List.map_cons, cut1]
          have h1 := (hx3.keep ((s4.trans s5).trans s6))
          refine .cons h1 ?_
          show Dds _ 1 (cutV (List.map V.str (z :: rest)) (some 1) none) _
          rw [e1] at *
          exact strs_dds fzr
        exact end_ fr6 (Dd.keep (Dd.lstP at6 (by rw [List.map_cons, cut1]; simp; omega) all) hid_wo)
    -- 2
    refine ⟨_, rfl, rfl, _, rfl, ?_⟩
    refine ite2 (fun _ => ?_) (fun _ => ?_)
    · refine ⟨_, rfl, _, rfl, _, rfl, p, q, c, _, rfl, M2.hp, (wo_get M2.hc).1, (wo_get M2.hc).2, (by rw [List.length_map]; exact List.length_pos_iff.mpr M.ne), (by rw [List.length_map]; have := M.few; omega), fun x H3 hx hp3 k3 => ?_⟩
      obtain ⟨fr3, s3⟩ := fr2.draw k3 hp3
      obtain ⟨y, hy, rfl⟩ := List.mem_map.mp hx
      refine ⟨(by show 1 ≤ sizeLine; decide), fun l hl => ?_⟩
      obtain ⟨fr4, at4, s4⟩ := fr3.new (o := .lst [V.str y]) hl
      refine ⟨a, l, _, _, rfl, rfl, fr4.hb, upd_same, (by simp; exact Nat.le_of_lt (small1000 (by omega))), fun e he => ?_⟩
      obtain ⟨fr5, at5, s5⟩ := fr4.new (o := .lst (List.map V.str (z :: rest) ++ [V.str y])) he
      have fy : ∀ t ∈ z :: rest ++ [y], Fine t := fun t ht => (List.mem_append.mp ht).elim (fz t) fun e => by rw [List.mem_singleton.mp e]; exact M.fine y hy
      have e1 : List.map V.str (z :: rest) ++ [V.str y] = List.map V.str (z :: rest ++ [y]) := by simp
      have at6 := at5
      rw [e1] at at6
      exact end_ fr5 (Dd.keep (strs_dd (by rw [e1]; exact at6) (by simp; omega) fy).up hid_wo)
    -- 3
    refine ⟨_, rfl, rfl, _, rfl, ?_⟩
    refine ite2 (fun _ => ?_) (fun _ => ?_)
    · refine ⟨_, rfl, _, rfl, a, _, rfl, .inl (SqL.of fr2.hb), _, _, rfl, rfl, _, rfl, a, _, rfl, SqL.of fr2.hb, fun e he => ?_⟩
      obtain ⟨fr3, at3, s3⟩ := fr2.new (o := .lst (cutV (List.map V.str (z :: rest)) none (some (((List.map V.str (z :: rest)).length : Nat) - 1)))) he
      obtain ⟨zs', ez, l', f'⟩ : ∃ zs' : List Str, cutV (List.map V.str (z :: rest)) none (some (((List.map V.str (z :: rest)).length : Nat) - 1)) = zs'.map V.str ∧ zs'.length ≤ 3 ∧ ∀ y ∈ zs', Fine y := by
        refine ⟨((z :: rest).drop (HT.sIx (List.map V.str (z :: rest)).length 0 none)).take (HT.sIx (List.map V.str (z :: rest)).length (List.map V.str (z :: rest)).length (some (((List.map V.str (z :: rest)).length : Nat) - 1)) - HT.sIx (List.map V.str (z :: rest)).length 0 none), ?_, ?_, fun y hy => fz y (List.mem_of_mem_drop (List.mem_of_mem_take hy))⟩
        · unfold cutV
          rw [List.map_take, List.map_drop]
        · refine Nat.le_trans ?_ l3
          rw [List.length_take, List.length_drop]
          omega
      have at4 := at3
      rw [ez] at at4
      exact end_ fr3 (Dd.keep (strs_dd (by rw [ez]; exact at4) (by omega) f').up hid_wo)
    -- 4
    refine ⟨fun σ H3 => ∃ (xs : List V) (ds : List PyData) (v5 : Option V), σ = [some (.ref p), some (.ref b), some (.ref c), some (.ref a), some (.int u), v5] ∧ Fr a p q xs H E0p H3 ∧ Dds (hid a p H3) 1 xs ds ∧ xs.length ≤ 3, ?_, ?_⟩
    · have asis : ∃ (xs : List V) (ds : List PyData) (v5 : Option V), ([some (.ref p), some (.ref b), some (.ref c), some (.ref a), some (.int u), none] : L2.St) = [some (.ref p), some (.ref b), some (.ref c), some (.ref a), some (.int u), v5] ∧ Fr a p q xs H E0p H2 ∧ Dds (hid a p H2) 1 xs ds ∧ xs.length ≤ 3 :=
        ⟨_, _, none, rfl, fr2, strs_dds fz, by rw [List.length_map]; exact l3⟩
      refine ⟨_, rfl, rfl, _, rfl, ?_⟩
      refine ite2 (fun _ => ?_) (fun _ => asis)
      refine ⟨_, rfl, a, _, rfl, .inl (SqL.of fr2.hb), _, _, rfl, rfl, _, rfl, ?_⟩
      refine ite2 (fun h1 => ?_) (fun _ => asis)
      have h1 : (1 : Int) < ((List.map V.str (z :: rest)).length : Nat) := of_decide_eq_true h1
      have hl : (List.map V.str (z :: rest)).length = rest.length + 1 := by simp
      refine ⟨_, rfl, _, rfl, a, _, rfl, .inl (SqL.of fr2.hb), _, _, rfl, rfl, p, q, _, rfl, fr2.hp, by omega, by omega, fun v H3 v0 v1 hp3 k3 => ?_⟩
      obtain ⟨fr3, s3⟩ := fr2.draw k3 hp3
      refine ⟨_, _, rfl, rfl, ?_⟩
      refine ⟨_, rfl, p, q, rfl, fr3.hp, fun x d H4 hx hp4 k4 => ?_⟩
      obtain ⟨fr4, s4⟩ := fr3.draw k4 hp4
      obtain ⟨op, hop⟩ := fr3.hp.at_
      have hx4 := hx.keep (nw_hid fr3.hb hop)
      refine ⟨_, rfl, _, rfl, a, _, _, (1 + v).toNat, rfl, rfl, fr4.hb, (by unfold ixN; rw [if_pos (by omega), if_pos (by omega)]), _, ((z :: rest).map PyData.str).set (1 + v).toNat d, some (.int (1 + v)), rfl, ⟨upd_same, fr4.bp, fr4.hp.upd fr4.bp fr4.bq, keepUpd fr4.kp fr4.b0, hid_E0, fr4.b0, fr4.bq⟩, (strs_dds fz).set (hx4.keep hid_b) _, by rw [List.length_set, hl]; omega⟩
    rintro σ H3 ⟨xs, ds, v5, rfl, fr3, hds, xl⟩
    have hds2 : Dds (wo p H3) 1 xs ds := hds.keep hid_wo
    refine ⟨_, rfl, _, _, rfl, rfl, _, rfl, ?_⟩
    refine ite2 (fun _ => ?_) (fun _ => ?_)
    · exact ⟨_, rfl, end_ fr3 (Dd.lstP (wo_at fr3.hb fr3.bp) (by omega) hds2)⟩
    · refine ⟨_, rfl, a, xs, rfl, .inl ⟨SqL.of fr3.hb, fun l hl => ?_⟩⟩
      obtain ⟨fr4, at4, s4⟩ := fr3.new (o := .tup xs) hl
      exact end_ fr4 (Dd.tupP (hid_wo _ _ at4) (by omega) ((hds.keep s4).keep hid_wo))
end
end Kx

set_option maxHeartbeats 4000000
namespace Kx
open PySem PySem.Spec PyProof.Rows L2
abbrev QT : VK := fun v _ => v = .bl true
abbrev EF : XK := fun _ _ _ => False
/-- the body of the law's def, asked at the call that the row makes (nothing is being shown by repr there) -/
def LawBody (P : Program) (w : World) (K : PySem.W.Frag) (mg : Str → Option Value) (base : Heap) (N : List Str) (x : Str) (st : Stmt) (fa : Addr) (k : Nat) : Prop :=
  ∀ (cdv : Value) (s : Shared) (H : Hp) (a : Addr) (ns : List Int), Room k (callerA.deeper (envOfC x (defScope st) s.heap.objs.size fa cdv)) → SqL K H a (ns.map V.int) → ns.length ≤ 63 →
    ∃ t, PSs (cxOf CX0 P w K mg base N x (defScope st) fa cdv callerA [] s H EF).nox (defBody st) t ∧ t { nx := fun _ H' => QT .non H', rt := QT } (start N [.ref a]) H
section
variable {P : Program} {w : World} {K : PySem.W.Frag} {mg mb : Str → Option Value} {k : Nat} {fa a : Addr} {fd : FuncData} {x y : Str} {st : Stmt} {N : List Str}
theorem law_at {base : Heap} (F : Fun K x x st fa fd) (S : FnScope N [y] (defScope st)) (hr : Room (k + 1) callerA) (B : LawBody P w K mg base N x st fa k) (bind : ∀ (s : Shared) (u : Value), BindsTo s fd ⟨[u], []⟩ [(y, u)])
    {s : Shared} {H : Hp} {ns : List Int} (e0 : Env0 P w K mg base callerA [] s H) (hS : SqL K H a (ns.map V.int)) (hn : ns.length ≤ 63) :
    codeAny (model P w) callerA (.call (.ref fa) ⟨[.ref a], []⟩) (CR CX0 [] P w H s QT EF) s := by
  obtain ⟨oc, od, kV, doc, pm, an, cdv, ct, osl, rfl, lk, hcd⟩ := F.ex
  have KX : K.In s.heap := e0.mod.kin.keeps fun b o e => (e0.bs b o e).1
  have noLim : s.heap.NoLimit := e0.mod.nolimit.keeps fun b o e => (e0.bs b o e).1
  have kinds : ∀ z ∈ [(y, Value.ref a)], (defScope st).names.lookup z.1 = some .local ∨ ((defScope st).names.lookup z.1 = some .cell ∧ ((cellsFrom (s.heap.objs.size + 1) (defScope st).names []).lookup z.1).isSome = true) := fun z hz => by
    obtain rfl : z = (y, Value.ref a) := by simpa using hz
    rcases S.par y (.head _) with q | q
    · exact .inl q
    · exact .inr ⟨q, PySem.W.cellsFrom_some _ _ _ (.inl q)⟩
  refine codeAny_call_function hr.depth (KX _ _ lk) rfl S.co S.gen rfl (PySem.W.codeRec_of KX hcd) (bind s (.ref a) _ _ _ _ (wpAny_newFunctionEnv_cells S.kind kinds fun env he s1 z => ?_))
  subst he
  obtain ⟨t, ht, hq⟩ := B cdv s H a ns (hr.deeper _) hS hn
  refine ⟨noLim.keeps z.toInCall.keep, codeAny_func (wpAny_mono (ht.nox.run [] s1 (start N [.ref a]) H _ (inv_start S hr.hd e0 rfl (.cons rfl .nil) z) hq) (fun fl s' got => ?_) fun e s' got => got)⟩
  cases fl with
  | ret u => obtain ⟨v, σ', H', J, rv, q⟩ := got; exact ⟨v, H', J.os, J.bare, J.base, J.hok, rv, q⟩
  | next => obtain ⟨σ', H', J, q⟩ := got; exact absurd q (fun z => nomatch z)
  | brk => obtain ⟨_, _, _, q⟩ := got; exact q.elim
  | cont => obtain ⟨_, _, _, q⟩ := got; exact q.elim
/-- behind the top nothing is tracked but the script -/
theorem env_at {s : Shared} {H : Hp} {vs : List Value} (KX : K.In s.heap) (main : s.heap.Ns mainGlobals mg) (blt : s.heap.Ns builtinsNs mb) (boot : ∀ x : Str, x ≠ "__name__" → mb x = bootBuiltins x) (lim : s.heap.NoLimit) (gens : s.gens = #[])
    (at_ : s.heap.get? a = some { cls := .type "list", data := .seq vs.toArray }) (ok : HOk P w H s.heap) (only : ∀ b, b ≠ a → H b = none) (mine : H a = none ∨ K.lookup a = none) : Env0 P w K mg (hidT s.heap H) callerA [] s H := by
  have keepK : K.In (hidT s.heap H) := fun b o e => hidT_get (KX b o e) (by
    by_cases z : b = a
    · subst z
      rcases mine with q | q
      · exact q
      · rw [q] at e; cases e
    · exact only b z)
  have keepN : ∀ {b : Addr} {m : Str → Option Value}, s.heap.Ns b m → (hidT s.heap H).Ns b m := by
    rintro b m ⟨o, es, ep, e, d, r⟩
    refine ⟨o, es, ep, hidT_get e (only b fun z => ?_), d, r⟩
    subst z
    rw [at_] at e
    cases e
    cases d
  obtain ⟨mc, l1, l2⟩ := lim
  exact ⟨rfl, ⟨keepK, keepN main, ⟨mb, keepN blt, boot⟩, ⟨mc, keepN l1, l2⟩⟩, fun b o e => of_hidT e, Nat.le_of_eq (hidT_size _ _), trivial, fun b hb => (nomatch hb), ok, .of_eq gens⟩
theorem law_end {s : Shared} {vs : List Value} {ns : List Int} (KX : K.In s.heap) (main : s.heap.Ns mainGlobals mg) (blt : s.heap.Ns builtinsNs mb) (boot : ∀ x : Str, x ≠ "__name__" → mb x = bootBuiltins x) (lim : s.heap.NoLimit) (gens : s.gens = #[])
    (at_ : s.heap.get? a = some { cls := .type "list", data := .seq vs.toArray }) (hints : IntsAre vs ns) (hn : ns.length ≤ 63)
    (run : ∀ (base : Heap) (H : Hp), K.In base → base.Ns mainGlobals mg → Env0 P w K mg base callerA [] s H → SqL K H a (ns.map V.int) → codeAny (model P w) callerA (.call (.ref fa) ⟨[.ref a], []⟩) (CR CX0 [] P w H s QT EF) s) :
    codeAny (model P w) callerA (.call (.ref fa) ⟨[.ref a], []⟩) (fun r s' => r = .ok (.ret (.bool true)) ∧ OldK s.heap s'.heap ∧ s'.os = s.os ∧ AllBare s'.gens) s := by
  have rv := vals_ints hints
  have fits : (ns.map V.int).length ≤ sizeLine := by rw [List.length_map]; exact Nat.le_of_lt (small1000 (by omega))
  have go : ∀ H : Hp, (∀ b, b ≠ a → H b = none) → (H a = none ∧ SqL K H a (ns.map V.int) ∨ K.lookup a = none ∧ H a = some (.frz { cls := .type "list", data := .seq vs.toArray } (.lst (ns.map V.int)))) →
      codeAny (model P w) callerA (.call (.ref fa) ⟨[.ref a], []⟩) (fun r s' => r = .ok (.ret (.bool true)) ∧ OldK s.heap s'.heap ∧ s'.os = s.os ∧ AllBare s'.gens) s := by
    intro H only mine
    have ok : HOk P w H s.heap := fun b u e => by
      by_cases z : b = a
      · subst z
        rcases mine with ⟨q, _⟩ | ⟨_, q⟩
        · rw [q] at e; cases e
        · rw [q] at e
          cases e
          exact ⟨at_, fits, vs, _, rv, at_⟩
      · rw [only b z] at e; cases e
    have e0 := env_at (P := P) (w := w) KX main blt boot lim gens at_ ok only (mine.elim (fun q => .inl q.1) fun q => .inr q.1)
    refine codeAny_mono (run _ H e0.mod.kin e0.mod.glob e0 (mine.elim (fun q => q.2) fun q => .inl (.inr ⟨_, q.2⟩))) fun r s' got => ?_
    rcases r with e | (_ | _ | _ | u)
    · exact got.elim
    · exact got.elim
    · exact got.elim
    · exact got.elim
    · obtain ⟨v, H', os, bare, un, ok', rel, q⟩ := got
      obtain rfl : v = .bl true := q
      obtain rfl : u = Value.bool true := rel
      refine ⟨rfl, OldK.of_keep fun b o e => ?_, os, bare⟩
      cases q : H b with
      | none => exact un.keep b o e q (fun z => (nomatch z)) (fun z => (nomatch z))
      | some u =>
        have z : b = a := Classical.byContradiction fun z => by rw [only b z] at q; cases q
        subst z
        rcases mine with ⟨q2, _⟩ | ⟨_, q2⟩
        · rw [q2] at q; cases q
        · rw [at_] at e
          cases e
          exact (ok' b _ (un.frzs b _ _ q2)).1
  cases hk : K.lookup a with
  | some o =>
    have e := KX a o hk
    rw [at_] at e
    cases e
    exact go (fun _ => none) (fun _ _ => rfl) (.inl ⟨rfl, .inr ⟨_, vs.toArray, _, hk, rfl, rfl, rfl, by rw [List.size_toArray, hints.length]; exact Nat.le_of_lt (small1000 (by omega)), by simpa using rv⟩⟩)
  | none => exact go (fun b => if b = a then some (.frz { cls := .type "list", data := .seq vs.toArray } (.lst (ns.map V.int))) else none) (fun b z => if_neg z) (.inr ⟨hk, if_pos rfl⟩)
end
theorem law_walk {l : PySem.W.OpenLaw} {q : Program} {loose : List Str} {XP : (Str → Option Value) → Heap → Prop} {YP : World → Heap → Prop} {d : DefRec} {K : Params → PySem.W.Frag} (hn : l.most = some 63) (hdf : d.params.defaults = []) (hY : ∀ (w : World) (h : Heap), YP w h → (K w.params).In h)
    (F : ∀ (w : World) (mg : Str → Option Value) (fa : Addr) (h : Heap), (K w.params).In h → h.Ns mainGlobals mg → mg d.name = some (.ref fa) →
      ∀ (base : Heap) (s : Shared) (H : Hp) (a : Addr) (ns : List Int), (K w.params).In base → base.Ns mainGlobals mg → Env0 l.prog w (K w.params) mg base callerA [] s H → SqL (K w.params) H a (ns.map V.int) → ns.length ≤ 63 →
        codeAny (model l.prog w) callerA (.call (.ref fa) ⟨[.ref a], []⟩) (CR CX0 [] l.prog w H s QT EF) s) : PySem.W.WalkO q loose XP YP l.row.toRowW d [] (fun f vs => PySem.call f vs) :=
  Att.attach_call hn hdf fun w s₀ s₁ mg mb fa o pm cd doc a vs ns G Y ho hd hcd hmg hobj hints hlen hg =>
    law_end (hY w _ Y) G.T.g G.T.b G.T.builtins G.T.nolimit hg hobj hints hlen fun base H kin main e0 hS => F w mg fa _ (hY w _ Y) G.T.g hmg base s₁ H a ns kin main e0 hS hlen
end Kx

set_option maxHeartbeats 8000000
namespace Kx
open PySem L2
abbrev NLaw : List Str := ["_law_script", "_law_hand_here", "_law_rows_here", "_law_way", "_law_told", "_law_kept", "_law_due_here", "_law_good", "_law_kinds_here", "_law_pairs", "_law_names", "_law_odd_here", "_law_other", "_law_persons_here", "_law_k", "_law_deed", "_law_before", "_law_row", "_law_name"]
theorem scLaw : FnScope NLaw ["_law_script"] (defScope sLaw) := ⟨rfl, rfl, rfl, by decide +kernel, rfl, by decide +kernel, by decide +kernel⟩
structure Rp (mg : Str → Option Value) : Prop where
  repr : mg "repr" = none
abbrev S4 (a p b : Addr) (wy : Int) (told : V) : L2.St := [some (.ref a), some (.ref p), some (.ref b), some (.int wy), some told, none, none, none, none, none, none, none, none, none, none, none, none, none, none]
abbrev S6 (a p b : Addr) (wy : Int) (told : V) (kept : Str) (due : V) : L2.St := [some (.ref a), some (.ref p), some (.ref b), some (.int wy), some told, some (.str kept), some due, none, none, none, none, none, none, none, none, none, none, none, none]
abbrev S7 (a p b : Addr) (wy : Int) (told : V) (kept : Str) (due : V) (g : Addr) : L2.St := [some (.ref a), some (.ref p), some (.ref b), some (.int wy), some told, some (.str kept), some due, some (.ref g), none, none, none, none, none, none, none, none, none, none, none]
abbrev S8 (a p b : Addr) (wy : Int) (told : V) (kept : Str) (due : V) (g x : Addr) : L2.St := [some (.ref a), some (.ref p), some (.ref b), some (.int wy), some told, some (.str kept), some due, some (.ref g), some (.ref x), none, none, none, none, none, none, none, none, none, none]
abbrev S9 (a p b : Addr) (wy : Int) (told : V) (kept : Str) (due : V) (g x pt : Addr) : L2.St := [some (.ref a), some (.ref p), some (.ref b), some (.int wy), some told, some (.str kept), some due, some (.ref g), some (.ref x), some (.ref pt), none, none, none, none, none, none, none, none, none]
abbrev S10 (a p b : Addr) (wy : Int) (told : V) (kept : Str) (due : V) (g x pt nt : Addr) : L2.St := [some (.ref a), some (.ref p), some (.ref b), some (.int wy), some told, some (.str kept), some due, some (.ref g), some (.ref x), some (.ref pt), some (.ref nt), none, none, none, none, none, none, none, none]
abbrev S11 (a p b : Addr) (wy : Int) (told : V) (kept : Str) (due : V) (g x pt nt : Addr) (od : V) : L2.St := [some (.ref a), some (.ref p), some (.ref b), some (.int wy), some told, some (.str kept), some due, some (.ref g), some (.ref x), some (.ref pt), some (.ref nt), some od, none, none, none, none, none, none, none]
abbrev S12 (a p b : Addr) (wy : Int) (told : V) (kept : Str) (due : V) (g x pt nt : Addr) (od : V) (oc : Addr) : L2.St := [some (.ref a), some (.ref p), some (.ref b), some (.int wy), some told, some (.str kept), some due, some (.ref g), some (.ref x), some (.ref pt), some (.ref nt), some od, some (.ref oc), none, none, none, none, none, none]
abbrev S13 (a p b : Addr) (wy : Int) (told : V) (kept : Str) (due : V) (g x pt nt : Addr) (od : V) (oc c : Addr) (v14 v15 v16 : Option V) : L2.St := [some (.ref a), some (.ref p), some (.ref b), some (.int wy), some told, some (.str kept), some due, some (.ref g), some (.ref x), some (.ref pt), some (.ref nt), some od, some (.ref oc), some (.ref c), v14, v15, v16, none, none]
/-- all that the law leans on -/
structure AllF (P : Program) (w : World) (K : PySem.W.Frag) (mg : Str → Option Value) (base : Heap) (C CB : Addr) (gI : Addr) (fdI : FuncData) (gE gL gN gT gF : Addr) (dE dL dN dT dF : FuncData) : Prop where
  hand : HasF P w K mg base "_law_hand" 1 ["_law_script"] (spHand K)
  draw : HasF P w K mg base "_law_draw" 2 ["_law_hand_here", "_law_many"] spDraw
  one : HasF P w K mg base "_law_one" 3 ["_law_hand_here", "_law_rows_here"] spOne
  odd : HasF P w K mg base "_law_odd" 4 ["_law_hand_here"] spOdd2
  rows : HasF P w K mg base "_law_rows" 5 ["_law_hand_here"] spLRows
  kinds : HasF P w K mg base "_law_kinds" 4 ["_law_hand_here"] spLKinds
  due : HasF P w K mg base "_law_due" 3 ["_law_rows_here"] spLDue
  refused : HasF P w K mg base "_law_refused" 5 ["_law_rows_here"] spLDue
  lar : HasF P w K mg base "_law_arity_of" 5 ["_law_kinds_here", "_law_name"] (spLAr C)
  ldeed : HasF P w K mg base "_law_deed_due" 2 ["_law_rows_here", "_law_deed"] spLDeed
  persons : HasF P w K mg base "_law_persons" 4 ["_law_hand_here"] spPersons
  odddeed : HasF P w K mg base "_law_odd_deed" 5 ["_law_hand_here", "_law_rows_here", "_law_persons_here"] spOddDeed
  KX : KC K C
  mK : mg "Kinds" = some (.ref C)
  MK : Mk K C gI
  GI : FnOk P w K mg base (L2.CX P w) 3 gI fdI ["self", "rows"] (spKinds K C CB)
  bI : Binds K fdI ["self", "rows"] []
  E : OwnM P w K mg base C "__eq__" 1 ["self", "other"] (spKEq C) gE dE
  L : OwnM P w K mg base C "__len__" 1 ["self"] (spKLen C) gL dL
  N : OwnM P w K mg base C "__contains__" 1 ["self", "thing"] (spKIn C) gN dN
  F : OwnM P w K mg base C "fault" 2 ["self", "deed"] (spFault C) gF dF
  T : FnA P w K mg base CX0 1 gT dT ["self"] (spIterT K C NamesOf)
  Tb : Binds K dT ["self"] []
  Ts : PySem.W.findIn K (.ref C) "__iter__" = some (some (.ref gT))
  Tf : PySem.W.isFn K (.ref gT) = true
  ne : PySem.W.findIn K (.ref C) "__ne__" = some (some (.builtin "object.__ne__"))
  nfT : PySem.W.notFirst K C (.type "tuple") = true
theorem word_fine {names : List Str} {r : Option (V × V)} {w : Str} (h : rowWord names r = some w) : Fine w := by
  have p1 : Fine (Str.ofString "row") := ⟨by decide +kernel, by decide +kernel⟩
  have p2 : Fine (Str.ofString "label") := ⟨by decide +kernel, by decide +kernel⟩
  have p3 : Fine (Str.ofString "year") := ⟨by decide +kernel, by decide +kernel⟩
  have p4 : Fine (Str.ofString "double") := ⟨by decide +kernel, by decide +kernel⟩
  have p5 : Fine (Str.ofString "arity") := ⟨by decide +kernel, by decide +kernel⟩
  cases r with
  | none => cases h; exact p1
  | some q =>
    obtain ⟨n, a⟩ := q
    cases n with
    | str z =>
      have h : (if isLab z = true then (if z = Str.ofString "year" then some (Str.ofString "year") else if z ∈ names then some (Str.ofString "double") else if wholeV a 0 2 = true then none else some (Str.ofString "arity")) else some (Str.ofString "label")) = some w := h
      split at h
      · split at h
        · cases h; exact p3
        · split at h
          · cases h; exact p4
          · split at h
            · cases h
            · cases h; exact p5
      · cases h; exact p2
    | _ => cases h; exact p2
theorem scan_fine : ∀ {rs : List (Option (V × V))} {names : List Str} {i j : Nat} {w : Str}, scanK names i rs = some (j, w) → Fine w ∧ j < i + rs.length
  | [], _, _, _, _, h => by cases h
  | r :: rs, names, i, j, w, h => by
    have h : (match rowWord names r with | some w => some (i, w) | none => scanK (names ++ [nameOf r]) (i + 1) rs) = some (j, w) := h
    cases e : rowWord names r with
    | some w' =>
      rw [e] at h
      cases h
      exact ⟨word_fine e, by simp⟩
    | none =>
      rw [e] at h
      obtain ⟨h1, h2⟩ := scan_fine h
      exact ⟨h1, by simp; omega⟩
theorem due_fine {r : Option (List (Option (V × V)))} {i : Nat} {w : Str} (h : rowsDue r = some (i, w)) : Fine w ∧ i ≤ 6 := by
  have p0 : Fine (Str.ofString "rows") := ⟨by decide +kernel, by decide +kernel⟩
  cases r with
  | none => cases h; exact ⟨p0, by decide⟩
  | some rs =>
    have h : (if 1 ≤ rs.length ∧ rs.length ≤ 6 then scanK [] 0 rs else some (0, Str.ofString "rows")) = some (i, w) := h
    split at h
    · obtain ⟨h1, h2⟩ := scan_fine h
      exact ⟨h1, by omega⟩
    · cases h; exact ⟨p0, by decide⟩
def rsOf (ks : List (Str × Int)) : List (Option (V × V)) := ks.map fun q => some (.str q.1, .int q.2)
theorem scan_good : ∀ {rs : List (Option (V × V))} {names : List Str} {i : Nat}, scanK names i rs = none → ∃ ks : List (Str × Int), rs = rsOf ks ∧ (∀ q ∈ ks, (isLab q.1 = true ∧ ¬ q.1 = Str.ofString "year" ∧ 0 ≤ q.2 ∧ q.2 ≤ 2) ∧ ¬ q.1 ∈ names) ∧ (ks.map (·.1)).Nodup
  | [], _, _, _ => ⟨[], rfl, (fun q h => nomatch h), List.nodup_nil⟩
  | r :: rs, names, i, h => by
    have h : (match rowWord names r with | some w => some (i, w) | none => scanK (names ++ [nameOf r]) (i + 1) rs) = none := h
    cases e : rowWord names r with
    | some w => rw [e] at h; cases h
    | none =>
      rw [e] at h
      obtain ⟨z, kk, er, h1, h2, h3, h4, h5⟩ := rowWord_none e
      obtain ⟨ks, e1, e2, e3⟩ := scan_good h
      have en : nameOf r = z := by rw [er]; rfl
      rw [en] at e2
      refine ⟨(z, kk) :: ks, by rw [er, e1]; rfl, fun q hq => ?_, ?_⟩
      · cases hq with
        | head => exact ⟨⟨h1, h2, h4, h5⟩, h3⟩
        | tail _ m => exact ⟨(e2 q m).1, fun hm => (e2 q m).2 (List.mem_append_left _ hm)⟩
      · rw [List.map_cons, List.nodup_cons]
        refine ⟨fun hm => ?_, e3⟩
        obtain ⟨q, hq, eq⟩ := List.mem_map.mp hm
        exact (e2 q hq).2 (List.mem_append_right _ (by rw [eq]; exact List.mem_singleton.mpr rfl))
theorem scan_none : ∀ {ks : List (Str × Int)} {names : List Str} {i : Nat}, (∀ q ∈ ks, (isLab q.1 = true ∧ ¬ q.1 = Str.ofString "year" ∧ 0 ≤ q.2 ∧ q.2 ≤ 2) ∧ ¬ q.1 ∈ names) → (ks.map (·.1)).Nodup → scanK names i (rsOf ks) = none
  | [], _, _, _, _ => rfl
  | q :: ks, names, i, h, nd => by
    obtain ⟨⟨h1, h2, h3, h4⟩, h5⟩ := h q (.head _)
    rw [List.map_cons, List.nodup_cons] at nd
    have w : rowWord names (some (.str q.1, .int q.2)) = none := by
      show (if isLab q.1 = true then (if q.1 = Str.ofString "year" then some (Str.ofString "year") else if q.1 ∈ names then some (Str.ofString "double") else if wholeV (.int q.2) 0 2 = true then none else some (Str.ofString "arity")) else some (Str.ofString "label")) = none
      rw [if_pos h1, if_neg h2, if_neg h5, if_pos (by simp [wholeV, h3, h4])]
    show (match rowWord names (some (.str q.1, .int q.2)) with | some w => some (i, w) | none => scanK (names ++ [q.1]) (i + 1) (rsOf ks)) = none
    rw [w]
    refine scan_none (fun r hr => ⟨(h r (.tail _ hr)).1, fun hm => ?_⟩) nd.2
    rcases List.mem_append.mp hm with e | e
    · exact (h r (.tail _ hr)).2 e
    · exact nd.1 (List.mem_map.mpr ⟨r, hr, List.mem_singleton.mp e⟩)
theorem good_of {r : List (Option (V × V))} (h : rowsDue (some r) = none) : ∃ ks, r = rsOf ks ∧ GoodK ks := by
  have h : (if 1 ≤ r.length ∧ r.length ≤ 6 then scanK [] 0 r else some (0, Str.ofString "rows")) = none := h
  by_cases l : 1 ≤ r.length ∧ r.length ≤ 6
  · rw [if_pos l] at h
    obtain ⟨ks, e, e2, e3⟩ := scan_good h
    have el : r.length = ks.length := by rw [e]; simp [rsOf]
    exact ⟨ks, e, by omega, by omega, fun q hq => (e2 q hq).1, e3⟩
  · rw [if_neg l] at h; cases h
theorem good_due {ks : List (Str × Int)} (g : GoodK ks) : rowsDue (some (rsOf ks)) = none := by
  show (if 1 ≤ (rsOf ks).length ∧ (rsOf ks).length ≤ 6 then scanK [] 0 (rsOf ks) else some (0, Str.ofString "rows")) = none
  rw [if_pos (by simp [rsOf]; exact ⟨g.lo, g.hi⟩)]
  exact scan_none (fun q hq => ⟨g.each q hq, by simp⟩) g.nd
theorem rsOf_at {ks : List (Str × Int)} {i : Nat} {q : Str × Int} (h : ks[i]? = some q) : (rsOf ks)[i]? = some (some (V.str q.1, V.int q.2)) := by
  unfold rsOf
  rw [List.getElem?_map, h]
  rfl
theorem items_of {H : Hp} {xs : List V} {ks : List (Str × Int)} (h : AllR H xs (rsOf ks)) : ItemsAt H xs ks := by
  refine ⟨by rw [h.1]; simp [rsOf], fun i x q e1 e2 => ?_⟩
  cases h.2 i x _ e1 (rsOf_at e2) with
  | lst h hn ha => exact ⟨_, rfl, .inl h⟩
  | tup h hn ha => exact ⟨_, rfl, .inr h⟩
theorem rows_of {H : Hp} {xs : List V} {ks : List (Str × Int)} (h : ItemsAt H xs ks) (g : GoodK ks) : AllR H xs (rsOf ks) := by
  refine ⟨by rw [h.1]; simp [rsOf], fun i x r e1 e2 => ?_⟩
  have lt : i < ks.length := by have := (List.getElem?_eq_some_iff.mp e1).1; have := h.1; omega
  have hq : ks[i]? = some ks[i] := List.getElem?_eq_getElem lt
  rw [rsOf_at hq] at e2
  cases e2
  obtain ⟨lab, _, _, _⟩ := g.each _ (List.getElem_mem lt)
  have tn : Thing H (V.str ks[i].1) "str" := ⟨.str _, fun z e => by cases e; exact ⟨(lab_ok lab).1, by have := (lab_ok lab).2; omega⟩⟩
  have ta : Thing H (V.int ks[i].2) "int" := ⟨.int _, fun z e => nomatch e⟩
  obtain ⟨t, rfl, h | h⟩ := h.2 i x _ e1 hq
  · exact .lst h tn ta
  · exact .tup h tn ta
theorem pr_rsOf (ks : List (Str × Int)) : (rsOf ks).map prOf = vv ks := by
  unfold rsOf vv
  rw [List.map_map]
  rfl
theorem KindsAt.wo {C : Addr} {H : Hp} {x p q : Addr} {ps : List (Str × V)} (k : KindsAt C H x ps) (hp : HandAt H p q) : KindsAt C (wo p H) x ps := by
  obtain ⟨cs, a, b, c, ha, hb⟩ := hp
  obtain ⟨dx, fs, r, n, d, ts, h1, h2, h3, h4, h5, h6, h7, h8, h9, h10⟩ := k.ob
  have ne : ∀ {u : Addr} {o : HO}, H u = some o → (∀ xs, o ≠ .lst xs) → u ≠ p := fun h hn e => by rw [e, ha] at h; exact hn _ (Option.some.inj h).symm
  exact ⟨dx, fs, r, n, d, ts, wo_at h1 (ne h1 fun _ z => nomatch z), h2, h3, h4, h5, wo_at h6 (ne h6 fun _ z => nomatch z), h7, fun i t q e1 e2 => wo_at (h8 i t q e1 e2) (ne (h8 i t q e1 e2) fun _ z => nomatch z), wo_at h9 (ne h9 fun _ z => nomatch z), wo_at h10 (ne h10 fun _ z => nomatch z)⟩
/-- at pt: the tuple of the pairs, each a tuple -/
def PairsT (H : Hp) (pt : Addr) (ks : List (Str × Int)) : Prop := ∃ ts : List Addr, H pt = some (.tup (ts.map V.ref)) ∧ ts.length = ks.length ∧ ∀ (i : Nat) (t : Addr) (q : Str × Int), ts[i]? = some t → ks[i]? = some q → H t = some (.tup [.str q.1, .int q.2])
theorem PairsT.keep {H H' : Hp} {pt : Addr} {ks : List (Str × Int)} (h : PairsT H pt ks) (s : Same H H') : PairsT H' pt ks := by
  obtain ⟨ts, h1, h2, h3⟩ := h
  exact ⟨ts, s _ _ h1, h2, fun i t q e1 e2 => s _ _ (h3 i t q e1 e2)⟩
theorem PairsT.dp {K : PySem.W.Frag} {H : Hp} {pt : Addr} {ks : List (Str × Int)} (h : PairsT H pt ks) : Dp K H (.ref pt) (kd ks) := by
  obtain ⟨ts, h1, h2, h3⟩ := h
  exact .tup (SqT.of h1) (dpAll_pd ks ts h2 h3)
theorem PairsT.wo {H : Hp} {pt p q : Addr} {ks : List (Str × Int)} (h : PairsT H pt ks) (hp : HandAt H p q) : PairsT (wo p H) pt ks := by
  obtain ⟨cs, a, b, c, ha, hb⟩ := hp
  obtain ⟨ts, h1, h2, h3⟩ := h
  exact ⟨ts, wo_at h1 fun e => (by rw [e, ha] at h1; cases h1), h2, fun i t q e1 e2 => wo_at (h3 i t q e1 e2) fun e => by have z := h3 i t q e1 e2; rw [e, ha] at z; cases z⟩
theorem lay_nms {ys : List Str} (ok : Ok ys) : PyData.canLayAll0 (dS ys) = true ∧ PyData.depthAll (dS ys) = 0 := by
  induction ys with
  | nil => exact ⟨rfl, rfl⟩
  | cons y ys ih =>
    obtain ⟨h1, h2⟩ := ih fun z m => ok z (.tail _ m)
    refine ⟨?_, ?_⟩
    · show (PyData.canLay0 (.str y) && PyData.canLayAll0 (dS ys)) = true
      rw [h1, show PyData.canLay0 (.str y) = true from ok y (.head _)]
      rfl
    · show max 0 (PyData.depthAll (dS ys)) = 0
      rw [h2]
      rfl
theorem nms_tup {ys : List Str} (ok : Ok ys) : SeqAt.shaped (.tuple (dS ys)) = true ∧ PyData.eqv (.tuple (dS ys)) (.tuple (dS ys)) = true := by
  obtain ⟨h1, h2⟩ := lay_nms ok
  refine ⟨?_, SeqAt.eqv_refl _ h1⟩
  unfold SeqAt.shaped
  rw [Bool.and_eq_true]
  exact ⟨h1, decide_eq_true (by show PyData.depthAll (dS ys) + 1 ≤ 64; omega)⟩
theorem nms_lst {ys : List Str} (ok : Ok ys) : SeqAt.shaped (.list (dS ys)) = true ∧ PyData.eqv (.list (dS ys)) (.list (dS ys)) = true :=
  ⟨shaped_list ok, SeqAt.eqv_refl _ (lay_nms ok).1⟩
theorem kNum_mem : ∀ {ks : List (Str × Int)} {i : Nat} {q : Str × Int}, (ks.map (·.1)).Nodup → ks[i]? = some q → kNum ks (.str q.1) = some q.2
  | [], _, _, _, e => by cases e
  | r :: ks, 0, q, _, e => by
    cases e
    show ((r :: ks).find? fun t => decide (t.1 = r.1)).map (·.2) = _
    rw [List.find?_cons_of_pos (by simp)]
    rfl
  | r :: ks, i + 1, q, nd, e => by
    rw [List.map_cons, List.nodup_cons] at nd
    have e : ks[i]? = some q := e
    have ne : ¬ r.1 = q.1 := fun h => nd.1 (List.mem_map.mpr ⟨q, List.mem_of_getElem? e, h.symm⟩)
    show ((r :: ks).find? fun t => decide (t.1 = q.1)).map (·.2) = _
    rw [List.find?_cons_of_neg (by simpa using ne)]
    exact kNum_mem nd.2 e
/-- at D: a list of the arities, each in a tuple -/
def ArsL (H : Hp) (D : Addr) (ks : List (Str × Int)) : Prop := ∃ ts : List Addr, H D = some (.lst (ts.map V.ref)) ∧ ts.length = ks.length ∧ ∀ (i : Nat) (t : Addr) (q : Str × Int), ts[i]? = some t → ks[i]? = some q → H t = some (.tup [.int q.2])
theorem ArsL.keep {H H' : Hp} {D : Addr} {ks : List (Str × Int)} (h : ArsL H D ks) (s : Same H H') : ArsL H' D ks := by
  obtain ⟨ts, h1, h2, h3⟩ := h
  exact ⟨ts, s _ _ h1, h2, fun i t q e1 e2 => s _ _ (h3 i t q e1 e2)⟩
theorem ArsL.add {H : Hp} {D u : Addr} {ks : List (Str × Int)} {q : Str × Int} {ts : List Addr} (h1 : H D = some (.lst (ts.map V.ref))) (h2 : ts.length = ks.length) (h3 : ∀ (i : Nat) (t : Addr) (q : Str × Int), ts[i]? = some t → ks[i]? = some q → H t = some (.tup [.int q.2])) (hu : H u = some (.tup [.int q.2])) :
    ArsL (upd H D (.lst (ts.map V.ref ++ [V.ref u]))) D (ks ++ [q]) := by
  refine ⟨ts ++ [u], by rw [upd_same, List.map_append]; rfl, by simp [h2], fun i t r e1 e2 => ?_⟩
  have tup : H t = some (.tup [.int r.2]) := by
    by_cases lt : i < ts.length
    · rw [List.getElem?_append_left lt] at e1
      rw [List.getElem?_append_left (by omega)] at e2
      exact h3 i t r e1 e2
    · have ei : i = ts.length := by
        have := (List.getElem?_eq_some_iff.mp e1).1
        simp at this
        omega
      subst ei
      rw [List.getElem?_append_right (by omega), Nat.sub_self] at e1
      rw [h2, List.getElem?_append_right (by omega), Nat.sub_self] at e2
      cases e1
      cases e2
      exact hu
  rw [upd_ne (fun e => by rw [e, h1] at tup; cases tup)]
  exact tup
theorem ArsL.dd {H : Hp} {D : Addr} {ks : List (Str × Int)} (h : ArsL H D ks) (g : GoodK ks) : Dd H 2 (.ref D) (.list (ks.map fun q => PyData.tuple [.int q.2])) := by
  obtain ⟨ts, h1, h2, h3⟩ := h
  refine .lst h1 (by rw [List.length_map, h2]; have := g.hi; omega) (by simp [h2]) fun i x d e1 e2 => ?_
  rw [List.getElem?_map] at e1 e2
  cases et : ts[i]? with
  | none => rw [et] at e1; cases e1
  | some t =>
    cases eq : ks[i]? with
    | none => rw [eq] at e2; cases e2
    | some q =>
      rw [et] at e1
      rw [eq] at e2
      cases e1
      cases e2
      have := g.each q (List.mem_of_getElem? eq)
      exact Dd.tupP (h3 i t q et eq) (by show 1 ≤ 10; decide) (.cons (.int _ (by omega)) .nil)
def rot {α : Type} : List α → List α
  | [] => []
  | k :: r => r ++ [k]
theorem cutA (x : V) (xs : List V) : cutV (x :: xs) none (some 1) = [x] := by
  unfold cutV
  have e1 : HT.sIx (x :: xs).length (x :: xs).length (some 1) = 1 := by
    simp [HT.sIx]
    try omega
  rw [e1]
  simp [HT.sIx]
theorem rot_good {ks : List (Str × Int)} (g : GoodK ks) : GoodK (rot ks) := by
  cases ks with
  | nil => exact g
  | cons k r =>
    refine ⟨by simp [rot], by have := g.hi; simp [rot] at *; omega, fun q hq => g.each q ?_, ?_⟩
    · rcases List.mem_append.mp hq with e | e
      · exact .tail _ e
      · rw [List.mem_singleton.mp e]; exact .head _
    · have nd := g.nd
      rw [List.map_cons] at nd
      have pm : List.Perm ((r ++ [k]).map (·.1)) (k.1 :: r.map (·.1)) := by
        rw [List.map_append]
        exact List.perm_append_comm
      exact pm.nodup_iff.mpr nd
theorem rot_items {H : Hp} {x : V} {xs : List V} {ks : List (Str × Int)} (h : ItemsAt H (x :: xs) ks) : ItemsAt H (xs ++ [x]) (rot ks) := by
  cases ks with
  | nil => cases h.1
  | cons k r => exact ItemsAt.add ⟨Nat.succ.inj h.1, fun i y q e1 e2 => h.2 (i + 1) y q e1 e2⟩ (h.2 0 x k rfl rfl)
abbrev E0x : XK := fun _ _ _ => False
section
variable {P : Program} {w : World} {K : PySem.W.Frag} {mg : Str → Option Value} {base : Heap}
theorem body_law {fa C CB gI gE gL gN gT gF : Addr} {fdI dE dL dN dT dF : FuncData} (T : Bl mg) (B : Bm mg) (R : Rp mg) (A : AllF P w K mg base C CB gI fdI gE gL gN gT gF dE dL dN dT dF) : LawBody P w K mg base NLaw "law" sLaw fa 6 := by
  intro cdv s H a ns hr hS hn
  obtain ⟨h1, d1, Hd⟩ := A.hand; obtain ⟨h2, d2, D⟩ := A.draw; obtain ⟨h3, d3, O⟩ := A.one; obtain ⟨h4, d4, Od⟩ := A.odd; obtain ⟨h5, d5, Rw⟩ := A.rows; obtain ⟨h6, d6, Ks⟩ := A.kinds
  obtain ⟨h7, d7, Du⟩ := A.due; obtain ⟨h8, d8, Rf⟩ := A.refused; obtain ⟨h9, d9, Ar⟩ := A.lar; obtain ⟨h10, d10, Dd'⟩ := A.ldeed; obtain ⟨h11, d11, Pe⟩ := A.persons; obtain ⟨h12, d12, Oo⟩ := A.odddeed
  have hr1 : Room 1 _ := hr.mono (by decide)
  have hr2 : Room 2 _ := hr.mono (by decide)
  have hr3 : Room 3 _ := hr.mono (by decide)
  have hr4 : Room 4 _ := hr.mono (by decide)
  have hr5 : Room 5 _ := hr.mono (by decide)
  refine ⟨_, (pss_cons (ps_set (i := 1) scLaw.nd rfl (Or.inl rfl) (pe_call Hd.G hr1 (by rfl) Hd.m Hd.kp Hd.b .nil pass0 (pa_cons (pv 0) pa_nil)))
    (pss_cons (ps_set (i := 2) scLaw.nd rfl (Or.inl rfl) (pe_call Rw.G hr5 (by rfl) Rw.m Rw.kp Rw.b .nil pass0 (pa_cons (pv 1) pa_nil)))
    (pss_cons (ps_set (i := 3) scLaw.nd rfl (Or.inl rfl) (pe_call D.G hr2 (by rfl) D.m D.kp D.b .nil pass0 (pa_cons (pv 1) (pa_cons pe_int pa_nil))))
    (C8.pss_cut (ps_set (i := 4) scLaw.nd rfl (Or.inl rfl) (pe_ifExp (pt_cmpR op_gt (pv 3) pe_int (nomark _)) (pe_callTy call_tuple_of (by rfl) B.tuple (by decide +kernel) (pa_cons (pv 2) pa_nil)) (pv 2)))
    (C8.pss_cut (ps_if (pt_cmpR op_eq (pv 3) pe_int (nomark _)) (pss_one (ps_set (i := 4) scLaw.nd rfl (Or.inl rfl) (pe_call O.G hr3 (by rfl) O.m O.kp O.b .nil pass0 (pa_cons (pv 1) (pa_cons (pe_lst (pa_cons pe_non (pa_cons pe_str (pa_cons (pe_disp (pps_cons pe_str pe_int pps_nil) (by rfl) (by rfl) (fun z => by cases z) (by decide)) (pa_cons (pe_lst pa_nil) (pa_cons (pe_tup pa_nil) pa_nil)))))) pa_nil))))) pss_nil)
    (pss_cons (ps_set (i := 5) scLaw.nd rfl (Or.inl rfl) (pe_callB (call_reprD rfl hr.units) (by rfl) R.repr (by decide +kernel) (pa_cons (pv 4) pa_nil)))
    (C8.pss_cut (ps_set (i := 6) scLaw.nd rfl (Or.inl rfl) (pe_call Du.G hr3 (by rfl) Du.m Du.kp Du.b .nil pass0 (pa_cons (pv 4) pa_nil)))
    (C8.pss_cut (ps_if (PW.pt (pw_or (pt_cmpR op_ne (pe_callB (call_reprD rfl hr.units) (by rfl) R.repr (by decide +kernel) (pa_cons (pe_call Rf.G hr5 (by rfl) Rf.m Rf.kp Rf.b .nil pass0 (pa_cons (pv 4) pa_nil)) pa_nil)) (pe_callB (call_reprD rfl hr.units) (by rfl) R.repr (by decide +kernel) (pa_cons (pv 6) pa_nil)) (nomark _)) (pw_or1 (pt_cmpR op_ne (pe_callB (call_reprD rfl hr.units) (by rfl) R.repr (by decide +kernel) (pa_cons (pv 4) pa_nil)) (pv 5) (nomark _))))) (pss_one (ps_ret pe_bl)) pss_nil)
    (C8.pss_cut (ps_set (i := 7) scLaw.nd rfl (Or.inl rfl) (pe_ifExp (pt_cmpR op_isN (pe_call Du.G hr3 (by rfl) Du.m Du.kp Du.b .nil pass0 (pa_cons (pv 2) pa_nil)) pe_non (nomark _)) (pv 2) (pe_call Ks.G hr4 (by rfl) Ks.m Ks.kp Ks.b .nil pass0 (pa_cons (pv 1) pa_nil))))
    (C8.pss_cut (ps_set (i := 8) scLaw.nd rfl (Or.inr rfl) (pe_make A.MK A.GI hr4 (by rfl) A.mK A.bI .nil passL (pa_cons (pv 7) pa_nil)))
    (C8.pss_cut (ps_set (i := 9) scLaw.nd rfl (Or.inl rfl) (pe_callTy call_tuple_of (by rfl) B.tuple (by decide +kernel) (pa_cons (pe_lc (own := [("_law_row", 17)]) (g := gName 17) (tt := tYes) (by rfl) scLaw.nd (pi_list (pv 7)) (blkOk_by (own := [("_law_row", 17)]) (N := NLaw) (sc := defScope sLaw) (by decide +kernel)) (fun _ _ _ _ _ => pg_name (i := 17) scLaw.nd rfl (Or.inl rfl)) (fun _ _ _ _ _ => pts_nil) (fun _ _ _ _ _ => (pe_tup (pa_cons (pe_ix (ix_seqK (K := K) rfl) (pv 17) pe_int (fun _ _ => rfl)) (pa_cons (pe_ix (ix_seqK (K := K) rfl) (pv 17) pe_int (fun _ _ => rfl)) pa_nil))))) pa_nil)))
    (C8.pss_cut (ps_set (i := 10) scLaw.nd rfl (Or.inl rfl) (pe_callTy call_tuple_of (by rfl) B.tuple (by decide +kernel) (pa_cons (pe_lc (own := [("_law_row", 17)]) (g := gName 17) (tt := tYes) (by rfl) scLaw.nd (pi_list (pv 7)) (blkOk_by (own := [("_law_row", 17)]) (N := NLaw) (sc := defScope sLaw) (by decide +kernel)) (fun _ _ _ _ _ => pg_name (i := 17) scLaw.nd rfl (Or.inl rfl)) (fun _ _ _ _ _ => pts_nil) (fun _ _ _ _ _ => (pe_ix (ix_seqK (K := K) rfl) (pv 17) pe_int (fun _ _ => rfl)))) pa_nil)))
    (C8.pss_cut (ps_if (PW.pt (pw_or (pt_cmpR (op_neD hr.units) (pe_fld (pv 8) rfl) (pv 9) (nomark _)) (pw_or (pt_cmpR (op_neD hr.units) (pe_fld (pv 8) rfl) (pv 10) (nomark _)) (pw_or (pt_cmpR op_ne (pe_callB (call_lenOwn A.L.M.at_ A.L.M.fn A.L.raw hr2 pass0) (by rfl) T.len PySem.boot_len (pa_cons (pv 8) pa_nil)) (pe_callB call_len_seq (by rfl) T.len PySem.boot_len (pa_cons (pv 10) pa_nil)) (nomark _)) (pw_or1 (pt_cmpR (op_neD hr.units) (pe_lc (own := [("_law_name", 18)]) (g := gName 18) (tt := tYes) (by rfl) scLaw.nd (pi_ownT A.Ts A.Tf A.T A.Tb hr1 (pv 8)) (blkOk_by (own := [("_law_name", 18)]) (N := NLaw) (sc := defScope sLaw) (by decide +kernel)) (fun _ _ _ _ _ => pg_name (i := 18) scLaw.nd rfl (Or.inl rfl)) (fun _ _ _ _ _ => pts_nil) (fun _ _ _ _ _ => (pv 18))) (pe_callTy call_list_of (by rfl) B.list (by decide +kernel) (pa_cons (pv 10) pa_nil)) (nomark _))))))) (pss_one (ps_ret pe_bl)) pss_nil)
    (C8.pss_cut (ps_if (PW.pt (pw_or (pt_not (pt_val (pe_callB call_isi (by rfl) B.isinstance (by decide +kernel) (pa_cons (pe_fld (pv 8) rfl) (pa_cons (pe_bltn (v := .ty "tuple") (by rfl) B.tuple (by decide +kernel) rfl) pa_nil))))) (pw_or (pt_not (pt_val (pe_callB call_isi (by rfl) B.isinstance (by decide +kernel) (pa_cons (pe_ix ix_seq (pe_fld (pv 8) rfl) pe_int (fun _ _ => rfl)) (pa_cons (pe_bltn (v := .ty "tuple") (by rfl) B.tuple (by decide +kernel) rfl) pa_nil))))) (pw_or1 (pt_not (pt_val (pe_callB call_isi (by rfl) B.isinstance (by decide +kernel) (pa_cons (pe_fld (pv 8) rfl) (pa_cons (pe_bltn (v := .ty "tuple") (by rfl) B.tuple (by decide +kernel) rfl) pa_nil))))))))) (pss_one (ps_ret pe_bl)) pss_nil)
    (C8.pss_cut (ps_if (pt_cmpR op_ne (pe_callB (call_reprD rfl hr.units) (by rfl) R.repr (by decide +kernel) (pa_cons (pe_lc (own := [("_law_row", 17)]) (g := gName 17) (tt := tYes) (by rfl) scLaw.nd (pi_list (pv 7)) (blkOk_by (own := [("_law_row", 17)]) (N := NLaw) (sc := defScope sLaw) (by decide +kernel)) (fun _ _ _ _ _ => pg_name (i := 17) scLaw.nd rfl (Or.inl rfl)) (fun _ _ _ _ _ => pts_nil) (fun _ _ _ _ _ => (pe_call Ar.G hr5 (by rfl) Ar.m Ar.kp Ar.b .nil pass0 (pa_cons (pv 8) (pa_cons (pe_ix (ix_seqK (K := K) rfl) (pv 17) pe_int (fun _ _ => rfl)) pa_nil))))) pa_nil)) (pe_callB (call_reprD rfl hr.units) (by rfl) R.repr (by decide +kernel) (pa_cons (pe_lc (own := [("_law_row", 17)]) (g := gName 17) (tt := tYes) (by rfl) scLaw.nd (pi_list (pv 7)) (blkOk_by (own := [("_law_row", 17)]) (N := NLaw) (sc := defScope sLaw) (by decide +kernel)) (fun _ _ _ _ _ => pg_name (i := 17) scLaw.nd rfl (Or.inl rfl)) (fun _ _ _ _ _ => pts_nil) (fun _ _ _ _ _ => (pe_tup (pa_cons (pe_ix (ix_seqK (K := K) rfl) (pv 17) pe_int (fun _ _ => rfl)) pa_nil)))) pa_nil)) (nomark _)) (pss_one (ps_ret pe_bl)) pss_nil)
    (pss_cons (ps_set (i := 11) scLaw.nd rfl (Or.inl rfl) (pe_call Od.G hr4 (by rfl) Od.m Od.kp Od.b .nil pass0 (pa_cons (pv 1) pa_nil)))
    (C8.pss_cut (ps_if (PW.pt (pw_and (pt_not (PW.pt (pw_and (pt_val (pe_callB call_isi (by rfl) B.isinstance (by decide +kernel) (pa_cons (pv 11) (pa_cons (pe_bltn (v := .ty "str") (by rfl) B.str (by decide +kernel) rfl) pa_nil)))) (pw_and1 (pt_cmpR op_in_seq (pv 11) (pv 10) (by rfl)))))) (pw_and1 (PW.pt (pw_or (pt_cmpR (op_inOwn A.N.M.at_ A.N.M.fn A.N.raw hr1 pass0) (pv 11) (pv 8) (by rfl)) (pw_or1 (pt_cmpR (op_neL hr.units) (pe_call Ar.G hr5 (by rfl) Ar.m Ar.kp Ar.b .nil pass0 (pa_cons (pv 8) (pa_cons (pv 11) pa_nil))) (pe_lst (pa_cons pe_str (pa_cons (pv 11) pa_nil))) (nomark _)))))))) (pss_one (ps_ret pe_bl)) pss_nil)
    (C8.pss_cut (ps_if (PW.pt (pw_or (pt_cmpR (op_inOwn A.N.M.at_ A.N.M.fn A.N.raw hr1 pass0) pe_str (pv 8) (by rfl)) (pw_or1 (pt_cmpR (op_neL hr.units) (pe_lc (own := [("_law_name", 18)]) (g := gName 18) (by rfl) scLaw.nd (pi_tup (pv 10)) (blkOk_by (own := [("_law_name", 18)]) (N := NLaw) (sc := defScope sLaw) (by decide +kernel)) (fun _ _ _ _ _ => pg_name (i := 18) scLaw.nd rfl (Or.inl rfl)) (fun _ _ _ _ _ => pts_one (t := tNot (tTest (tOp (rInOwn false C (spKIn C) E0x) (tVar 18) (tVar 8)))) (pt_not (pt_cmpR (op_inOwn (E := E0x) A.N.M.at_ A.N.M.fn A.N.raw hr1 pass0) (pv 18) (pv 8) (by rfl)))) (fun _ _ _ _ _ => (pv 18))) (pe_lst pa_nil) (nomark _))))) (pss_one (ps_ret pe_bl)) pss_nil)
    (pss_cons (ps_set (i := 12) scLaw.nd rfl (Or.inl rfl) (pe_op op_cat (pe_slice sl_list (pv 7) (po_some pe_int) po_none) (pe_slice sl_list (pv 7) po_none (po_some pe_int))))
    (C8.pss_cut (ps_if (PW.pt (pw_or (pt_cmpR (op_neOwn A.KX.cm A.ne A.E.M.at_ A.E.M.fn A.E.raw hr2 pass0) (pv 8) (pe_make A.MK A.GI hr4 (by rfl) A.mK A.bI .nil passL (pa_cons (pe_callTy call_list_of (by rfl) B.list (by decide +kernel) (pa_cons (pv 7) pa_nil)) pa_nil)) (nomark _)) (pw_or (pt_cmpR op_ne (pe_cmpR (op_eqOwn A.E.M.at_ A.E.M.fn A.E.raw hr1 pass0) (pv 8) (pe_make A.MK A.GI hr4 (by rfl) A.mK A.bI .nil passL (pa_cons (pv 12) pa_nil)) (nomark _)) (pe_cmpR (op_eqD hr.units) (pv 9) (pe_callTy call_tuple_of (by rfl) B.tuple (by decide +kernel) (pa_cons (pe_lc (own := [("_law_row", 17)]) (g := gName 17) (tt := tYes) (by rfl) scLaw.nd (pi_list (pv 12)) (blkOk_by (own := [("_law_row", 17)]) (N := NLaw) (sc := defScope sLaw) (by decide +kernel)) (fun _ _ _ _ _ => pg_name (i := 17) scLaw.nd rfl (Or.inl rfl)) (fun _ _ _ _ _ => pts_nil) (fun _ _ _ _ _ => (pe_tup (pa_cons (pe_ix (ix_seqK (K := K) rfl) (pv 17) pe_int (fun _ _ => rfl)) (pa_cons (pe_ix (ix_seqK (K := K) rfl) (pv 17) pe_int (fun _ _ => rfl)) pa_nil))))) pa_nil)) (nomark _)) (nomark _)) (pw_or1 (pt_cmpR (op_eqOwn A.E.M.at_ A.E.M.fn A.E.raw hr1 pass0) (pv 8) (pv 9) (nomark _)))))) (pss_one (ps_ret pe_bl)) pss_nil)
    (pss_cons (ps_set (i := 13) scLaw.nd rfl (Or.inl rfl) (pe_call Pe.G hr4 (by rfl) Pe.m Pe.kp Pe.b .nil pass0 (pa_cons (pv 1) pa_nil)))
    (C8.pss_cut (ps_for PassesOwn.never rfl (pi_range1 (by rfl) T.range (pa_cons pe_int pa_nil)) (pg_name (i := 14) scLaw.nd rfl (.inl rfl)) (pss_cons (ps_set (i := 15) scLaw.nd rfl (Or.inl rfl) (pe_call Oo.G hr5 (by rfl) Oo.m Oo.kp Oo.b .nil pass0 (pa_cons (pv 1) (pa_cons (pv 7) (pa_cons (pv 13) pa_nil)))))
    (pss_cons (ps_set (i := 16) scLaw.nd rfl (Or.inl rfl) (pe_callB (call_reprD rfl hr.units) (by rfl) R.repr (by decide +kernel) (pa_cons (pv 15) pa_nil)))
    (pss_one (ps_if (PW.pt (pw_or (pt_cmpR op_ne (pe_meth (pv 8) A.KX.cl A.F.M A.F.G hr2 A.F.b .nil pass0 (pa_cons (pv 15) pa_nil)) (pe_call Dd'.G hr2 (by rfl) Dd'.m Dd'.kp Dd'.b .nil pass0 (pa_cons (pv 7) (pa_cons (pv 15) pa_nil))) (nomark _)) (pw_or1 (pt_cmpR op_ne (pe_callB (call_reprD rfl hr.units) (by rfl) R.repr (by decide +kernel) (pa_cons (pv 15) pa_nil)) (pv 16) (nomark _))))) (pss_one (ps_ret pe_bl)) pss_nil)))))
    (pss_one (ps_ret pe_bl)))))))))))))))))))))))), ?_⟩
  refine ⟨_, rfl, a, ns, rfl, hS, hn, fun p q H1 hp0 hq0 nqp hp1 s1 => ?_⟩
  refine ⟨_, rfl, p, q, rfl, hp1, fun b ds H2 hd hp2 k2 => ?_⟩
  refine ⟨_, rfl, p, q, 10, rfl, hp2, by decide, by decide, fun wy H3 w0 w1 hp3 k3 => ?_⟩
  have hd3 := hd.keep (wo_keep k3)
  clear hd hp1 hp2 k2 k3 s1 hp0 hq0
  -- told
  refine ⟨fun σ H4 => ∃ told d, σ = S4 a p b wy told ∧ HandAt H4 p q ∧ Dd (wo p H4) 3 (.ref b) (.list ds) ∧ Dd (wo p H4) 3 told d, ?_, ?_⟩
  · refine ⟨_, rfl, _, _, rfl, rfl, _, rfl, ?_⟩
    refine ite2 (fun _ => ?_) (fun _ => ?_)
    · cases hd3 with
      | @lst n _ xs _ h l e f =>
        have hb := wo_get h
        refine ⟨_, rfl, b, xs, rfl, .inl ⟨SqL.of hb.1, fun t ht => ?_⟩⟩
        have s4 : Same (wo p H3) (wo p (upd H3 t (.tup xs))) := wo_mono (sameUpd (Same.refl _) ht)
        exact ⟨.ref t, _, rfl, hp3.upd (hp3.ap ht) (hp3.aq ht), (Dd.lst h l e f).keep s4, .tup (wo_at upd_same (hp3.ap ht)) l e fun i x d e1 e2 => (f i x d e1 e2).keep s4⟩
    · exact ⟨_, rfl, .ref b, _, rfl, hp3, hd3, hd3⟩
  rintro σ H4 ⟨told, d, rfl, hp4, hb4, ht4⟩
  clear hd3 hp3
  refine ⟨fun σ H4 => ∃ told d, σ = S4 a p b wy told ∧ HandAt H4 p q ∧ Dd (wo p H4) 3 (.ref b) (.list ds) ∧ Dd (wo p H4) 3 told d, ?_, ?_⟩
  · refine ⟨_, rfl, rfl, _, rfl, ?_⟩
    refine ite2 (fun _ => ?_) (fun _ => ⟨told, d, rfl, hp4, hb4, ht4⟩)
    clear ht4
    refine ⟨_, rfl, fun d0 hd0 => ?_⟩
    refine ⟨upd_same, [(Sum.inr (Str.ofString "a"), .int 1)], rfl, (by show 1 ≤ 15; decide), ?_⟩
    rw [upd_upd]
    have step : ∀ {Hx : Hp} {l : Addr} {o : HO}, HandAt Hx p q → Hx l = none → HandAt (upd Hx l o) p q ∧ Same (wo p Hx) (wo p (upd Hx l o)) ∧ wo p (upd Hx l o) l = some o := fun h hl => ⟨h.upd (h.ap hl) (h.aq hl), wo_mono (sameUpd (Same.refl _) hl), wo_at upd_same (h.ap hl)⟩
    obtain ⟨q1, r1, t1⟩ := step (o := .dK (mergeK [] [(Sum.inr (Str.ofString "a"), V.int 1)])) hp4 hd0
    refine ⟨Nat.zero_le _, fun e he => ?_⟩
    obtain ⟨q2, r2, t2⟩ := step (o := .lst []) q1 he
    refine ⟨Nat.zero_le _, fun t ht => ?_⟩
    obtain ⟨q3, r3, t3⟩ := step (o := .tup []) q2 ht
    refine ⟨(by show 5 ≤ sizeLine; decide), fun r hr' => ?_⟩
    obtain ⟨q4, r4, t4⟩ := step (o := .lst [V.non, V.str "ab", V.ref d0, V.ref e, V.ref t]) q3 hr'
    refine ⟨p, q, r, _, rfl, q4, upd_same, q3.ap hr', (by show 0 < 5; decide), (by show 5 ≤ 1000; decide), fun x H7 hx hp7 k7 => ?_⟩
    have r5 := wo_keep k7
    have hb7 := hb4.keep ((((r1.trans r2).trans r3).trans r4).trans r5)
    simp only [List.mem_cons, List.not_mem_nil, or_false] at hx
    rcases hx with e' | e' | e' | e' | e' <;> subst e'
    · exact ⟨_, _, rfl, hp7, hb7, .non⟩
    · exact ⟨_, _, rfl, hp7, hb7, .str _ ⟨by decide +kernel, by decide +kernel⟩⟩
    · exact ⟨_, _, rfl, hp7, hb7, .dct (n := 2) ((((r2.trans r3).trans r4).trans r5) _ _ t1) ⟨by decide +kernel, by decide +kernel⟩ (.int 1 (by decide))⟩
    · exact ⟨_, _, rfl, hp7, hb7, Dd.lstP (n := 2) (((r3.trans r4).trans r5) _ _ t2) (Nat.zero_le _) .nil⟩
    · exact ⟨_, _, rfl, hp7, hb7, Dd.tupP (n := 2) ((r4.trans r5) _ _ t3) (Nat.zero_le _) .nil⟩
  clear hp4 hb4 ht4
  rintro σ H5 ⟨told, d, rfl, hp5, hb5, ht5⟩
  obtain ⟨r, hr'⟩ := (ht5.keep wo_same).rows
  refine ⟨_, rfl, told, 3, d, rfl, ht5.keep wo_same, Nat.le_refl _, ?_⟩
  refine ⟨fun σ H6 => ∃ due, σ = S6 a p b wy told d.shown due ∧ Same H5 H6 ∧ ((∃ t i w', rowsDue r = some (i, w') ∧ due = .ref t ∧ H6 t = some (.tup [.int (i : Nat), .str w'])) ∨ (rowsDue r = none ∧ due = .non)), ?_, ?_⟩
  · refine ⟨_, rfl, told, r, rfl, hr', ?_⟩
    cases e : rowsDue r with
    | none => exact fun H6 s6 => ⟨.non, rfl, s6, .inr ⟨rfl, rfl⟩⟩
    | some iw => exact fun t H6 s6 _ ht => ⟨.ref t, rfl, s6, .inl ⟨t, iw.1, iw.2, rfl, rfl, ht⟩⟩
  rintro σ H6 ⟨due, rfl, s6, hdue⟩
  refine ⟨fun σ H7 => σ = S6 a p b wy told d.shown due ∧ HandAt H7 p q ∧ Dd (wo p H7) 3 (.ref b) (.list ds), ?_, ?_⟩
  · refine ⟨_, rfl, told, r, rfl, hr'.keep s6, ?_⟩
    rcases hdue with ⟨t, i, w', e, rfl, ht⟩ | ⟨e, rfl⟩
    · rw [e]
      intro t2 H7 s7 _ ht2
      obtain ⟨fw, i6⟩ := due_fine e
      have dt : ∀ {Hx : Hp} {u : Addr}, Hx u = some (.tup [.int (i : Nat), .str w']) → Dd Hx 1 (.ref u) (.tuple [.int (i : Nat), .str w']) := fun h => Dd.tupP h (by show 2 ≤ 10; decide) (.cons (.int _ (by omega)) (.cons (.str _ fw) .nil))
      refine ⟨.ref t2, 1, _, rfl, dt ht2, by decide, _, rfl, .ref t, 1, _, rfl, dt (s7 _ _ ht), by decide, rfl, _, rfl, ?_⟩
      refine iteNS rfl ⟨_, rfl, told, 3, d, rfl, (ht5.keep wo_same).keep (s6.trans s7), Nat.le_refl _, _, rfl, rfl, _, rfl, iteNS rfl ?_⟩
      exact ⟨rfl, hp5.same (s6.trans s7), hb5.keep (wo_mono (s6.trans s7))⟩
    · rw [e]
      intro H7 s7
      refine ⟨.non, 3, .none, rfl, .non, Nat.le_refl _, _, rfl, .non, 3, .none, rfl, .non, Nat.le_refl _, rfl, _, rfl, ?_⟩
      refine iteNS rfl ⟨_, rfl, told, 3, d, rfl, (ht5.keep wo_same).keep (s6.trans s7), Nat.le_refl _, _, rfl, rfl, _, rfl, iteNS rfl ?_⟩
      exact ⟨rfl, hp5.same (s6.trans s7), hb5.keep (wo_mono (s6.trans s7))⟩
  clear hdue s6 hr' ht5 hb5 hp5
  rintro σ H7 ⟨rfl, hp7, hb7⟩
  -- the good rows
  refine ⟨fun σ H8 => ∃ g ks, σ = S7 a p b wy told d.shown due g ∧ HandAt H8 p q ∧ GoodK ks ∧ GoodL (wo p H8) g ks, ?_, ?_⟩
  · cases hb7 with
    | @lst n _ xs _ h l e f =>
      obtain ⟨rs, har⟩ := allR_of e f
      refine ⟨_, rfl, .ref b, some rs, rfl, .lst (wo_same _ _ h) (har.keep wo_same) (by omega), ?_⟩
      cases e1 : rowsDue (some rs) with
      | none =>
        intro H8 s8
        obtain ⟨ks, rfl, gk⟩ := good_of e1
        refine ⟨rfl, _, rfl, iteT ⟨_, rfl, b, ks, rfl, hp7.same s8, gk, xs, wo_mono s8 _ _ h, (items_of har).keep (wo_mono s8)⟩⟩
      | some iw =>
        intro t H8 s8 _ ht
        refine ⟨rfl, _, rfl, iteF ⟨_, rfl, p, q, rfl, hp7.same s8, fun b' ks H9 gk gl _ hp9 k9 => ?_⟩⟩
        exact ⟨b', ks, rfl, hp9, gk, gl⟩
  clear hb7 hp7
  rintro σ H8 ⟨g, ks, rfl, hp8, gk, gl8⟩
  -- Kinds(good)
  have make : ∀ {ls : List (Str × Int)} {l : Addr} {Hx : Hp} {Q' : Addr → Hp → Prop}, GoodK ls → GoodL Hx l ls → (∀ x H', Hx x = none → Same Hx H' → KindsAt C H' x (vv ls) → Q' x H') →
      ∀ x dx, Hx x = none → Hx dx = none → dx ≠ x → spKinds K C CB (.ref x :: ([.ref l] ++ [])) (upd (upd Hx dx (.own x)) x (.ins C dx [])) (fun v H2 => v = .non ∧ Q' x H2) (fun _ _ _ => False) := by
    intro ls l Hx Q' gl ⟨xs, hx, it⟩ q' x dx hx0 hdx ne
    have s0 : Same Hx (upd (upd Hx dx (.own x)) x (.ins C dx [])) := (sameUpd (Same.refl _) hdx).trans (sameUpd (Same.refl _) (by rw [upd_ne ne.symm]; exact hx0))
    have ar := rows_of (it.keep s0) gl
    refine ⟨x, dx, .ref l, some (rsOf ls), rfl, upd_same, .lst (s0 _ _ hx) ar (by rw [ar.1]; simp [rsOf]; have := gl.hi; omega), (fun e => by cases e; rw [hx] at hx0; cases hx0), (fun e => by cases e; rw [hx] at hdx; cases hdx), ?_⟩
    rw [good_due gl]
    intro rs H' er kp ka
    cases er
    rw [pr_rsOf] at ka
    exact ⟨rfl, q' x H' hx0 (fun c o e => kp c o (s0 c o e) (ne_of_none e hx0)) ka⟩
  refine ⟨fun σ H9 => ∃ x, σ = S8 a p b wy told d.shown due g x ∧ HandAt H9 p q ∧ GoodL (wo p H9) g ks ∧ KindsAt C (wo p H9) x (vv ks), ?_, ?_⟩
  · refine ⟨_, rfl, ?_⟩
    refine make gk (gl8.keep wo_same) fun x H9 _ s9 ka => ?_
    exact ⟨x, rfl, hp8.same s9, gl8.keep (wo_mono s9), ka.wo (hp8.same s9)⟩
  clear gl8 hp8
  rintro σ H9 ⟨x, rfl, hp9, gl9, ka9⟩
  -- the pairs
  refine ⟨fun σ H10 => ∃ pt, σ = S9 a p b wy told d.shown due g x pt ∧ HandAt H10 p q ∧ GoodL (wo p H10) g ks ∧ KindsAt C (wo p H10) x (vv ks) ∧ PairsT (wo p H10) pt ks, ?_, ?_⟩
  · obtain ⟨xs, hx, it⟩ := gl9
    have hx0 := (wo_get hx).1
    refine ⟨_, rfl, g, rfl, ⟨_, SqL.of hx0⟩, fun D hD => ?_⟩
    have hD0 : ∀ {c : Addr} {o : HO}, H9 c = some o → c ≠ D := fun h => ne_of_none h hD
    refine lc_list (K := K) (a := g) (xs := xs) (fun i H3 => Same H9 H3 ∧ ∃ ts : List Addr, ts.length = i ∧ H3 D = some (.lst (ts.map V.ref)) ∧ ∀ (j : Nat) (t : Addr) (r : Str × Int), ts[j]? = some t → ks[j]? = some r → H3 t = some (.tup [.str r.1, .int r.2]))
      ⟨sameUpd (Same.refl _) hD, [], rfl, upd_same, fun j t r e => by cases e⟩ (fun i H3 _ w => SqL.of (w.1 _ _ hx0)) ?_ ?_
    · rintro i y H3 hi ⟨s3, ts, tl, hDs, hts⟩
      have lti : i < ks.length := by have := (List.getElem?_eq_some_iff.mp hi).1; have := it.1; omega
      have hq : ks[i]? = some ks[i] := List.getElem?_eq_getElem lti
      obtain ⟨t, rfl, ht⟩ := ((it.keep wo_same).keep s3).2 i y _ hi hq
      have ixr : ∀ {j : Int} {v : V} {Q' : V → Hp → Prop}, atI [V.str ks[i].1, V.int ks[i].2] j = some v → Q' v H3 → rIx K (.ref t) (.int j) H3 Q' := fun e q => by
        rcases ht with h | h
        · exact .inl ⟨_, _, _, _, rfl, rfl, SqL.of h, e, q⟩
        · exact .inr (.inl ⟨_, _, _, _, rfl, rfl, SqT.of h, e, q⟩)
      refine ⟨rfl, ?_⟩
      refine ⟨_, rfl, ixr rfl ⟨_, rfl, ixr rfl ⟨(by show 2 ≤ sizeLine; decide), fun u hu => ?_⟩⟩⟩
      have uD : u ≠ D := (ne_of_none hDs hu).symm
      refine ⟨ts.map V.ref, by rw [upd_ne uD.symm]; exact hDs, small1000 (by rw [List.length_map]; have := gk.hi; omega), fun c o e => ?_, ts ++ [u], by simp [tl], by rw [upd_same, List.map_append]; rfl, fun j t' r e1 e2 => ?_⟩
      · rw [upd_ne (hD0 e), upd_ne (ne_of_none (s3 c o e) hu)]
        exact s3 c o e
      · by_cases lt : j < ts.length
        · rw [List.getElem?_append_left lt] at e1
          have q3 := hts j t' r e1 e2
          have n0 : t' ≠ D := fun e => by rw [e, hDs] at q3; cases q3
          rw [upd_ne n0, upd_ne (ne_of_none q3 hu)]
          exact q3
        · have ej : j = i := by
            have := (List.getElem?_eq_some_iff.mp e1).1
            simp at this
            omega
          subst ej
          rw [List.getElem?_append_right (by omega), tl, Nat.sub_self] at e1
          cases e1
          rw [hq] at e2
          cases e2
          rw [upd_ne uD, upd_same]
    · rintro H3 ⟨s3, ts, tl, hDs, hts⟩
      refine ⟨D, _, rfl, .inl ⟨SqL.of hDs, fun l hl => ?_⟩⟩
      have s4 : Same H9 (upd H3 l (.tup (ts.map V.ref))) := sameUpd s3 hl
      have hp4 := hp9.same s4
      refine ⟨l, rfl, hp4, ⟨xs, wo_mono s4 _ _ hx, it.keep (wo_mono s4)⟩, ka9.keep (wo_mono s4), PairsT.wo ⟨ts, upd_same, by rw [tl]; exact it.1, fun j t r e1 e2 => ?_⟩ hp4⟩
      have q3 := hts j t r e1 e2
      rw [upd_ne (ne_of_none q3 hl)]
      exact q3
  clear gl9 ka9 hp9
  rintro σ H10 ⟨pt, rfl, hp10, gl10, ka10, pt10⟩
  -- the names
  refine ⟨fun σ H11 => ∃ nt, σ = S10 a p b wy told d.shown due g x pt nt ∧ HandAt H11 p q ∧ GoodL (wo p H11) g ks ∧ KindsAt C (wo p H11) x (vv ks) ∧ PairsT (wo p H11) pt ks ∧ wo p H11 nt = some (.tup (ks.map fun r => V.str r.1)), ?_, ?_⟩
  · obtain ⟨xs, hx, it⟩ := gl10
    have hx0 := (wo_get hx).1
    refine ⟨_, rfl, g, rfl, ⟨_, SqL.of hx0⟩, fun D hD => ?_⟩
    refine lc_list (K := K) (a := g) (xs := xs) (fun i H3 => Same H10 H3 ∧ H3 D = some (.lst ((ks.take i).map fun r => V.str r.1)))
      ⟨sameUpd (Same.refl _) hD, upd_same⟩ (fun i H3 _ w => SqL.of (w.1 _ _ hx0)) ?_ ?_
    · rintro i y H3 hi ⟨s3, hDs⟩
      have lti : i < ks.length := by have := (List.getElem?_eq_some_iff.mp hi).1; have := it.1; omega
      have hq : ks[i]? = some ks[i] := List.getElem?_eq_getElem lti
      obtain ⟨t, rfl, ht⟩ := ((it.keep wo_same).keep s3).2 i y _ hi hq
      have ixr : ∀ {j : Int} {v : V} {Q' : V → Hp → Prop}, atI [V.str ks[i].1, V.int ks[i].2] j = some v → Q' v H3 → rIx K (.ref t) (.int j) H3 Q' := fun e q => by
        rcases ht with h | h
        · exact .inl ⟨_, _, _, _, rfl, rfl, SqL.of h, e, q⟩
        · exact .inr (.inl ⟨_, _, _, _, rfl, rfl, SqT.of h, e, q⟩)
      refine ⟨rfl, ?_⟩
      refine ⟨_, rfl, ixr rfl ⟨_, hDs, small1000 (by rw [List.length_map, List.length_take]; have := gk.hi; omega), fun c o e => ?_, by rw [upd_same, take_succ_of hq, List.map_append]; rfl⟩⟩
      rw [upd_ne (ne_of_none e hD)]
      exact s3 c o e
    · rintro H3 ⟨s3, hDs⟩
      rw [it.1, List.take_length] at hDs
      refine ⟨D, _, rfl, .inl ⟨SqL.of hDs, fun l hl => ?_⟩⟩
      have s4 : Same H10 (upd H3 l (.tup (ks.map fun r => V.str r.1))) := sameUpd s3 hl
      have hp4 := hp10.same s4
      have lp : l ≠ p := (hp10.same s3).ap hl
      exact ⟨l, rfl, hp4, ⟨xs, wo_mono s4 _ _ hx, it.keep (wo_mono s4)⟩, ka10.keep (wo_mono s4), pt10.keep (wo_mono s4), wo_at upd_same lp⟩
  clear gl10 ka10 hp10 pt10
  rintro σ H11 ⟨nt, rfl, hp11, gl11, ka11, pt11, nt11⟩
  -- what the kinds tell
  have okn : ∀ r ∈ ks, PyData.strOk r.1 = true := fun r hr => (lab_ok (gk.each r hr).1).1
  have eqk : PyData.eqv (kd ks) (kd ks) = true := by rw [show PyData.eqv (kd ks) (kd ks) = decide (ks = ks) from eqv_kd ks ks]; exact decide_eq_true rfl
  refine ⟨fun σ H12 => σ = S10 a p b wy told d.shown due g x pt nt ∧ HandAt H12 p q ∧ GoodL (wo p H12) g ks ∧ KindsAt C (wo p H12) x (vv ks) ∧ PairsT (wo p H12) pt ks ∧ wo p H12 nt = some (.tup (ks.map fun r => V.str r.1)), ?_, ?_⟩
  · have kat := ka11.keep wo_same
    obtain ⟨dx, fs, r0, n0, d0, ts, g1, g2, g3, g4, g5, g6, g7, g8, g9, g10, _⟩ := kat.get (K := K)
    have hn0 := (wo_get nt11).1
    refine ⟨_, rfl, x, C, dx, fs, _, rfl, g1, A.KX.cl, A.KX.nR, g2, _, rfl, kd ks, kd ks, g8, (pt11.keep wo_same).dp, shaped_kd okn, shaped_kd okn, _, rfl, ?_⟩
    rw [eqk]
    refine iteF ?_
    have en : (ks.map fun r => V.str r.1) = (ks.map (·.1)).map V.str := by rw [List.map_map]; rfl
    have ok : Ok (ks.map (·.1)) := fun y hy => by
      obtain ⟨r, hr, e⟩ := List.mem_map.mp hy
      rw [← e]
      exact okn r hr
    have dn : ∀ {Hx : Hp} {u : Addr}, Hx u = some (.tup (ks.map fun r => V.str r.1)) → Dp K Hx (.ref u) (.tuple (dS (ks.map (·.1)))) := fun h => .tup (SqT.of h) (by rw [en]; exact dp_strs _)
    refine ⟨_, rfl, x, C, dx, fs, _, rfl, g1, A.KX.cl, A.KX.nN, g3, _, rfl, _, _, dn g9, dn hn0, (nms_tup ok).1, (nms_tup ok).1, _, rfl, ?_⟩
    rw [(nms_tup ok).2]
    refine iteF ?_
    refine ⟨_, rfl, x, dx, fs, rfl, g1, x, ks, rfl, kat, _, rfl, by omega, by have := gk.hi; omega, _, rfl, nt, _, rfl, .inr (SqT.of hn0), rfl, _, rfl, ?_⟩
    rw [List.length_map]
    refine iteNS rfl ?_
    refine ⟨_, rfl, x, dx, fs, n0, _, rfl, g1, g3, SqT.of g9, fun D hD => ?_⟩
    refine lc_tup (K := K) (a := n0) (xs := ks.map fun r => V.str r.1) (fun i H3 => Same H11 H3 ∧ H3 D = some (.lst ((ks.map fun r => V.str r.1).take i)))
      ⟨sameUpd (Same.refl _) hD, upd_same⟩ (fun i H3 _ w => SqT.of (w.1 _ _ g9)) ?_ ?_
    · rintro i y H3 hi ⟨s3, hDs⟩
      refine ⟨rfl, ?_⟩
      refine ⟨_, rfl, _, hDs, small1000 (by rw [List.length_take, List.length_map]; have := gk.hi; omega), fun c o e => ?_, by rw [upd_same, take_succ_of hi]⟩
      rw [upd_ne (ne_of_none e hD)]
      exact s3 c o e
    · rintro H3 ⟨s3, hDs⟩
      rw [List.take_length] at hDs
      refine ⟨_, rfl, nt, _, rfl, .inr (SqT.of (s3 _ _ hn0)), fun l hl => ?_⟩
      have s4 : Same H11 (upd H3 l (.lst (ks.map fun r => V.str r.1))) := sameUpd s3 hl
      have dl : ∀ {Hx : Hp} {u : Addr}, Hx u = some (.lst (ks.map fun r => V.str r.1)) → Dp K Hx (.ref u) (.list (dS (ks.map (·.1)))) := fun h => .lst (SqL.of h) (by rw [en]; exact dp_strs _)
      refine ⟨_, _, dl (by rw [upd_ne (ne_of_none hDs hl)]; exact hDs), dl upd_same, (nms_lst ok).1, (nms_lst ok).1, _, rfl, ?_⟩
      rw [(nms_lst ok).2]
      exact iteF ⟨rfl, hp11.same s4, gl11.keep (wo_mono s4), ka11.keep (wo_mono s4), pt11.keep (wo_mono s4), wo_mono s4 _ _ nt11⟩
  clear hp11 gl11 ka11 pt11 nt11
  rintro σ H12 ⟨rfl, hp12, gl12, ka12, pt12, nt12⟩
  -- tuples all
  refine ⟨fun σ H13 => σ = S10 a p b wy told d.shown due g x pt nt ∧ HandAt H13 p q ∧ GoodL (wo p H13) g ks ∧ KindsAt C (wo p H13) x (vv ks) ∧ PairsT (wo p H13) pt ks ∧ wo p H13 nt = some (.tup (ks.map fun r => V.str r.1)), ?_, ?_⟩
  · have kat := ka12.keep wo_same
    obtain ⟨dx, fs, r0, n0, d0, ts, g1, g2, g3, g4, g5, g6, g7, g8, g9, g10, g11⟩ := kat.get (K := K)
    have kt : PySem.W.kitOne K (.type "tuple") (.type "tuple") = some true := kit_self
    obtain ⟨t0, ts', rfl⟩ : ∃ t0 ts', ts = t0 :: ts' := by
      cases ts with
      | nil => have := gk.lo; rw [← g7] at this; exact absurd this (by decide)
      | cons t0 ts' => exact ⟨t0, ts', rfl⟩
    have lt0 : 0 < ks.length := gk.lo
    have k0 : ks[0]? = some ks[0] := List.getElem?_eq_getElem lt0
    have at0 := g11 0 t0 _ rfl k0
    refine ⟨_, rfl, x, C, dx, fs, _, rfl, g1, A.KX.cl, A.KX.nR, g2, _, _, _, _, _, rfl, .ty _, .base (.tup g6), kt, _, rfl, ?_⟩
    refine iteF ?_
    refine ⟨_, rfl, x, C, dx, fs, _, rfl, g1, A.KX.cl, A.KX.nR, g2, .inr (.inl ⟨_, _, _, _, rfl, rfl, SqT.of g6, atI0 _ _, ?_⟩)⟩
    refine ⟨_, _, _, _, _, rfl, .ty _, .base (.tup at0), kt, _, rfl, ?_⟩
    refine iteF ?_
    refine ⟨_, rfl, x, C, dx, fs, _, rfl, g1, A.KX.cl, A.KX.nN, g3, _, _, _, _, _, rfl, .ty _, .base (.tup g9), kt, _, rfl, ?_⟩
    exact iteF ⟨rfl, hp12, gl12, ka12, pt12, nt12⟩
  clear hp12 gl12 ka12 pt12 nt12
  rintro σ H13 ⟨rfl, hp13, gl13, ka13, pt13, nt13⟩
  -- the arities
  refine ⟨fun σ H14 => σ = S10 a p b wy told d.shown due g x pt nt ∧ HandAt H14 p q ∧ GoodL (wo p H14) g ks ∧ KindsAt C (wo p H14) x (vv ks) ∧ PairsT (wo p H14) pt ks ∧ wo p H14 nt = some (.tup (ks.map fun r => V.str r.1)), ?_, ?_⟩
  · obtain ⟨xs, hx, it⟩ := gl13
    have hx0 := (wo_get hx).1
    have kat := ka13.keep wo_same
    refine ⟨_, rfl, g, rfl, ⟨_, SqL.of hx0⟩, fun D hD => ?_⟩
    refine lc_list (K := K) (a := g) (xs := xs) (fun i H3 => Same H13 H3 ∧ ArsL H3 D (ks.take i))
      ⟨sameUpd (Same.refl _) hD, [], upd_same, rfl, fun j t r e => by cases e⟩ (fun i H3 _ w => SqL.of (w.1 _ _ hx0)) ?_ ?_
    · rintro i y H3 hi ⟨s3, ts, hDs, tl, hts⟩
      have lti : i < ks.length := by have := (List.getElem?_eq_some_iff.mp hi).1; have := it.1; omega
      have hq : ks[i]? = some ks[i] := List.getElem?_eq_getElem lti
      obtain ⟨t, rfl, ht⟩ := ((it.keep wo_same).keep s3).2 i y _ hi hq
      have ixr : ∀ {j : Int} {v : V} {Q' : V → Hp → Prop}, atI [V.str ks[i].1, V.int ks[i].2] j = some v → Q' v H3 → rIx K (.ref t) (.int j) H3 Q' := fun e q => by
        rcases ht with h | h
        · exact .inl ⟨_, _, _, _, rfl, rfl, SqL.of h, e, q⟩
        · exact .inr (.inl ⟨_, _, _, _, rfl, rfl, SqT.of h, e, q⟩)
      refine ⟨rfl, ?_⟩
      refine ⟨_, rfl, _, rfl, ixr rfl ⟨x, .str ks[i].1, _, ks, rfl, kat.keep s3, .str _, ?_⟩⟩
      rw [kAr_num, kNum_mem gk.nd hq]
      intro u H4 s4 _ hu
      refine ⟨ts.map V.ref, s4 _ _ hDs, small1000 (by rw [List.length_map, tl, List.length_take]; have := gk.hi; omega), fun c o e => ?_, ?_⟩
      · rw [upd_ne (ne_of_none e hD)]
        exact (s3.trans s4) c o e
      · rw [take_succ_of hq]
        exact ArsL.add (s4 _ _ hDs) tl (fun j t r e1 e2 => s4 _ _ (hts j t r e1 e2)) hu
    · rintro H3 ⟨s3, ar⟩
      rw [it.1, List.take_length] at ar
      refine ⟨.ref D, 2, _, rfl, ar.dd gk, by decide, ?_⟩
      refine ⟨_, rfl, g, rfl, ⟨_, SqL.of (s3 _ _ hx0)⟩, fun D' hD' => ?_⟩
      refine lc_list (K := K) (a := g) (xs := xs) (fun i H5 => Same H3 H5 ∧ ArsL H5 D' (ks.take i))
        ⟨sameUpd (Same.refl _) hD', [], upd_same, rfl, fun j t r e => by cases e⟩ (fun i H5 _ w => SqL.of (w.1 _ _ (s3 _ _ hx0))) ?_ ?_
      · rintro i y H5 hi ⟨s5, ts, hDs, tl, hts⟩
        have lti : i < ks.length := by have := (List.getElem?_eq_some_iff.mp hi).1; have := it.1; omega
        have hq : ks[i]? = some ks[i] := List.getElem?_eq_getElem lti
        obtain ⟨t, rfl, ht⟩ := (((it.keep wo_same).keep s3).keep s5).2 i y _ hi hq
        have ixr : ∀ {j : Int} {v : V} {Q' : V → Hp → Prop}, atI [V.str ks[i].1, V.int ks[i].2] j = some v → Q' v H5 → rIx K (.ref t) (.int j) H5 Q' := fun e q => by
          rcases ht with h | h
          · exact .inl ⟨_, _, _, _, rfl, rfl, SqL.of h, e, q⟩
          · exact .inr (.inl ⟨_, _, _, _, rfl, rfl, SqT.of h, e, q⟩)
        refine ⟨rfl, ?_⟩
        refine ⟨_, rfl, ixr rfl ⟨(by show 1 ≤ sizeLine; decide), fun u hu => ?_⟩⟩
        have s6 : Same H5 (upd H5 u (.tup [V.int ks[i].2])) := sameUpd (Same.refl _) hu
        refine ⟨ts.map V.ref, s6 _ _ hDs, small1000 (by rw [List.length_map, tl, List.length_take]; have := gk.hi; omega), fun c o e => ?_, ?_⟩
        · rw [upd_ne (ne_of_none e hD')]
          exact (s5.trans s6) c o e
        · rw [take_succ_of hq]
          exact ArsL.add (s6 _ _ hDs) tl (fun j t r e1 e2 => s6 _ _ (hts j t r e1 e2)) upd_same
      · rintro H5 ⟨s5, ar5⟩
        rw [it.1, List.take_length] at ar5
        refine ⟨.ref D', 2, _, rfl, ar5.dd gk, by decide, rfl, _, rfl, ?_⟩
        have s9 := s3.trans s5
        exact iteNS rfl ⟨rfl, hp13.same s9, ⟨xs, wo_mono s9 _ _ hx, it.keep (wo_mono s9)⟩, ka13.keep (wo_mono s9), pt13.keep (wo_mono s9), wo_mono s9 _ _ nt13⟩
  clear hp13 gl13 ka13 pt13 nt13
  rintro σ H14 ⟨rfl, hp14, gl14, ka14, pt14, nt14⟩
  -- an odd thing
  refine ⟨_, rfl, p, q, rfl, hp14, fun od dod H15 hod hp15 k15 => ?_⟩
  obtain ⟨op, hop⟩ := hp14.at_
  have sk := wo_keep k15
  have gl15 := gl14.keep sk
  have ka15 := ka14.keep sk
  have pt15 := pt14.keep sk
  have nt15 := sk _ _ nt14
  have hod15 : Dd H15 1 od dod := (hod.keep (nw_wo hop)).keep wo_same
  clear hod hop sk gl14 ka14 pt14 nt14 hp14 k15
  refine ⟨fun σ H16 => ∃ od, σ = S11 a p b wy told d.shown due g x pt nt od ∧ HandAt H16 p q ∧ GoodL (wo p H16) g ks ∧ KindsAt C (wo p H16) x (vv ks) ∧ PairsT (wo p H16) pt ks ∧ wo p H16 nt = some (.tup (ks.map fun r => V.str r.1)), ?_, ?_⟩
  · have kat := ka15.keep wo_same
    obtain ⟨dx, fs, r0, n0, d0, ts, g1, g2, g3, g4, g5, g6, g7, g8, g9, g10, g11⟩ := kat.get (K := K)
    obtain ⟨tn, kd0, _⟩ := hod15.thing
    refine ⟨_, rfl, od, _, _, _, _, rfl, .ty _, kd0.ty, kit_ty (kit_str kd0.kits), _, rfl, ?_⟩
    cases kd0 with
    | str z =>
      refine iteT ⟨_, rfl, _, rfl, nt, _, rfl, .inr (SqT.of (wo_get nt15).1), rfl, (by rw [List.all_map]; exact List.all_eq_true.mpr fun _ _ => rfl), _, rfl, ?_⟩
      have ei : inV (V.str z) (ks.map fun r => V.str r.1) = kIn ks (.str z) := by
        have en : (ks.map fun r => V.str r.1) = (ks.map (·.1)).map V.str := by rw [List.map_map]; rfl
        rw [en, inV_strs]
        rfl
      rw [show (if false then !inV (V.str z) (ks.map fun r => V.str r.1) else inV (V.str z) (ks.map fun r => V.str r.1)) = kIn ks (.str z) from ei]
      cases no : kIn ks (.str z) with
      | true => exact iteF ⟨_, rfl, hp15, gl15, ka15, pt15, nt15⟩
      | false =>
        refine iteT ?_
        refine ⟨_, rfl, _, rfl, x, dx, fs, rfl, g1, x, .str z, _, ks, rfl, kat, .str z, _, rfl, _, rfl, ?_⟩
        rw [no]
        refine iteF ?_
        refine ⟨_, rfl, _, rfl, x, .str z, _, ks, rfl, kat, .str z, ?_⟩
        have ka0 := kAr_in ks (.str z)
        rw [no] at ka0
        cases ea : kAr ks (.str z) with
        | some v => rw [ea] at ka0; cases ka0
        | none =>
          intro t H16 s16 _ ht
          refine ⟨_, rfl, (by show 2 ≤ sizeLine; decide), fun l hl => ?_⟩
          have s17 : Same H15 (upd H16 l (.lst [V.str "none", .str z])) := sameUpd s16 hl
          refine ⟨t, l, _, _, rfl, rfl, SqL.of (by rw [upd_ne (ne_of_none ht hl)]; exact ht), SqL.of upd_same, .inr ⟨rfl, (fun z hz => ?_), _, rfl, ?_⟩⟩
          · simp only [List.mem_cons, List.not_mem_nil, or_false] at hz
            rcases hz with e | e <;> subst e
            · exact .inl rfl
            · exact .inl rfl
          · exact iteF ⟨_, rfl, hp15.same s17, gl15.keep (wo_mono s17), ka15.keep (wo_mono s17), pt15.keep (wo_mono s17), wo_mono s17 _ _ nt15⟩
    | non =>
      have no : kIn ks (.non) = false := rfl
      refine iteF ?_
      refine iteT ?_
      refine ⟨_, rfl, _, rfl, x, dx, fs, rfl, g1, x, .non, _, ks, rfl, kat, .non, _, rfl, _, rfl, ?_⟩
      rw [no]
      refine iteF ?_
      refine ⟨_, rfl, _, rfl, x, .non, _, ks, rfl, kat, .non, ?_⟩
      have ka0 := kAr_in ks (.non)
      rw [no] at ka0
      cases ea : kAr ks (.non) with
      | some v => rw [ea] at ka0; cases ka0
      | none =>
        intro t H16 s16 _ ht
        refine ⟨_, rfl, (by show 2 ≤ sizeLine; decide), fun l hl => ?_⟩
        have s17 : Same H15 (upd H16 l (.lst [V.str "none", .non])) := sameUpd s16 hl
        refine ⟨t, l, _, _, rfl, rfl, SqL.of (by rw [upd_ne (ne_of_none ht hl)]; exact ht), SqL.of upd_same, .inr ⟨rfl, (fun z hz => ?_), _, rfl, ?_⟩⟩
        · simp only [List.mem_cons, List.not_mem_nil, or_false] at hz
          rcases hz with e | e <;> subst e
          · exact .inl rfl
          · exact .inl rfl
        · exact iteF ⟨_, rfl, hp15.same s17, gl15.keep (wo_mono s17), ka15.keep (wo_mono s17), pt15.keep (wo_mono s17), wo_mono s17 _ _ nt15⟩
    | bl b0 =>
      have no : kIn ks (.bl b0) = false := rfl
      refine iteF ?_
      refine iteT ?_
      refine ⟨_, rfl, _, rfl, x, dx, fs, rfl, g1, x, .bl b0, _, ks, rfl, kat, .bl b0, _, rfl, _, rfl, ?_⟩
      rw [no]
      refine iteF ?_
      refine ⟨_, rfl, _, rfl, x, .bl b0, _, ks, rfl, kat, .bl b0, ?_⟩
      have ka0 := kAr_in ks (.bl b0)
      rw [no] at ka0
      cases ea : kAr ks (.bl b0) with
      | some v => rw [ea] at ka0; cases ka0
      | none =>
        intro t H16 s16 _ ht
        refine ⟨_, rfl, (by show 2 ≤ sizeLine; decide), fun l hl => ?_⟩
        have s17 : Same H15 (upd H16 l (.lst [V.str "none", .bl b0])) := sameUpd s16 hl
        refine ⟨t, l, _, _, rfl, rfl, SqL.of (by rw [upd_ne (ne_of_none ht hl)]; exact ht), SqL.of upd_same, .inr ⟨rfl, (fun z hz => ?_), _, rfl, ?_⟩⟩
        · simp only [List.mem_cons, List.not_mem_nil, or_false] at hz
          rcases hz with e | e <;> subst e
          · exact .inl rfl
          · exact .inl rfl
        · exact iteF ⟨_, rfl, hp15.same s17, gl15.keep (wo_mono s17), ka15.keep (wo_mono s17), pt15.keep (wo_mono s17), wo_mono s17 _ _ nt15⟩
    | int b0 =>
      have no : kIn ks (.int b0) = false := rfl
      refine iteF ?_
      refine iteT ?_
      refine ⟨_, rfl, _, rfl, x, dx, fs, rfl, g1, x, .int b0, _, ks, rfl, kat, .int b0, _, rfl, _, rfl, ?_⟩
      rw [no]
      refine iteF ?_
      refine ⟨_, rfl, _, rfl, x, .int b0, _, ks, rfl, kat, .int b0, ?_⟩
      have ka0 := kAr_in ks (.int b0)
      rw [no] at ka0
      cases ea : kAr ks (.int b0) with
      | some v => rw [ea] at ka0; cases ka0
      | none =>
        intro t H16 s16 _ ht
        refine ⟨_, rfl, (by show 2 ≤ sizeLine; decide), fun l hl => ?_⟩
        have s17 : Same H15 (upd H16 l (.lst [V.str "none", .int b0])) := sameUpd s16 hl
        refine ⟨t, l, _, _, rfl, rfl, SqL.of (by rw [upd_ne (ne_of_none ht hl)]; exact ht), SqL.of upd_same, .inr ⟨rfl, (fun z hz => ?_), _, rfl, ?_⟩⟩
        · simp only [List.mem_cons, List.not_mem_nil, or_false] at hz
          rcases hz with e | e <;> subst e
          · exact .inl rfl
          · exact .inl rfl
        · exact iteF ⟨_, rfl, hp15.same s17, gl15.keep (wo_mono s17), ka15.keep (wo_mono s17), pt15.keep (wo_mono s17), wo_mono s17 _ _ nt15⟩
    | lst a0 l0 h0 =>
      have no : kIn ks (.ref a0) = false := rfl
      refine iteF ?_
      refine iteT ?_
      refine ⟨_, rfl, _, rfl, x, dx, fs, rfl, g1, x, .ref a0, _, ks, rfl, kat, .lst a0 l0 h0, _, rfl, _, rfl, ?_⟩
      rw [no]
      refine iteF ?_
      refine ⟨_, rfl, _, rfl, x, .ref a0, _, ks, rfl, kat, .lst a0 l0 h0, ?_⟩
      have ka0 := kAr_in ks (.ref a0)
      rw [no] at ka0
      cases ea : kAr ks (.ref a0) with
      | some v => rw [ea] at ka0; cases ka0
      | none =>
        intro t H16 s16 _ ht
        refine ⟨_, rfl, (by show 2 ≤ sizeLine; decide), fun l hl => ?_⟩
        have s17 : Same H15 (upd H16 l (.lst [V.str "none", .ref a0])) := sameUpd s16 hl
        refine ⟨t, l, _, _, rfl, rfl, SqL.of (by rw [upd_ne (ne_of_none ht hl)]; exact ht), SqL.of upd_same, .inr ⟨rfl, (fun z hz => ?_), _, rfl, ?_⟩⟩
        · simp only [List.mem_cons, List.not_mem_nil, or_false] at hz
          rcases hz with e | e <;> subst e
          · exact .inl rfl
          · exact .inr ⟨_, rfl⟩
        · exact iteF ⟨_, rfl, hp15.same s17, gl15.keep (wo_mono s17), ka15.keep (wo_mono s17), pt15.keep (wo_mono s17), wo_mono s17 _ _ nt15⟩
    | tup a0 l0 h0 =>
      have no : kIn ks (.ref a0) = false := rfl
      refine iteF ?_
      refine iteT ?_
      refine ⟨_, rfl, _, rfl, x, dx, fs, rfl, g1, x, .ref a0, _, ks, rfl, kat, .tup a0 l0 h0, _, rfl, _, rfl, ?_⟩
      rw [no]
      refine iteF ?_
      refine ⟨_, rfl, _, rfl, x, .ref a0, _, ks, rfl, kat, .tup a0 l0 h0, ?_⟩
      have ka0 := kAr_in ks (.ref a0)
      rw [no] at ka0
      cases ea : kAr ks (.ref a0) with
      | some v => rw [ea] at ka0; cases ka0
      | none =>
        intro t H16 s16 _ ht
        refine ⟨_, rfl, (by show 2 ≤ sizeLine; decide), fun l hl => ?_⟩
        have s17 : Same H15 (upd H16 l (.lst [V.str "none", .ref a0])) := sameUpd s16 hl
        refine ⟨t, l, _, _, rfl, rfl, SqL.of (by rw [upd_ne (ne_of_none ht hl)]; exact ht), SqL.of upd_same, .inr ⟨rfl, (fun z hz => ?_), _, rfl, ?_⟩⟩
        · simp only [List.mem_cons, List.not_mem_nil, or_false] at hz
          rcases hz with e | e <;> subst e
          · exact .inl rfl
          · exact .inr ⟨_, rfl⟩
        · exact iteF ⟨_, rfl, hp15.same s17, gl15.keep (wo_mono s17), ka15.keep (wo_mono s17), pt15.keep (wo_mono s17), wo_mono s17 _ _ nt15⟩
    | dct a0 l0 h0 =>
      have no : kIn ks (.ref a0) = false := rfl
      refine iteF ?_
      refine iteT ?_
      refine ⟨_, rfl, _, rfl, x, dx, fs, rfl, g1, x, .ref a0, _, ks, rfl, kat, .dct a0 l0 h0, _, rfl, _, rfl, ?_⟩
      rw [no]
      refine iteF ?_
      refine ⟨_, rfl, _, rfl, x, .ref a0, _, ks, rfl, kat, .dct a0 l0 h0, ?_⟩
      have ka0 := kAr_in ks (.ref a0)
      rw [no] at ka0
      cases ea : kAr ks (.ref a0) with
      | some v => rw [ea] at ka0; cases ka0
      | none =>
        intro t H16 s16 _ ht
        refine ⟨_, rfl, (by show 2 ≤ sizeLine; decide), fun l hl => ?_⟩
        have s17 : Same H15 (upd H16 l (.lst [V.str "none", .ref a0])) := sameUpd s16 hl
        refine ⟨t, l, _, _, rfl, rfl, SqL.of (by rw [upd_ne (ne_of_none ht hl)]; exact ht), SqL.of upd_same, .inr ⟨rfl, (fun z hz => ?_), _, rfl, ?_⟩⟩
        · simp only [List.mem_cons, List.not_mem_nil, or_false] at hz
          rcases hz with e | e <;> subst e
          · exact .inl rfl
          · exact .inr ⟨_, rfl⟩
        · exact iteF ⟨_, rfl, hp15.same s17, gl15.keep (wo_mono s17), ka15.keep (wo_mono s17), pt15.keep (wo_mono s17), wo_mono s17 _ _ nt15⟩
  clear hp15 gl15 ka15 pt15 nt15 hod15
  rintro σ H16 ⟨od', rfl, hp16, gl16, ka16, pt16, nt16⟩
  -- "year"; every name is in the kinds
  refine ⟨fun σ H17 => σ = S11 a p b wy told d.shown due g x pt nt od' ∧ HandAt H17 p q ∧ GoodL (wo p H17) g ks ∧ KindsAt C (wo p H17) x (vv ks) ∧ PairsT (wo p H17) pt ks ∧ wo p H17 nt = some (.tup (ks.map fun r => V.str r.1)), ?_, ?_⟩
  · have kat := ka16.keep wo_same
    obtain ⟨dx, fs, r0, n0, d0, ts, g1, g2, g3, g4, g5, g6, g7, g8, g9, g10, g11⟩ := kat.get (K := K)
    have hn0 := (wo_get nt16).1
    have noy : kIn ks (.str "year") = false := decide_eq_false fun h => by
      obtain ⟨r, hr, e⟩ := List.mem_map.mp h
      exact (gk.each r hr).2.1 e
    refine ⟨_, rfl, x, dx, fs, rfl, g1, x, .str "year", _, ks, rfl, kat, .str _, _, rfl, _, rfl, ?_⟩
    rw [noy]
    refine iteF ?_
    refine ⟨_, rfl, nt, rfl, ⟨_, SqT.of hn0⟩, fun D hD => ?_⟩
    refine lc_tup (K := K) (a := nt) (xs := ks.map fun r => V.str r.1) (fun i H3 => Same H16 H3 ∧ H3 D = some (.lst []))
      ⟨sameUpd (Same.refl _) hD, upd_same⟩ (fun i H3 _ w => SqT.of (w.1 _ _ hn0)) ?_ ?_
    · rintro i y H3 hi ⟨s3, hDs⟩
      obtain ⟨r, hr, rfl⟩ : ∃ r, r ∈ ks ∧ V.str r.1 = y := by
        obtain ⟨r, hr, e⟩ := List.mem_map.mp (List.mem_of_getElem? hi)
        exact ⟨r, hr, e⟩
      have yes : kIn ks (.str r.1) = true := decide_eq_true (List.mem_map.mpr ⟨r, hr, rfl⟩)
      refine ⟨rfl, ?_⟩
      refine ⟨_, rfl, _, rfl, x, dx, fs, rfl, s3 _ _ g1, x, .str r.1, _, ks, rfl, kat.keep s3, .str _, _, rfl, _, rfl, ?_⟩
      rw [yes]
      exact iteF ⟨s3, hDs⟩
    · rintro H3 ⟨s3, hDs⟩
      refine ⟨Nat.zero_le _, fun l hl => ?_⟩
      have s4 : Same H16 (upd H3 l (.lst [])) := sameUpd s3 hl
      refine ⟨D, l, [], [], rfl, rfl, SqL.of (by rw [upd_ne (ne_of_none hDs hl)]; exact hDs), SqL.of upd_same, .inr ⟨rfl, (fun z hz => nomatch hz), _, rfl, ?_⟩⟩
      exact iteF ⟨rfl, hp16.same s4, gl16.keep (wo_mono s4), ka16.keep (wo_mono s4), pt16.keep (wo_mono s4), wo_mono s4 _ _ nt16⟩
  clear hp16 gl16 ka16 pt16 nt16
  rintro σ H17 ⟨rfl, hp17, gl17, ka17, pt17, nt17⟩
  -- turned by one
  obtain ⟨xs, hx, it⟩ := gl17
  obtain ⟨x0, xr, rfl⟩ : ∃ x0 xr, xs = x0 :: xr := by
    cases xs with
    | nil => have := gk.lo; rw [← it.1] at this; exact absurd this (by decide)
    | cons x0 xr => exact ⟨x0, xr, rfl⟩
  have xl : xr.length + 1 ≤ 6 := by have := gk.hi; rw [← it.1] at this; exact this
  refine ⟨_, rfl, _, rfl, g, _, rfl, SqL.of (wo_get hx).1, fun l1 hl1 => ?_⟩
  have t1 := sameUpd (o := .lst (cutV (x0 :: xr) (some 1) none)) (Same.refl H17) hl1
  refine ⟨_, rfl, _, rfl, g, _, rfl, SqL.of (t1 _ _ (wo_get hx).1), fun l2 hl2 => ?_⟩
  have t2 := sameUpd (o := .lst (cutV (x0 :: xr) none (some 1))) (Same.refl _) hl2
  refine ⟨l1, l2, _, _, rfl, rfl, t2 _ _ upd_same, upd_same, by rw [cut1, cutA]; exact Nat.le_of_lt (small1000 (by show xr.length + 1 ≤ 1000; omega)), fun oc hoc => ?_⟩
  have t3 := (t1.trans t2).trans (sameUpd (o := .lst (cutV (x0 :: xr) (some 1) none ++ cutV (x0 :: xr) none (some 1))) (Same.refl _) hoc)
  have hp18 := hp17.same t3
  have ocp : oc ≠ p := (hp17.same (t1.trans t2)).ap hoc
  have gl18 : GoodL (wo p (upd (upd (upd H17 l1 (.lst (cutV (x0 :: xr) (some 1) none))) l2 (.lst (cutV (x0 :: xr) none (some 1)))) oc (.lst (cutV (x0 :: xr) (some 1) none ++ cutV (x0 :: xr) none (some 1))))) g ks := ⟨_, wo_mono t3 _ _ hx, it.keep (wo_mono t3)⟩
  have ol18 : GoodL (wo p (upd (upd (upd H17 l1 (.lst (cutV (x0 :: xr) (some 1) none))) l2 (.lst (cutV (x0 :: xr) none (some 1)))) oc (.lst (cutV (x0 :: xr) (some 1) none ++ cutV (x0 :: xr) none (some 1))))) oc (rot ks) := by
    refine ⟨_, wo_at upd_same ocp, ?_⟩
    have z := (rot_items it).keep (wo_mono (p := p) t3)
    have ec : cutV (x0 :: xr) (some 1) none ++ cutV (x0 :: xr) none (some 1) = xr ++ [x0] := by rw [cut1, cutA]
    rw [← ec] at z
    exact z
  have ka18 := ka17.keep (wo_mono (p := p) t3)
  have pt18 := pt17.keep (wo_mono (p := p) t3)
  have nt18 := wo_mono (p := p) t3 _ _ nt17
  generalize (upd (upd (upd H17 l1 (.lst (cutV (x0 :: xr) (some 1) none))) l2 (.lst (cutV (x0 :: xr) none (some 1)))) oc (.lst (cutV (x0 :: xr) (some 1) none ++ cutV (x0 :: xr) none (some 1)))) = H18 at hp18 gl18 ol18 ka18 pt18 nt18 ⊢
  clear t1 t2 t3 hl1 hl2 hoc hx it hp17 ka17 pt17 nt17
  -- three comparisons
  have nf : PySem.W.notFirst K C (.ref C) = true := by simp [PySem.W.notFirst]
  have gr := rot_good gk
  have okr : ∀ r ∈ rot ks, PyData.strOk r.1 = true := fun r hr => (lab_ok (gr.each r hr).1).1
  refine ⟨fun σ H19 => σ = S12 a p b wy told d.shown due g x pt nt od' oc ∧ HandAt H19 p q ∧ GoodL (wo p H19) g ks ∧ KindsAt C (wo p H19) x (vv ks), ?_, ?_⟩
  · obtain ⟨xs, hx, it⟩ := gl18
    obtain ⟨xo, hxo, ito⟩ := ol18
    have hxo0 := (wo_get hxo).1
    have kat := ka18.keep wo_same
    obtain ⟨dx, fs, r0, n0, d0, ts, g1, _⟩ := kat.get (K := K)
    refine ⟨_, rfl, _, rfl, g, xs, rfl, .inl (SqL.of (wo_get hx).1), fun l hl => ?_⟩
    have s1 : Same H18 (upd H18 l (.lst xs)) := sameUpd (Same.refl _) hl
    refine make gk ⟨xs, upd_same, (it.keep wo_same).keep s1⟩ fun y H2 _ s2 ka2 => ?_
    have s12 := s1.trans s2
    obtain ⟨dy, gs, _, _, _, _, f1, _⟩ := ka2.get (K := K)
    refine ⟨x, dx, fs, y, dy, gs, rfl, s12 _ _ g1, rfl, f1, x, .ref y, ks, rfl, kat.keep s12, okn, .inl ⟨y, ks, rfl, ka2, okn, _, rfl, _, rfl, ?_⟩⟩
    rw [show decide (ks = ks) = true from decide_eq_true rfl]
    refine iteF ?_
    refine ⟨_, rfl, _, rfl, make gr ⟨xo, s12 _ _ hxo0, (ito.keep wo_same).keep s12⟩ fun y3 H3 _ s3 ka3 => ?_⟩
    have s13 := s12.trans s3
    obtain ⟨dy3, gs3, _, _, _, _, f3, _⟩ := ka3.get (K := K)
    refine ⟨x, dx, fs, rfl, s13 _ _ g1, .inl ⟨y3, dy3, gs3, C, rfl, f3, nf⟩, x, .ref y3, ks, rfl, kat.keep s13, okn, .inl ⟨y3, rot ks, rfl, ka3, okr, _, rfl, ?_⟩⟩
    refine ⟨_, rfl, _, rfl, oc, rfl, ⟨_, SqL.of (s13 _ _ hxo0)⟩, fun D hD => ?_⟩
    have hD0 : ∀ {c : Addr} {o : HO}, H3 c = some o → c ≠ D := fun h => ne_of_none h hD
    refine lc_list (K := K) (a := oc) (xs := xo) (fun i H5 => Same H3 H5 ∧ ∃ ts : List Addr, ts.length = i ∧ H5 D = some (.lst (ts.map V.ref)) ∧ ∀ (j : Nat) (t : Addr) (r : Str × Int), ts[j]? = some t → (rot ks)[j]? = some r → H5 t = some (.tup [.str r.1, .int r.2]))
      ⟨sameUpd (Same.refl _) hD, [], rfl, upd_same, fun j t r e => by cases e⟩ (fun i H5 _ w => SqL.of (w.1 _ _ (s13 _ _ hxo0))) ?_ ?_
    · rintro i y H5 hi ⟨s5, ts, tl, hDs, hts⟩
      have lti : i < (rot ks).length := by have := (List.getElem?_eq_some_iff.mp hi).1; have := ito.1; omega
      have hq : (rot ks)[i]? = some (rot ks)[i] := List.getElem?_eq_getElem lti
      obtain ⟨t, rfl, ht⟩ := ((ito.keep wo_same).keep (s13.trans s5)).2 i y _ hi hq
      have ixr : ∀ {j : Int} {v : V} {Q' : V → Hp → Prop}, atI [V.str (rot ks)[i].1, V.int (rot ks)[i].2] j = some v → Q' v H5 → rIx K (.ref t) (.int j) H5 Q' := fun e q => by
        rcases ht with h | h
        · exact .inl ⟨_, _, _, _, rfl, rfl, SqL.of h, e, q⟩
        · exact .inr (.inl ⟨_, _, _, _, rfl, rfl, SqT.of h, e, q⟩)
      refine ⟨rfl, ?_⟩
      refine ⟨_, rfl, ixr rfl ⟨_, rfl, ixr rfl ⟨(by show 2 ≤ sizeLine; decide), fun u hu => ?_⟩⟩⟩
      have uD : u ≠ D := (ne_of_none hDs hu).symm
      refine ⟨ts.map V.ref, by rw [upd_ne uD.symm]; exact hDs, small1000 (by rw [List.length_map]; have := gr.hi; omega), fun c o e => ?_, ts ++ [u], by simp [tl], by rw [upd_same, List.map_append]; rfl, fun j t' r e1 e2 => ?_⟩
      · rw [upd_ne (hD0 e), upd_ne (ne_of_none (s5 c o e) hu)]
        exact s5 c o e
      · by_cases lt : j < ts.length
        · rw [List.getElem?_append_left lt] at e1
          have q3 := hts j t' r e1 e2
          have n0 : t' ≠ D := fun e => by rw [e, hDs] at q3; cases q3
          rw [upd_ne n0, upd_ne (ne_of_none q3 hu)]
          exact q3
        · have ej : j = i := by
            have := (List.getElem?_eq_some_iff.mp e1).1
            simp at this
            omega
          subst ej
          rw [List.getElem?_append_right (by omega), tl, Nat.sub_self] at e1
          cases e1
          rw [hq] at e2
          cases e2
          rw [upd_ne uD, upd_same]
    · rintro H5 ⟨s5, ts, tl, hDs, hts⟩
      refine ⟨D, _, rfl, .inl ⟨SqL.of hDs, fun l' hl' => ?_⟩⟩
      have s6 : Same H3 (upd H5 l' (.tup (ts.map V.ref))) := sameUpd s5 hl'
      have s16 := s13.trans s6
      have pl : PairsT (upd H5 l' (.tup (ts.map V.ref))) l' (rot ks) := ⟨ts, upd_same, by rw [tl]; exact ito.1, fun j t r e1 e2 => by
        have q3 := hts j t r e1 e2
        rw [upd_ne (ne_of_none q3 hl')]
        exact q3⟩
      obtain ⟨ptx, hpt, _⟩ := id pt18
      refine ⟨kd ks, kd (rot ks), ((pt18.keep wo_same).keep s16).dp, pl.dp, shaped_kd okn, shaped_kd okr, rfl, _, rfl, ?_⟩
      rw [show PyData.eqv (kd ks) (kd (rot ks)) = decide (ks = rot ks) from eqv_kd ks (rot ks)]
      refine iteNS rfl ?_
      refine ⟨_, rfl, _, rfl, x, dx, fs, rfl, s16 _ _ g1, .inr ⟨pt, _, rfl, s16 _ _ (wo_get hpt).1, A.nfT⟩, x, .ref pt, ks, rfl, kat.keep s16, okn, .inr ⟨pt, _, rfl, s16 _ _ (wo_get hpt).1, _, rfl, _, rfl, ?_⟩⟩
      exact iteF ⟨rfl, hp18.same s16, ⟨xs, wo_mono s16 _ _ hx, it.keep (wo_mono s16)⟩, ka18.keep (wo_mono s16)⟩
  clear hp18 gl18 ol18 ka18 pt18 nt18
  rintro σ H19 ⟨rfl, hp19, gl19, ka19⟩
  -- persons
  refine ⟨_, rfl, p, q, rfl, hp19, fun c ys H20 hc ne few fine hp20 k20 => ?_⟩
  have M20 : Mat H20 p q g c ks ys := ⟨hp20, gl19.keep (wo_keep k20), gk, hc, ne, few, fine⟩
  have ka20 := ka19.keep (wo_keep k20)
  clear hp19 gl19 ka19 hc hp20 k20
  have arl : ∀ r ∈ ks, 0 ≤ r.2 ∧ r.2 ≤ 2 := fun r hr => (gk.each r hr).2.2
  refine ⟨fun σ H21 => True, ?_, ?_⟩
  · refine ⟨_, rfl, (by decide), (by decide), for_range (n := 6) (fun j σ H2 => ∃ v14 v15 v16, σ = S13 a p b wy told d.shown due g x pt nt od' oc c v14 v15 v16 ∧ Mat H2 p q g c ks ys ∧ KindsAt C (wo p H2) x (vv ks)) ⟨none, none, none, rfl, M20, ka20⟩ ?_ ?_⟩
    · rintro j σ H2 hj ⟨v14, v15, v16, rfl, M2, ka2⟩
      refine ⟨_, rfl, _, rfl, _, rfl, p, q, g, c, ks, ys, rfl, M2, fun y dy H3 hy hp3 k3 => ?_⟩
      have M3 := M2.keep k3 hp3
      have ka3 := ka2.keep (wo_keep k3)
      have hy3 := hy.keep wo_same
      refine ⟨_, rfl, y, 2, dy, rfl, hy3, by decide, ?_⟩
      have key : ∀ {H4 : Hp}, Same H3 H4 → ∃ v14 v15 v16, ((List.set (S13 a p b wy told d.shown due g x pt nt od' oc c v14 v15 v16) 14 (some (V.int (0 + (j : Int))))).set 15 (some y)).set 16 (some (.str dy.shown)) = S13 a p b wy told d.shown due g x pt nt od' oc c v14 v15 v16 ∧ Mat H4 p q g c ks ys ∧ KindsAt C (wo p H4) x (vv ks) := fun s4 => ⟨_, _, _, rfl, M3.keep (fun b o h _ => s4 b o h) (hp3.same s4), ka3.keep (wo_mono s4)⟩
      have kat := ka3.keep wo_same
      obtain ⟨dx, fs, r0, n0, d0, ts, g1, g2, g3, g4, g5, _⟩ := kat.get (K := K)
      obtain ⟨rr, hrr⟩ := hy3.deed
      refine ⟨_, rfl, x, dx, fs, rfl, g1, g5 _ (by decide +kernel) (by decide +kernel) (by decide +kernel), _, rfl, x, y, rr, ks, rfl, kat, hrr, arl, fun H4 s4 => ?_⟩
      refine ⟨_, rfl, _, rfl, g, ks, y, rr, rfl, (M3.gl.keep wo_same).keep s4, gk, hrr.keep s4, fun H5 s5 => ?_⟩
      have s45 := s4.trans s5
      have sc : scal (wordV (deedWord ks rr)) (wordV (deedWord ks rr)) = true := by cases deedWord ks rr <;> rfl
      refine ⟨sc, _, rfl, iteNS rfl ?_⟩
      refine ⟨_, rfl, y, 2, dy, rfl, hy3.keep s45, by decide, _, rfl, rfl, _, rfl, iteNS rfl ?_⟩
      exact key s45
    · intro σ H2 _
      trivial
  rintro σ H21 _
  exact rfl
end
end Kx

set_option maxHeartbeats 8000000
namespace Kx
open PySem PySem.Spec PyProof.Rows L2
theorem all_mk {l : PySem.W.OpenLaw} {w : World} {K : PySem.W.Frag} {h : Heap} {mg : Str → Option Value} {fa : Addr} {t2 t3 t4 t5 : Tok} (X : K.In h) (G : h.Ns mainGlobals mg) (hfa : mg "law" = some (.ref fa))
    {f0 f1 f2 f3 f4 f5 f6 f7 f8 f9 f10 f11 f12 f13 f14 f15 f16 f17 f18 f19 f20 f21 g0 g1 g2 g3 g4 g5 g6 g7 g8 C CB CN CS : Addr} {od0 an0 od1 an1 od2 an2 od3 an3 od4 an4 od5 an5 od6 an6 od7 an7 od8 an8 od9 an9 od10 an10 od11 an11 od12 an12 od13 an13 od14 an14 od15 an15 od16 an16 od17 an17 od18 an18 od19 an19 od20 an20 od21 an21 pd0 bn0 pd1 bn1 pd2 bn2 pd3 bn3 pd4 bn4 pd5 bn5 pd6 bn6 pd7 bn7 pd8 bn8 : Option Addr} {sl0 sl1 sl2 sl3 sl4 sl5 sl6 sl7 sl8 sl9 sl10 sl11 sl12 sl13 sl14 sl15 sl16 sl17 sl18 sl19 sl20 sl21 tl0 tl1 tl2 tl3 tl4 tl5 tl6 tl7 tl8 : Array (Option Value)} {oc0 kV0 dc0 pm0 cd0 ct0 oc1 kV1 dc1 pm1 cd1 ct1 oc2 kV2 dc2 pm2 cd2 ct2 oc3 kV3 dc3 pm3 cd3 ct3 oc4 kV4 dc4 pm4 cd4 ct4 oc5 kV5 dc5 pm5 cd5 ct5 oc6 kV6 dc6 pm6 cd6 ct6 oc7 kV7 dc7 pm7 cd7 ct7 oc8 kV8 dc8 pm8 cd8 ct8 oc9 kV9 dc9 pm9 cd9 ct9 oc10 kV10 dc10 pm10 cd10 ct10 oc11 kV11 dc11 pm11 cd11 ct11 oc12 kV12 dc12 pm12 cd12 ct12 oc13 kV13 dc13 pm13 cd13 ct13 oc14 kV14 dc14 pm14 cd14 ct14 oc15 kV15 dc15 pm15 cd15 ct15 oc16 kV16 dc16 pm16 cd16 ct16 oc17 kV17 dc17 pm17 cd17 ct17 oc18 kV18 dc18 pm18 cd18 ct18 oc19 kV19 dc19 pm19 cd19 ct19 oc20 kV20 dc20 pm20 cd20 ct20 oc21 kV21 dc21 pm21 cd21 ct21 pc0 lV0 ec0 qm0 dd0 dt0 pc1 lV1 ec1 qm1 dd1 dt1 pc2 lV2 ec2 qm2 dd2 dt2 pc3 lV3 ec3 qm3 dd3 dt3 pc4 lV4 ec4 qm4 dd4 dt4 pc5 lV5 ec5 qm5 dd5 dt5 pc6 lV6 ec6 qm6 dd6 dt6 pc7 lV7 ec7 qm7 dd7 dt7 pc8 lV8 ec8 qm8 dd8 dt8 : Value}
    (a0 : PySem.W.nsIn K mainGlobals "is_whole" = some (some (.ref f0)))
    (l0 : K.lookup f0 = some ⟨oc0, od0, .func (PySem.W.fnOf "is_whole" "is_whole" (defArgs sWhole) (defBody sWhole) (defScope sWhole) .none kV0 dc0 pm0 an0 cd0 ct0), sl0⟩)
    (c0 : PySem.W.codeIn K cd0 "is_whole" = true)
    (k0 : PySem.W.keepIn K (.ref f0) = true)
    (a1 : PySem.W.nsIn K mainGlobals "is_label" = some (some (.ref f1)))
    (l1 : K.lookup f1 = some ⟨oc1, od1, .func (PySem.W.fnOf "is_label" "is_label" (defArgs sLabel) (defBody sLabel) (defScope sLabel) .none kV1 dc1 pm1 an1 cd1 ct1), sl1⟩)
    (c1 : PySem.W.codeIn K cd1 "is_label" = true)
    (k1 : PySem.W.keepIn K (.ref f1) = true)
    (a2 : PySem.W.nsIn K mainGlobals "is_sequence" = some (some (.ref f2)))
    (l2 : K.lookup f2 = some ⟨oc2, od2, .func (PySem.W.fnOf "is_sequence" "is_sequence" (defArgs sSeq) (defBody sSeq) (defScope sSeq) .none kV2 dc2 pm2 an2 cd2 ct2), sl2⟩)
    (c2 : PySem.W.codeIn K cd2 "is_sequence" = true)
    (k2 : PySem.W.keepIn K (.ref f2) = true)
    (a3 : PySem.W.nsIn K mainGlobals "_row_fault" = some (some (.ref f3)))
    (l3 : K.lookup f3 = some ⟨oc3, od3, .func (PySem.W.fnOf "_row_fault" "_row_fault" (defArgs sRowFault) (defBody sRowFault) (defScope sRowFault) .none kV3 dc3 pm3 an3 cd3 ct3), sl3⟩)
    (c3 : PySem.W.codeIn K cd3 "_row_fault" = true)
    (k3 : PySem.W.keepIn K (.ref f3) = true)
    (a4 : PySem.W.nsIn K mainGlobals "_law_mix" = some (some (.ref f4)))
    (l4 : K.lookup f4 = some ⟨oc4, od4, .func (PySem.W.fnOf "_law_mix" "_law_mix" (defArgs sMix) (defBody sMix) (defScope sMix) .none kV4 dc4 pm4 an4 cd4 ct4), sl4⟩)
    (c4 : PySem.W.codeIn K cd4 "_law_mix" = true)
    (k4 : PySem.W.keepIn K (.ref f4) = true)
    (a5 : PySem.W.nsIn K mainGlobals "_law_hand" = some (some (.ref f5)))
    (l5 : K.lookup f5 = some ⟨oc5, od5, .func (PySem.W.fnOf "_law_hand" "_law_hand" (defArgs sHand) (defBody sHand) (defScope sHand) .none kV5 dc5 pm5 an5 cd5 ct5), sl5⟩)
    (c5 : PySem.W.codeIn K cd5 "_law_hand" = true)
    (k5 : PySem.W.keepIn K (.ref f5) = true)
    (a6 : PySem.W.nsIn K mainGlobals "_law_draw" = some (some (.ref f6)))
    (l6 : K.lookup f6 = some ⟨oc6, od6, .func (PySem.W.fnOf "_law_draw" "_law_draw" (defArgs sDraw) (defBody sDraw) (defScope sDraw) .none kV6 dc6 pm6 an6 cd6 ct6), sl6⟩)
    (c6 : PySem.W.codeIn K cd6 "_law_draw" = true)
    (k6 : PySem.W.keepIn K (.ref f6) = true)
    (a7 : PySem.W.nsIn K mainGlobals "_law_one" = some (some (.ref f7)))
    (l7 : K.lookup f7 = some ⟨oc7, od7, .func (PySem.W.fnOf "_law_one" "_law_one" (defArgs sOne) (defBody sOne) (defScope sOne) .none kV7 dc7 pm7 an7 cd7 ct7), sl7⟩)
    (c7 : PySem.W.codeIn K cd7 "_law_one" = true)
    (k7 : PySem.W.keepIn K (.ref f7) = true)
    (a8 : PySem.W.nsIn K mainGlobals "_law_word" = some (some (.ref f8)))
    (l8 : K.lookup f8 = some ⟨oc8, od8, .func (PySem.W.fnOf "_law_word" "_law_word" (defArgs sWord) (defBody sWord) (defScope sWord) .none kV8 dc8 pm8 an8 cd8 ct8), sl8⟩)
    (c8 : PySem.W.codeIn K cd8 "_law_word" = true)
    (k8 : PySem.W.keepIn K (.ref f8) = true)
    (a9 : PySem.W.nsIn K mainGlobals "_law_label" = some (some (.ref f9)))
    (l9 : K.lookup f9 = some ⟨oc9, od9, .func (PySem.W.fnOf "_law_label" "_law_label" (defArgs sLLabel) (defBody sLLabel) (defScope sLLabel) .none kV9 dc9 pm9 an9 cd9 ct9), sl9⟩)
    (c9 : PySem.W.codeIn K cd9 "_law_label" = true)
    (k9 : PySem.W.keepIn K (.ref f9) = true)
    (a10 : PySem.W.nsIn K mainGlobals "_law_odd" = some (some (.ref f10)))
    (l10 : K.lookup f10 = some ⟨oc10, od10, .func (PySem.W.fnOf "_law_odd" "_law_odd" (defArgs sOdd) (defBody sOdd) (defScope sOdd) .none kV10 dc10 pm10 an10 cd10 ct10), sl10⟩)
    (c10 : PySem.W.codeIn K cd10 "_law_odd" = true)
    (k10 : PySem.W.keepIn K (.ref f10) = true)
    (a11 : PySem.W.nsIn K mainGlobals "_law_row_due" = some (some (.ref f11)))
    (l11 : K.lookup f11 = some ⟨oc11, od11, .func (PySem.W.fnOf "_law_row_due" "_law_row_due" (defArgs sLRowDue) (defBody sLRowDue) (defScope sLRowDue) .none kV11 dc11 pm11 an11 cd11 ct11), sl11⟩)
    (c11 : PySem.W.codeIn K cd11 "_law_row_due" = true)
    (k11 : PySem.W.keepIn K (.ref f11) = true)
    (a12 : PySem.W.nsIn K mainGlobals "_law_deed_due" = some (some (.ref f12)))
    (l12 : K.lookup f12 = some ⟨oc12, od12, .func (PySem.W.fnOf "_law_deed_due" "_law_deed_due" (defArgs sLDeedDue) (defBody sLDeedDue) (defScope sLDeedDue) .none kV12 dc12 pm12 an12 cd12 ct12), sl12⟩)
    (c12 : PySem.W.codeIn K cd12 "_law_deed_due" = true)
    (k12 : PySem.W.keepIn K (.ref f12) = true)
    (a13 : PySem.W.nsIn K mainGlobals "_law_kinds" = some (some (.ref f13)))
    (l13 : K.lookup f13 = some ⟨oc13, od13, .func (PySem.W.fnOf "_law_kinds" "_law_kinds" (defArgs sLKinds) (defBody sLKinds) (defScope sLKinds) .none kV13 dc13 pm13 an13 cd13 ct13), sl13⟩)
    (c13 : PySem.W.codeIn K cd13 "_law_kinds" = true)
    (k13 : PySem.W.keepIn K (.ref f13) = true)
    (a14 : PySem.W.nsIn K mainGlobals "_law_made_deed" = some (some (.ref f14)))
    (l14 : K.lookup f14 = some ⟨oc14, od14, .func (PySem.W.fnOf "_law_made_deed" "_law_made_deed" (defArgs sLMadeDeed) (defBody sLMadeDeed) (defScope sLMadeDeed) .none kV14 dc14 pm14 an14 cd14 ct14), sl14⟩)
    (c14 : PySem.W.codeIn K cd14 "_law_made_deed" = true)
    (k14 : PySem.W.keepIn K (.ref f14) = true)
    (a15 : PySem.W.nsIn K mainGlobals "_law_odd_deed" = some (some (.ref f15)))
    (l15 : K.lookup f15 = some ⟨oc15, od15, .func (PySem.W.fnOf "_law_odd_deed" "_law_odd_deed" (defArgs sLOddDeed) (defBody sLOddDeed) (defScope sLOddDeed) .none kV15 dc15 pm15 an15 cd15 ct15), sl15⟩)
    (c15 : PySem.W.codeIn K cd15 "_law_odd_deed" = true)
    (k15 : PySem.W.keepIn K (.ref f15) = true)
    (a16 : PySem.W.nsIn K mainGlobals "_law_persons" = some (some (.ref f16)))
    (l16 : K.lookup f16 = some ⟨oc16, od16, .func (PySem.W.fnOf "_law_persons" "_law_persons" (defArgs sLPersons) (defBody sLPersons) (defScope sLPersons) .none kV16 dc16 pm16 an16 cd16 ct16), sl16⟩)
    (c16 : PySem.W.codeIn K cd16 "_law_persons" = true)
    (k16 : PySem.W.keepIn K (.ref f16) = true)
    (a17 : PySem.W.nsIn K mainGlobals "_law_rows" = some (some (.ref f17)))
    (l17 : K.lookup f17 = some ⟨oc17, od17, .func (PySem.W.fnOf "_law_rows" "_law_rows" (defArgs sLRows) (defBody sLRows) (defScope sLRows) .none kV17 dc17 pm17 an17 cd17 ct17), sl17⟩)
    (c17 : PySem.W.codeIn K cd17 "_law_rows" = true)
    (k17 : PySem.W.keepIn K (.ref f17) = true)
    (a18 : PySem.W.nsIn K mainGlobals "_law_due" = some (some (.ref f18)))
    (l18 : K.lookup f18 = some ⟨oc18, od18, .func (PySem.W.fnOf "_law_due" "_law_due" (defArgs sLDue) (defBody sLDue) (defScope sLDue) .none kV18 dc18 pm18 an18 cd18 ct18), sl18⟩)
    (c18 : PySem.W.codeIn K cd18 "_law_due" = true)
    (k18 : PySem.W.keepIn K (.ref f18) = true)
    (a19 : PySem.W.nsIn K mainGlobals "_law_refused" = some (some (.ref f19)))
    (l19 : K.lookup f19 = some ⟨oc19, od19, .func (PySem.W.fnOf "_law_refused" "_law_refused" (defArgs sLRefused) (defBody sLRefused) (defScope sLRefused) .none kV19 dc19 pm19 an19 cd19 ct19), sl19⟩)
    (c19 : PySem.W.codeIn K cd19 "_law_refused" = true)
    (k19 : PySem.W.keepIn K (.ref f19) = true)
    (a20 : PySem.W.nsIn K mainGlobals "_law_arity_of" = some (some (.ref f20)))
    (l20 : K.lookup f20 = some ⟨oc20, od20, .func (PySem.W.fnOf "_law_arity_of" "_law_arity_of" (defArgs sLArityOf) (defBody sLArityOf) (defScope sLArityOf) .none kV20 dc20 pm20 an20 cd20 ct20), sl20⟩)
    (c20 : PySem.W.codeIn K cd20 "_law_arity_of" = true)
    (k20 : PySem.W.keepIn K (.ref f20) = true)
    (a21 : PySem.W.nsIn K mainGlobals "law" = some (some (.ref f21)))
    (l21 : K.lookup f21 = some ⟨oc21, od21, .func (PySem.W.fnOf "law" "law" (defArgs sLaw) (defBody sLaw) (defScope sLaw) .none kV21 dc21 pm21 an21 cd21 ct21), sl21⟩)
    (c21 : PySem.W.codeIn K cd21 "law" = true)
    (k21 : PySem.W.keepIn K (.ref f21) = true)
    (mC : PySem.W.nsIn K mainGlobals "Kinds" = some (some (.ref C)))
    (mCB : PySem.W.nsIn K mainGlobals "BadKinds" = some (some (.ref CB)))
    (mCN : PySem.W.nsIn K mainGlobals "NoKind" = some (some (.ref CN)))
    (mCS : PySem.W.nsIn K mainGlobals "SearchError" = some (some (.ref CS)))
    (M0 : PySem.W.findIn K (.ref CB) "__init__" = some (some (.ref g0)))
    (L0 : K.lookup g0 = some ⟨pc0, pd0, .func (PySem.W.fnOf "__init__" "BadKinds.__init__" (defArgs sBadKinds_init) (defBody sBadKinds_init) (defScope sBadKinds_init) .none lV0 ec0 qm0 bn0 dd0 dt0), tl0⟩)
    (D0 : PySem.W.codeIn K dd0 "BadKinds.__init__" = true)
    (N0 : PySem.W.keepIn K (.ref g0) = true)
    (T0 : PySem.W.typeIn K (.ref g0) = some (.type "function"))
    (M1 : PySem.W.findIn K (.ref CN) "__init__" = some (some (.ref g1)))
    (L1 : K.lookup g1 = some ⟨pc1, pd1, .func (PySem.W.fnOf "__init__" "NoKind.__init__" (defArgs sNoKind_init) (defBody sNoKind_init) (defScope sNoKind_init) .none lV1 ec1 qm1 bn1 dd1 dt1), tl1⟩)
    (D1 : PySem.W.codeIn K dd1 "NoKind.__init__" = true)
    (N1 : PySem.W.keepIn K (.ref g1) = true)
    (T1 : PySem.W.typeIn K (.ref g1) = some (.type "function"))
    (M2 : PySem.W.findIn K (.ref C) "__init__" = some (some (.ref g2)))
    (L2 : K.lookup g2 = some ⟨pc2, pd2, .func (PySem.W.fnOf "__init__" "Kinds.__init__" (defArgs sKinds_init) (defBody sKinds_init) (defScope sKinds_init) .none lV2 ec2 qm2 bn2 dd2 dt2), tl2⟩)
    (D2 : PySem.W.codeIn K dd2 "Kinds.__init__" = true)
    (N2 : PySem.W.keepIn K (.ref g2) = true)
    (T2 : PySem.W.typeIn K (.ref g2) = some (.type "function"))
    (M3 : PySem.W.findIn K (.ref C) "__eq__" = some (some (.ref g3)))
    (L3 : K.lookup g3 = some ⟨pc3, pd3, .func (PySem.W.fnOf "__eq__" "Kinds.__eq__" (defArgs sKinds_eq) (defBody sKinds_eq) (defScope sKinds_eq) .none lV3 ec3 qm3 bn3 dd3 dt3), tl3⟩)
    (D3 : PySem.W.codeIn K dd3 "Kinds.__eq__" = true)
    (N3 : PySem.W.keepIn K (.ref g3) = true)
    (T3 : PySem.W.typeIn K (.ref g3) = some (.type "function"))
    (M4 : PySem.W.findIn K (.ref C) "__len__" = some (some (.ref g4)))
    (L4 : K.lookup g4 = some ⟨pc4, pd4, .func (PySem.W.fnOf "__len__" "Kinds.__len__" (defArgs sKinds_len) (defBody sKinds_len) (defScope sKinds_len) .none lV4 ec4 qm4 bn4 dd4 dt4), tl4⟩)
    (D4 : PySem.W.codeIn K dd4 "Kinds.__len__" = true)
    (N4 : PySem.W.keepIn K (.ref g4) = true)
    (T4 : PySem.W.typeIn K (.ref g4) = some (.type "function"))
    (M5 : PySem.W.findIn K (.ref C) "__iter__" = some (some (.ref g5)))
    (L5 : K.lookup g5 = some ⟨pc5, pd5, .func (PySem.W.fnOf "__iter__" "Kinds.__iter__" (defArgs sKinds_iter) (defBody sKinds_iter) (defScope sKinds_iter) .none lV5 ec5 qm5 bn5 dd5 dt5), tl5⟩)
    (D5 : PySem.W.codeIn K dd5 "Kinds.__iter__" = true)
    (N5 : PySem.W.keepIn K (.ref g5) = true)
    (T5 : PySem.W.typeIn K (.ref g5) = some (.type "function"))
    (M6 : PySem.W.findIn K (.ref C) "__contains__" = some (some (.ref g6)))
    (L6 : K.lookup g6 = some ⟨pc6, pd6, .func (PySem.W.fnOf "__contains__" "Kinds.__contains__" (defArgs sKinds_contains) (defBody sKinds_contains) (defScope sKinds_contains) .none lV6 ec6 qm6 bn6 dd6 dt6), tl6⟩)
    (D6 : PySem.W.codeIn K dd6 "Kinds.__contains__" = true)
    (N6 : PySem.W.keepIn K (.ref g6) = true)
    (T6 : PySem.W.typeIn K (.ref g6) = some (.type "function"))
    (M7 : PySem.W.findIn K (.ref C) "arity_of" = some (some (.ref g7)))
    (L7 : K.lookup g7 = some ⟨pc7, pd7, .func (PySem.W.fnOf "arity_of" "Kinds.arity_of" (defArgs sKinds_arity_of) (defBody sKinds_arity_of) (defScope sKinds_arity_of) .none lV7 ec7 qm7 bn7 dd7 dt7), tl7⟩)
    (D7 : PySem.W.codeIn K dd7 "Kinds.arity_of" = true)
    (N7 : PySem.W.keepIn K (.ref g7) = true)
    (T7 : PySem.W.typeIn K (.ref g7) = some (.type "function"))
    (M8 : PySem.W.findIn K (.ref C) "fault" = some (some (.ref g8)))
    (L8 : K.lookup g8 = some ⟨pc8, pd8, .func (PySem.W.fnOf "fault" "Kinds.fault" (defArgs sKinds_fault) (defBody sKinds_fault) (defScope sKinds_fault) .none lV8 ec8 qm8 bn8 dd8 dt8), tl8⟩)
    (D8 : PySem.W.codeIn K dd8 "Kinds.fault" = true)
    (N8 : PySem.W.keepIn K (.ref g8) = true)
    (T8 : PySem.W.typeIn K (.ref g8) = some (.type "function"))
    (u1 : PySem.W.plainGet K C Str.empty = true)
    (u2 : PySem.W.hasDictIn K C = true)
    (u3 : PySem.W.plainOver K C = true)
    (u4 : PySem.W.findIn K (.ref C) "__setattr__" = some (some (.builtin "object.__setattr__")))
    (u5 : PySem.W.findIn K (.ref C) "rows" = some none)
    (u6 : PySem.W.findIn K (.ref C) "names" = some none)
    (u7 : PySem.W.findIn K (.ref C) "_arities" = some none)
    (u8 : PySem.W.findIn K (.ref C) "__class__" = some (some (.builtin "object.__class__")))
    (u9 : PySem.W.specialIn K (.builtin "object.__class__") "__get__" = some (some (.builtin "getset_descriptor.__get__")))
    (u10 : PySem.W.takesIn K (.builtin "object.__class__") = some true)
    (u11 : PySem.W.mroIn K C (.type "object") = some true)
    (u12 : PySem.W.kitOne K (.type "tuple") (.ref C) = some false)
    (u13 : PySem.W.makesIn K C = true)
    (u14 : PySem.W.keepIn K (.ref C) = true)
    (u15 : PySem.W.findIn K (.ref C) "__ne__" = some (some (.builtin "object.__ne__")))
    (u16 : PySem.W.notFirst K C (.type "tuple") = true)
    (u17 : PySem.W.findIn K (.ref CB) "index" = some none)
    (u18 : PySem.W.findIn K (.ref CB) "what" = some none)
    (u19 : PySem.W.findIn K (.ref CN) "name" = some none)
    (u20 : PySem.W.exmOne K (.ref CB) (.ref CB) = some true)
    (u21 : PySem.W.kitOne K (.ref CB) (.ref CS) = some true)
    (u22 : PySem.W.exmOne K (.ref CN) (.ref CN) = some true)
    (y2 : PySem.W.nsIn K mainGlobals "LONGEST_LABEL" = some (some (.int 6 t2)))
    (y3 : PySem.W.nsIn K mainGlobals "YEAR" = some (some (.str "year" t3)))
    (y4 : PySem.W.nsIn K mainGlobals "MOST_ARITY" = some (some (.int 2 t4)))
    (y5 : PySem.W.nsIn K mainGlobals "MOST_KINDS" = some (some (.int 6 t5)))
    (o1CB : ∃ nm q N bs bm sn sub ab col dd k0 k1 k2 k3 k5, K.lookup CB = some (excClassObj nm q CB N bs bm true sn sub ab col dd k0 k1 k2 k3 k5 "ValueError.__new__") ∧ PySem.HandSPX.refsVE bm = true)
    (o2CB : PySem.W.findIn K (.ref CB) "__setattr__" = some (some (.builtin "object.__setattr__")))
    (o3CB : PySem.W.subIn K (.ref CB) (.type "BaseException") = some true)
    (o4CB : PySem.W.typeIn K (.ref CB) = some (.type "type"))
    (o5CB : PySem.W.keepIn K (.ref CB) = true)
    (o6CB : PySem.W.findIn K (.ref CB) "__getattribute__" = some (some (.builtin "BaseException.__getattribute__")))
    (o7CB : PySem.W.findIn K (.ref CB) "__getattr__" = some none)
    (o8CB : PySem.W.hasDictIn K CB = true)
    (o9CB : PySem.W.findIn K (.ref CB) "__class__" = some (some (.builtin "object.__class__")))
    (oACB : PySem.W.mroIn K CB (.type "object") = some true)
    (o1CN : ∃ nm q N bs bm sn sub ab col dd k0 k1 k2 k3 k5, K.lookup CN = some (excClassObj nm q CN N bs bm true sn sub ab col dd k0 k1 k2 k3 k5 "ValueError.__new__") ∧ PySem.HandSPX.refsVE bm = true)
    (o2CN : PySem.W.findIn K (.ref CN) "__setattr__" = some (some (.builtin "object.__setattr__")))
    (o3CN : PySem.W.subIn K (.ref CN) (.type "BaseException") = some true)
    (o4CN : PySem.W.typeIn K (.ref CN) = some (.type "type"))
    (o5CN : PySem.W.keepIn K (.ref CN) = true)
    (o6CN : PySem.W.findIn K (.ref CN) "__getattribute__" = some (some (.builtin "BaseException.__getattribute__")))
    (o7CN : PySem.W.findIn K (.ref CN) "__getattr__" = some none)
    (o8CN : PySem.W.hasDictIn K CN = true)
    (z_int : PySem.W.nsIn K mainGlobals "int" = some none)
    (z_abs : PySem.W.nsIn K mainGlobals "abs" = some none)
    (z_len : PySem.W.nsIn K mainGlobals "len" = some none)
    (z_enumerate : PySem.W.nsIn K mainGlobals "enumerate" = some none)
    (z_range : PySem.W.nsIn K mainGlobals "range" = some none)
    (z_isinstance : PySem.W.nsIn K mainGlobals "isinstance" = some none)
    (z_str : PySem.W.nsIn K mainGlobals "str" = some none)
    (z_bool : PySem.W.nsIn K mainGlobals "bool" = some none)
    (z_list : PySem.W.nsIn K mainGlobals "list" = some none)
    (z_tuple : PySem.W.nsIn K mainGlobals "tuple" = some none)
    (z_repr : PySem.W.nsIn K mainGlobals "repr" = some none)
    (z_iter : PySem.W.nsIn K mainGlobals "iter" = some none) :
    ∀ (base : Heap) (s : Shared) (H : Hp) (a : Addr) (ns : List Int), K.In base → base.Ns mainGlobals mg → Env0 l.prog w K mg base callerA [] s H → SqL K H a (ns.map V.int) → ns.length ≤ 63 →
      codeAny (model l.prog w) callerA (.call (.ref fa) ⟨[.ref a], []⟩) (CR CX0 [] l.prog w H s QT EF) s := by
  have e := hfa.symm.trans (PySem.W.mg_of X G a21)
  cases e
  intro base s H a ns _ _ e0 hS hn
  have T : Bl mg := ⟨(PySem.W.mg_none_of X G z_int), (PySem.W.mg_none_of X G z_abs), (PySem.W.mg_none_of X G z_len), (PySem.W.mg_none_of X G z_enumerate), (PySem.W.mg_none_of X G z_range)⟩
  have B : Bm mg := ⟨(PySem.W.mg_none_of X G z_isinstance), (PySem.W.mg_none_of X G z_str), (PySem.W.mg_none_of X G z_bool), (PySem.W.mg_none_of X G z_list), (PySem.W.mg_none_of X G z_tuple), ⟨_, PySem.W.mg_of X G y2⟩⟩
  have R : Rp mg := ⟨(PySem.W.mg_none_of X G z_repr)⟩
  have Mm : Km mg := ⟨⟨_, PySem.W.mg_of X G y3⟩, ⟨_, PySem.W.mg_of X G y4⟩, ⟨_, PySem.W.mg_of X G y5⟩⟩
  have KX : KC K C := ⟨⟨u1, u2, u3, u4⟩, u5, u6, u7, u8, u9, u10, u11, u12⟩
  have XCB : XfC K CB := ⟨o6CB, o7CB, o3CB, o8CB⟩
  have OCB : OexC K CB := ⟨o1CB, o2CB, o3CB, o4CB, o5CB⟩
  have XCN : XfC K CN := ⟨o6CN, o7CN, o3CN, o8CN⟩
  have OCN : OexC K CN := ⟨o1CN, o2CN, o3CN, o4CN, o5CN⟩
  have EcB : ExcC K CB := ⟨o6CB, o7CB, o3CB, o8CB, o9CB, u9, u10, oACB⟩
  have mix := ok_mix (P := l.prog) (w := w) (base := base) (fun_mk (st := sMix) l4 c4 k4) (PySem.W.mg_of X G a4) T
  have draw := ok_draw (P := l.prog) (w := w) (base := base) (fun_mk (st := sDraw) l6 c6 k6) (PySem.W.mg_of X G a6) T mix
  have hand := ok_hand (P := l.prog) (w := w) (base := base) (fun_mk (st := sHand) l5 c5 k5) (PySem.W.mg_of X G a5) T
  have one := ok_one (P := l.prog) (w := w) (base := base) (fun_mk (st := sOne) l7 c7 k7) (PySem.W.mg_of X G a7) T draw
  have word := ok_word (P := l.prog) (w := w) (base := base) (fun_mk (st := sWord) l8 c8 k8) (PySem.W.mg_of X G a8) T draw
  have whole := ok_whole (P := l.prog) (w := w) (base := base) (fun_mk (st := sWhole) l0 c0 k0) (PySem.W.mg_of X G a0) T B
  have label := ok_label (P := l.prog) (w := w) (base := base) (fun_mk (st := sLabel) l1 c1 k1) (PySem.W.mg_of X G a1) T B
  have seq := ok_seq (P := l.prog) (w := w) (base := base) (fun_mk (st := sSeq) l2 c2 k2) (PySem.W.mg_of X G a2) B
  have llab := ok_llab (P := l.prog) (w := w) (base := base) (fun_mk (st := sLLabel) l9 c9 k9) (PySem.W.mg_of X G a9) T B
  have odd := ok_odd2 (P := l.prog) (w := w) (base := base) (fun_mk (st := sOdd) l10 c10 k10) (PySem.W.mg_of X G a10) word one
  have rowf := ok_rowfault (P := l.prog) (w := w) (base := base) (fun_mk (st := sRowFault) l3 c3 k3) (PySem.W.mg_of X G a3) T B Mm seq label whole
  have EB : ErC l.prog w K mg base "BadKinds" ["self", "index", "what"] CB g0 _ (spInit2 K CB "index" "what") := ⟨OCB, M0, T0, PySem.W.mg_of X G mCB, (fun_mk (st := sBadKinds_init) L0 D0 N0).binds fun _ _ _ _ _ _ us hl => match us, hl with | [_, _, _], _ => rfl, ok_BadKinds (fun_mk (st := sBadKinds_init) L0 D0 N0), XCB⟩
  have EN : ErC l.prog w K mg base "NoKind" ["self", "name"] CN g1 _ (spInit1 K CN "name") := ⟨OCN, M1, T1, PySem.W.mg_of X G mCN, (fun_mk (st := sNoKind_init) L1 D1 N1).binds fun _ _ _ _ _ _ us hl => match us, hl with | [_, _], _ => rfl, ok_NoKind (fun_mk (st := sNoKind_init) L1 D1 N1), XCN⟩
  have MK : Mk K C g2 := ⟨u13, M2, (by unfold PySem.W.isFn; rw [T2]; rfl), u14⟩
  have GI := ok_kinds (P := l.prog) (w := w) (mg := mg) (base := base) (fun_mk (st := sKinds_init) L2 D2 N2) T B Mm KX seq rowf EB u17 u18
  have bI := (fun_mk (st := sKinds_init) L2 D2 N2).binds (ps := ["self", "rows"]) (fun _ _ _ _ _ _ us hl => match us, hl with | [_, _], _ => rfl)
  have mK := PySem.W.mg_of X G mC
  have oE : OwnM l.prog w K mg base C "__eq__" 1 ["self", "other"] (spKEq C) g3 _ := ⟨⟨M3, (by unfold PySem.W.isFn; rw [T3]; rfl), N3⟩, ok_keq (fun_mk (st := sKinds_eq) L3 D3 N3) B KX mK, (fun_mk (st := sKinds_eq) L3 D3 N3).binds fun _ _ _ _ _ _ us hl => match us, hl with | [_, _], _ => rfl⟩
  have oL : OwnM l.prog w K mg base C "__len__" 1 ["self"] (spKLen C) g4 _ := ⟨⟨M4, (by unfold PySem.W.isFn; rw [T4]; rfl), N4⟩, ok_klen (fun_mk (st := sKinds_len) L4 D4 N4) T KX, (fun_mk (st := sKinds_len) L4 D4 N4).binds fun _ _ _ _ _ _ us hl => match us, hl with | [_], _ => rfl⟩
  have oN : OwnM l.prog w K mg base C "__contains__" 1 ["self", "thing"] (spKIn C) g6 _ := ⟨⟨M6, (by unfold PySem.W.isFn; rw [T6]; rfl), N6⟩, ok_kin (fun_mk (st := sKinds_contains) L6 D6 N6) B KX, (fun_mk (st := sKinds_contains) L6 D6 N6).binds fun _ _ _ _ _ _ us hl => match us, hl with | [_, _], _ => rfl⟩
  have oF : OwnM l.prog w K mg base C "fault" 2 ["self", "deed"] (spFault C) g8 _ := ⟨⟨M8, (by unfold PySem.W.isFn; rw [T8]; rfl), N8⟩, ok_fault (fun_mk (st := sKinds_fault) L8 D8 N8) T KX oN seq label, (fun_mk (st := sKinds_fault) L8 D8 N8).binds fun _ _ _ _ _ _ us hl => match us, hl with | [_, _], _ => rfl⟩
  have oT := ok_kiter (P := l.prog) (w := w) (mg := mg) (base := base) (fun_mk (st := sKinds_iter) L5 D5 N5) (PySem.W.mg_none_of X G z_iter) KX
  have oTb := (fun_mk (st := sKinds_iter) L5 D5 N5).binds (ps := ["self"]) (fun _ _ _ _ _ _ us hl => match us, hl with | [_], _ => rfl)
  have MA : Meth K C "arity_of" g7 := ⟨M7, (by unfold PySem.W.isFn; rw [T7]; rfl), N7⟩
  have GA := ok_kar (P := l.prog) (w := w) (mg := mg) (base := base) (fun_mk (st := sKinds_arity_of) L7 D7 N7) KX oN EN u19
  have bA := (fun_mk (st := sKinds_arity_of) L7 D7 N7).binds (ps := ["self", "name"]) (fun _ _ _ _ _ _ us hl => match us, hl with | [_, _], _ => rfl)
  have lrow := ok_lrow (P := l.prog) (w := w) (base := base) (fun_mk (st := sLRowDue) l11 c11 k11) (PySem.W.mg_of X G a11) T B llab
  have ldue := ok_ldue (P := l.prog) (w := w) (base := base) (fun_mk (st := sLDue) l18 c18 k18) (PySem.W.mg_of X G a18) T B lrow
  have lkinds := ok_lkinds (P := l.prog) (w := w) (base := base) (fun_mk (st := sLKinds) l13 c13 k13) (PySem.W.mg_of X G a13) T draw word
  have lrows := ok_lrows (P := l.prog) (w := w) (base := base) (fun_mk (st := sLRows) l17 c17 k17) (PySem.W.mg_of X G a17) T B draw one lkinds odd
  have lref := ok_refused (P := l.prog) (w := w) (base := base) (fun_mk (st := sLRefused) l19 c19 k19) (PySem.W.mg_of X G a19) B MK GI bI mK (PySem.W.mg_of X G mCB) (PySem.W.mg_of X G mCS) XCB EcB u17 u18 u20 u21
  have lar := ok_lar (P := l.prog) (w := w) (base := base) (fun_mk (st := sLArityOf) l20 c20 k20) (PySem.W.mg_of X G a20) KX MA GA bA (PySem.W.mg_of X G mCN) XCN u19 u22
  have ldeed := ok_ldeed (P := l.prog) (w := w) (base := base) (fun_mk (st := sLDeedDue) l12 c12 k12) (PySem.W.mg_of X G a12) T B llab
  have pers := ok_persons (P := l.prog) (w := w) (base := base) (fun_mk (st := sLPersons) l16 c16 k16) (PySem.W.mg_of X G a16) T draw word one
  have made := ok_made (P := l.prog) (w := w) (base := base) (fun_mk (st := sLMadeDeed) l14 c14 k14) (PySem.W.mg_of X G a14) T one
  have odd3 := ok_odddeed (P := l.prog) (w := w) (base := base) (fun_mk (st := sLOddDeed) l15 c15 k15) (PySem.W.mg_of X G a15) T B draw one odd made
  have A := AllF.mk hand draw one odd lrows lkinds ldue lref lar ldeed pers odd3 KX mK MK GI bI oE oL oN oF oT oTb M5 (by unfold PySem.W.isFn; rw [T5]; rfl) u15 u16
  exact law_at (fun_mk (st := sLaw) l21 c21 k21) scLaw ⟨rfl, by decide, by decide⟩ (body_law T B R A) (fun s v => .of_eq rfl) e0 hS hn
end Kx

set_option maxHeartbeats 8000000
namespace Kx

end Kx
open PySem PySem.W PyProof.Rows
set_option maxRecDepth 100000 in
set_option maxHeartbeats 0 in
theorem PySem.Challenge.cw_searchback_k01_kinds_and_deeds_made_and_holds : PySem.Challenge.rw_searchback_k01_kinds_and_deeds_made_and.Holds := by
  w_on; o_law; k_head; (case hw => w_witness2)
  k_fill
  refine Kx.law_walk (l := PySem.Challenge.rw_searchback_k01_kinds_and_deeds_made_and) rfl rfl (fun w h Y => PySem.W.kIn_of Y) ?F
  case F =>
    intro w mg fa h KX G hmg
    refine' Kx.all_mk KX G hmg ?a0 ?l0 ?c0 ?k0 ?a1 ?l1 ?c1 ?k1 ?a2 ?l2 ?c2 ?k2 ?a3 ?l3 ?c3 ?k3 ?a4 ?l4 ?c4 ?k4 ?a5 ?l5 ?c5 ?k5 ?a6 ?l6 ?c6 ?k6 ?a7 ?l7 ?c7 ?k7 ?a8 ?l8 ?c8 ?k8 ?a9 ?l9 ?c9 ?k9 ?a10 ?l10 ?c10 ?k10 ?a11 ?l11 ?c11 ?k11 ?a12 ?l12 ?c12 ?k12 ?a13 ?l13 ?c13 ?k13 ?a14 ?l14 ?c14 ?k14 ?a15 ?l15 ?c15 ?k15 ?a16 ?l16 ?c16 ?k16 ?a17 ?l17 ?c17 ?k17 ?a18 ?l18 ?c18 ?k18 ?a19 ?l19 ?c19 ?k19 ?a20 ?l20 ?c20 ?k20 ?a21 ?l21 ?c21 ?k21 ?mC ?mCB ?mCN ?mCS ?M0 ?L0 ?D0 ?N0 ?T0 ?M1 ?L1 ?D1 ?N1 ?T1 ?M2 ?L2 ?D2 ?N2 ?T2 ?M3 ?L3 ?D3 ?N3 ?T3 ?M4 ?L4 ?D4 ?N4 ?T4 ?M5 ?L5 ?D5 ?N5 ?T5 ?M6 ?L6 ?D6 ?N6 ?T6 ?M7 ?L7 ?D7 ?N7 ?T7 ?M8 ?L8 ?D8 ?N8 ?T8 ?u1 ?u2 ?u3 ?u4 ?u5 ?u6 ?u7 ?u8 ?u9 ?u10 ?u11 ?u12 ?u13 ?u14 ?u15 ?u16 ?u17 ?u18 ?u19 ?u20 ?u21 ?u22 ?y2 ?y3 ?y4 ?y5 ?o1CB ?o2CB ?o3CB ?o4CB ?o5CB ?o6CB ?o7CB ?o8CB ?o9CB ?oACB ?o1CN ?o2CN ?o3CN ?o4CN ?o5CN ?o6CN ?o7CN ?o8CN ?z_int ?z_abs ?z_len ?z_enumerate ?z_range ?z_isinstance ?z_str ?z_bool ?z_list ?z_tuple ?z_repr ?z_iter
    (case a0 => k_is)
    (case l0 => k_is)
    (case c0 => k_is)
    (case k0 => k_is)
    (case a1 => k_is)
    (case l1 => k_is)
    (case c1 => k_is)
    (case k1 => k_is)
    (case a2 => k_is)
    (case l2 => k_is)
    (case c2 => k_is)
    (case k2 => k_is)
    (case a3 => k_is)
    (case l3 => k_is)
    (case c3 => k_is)
    (case k3 => k_is)
    (case a4 => k_is)
    (case l4 => k_is)
    (case c4 => k_is)
    (case k4 => k_is)
    (case a5 => k_is)
    (case l5 => k_is)
    (case c5 => k_is)
    (case k5 => k_is)
    (case a6 => k_is)
    (case l6 => k_is)
    (case c6 => k_is)
    (case k6 => k_is)
    (case a7 => k_is)
    (case l7 => k_is)
    (case c7 => k_is)
    (case k7 => k_is)
    (case a8 => k_is)
    (case l8 => k_is)
    (case c8 => k_is)
    (case k8 => k_is)
    (case a9 => k_is)
    (case l9 => k_is)
    (case c9 => k_is)
    (case k9 => k_is)
    (case a10 => k_is)
    (case l10 => k_is)
    (case c10 => k_is)
    (case k10 => k_is)
    (case a11 => k_is)
    (case l11 => k_is)
    (case c11 => k_is)
    (case k11 => k_is)
    (case a12 => k_is)
    (case l12 => k_is)
    (case c12 => k_is)
    (case k12 => k_is)
    (case a13 => k_is)
    (case l13 => k_is)
    (case c13 => k_is)
    (case k13 => k_is)
    (case a14 => k_is)
    (case l14 => k_is)
    (case c14 => k_is)
    (case k14 => k_is)
    (case a15 => k_is)
    (case l15 => k_is)
    (case c15 => k_is)
    (case k15 => k_is)
    (case a16 => k_is)
    (case l16 => k_is)
    (case c16 => k_is)
    (case k16 => k_is)
    (case a17 => k_is)
    (case l17 => k_is)
    (case c17 => k_is)
    (case k17 => k_is)
    (case a18 => k_is)
    (case l18 => k_is)
    (case c18 => k_is)
    (case k18 => k_is)
    (case a19 => k_is)
    (case l19 => k_is)
    (case c19 => k_is)
    (case k19 => k_is)
    (case a20 => k_is)
    (case l20 => k_is)
    (case c20 => k_is)
    (case k20 => k_is)
    (case a21 => k_is)
    (case l21 => k_is)
    (case c21 => k_is)
    (case k21 => k_is)
    (case mC => k_is)
    (case mCB => k_is)
    (case mCN => k_is)
    (case mCS => k_is)
    (case M0 => k_is)
    (case L0 => k_is)
    (case D0 => k_is)
    (case N0 => k_is)
    (case T0 => k_is)
    (case M1 => k_is)
    (case L1 => k_is)
    (case D1 => k_is)
    (case N1 => k_is)
    (case T1 => k_is)
    (case M2 => k_is)
    (case L2 => k_is)
    (case D2 => k_is)
    (case N2 => k_is)
    (case T2 => k_is)
    (case M3 => k_is)
    (case L3 => k_is)
    (case D3 => k_is)
    (case N3 => k_is)
    (case T3 => k_is)
    (case M4 => k_is)
    (case L4 => k_is)
    (case D4 => k_is)
    (case N4 => k_is)
    (case T4 => k_is)
    (case M5 => k_is)
    (case L5 => k_is)
    (case D5 => k_is)
    (case N5 => k_is)
    (case T5 => k_is)
    (case M6 => k_is)
    (case L6 => k_is)
    (case D6 => k_is)
    (case N6 => k_is)
    (case T6 => k_is)
    (case M7 => k_is)
    (case L7 => k_is)
    (case D7 => k_is)
    (case N7 => k_is)
    (case T7 => k_is)
    (case M8 => k_is)
    (case L8 => k_is)
    (case D8 => k_is)
    (case N8 => k_is)
    (case T8 => k_is)
    (case u1 => k_is)
    (case u2 => k_is)
    (case u3 => k_is)
    (case u4 => k_is)
    (case u5 => k_is)
    (case u6 => k_is)
    (case u7 => k_is)
    (case u8 => k_is)
    (case u9 => k_is)
    (case u10 => k_is)
    (case u11 => k_is)
    (case u12 => first | exact rfl | kernel_rfl | decide +kernel)
    (case u13 => k_is)
    (case u14 => k_is)
    (case u15 => k_is)
    (case u16 => k_is)
    (case u17 => k_is)
    (case u18 => k_is)
    (case u19 => k_is)
    (case u20 => first | exact rfl | kernel_rfl | decide +kernel)
    (case u21 => first | exact rfl | kernel_rfl | decide +kernel)
    (case u22 => first | exact rfl | kernel_rfl | decide +kernel)
    (case y2 => k_is)
    (case y3 => k_is)
    (case y4 => k_is)
    (case y5 => k_is)
    (case o1CB => exact ⟨_, _, _, _, _, _, _, _, _, _, _, _, _, _, _, rfl, rfl⟩)
    (case o2CB => k_is)
    (case o3CB => k_is)
    (case o4CB => k_is)
    (case o5CB => k_is)
    (case o6CB => k_is)
    (case o7CB => k_is)
    (case o8CB => k_is)
    (case o9CB => k_is)
    (case oACB => k_is)
    (case o1CN => exact ⟨_, _, _, _, _, _, _, _, _, _, _, _, _, _, _, rfl, rfl⟩)
    (case o2CN => k_is)
    (case o3CN => k_is)
    (case o4CN => k_is)
    (case o5CN => k_is)
    (case o6CN => k_is)
    (case o7CN => k_is)
    (case o8CN => k_is)
    (case z_int => k_is)
    (case z_abs => k_is)
    (case z_len => k_is)
    (case z_enumerate => k_is)
    (case z_range => k_is)
    (case z_isinstance => k_is)
    (case z_str => k_is)
    (case z_bool => k_is)
    (case z_list => k_is)
    (case z_tuple => k_is)
    (case z_repr => k_is)
    (case z_iter => k_is)

