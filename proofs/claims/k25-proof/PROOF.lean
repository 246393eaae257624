import PyProof.Rows.All
import Wide.All
import OpenK.AllK
import Wide.FinOn
import HandS.ForMost
import HandS.Wide
import HandS.Codes
import HandS.Exc
import HandS.TryOnly
import HandS.ExcOwn
import HandS.WordsExc
import HandS.ExcInit
import HandS.ExcField
import HandS.IsInst
import HandS.StrMore
import HandS.Style
import HandS.Sort
import HandS.SortRule
import HandS.ListItems
import HandS.DictComp
import HandS.Property
import KE.KDictList
import PyProof.ReprBulk
import HandS.Conv
import HandS.Flt
import HandS.More
import HandS.TupLe
import PySem.Challenge.RW_searchback_k25_whole_likenesses_lead_on
set_option Elab.async false
set_option maxRecDepth 100000
namespace Kx
open PySem L2
def top (i : Nat) : Stmt := PySem.Challenge.pw_searchback_k25_whole_likenesses_lead_on.main.body.getD i (.Pass ⟨0, 0, 0, 0⟩)
abbrev sWall : Stmt := top 0 -- _wall(k)
abbrev sBadLikeness_init : Stmt := inClass (top 3) 0 -- BadLikeness.__init__
abbrev sWhole : Stmt := top 5 -- is_whole(thing, low, high)
abbrev sSeq : Stmt := top 6 -- is_sequence(thing)
abbrev sLikeness_init : Stmt := inClass (top 9) 0 -- Likeness.__init__
abbrev sLikeness_eq : Stmt := inClass (top 9) 1 -- Likeness.__eq__
abbrev sLikeness_len : Stmt := inClass (top 9) 2 -- Likeness.__len__
abbrev sLikeness_iter : Stmt := inClass (top 9) 3 -- Likeness.__iter__
abbrev sLikeness_is_full : Stmt := inClass (top 9) 4 -- Likeness.is_full
abbrev sLikeness_partner : Stmt := inClass (top 9) 5 -- Likeness.partner
abbrev sLikeness_flipped : Stmt := inClass (top 9) 6 -- Likeness.flipped
abbrev sLikeness_then : Stmt := inClass (top 9) 7 -- Likeness.then
abbrev sCheckSizes : Stmt := top 10 -- _check_sizes(first, second)
abbrev sIsLink : Stmt := top 11 -- _is_link(link, first, second)
abbrev sMix : Stmt := top 13 -- _law_mix(_law_number, _law_turn)
abbrev sHand : Stmt := top 14 -- _law_hand(_law_script)
abbrev sDraw : Stmt := top 15 -- _law_draw(_law_hand_here, _law_many)
abbrev sOne : Stmt := top 16 -- _law_one(_law_hand_here, _law_rows)
abbrev sLIsWhole : Stmt := top 17 -- _law_is_whole(_law_thing, _law_due)
abbrev sLLinks : Stmt := top 18 -- _law_links(_law_hand_here, _law_first, _law_second, _law_many)
abbrev sLChained : Stmt := top 19 -- _law_chained(_law_one_here, _law_other)
abbrev sLTold : Stmt := top 20 -- _law_told(_law_likeness, _law_first, _law_second, _law_links_here)
abbrev sLaw : Stmt := top 21 -- law(_law_script)
end Kx

set_option maxHeartbeats 4000000
namespace Kx
open PySem L2
section
variable {P : Program} {w : World} {K : PySem.W.Frag} {mg : Str → Option Value} {base : Heap}
structure Bl (mg : Str → Option Value) : Prop where
  int : mg "int" = none
  abs : mg "abs" = none
  len : mg "len" = none
  enumerate : mg "enumerate" = none
  range : mg "range" = none
def spMix : Sp := fun vs H Q _ => ∃ a b : Int, vs = [.int a, .int b] ∧ ∀ z : Int, Q (.int z) H
structure Has (P : Program) (w : World) (K : PySem.W.Frag) (mg : Str → Option Value) (base : Heap) (x : Str) (k : Nat) (ps : List Str) (sp : Sp) (f : Addr) (fd : FuncData) : Prop where
  G : FnOk P w K mg base CX0 k f fd ps sp
  m : mg x = some (.ref f)
  kp : PySem.W.keepIn K (.ref f) = true
  b : Binds K fd ps []
def HasF (P : Program) (w : World) (K : PySem.W.Frag) (mg : Str → Option Value) (base : Heap) (x : Str) (k : Nat) (ps : List Str) (sp : Sp) : Prop := ∃ f fd, Has P w K mg base x k ps sp f fd
theorem scMix : FnScope ["_law_number", "_law_turn", "_law_once", "_law_twice"] ["_law_number", "_law_turn"] (defScope sMix) := ⟨rfl, rfl, rfl, by decide +kernel, rfl, by decide +kernel, by decide +kernel⟩
theorem small31 {z : Int} {m : Int} (h : 0 < m) (h' : m ≤ 2147483648) : CMul (z % m) (z % m) := by
  have h1 := Int.emod_nonneg z (show m ≠ 0 by omega)
  have h2 := Int.emod_lt_of_pos z h
  exact .inl ⟨by omega, by omega⟩
theorem ok_mix {f : Addr} {fd : FuncData} (F : Fun K "_law_mix" "_law_mix" sMix f fd) (m : mg "_law_mix" = some (.ref f)) (T : Bl mg) : HasF P w K mg base "_law_mix" 1 ["_law_number", "_law_turn"] spMix := by
  refine ⟨f, fd, ?_, m, F.kp, F.binds fun _ _ _ _ _ _ us hl => match us, hl with | [_, _], _ => rfl⟩
  refine F.ok scMix (fun vs H Q E h => ?_) (fun cdv A outer s H vs Q E hr h => ?_)
  · obtain ⟨a, b, rfl, _⟩ := h
    rfl
  · obtain ⟨a, b, rfl, k⟩ := h
    refine ⟨_, pss_cons (ps_set (i := 2) scMix.nd rfl (Or.inl rfl) (pe_op op_mod (pe_callTy call_int1 (by rfl) T.int (by decide +kernel) (pa_cons (pe_op op_add (pe_op op_add (pe_op op_mul (pv 0) pe_int) (pe_op op_mul (pv 1) pe_int)) pe_int) pa_nil)) pe_int))
      (pss_cons (ps_set (i := 3) scMix.nd rfl (Or.inl rfl) (pe_op op_mod (pe_callTy call_int1 (by rfl) T.int (by decide +kernel) (pa_cons (pe_op op_add (pe_op op_add (pe_op op_mul (pv 2) (pv 2)) (pe_op op_mul (pe_op op_fdiv (pv 2) pe_int) pe_int)) (pe_op op_mul (pv 1) pe_int)) pa_nil)) pe_int))
      (pss_one (ps_ret (pe_op op_fdiv (pe_op op_mod (pe_callTy call_int1 (by rfl) T.int (by decide +kernel) (pa_cons (pe_op op_add (pe_op op_fdiv (pe_op op_mul (pv 3) (pv 3)) pe_int) (pv 2)) pa_nil)) pe_int) pe_int)))), ?_⟩
    refine ⟨_, rfl, _, _, rfl, rfl, .inr ⟨by decide, by decide⟩, _, rfl, _, _, rfl, rfl, .inr ⟨by decide, by decide⟩, _, _, rfl, rfl, _, _, rfl, rfl, .inl ⟨_, rfl, _, _, rfl, rfl, (by show (0 : Int) < _; decide), ?_⟩⟩
    refine ⟨_, rfl, _, rfl, _, _, rfl, rfl, small31 (by decide) (by decide), _, rfl, _, _, rfl, rfl, ⟨by decide, by decide⟩, _, _, rfl, rfl, .inr ⟨by decide, by decide⟩, _, _, rfl, rfl, _, rfl, _, _, rfl, rfl, .inr ⟨by decide, by decide⟩, _, _, rfl, rfl, .inl ⟨_, rfl, _, _, rfl, rfl, (by show (0 : Int) < _; decide), ?_⟩⟩
    refine ⟨_, rfl, _, rfl, _, _, rfl, rfl, small31 (by decide) (by decide), _, _, rfl, rfl, ⟨by decide, by decide⟩, _, rfl, _, _, rfl, rfl, .inl ⟨_, rfl, _, _, rfl, rfl, (by show (0 : Int) < _; decide), _, _, rfl, rfl, ⟨by decide, by decide⟩, ?_⟩⟩
    exact k _
/-- the hand at p: what is left of the script, and three counters -/
def HandAt (H : Hp) (p q : Addr) : Prop := ∃ (cs : List Int) (a : Nat) (b c : Int), H p = some (.lst [.ref q, .int a, .int b, .int c]) ∧ H q = some (.lst (cs.map V.int))
/-- all but p is as it was -/
def Keep (H H' : Hp) (p : Addr) : Prop := ∀ b o, H b = some o → b ≠ p → H' b = some o
theorem Keep.refl {H : Hp} {p : Addr} : Keep H H p := fun _ _ h _ => h
theorem Keep.trans {H H1 H2 : Hp} {p : Addr} (a : Keep H H1 p) (b : Keep H1 H2 p) : Keep H H2 p := fun c o h e => b c o (a c o h e) e
theorem Keep.upd {H H1 : Hp} {p : Addr} {o : HO} (a : Keep H H1 p) : Keep H (upd H1 p o) p := fun c u h e => by rw [upd_ne e]; exact a c u h e
theorem HandAt.ne {H : Hp} {p q : Addr} {xs ys : List V} (h : H p = some (.lst (.ref q :: xs))) {cs : List Int} (h' : H q = some (.lst (cs.map V.int))) : q ≠ p := by
  intro e
  subst e
  rw [h] at h'
  cases cs with
  | nil => exact nomatch h'
  | cons c cs => exact nomatch h'
def spDraw : Sp := fun vs H Q _ => ∃ (p q : Addr) (m : Int), vs = [.ref p, .int m] ∧ HandAt H p q ∧ 0 < m ∧ m.natAbs < 2 ^ 200 ∧
  ∀ (z : Int) (H' : Hp), 0 ≤ z → z < m → HandAt H' p q → Keep H H' p → Q (.int z) H'
theorem scDraw : FnScope ["_law_hand_here", "_law_many", "_law_cell", "_law_rest"] ["_law_hand_here", "_law_many"] (defScope sDraw) := ⟨rfl, rfl, rfl, by decide +kernel, rfl, by decide +kernel, by decide +kernel⟩
theorem ok_draw {f : Addr} {fd : FuncData} (F : Fun K "_law_draw" "_law_draw" sDraw f fd) (m : mg "_law_draw" = some (.ref f)) (T : Bl mg) (M : HasF P w K mg base "_law_mix" 1 ["_law_number", "_law_turn"] spMix) : HasF P w K mg base "_law_draw" 2 ["_law_hand_here", "_law_many"] spDraw := by
  refine ⟨f, fd, ?_, m, F.kp, F.binds fun _ _ _ _ _ _ us hl => match us, hl with | [_, _], _ => rfl⟩
  obtain ⟨f1, fd1, M⟩ := M
  refine F.ok scDraw (fun vs H Q E h => ?_) (fun cdv A outer s H vs Q E hr h => ?_)
  · obtain ⟨a, b, c, rfl, _⟩ := h
    rfl
  · obtain ⟨p, q, m, rfl, ⟨cs, a, b, c, hp, hq⟩, m0, m1, k⟩ := h
    have nqp : q ≠ p := HandAt.ne (ys := []) hp hq
    refine ⟨_, C8.pss_cut (ps_if (PW.pt (pw_and (pt_cmpR op_eq (pe_ix ix_list (pv 0) pe_int (fun _ _ => rfl)) pe_int (nomark _)) (pw_and1 (pt_cmpR op_lt (pe_ix ix_list (pv 0) pe_int (fun _ _ => rfl)) (pe_callB call_len_seq (by rfl) T.len PySem.boot_len (pa_cons (pe_ix ix_list (pv 0) pe_int (fun _ _ => rfl)) pa_nil)) (nomark _)))))
        (pss_cons (ps_set (i := 2) scDraw.nd rfl (Or.inl rfl) (pe_ix ix_list (pe_ix ix_list (pv 0) pe_int (fun _ _ => rfl)) (pe_ix ix_list (pv 0) pe_int (fun _ _ => rfl)) (fun _ _ => rfl)))
        (pss_cons (ps_asg (pe_op op_add (pe_ix ix_list (pv 0) pe_int (fun _ _ => rfl)) pe_int) (pg_sub (pv 0) pe_int set_list))
        (pss_cons (ps_if (pt_cmpR op_lt (pv 2) (pe_op op_pow pe_int pe_int) (nomark _)) (pss_one (ps_ret (pe_op op_mod (pe_callTy call_int1 (by rfl) T.int (by decide +kernel) (pa_cons (pe_call M.G hr (by rfl) M.m M.kp M.b .nil pass0 (pa_cons (pe_op op_mod (pe_callTy call_int1 (by rfl) T.int (by decide +kernel) (pa_cons (pv 2) pa_nil)) pe_int) (pa_cons (pe_ix ix_list (pv 0) pe_int (fun _ _ => rfl)) pa_nil))) pa_nil)) (pv 1)))) pss_nil)
        (pss_one (ps_asg (pv 2) (pg_sub (pv 0) pe_int set_list)))))) pss_nil)
      (pss_cons (ps_if (pt_cmpR op_gt (pe_ix ix_list (pv 0) pe_int (fun _ _ => rfl)) pe_int (nomark _))
        (pss_cons (ps_set (i := 3) scDraw.nd rfl (Or.inl rfl) (pe_ix ix_list (pv 0) pe_int (fun _ _ => rfl)))
        (pss_cons (ps_asg (pe_op op_fdivW (pv 3) (pv 1)) (pg_sub (pv 0) pe_int set_list))
        (pss_one (ps_ret (pe_op op_mod (pe_callTy call_int1 (by rfl) T.int (by decide +kernel) (pa_cons (pv 3) pa_nil)) (pv 1)))))) pss_nil)
      (pss_cons (ps_asg (pe_op op_mod (pe_callTy call_int1 (by rfl) T.int (by decide +kernel) (pa_cons (pe_op op_add (pe_ix ix_list (pv 0) pe_int (fun _ _ => rfl)) pe_int) pa_nil)) pe_int) (pg_sub (pv 0) pe_int set_list))
      (pss_one (ps_ret (pe_op op_mod (pe_callTy call_int1 (by rfl) T.int (by decide +kernel) (pa_cons (pe_call M.G hr (by rfl) M.m M.kp M.b .nil pass0 (pa_cons (pe_ix ix_list (pv 0) pe_int (fun _ _ => rfl)) (pa_cons (pe_ix ix_list (pv 0) pe_int (fun _ _ => rfl)) pa_nil))) pa_nil)) (pv 1)))))), ?_⟩
    refine ⟨fun σ H1 => ∃ (x y : Option V) (a : Nat) (b c : Int), σ = [some (.ref p), some (.int m), x, y] ∧ H1 p = some (.lst [.ref q, .int a, .int b, .int c]) ∧ H1 q = some (.lst (cs.map V.int)) ∧ Keep H H1 p, ?_, ?_⟩
    · refine ⟨_, rfl, p, _, _, _, rfl, rfl, SqL.of hp, by rfl, rfl, _, rfl, ?_⟩
      refine ite2 (fun _ => ?_) (fun _ => ?_)
      · refine ⟨_, rfl, p, _, _, _, rfl, rfl, SqL.of hp, by rfl, _, rfl, p, _, _, _, rfl, rfl, SqL.of hp, by rfl, q, _, rfl, .inl (SqL.of hq), _, _, rfl, rfl, _, rfl, ?_⟩
        refine ite2 (fun h1 => ?_) (fun _ => ?_)
        · have h1 : (a : Int) < ((cs.map V.int).length : Nat) := of_decide_eq_true h1
          rw [List.length_map] at h1
          have h2 : a < cs.length := by omega
          have h3 : (cs.map V.int)[a]? = some (V.int cs[a]) := by rw [List.getElem?_map, List.getElem?_eq_getElem h2]; rfl
          have hq' : ∀ o, (upd H p o) q = some (.lst (cs.map V.int)) := fun o => by rw [upd_ne nqp]; exact hq
          refine ⟨_, rfl, p, _, _, _, rfl, rfl, SqL.of hp, by rfl, _, rfl, p, _, _, _, rfl, rfl, SqL.of hp, by rfl, q, _, _, _, rfl, rfl, SqL.of hq, atI_nat h3, ?_⟩
          refine ⟨_, rfl, p, _, _, _, rfl, rfl, SqL.of hp, by rfl, _, _, rfl, rfl, _, rfl, p, _, _, _, rfl, rfl, hp, by rfl, ?_⟩
          refine ⟨_, rfl, _, _, rfl, rfl, ⟨by decide, by decide, by decide⟩, _, _, rfl, rfl, _, rfl, ?_⟩
          refine ite2 (fun _ => ?_) (fun _ => ?_)
          · refine ⟨_, rfl, .inl ⟨_, rfl, _, _, rfl, rfl, (by show (0 : Int) < _; decide), _, rfl, p, _, _, _, rfl, rfl, SqL.of upd_same, by rfl, _, _, rfl, fun z => .inl ⟨_, rfl, _, rfl, _, _, rfl, rfl, m0, ?_⟩⟩⟩
            exact k _ _ (Int.emod_nonneg _ (by omega)) (Int.emod_lt_of_pos _ m0) ⟨cs, a + 1, b, c, upd_same, hq' _⟩ Keep.refl.upd
          · refine ⟨_, rfl, _, rfl, p, _, _, _, rfl, rfl, upd_same, by rfl, ?_⟩
            refine ⟨_, _, a + 1, cs[a], c, rfl, upd_same, ?_, Keep.refl.upd.upd⟩
            rw [upd_upd]
            exact hq' _
        · exact ⟨_, _, a, b, c, rfl, hp, hq, Keep.refl⟩
      · exact ⟨_, _, a, b, c, rfl, hp, hq, Keep.refl⟩
    · rintro σ H1 ⟨x, y, a, b, c, rfl, hp, hq, kp⟩
      have hq' : ∀ o, (upd H1 p o) q = some (.lst (cs.map V.int)) := fun o => by rw [upd_ne nqp]; exact hq
      refine ⟨_, rfl, p, _, _, _, rfl, rfl, SqL.of hp, by rfl, _, _, rfl, rfl, _, rfl, ?_⟩
      refine ite2 (fun _ => ?_) (fun _ => ?_)
      · refine ⟨_, rfl, p, _, _, _, rfl, rfl, SqL.of hp, by rfl, _, rfl, _, rfl, _, _, rfl, rfl, wide_div m0 m1 (by decide) (by decide), _, rfl, p, _, _, _, rfl, rfl, hp, by rfl, ?_⟩
        refine ⟨_, rfl, .inl ⟨_, rfl, _, rfl, _, _, rfl, rfl, m0, ?_⟩⟩
        exact k _ _ (Int.emod_nonneg _ (by omega)) (Int.emod_lt_of_pos _ m0) ⟨cs, a, _, c, upd_same, hq' _⟩ kp.upd
      · refine ⟨_, rfl, p, _, _, _, rfl, rfl, SqL.of hp, by rfl, _, _, rfl, rfl, .inl ⟨_, rfl, _, _, rfl, rfl, (by show (0 : Int) < _; decide), _, rfl, p, _, _, _, rfl, rfl, hp, by rfl, ?_⟩⟩
        refine ⟨_, rfl, p, _, _, _, rfl, rfl, SqL.of upd_same, by rfl, _, rfl, p, _, _, _, rfl, rfl, SqL.of upd_same, by rfl, _, _, rfl, fun z => .inl ⟨_, rfl, _, rfl, _, _, rfl, rfl, m0, ?_⟩⟩
        exact k _ _ (Int.emod_nonneg _ (by omega)) (Int.emod_lt_of_pos _ m0) ⟨cs, a, _, _, upd_same, hq' _⟩ kp.upd
/-- over enumerate(list), the list standing still -/
theorem for_enum {K : PySem.W.Frag} {a : Addr} {xs : List V} {g : TG} {tb : TS} {D : Ends} {σ : St} {H : Hp} (W : Nat → St → Hp → Prop) (start : W 0 σ H) (still : ∀ i σ H, W i σ H → SqL K H a xs)
    (turn : ∀ i x σ H T, xs[i]? = some x → W i σ H → H T = none → g (.ref T) σ (upd H T (.tup [.int (i : Nat), x])) fun σ2 H2 => tb { D with nx := W (i + 1), ct := W (i + 1), bk := D.nx } σ2 H2) (after : ∀ σ H, W xs.length σ H → D.nx σ H) :
    ∃ U : Nat → Nat → St → Hp → Prop, (∃ m, U 0 m σ H) ∧ ∀ i m σ H, U i m σ H → ((Ite K a).stop i H ∧ D.nx σ H) ∨ ((Ite K a).go i H ∧ ∃ N : St → Hp → Prop, (∀ σ' H', N σ' H' → ∃ m', m' < m ∧ U (i + 1) m' σ' H') ∧
      ∀ x H', (Ite K a).yld i H x H' → g x σ H' fun σ2 H2 => tb { D with nx := N, ct := N, bk := D.nx } σ2 H2) := by
  refine ⟨fun i m σ H => m + i = xs.length ∧ W i σ H, ⟨xs.length, by omega, start⟩, fun i m σ H u => ?_⟩
  obtain ⟨e, u⟩ := u
  cases m with
  | zero =>
    have e : i = xs.length := by omega
    subst e
    exact .inl ⟨⟨xs, still _ _ _ u, Nat.le_refl _⟩, after _ _ u⟩
  | succ m =>
    have lt : i < xs.length := by omega
    refine .inr ⟨⟨xs, xs[i], still _ _ _ u, List.getElem?_eq_getElem lt⟩, W (i + 1), fun σ' H' u' => ⟨m, Nat.lt_succ_self _, by omega, u'⟩, fun x H' y => ?_⟩
    obtain ⟨T, z, rfl, free, rfl, same⟩ := y
    exact turn i z σ H T (same xs (still _ _ _ u)) u free
def spHand (K : PySem.W.Frag) : Sp := fun vs H Q _ => ∃ (a : Addr) (ns : List Int), vs = [.ref a] ∧ SqL K H a (ns.map V.int) ∧ ns.length ≤ 63 ∧ ∀ (p q : Addr) (H' : Hp), H p = none → H q = none → q ≠ p → HandAt H' p q → Same H H' → Q (.ref p) H'
theorem sameUpd {H H1 : Hp} {p : Addr} {o : HO} (s : Same H H1) (h : H1 p = none) : Same H (upd H1 p o) := fun b u e => by
  have e1 := s b u e
  rw [upd_ne (ne_of_none e1 h)]
  exact e1
theorem item_int {ns : List Int} {i : Nat} {y : V} (h : (ns.map V.int)[i]? = some y) : ∃ z, y = V.int z ∧ ns[i]? = some z := by
  rw [List.getElem?_map] at h
  cases e : ns[i]? with
  | none => rw [e] at h; cases h
  | some z => rw [e] at h; exact ⟨z, (Option.some.inj h).symm, rfl⟩
theorem scHand : FnScope ["_law_script", "_law_total", "_law_k", "_law_cell"] ["_law_script"] (defScope sHand) := ⟨rfl, rfl, rfl, by decide +kernel, rfl, by decide +kernel, by decide +kernel⟩
theorem ok_hand {f : Addr} {fd : FuncData} (F : Fun K "_law_hand" "_law_hand" sHand f fd) (m : mg "_law_hand" = some (.ref f)) (T : Bl mg) : HasF P w K mg base "_law_hand" 1 ["_law_script"] (spHand K) := by
  refine ⟨f, fd, ?_, m, F.kp, F.binds fun _ _ _ _ _ _ us hl => match us, hl with | [_], _ => rfl⟩
  refine F.ok scHand (fun vs H Q E h => ?_) (fun cdv A outer s H vs Q E hr h => ?_)
  · obtain ⟨a, b, rfl, _⟩ := h
    rfl
  · obtain ⟨a, ns, rfl, hS, hl, k⟩ := h
    refine ⟨_, pss_cons (ps_set (i := 1) scHand.nd rfl (Or.inl rfl) pe_int)
      (pss_cons (ps_for PassesOwn.never rfl (pi_enum (by rfl) T.enumerate (pa_cons (pv 0) pa_nil)) (pg_tup rfl (pgs_cons (pg_name (i := 2) scHand.nd rfl (.inl rfl)) (pgs_cons (pg_name (i := 3) scHand.nd rfl (.inl rfl)) pgs_nil)))
        (pss_one (ps_set (i := 1) scHand.nd rfl (Or.inl rfl) (pe_op op_mod (pe_callTy call_int1 (by rfl) T.int (by decide +kernel) (pa_cons (pe_op op_add (pe_op op_mul (pv 1) pe_int) (pe_op op_mul (pe_callTy call_int1 (by rfl) T.int (by decide +kernel) (pa_cons (pv 3) pa_nil)) (pe_op op_add (pv 2) pe_int))) pa_nil)) pe_int))))
      (pss_one (ps_ret (pe_lst (pa_cons (pe_lc (own := [("_law_cell", 3)]) (g := gName 3) (tt := tYes) (by rfl) scHand.nd (pi_list (pv 0)) (blkOk_by (own := [("_law_cell", 3)]) (N := ["_law_script", "_law_total", "_law_k", "_law_cell"]) (sc := defScope sHand) (by decide +kernel))
          (fun _ _ _ _ _ => pg_name (i := 3) scHand.nd rfl (Or.inl rfl)) (fun _ _ _ _ _ => pts_nil) (fun _ _ _ _ _ => (pe_callB call_abs (by rfl) T.abs (by decide +kernel) (pa_cons (pe_callTy call_int1 (by rfl) T.int (by decide +kernel) (pa_cons (pv 3) pa_nil)) pa_nil))))
        (pa_cons pe_int (pa_cons pe_int (pa_cons (pv 1) pa_nil)))))))), ?_⟩
    refine ⟨_, rfl, a, _, rfl, hS, for_enum (K := K) (a := a) (xs := ns.map V.int) (fun i σ H2 => ∃ (t : Int) (x y : Option V), σ = [some (.ref a), some (.int t), x, y] ∧ Same H H2 ∧ True) ⟨_, _, _, rfl, Same.refl _, trivial⟩ (fun i σ H2 ⟨_, _, _, _, s2, _⟩ => s2.seq hS) ?_ ?_⟩
    · rintro i x σ H2 T hi ⟨t, c, d, rfl, s2, _⟩ free
      obtain ⟨z, rfl, hz⟩ := item_int hi
      have hlt : i < ns.length := (List.getElem?_eq_some_iff.mp hz).1
      refine ⟨T, _, rfl, SqT.of upd_same, rfl, _, _, rfl, _, _, rfl, rfl, ?_⟩
      refine ⟨_, rfl, _, _, rfl, rfl, .inr ⟨by decide, by decide⟩, _, rfl, .inl ⟨_, rfl, _, rfl, _, _, rfl, rfl, _, _, rfl, rfl, .inr ⟨by omega, by omega⟩, _, _, rfl, rfl, .inl ⟨_, rfl, _, _, rfl, rfl, (by show (0 : Int) < _; decide), ?_⟩⟩⟩
      exact ⟨_, _, _, rfl, sameUpd s2 free, trivial⟩
    · rintro σ H2 ⟨t, c, d, rfl, s2, _⟩
      have q : ∀ (b : Int) (l : List Int), (l ++ [b]).map V.int = l.map V.int ++ [V.int b] := fun b l => by rw [List.map_append]; rfl
      refine ⟨_, rfl, a, rfl, ⟨_, s2.seq hS⟩, fun D hD => lc_list (K := K) (a := a) (xs := ns.map V.int) (fun i H3 => Same H H3 ∧ ∃ cs : List Int, cs.length = i ∧ H3 D = some (.lst (cs.map V.int))) ⟨sameUpd s2 hD, [], rfl, upd_same⟩ (fun i H3 _ w => w.1.seq hS) ?_ ?_⟩
      · rintro i y H3 hi ⟨s3, cs, hc, hd⟩
        obtain ⟨z, rfl, hz⟩ := item_int hi
        have hlt : i < ns.length := (List.getElem?_eq_some_iff.mp hz).1
        refine ⟨rfl, ?_⟩
        refine ⟨_, rfl, .inl ⟨_, rfl, _, rfl, cs.map V.int, hd, small1000 (by rw [List.length_map]; omega), ?_⟩⟩
        have e : H D = none := s2.free hD
        refine ⟨fun b u e' => ?_, cs ++ [_], by rw [List.length_append, hc]; rfl, by rw [q]; exact upd_same⟩
        rw [upd_ne (ne_of_none e' e)]
        exact s3 b u e'
      · rintro H3 ⟨s3, cs, hc, hd⟩
        refine ⟨_, rfl, (by show 4 ≤ sizeLine; decide), fun p hp => ?_⟩
        have np : p ≠ D := fun e => by rw [e, hd] at hp; cases hp
        exact k p D _ (s3.free hp) (s2.free hD) np.symm ⟨cs, 0, 0, _, upd_same, by rw [upd_ne np.symm]; exact hd⟩ (sameUpd s3 hp)
/-- every sign a letter from a to z -/
def spOne : Sp := fun vs H Q _ => ∃ (p q r : Addr) (xs : List V), vs = [.ref p, .ref r] ∧ HandAt H p q ∧ H r = some (.lst xs) ∧ r ≠ p ∧ 0 < xs.length ∧ xs.length ≤ 1000 ∧
  ∀ (x : V) (H' : Hp), x ∈ xs → HandAt H' p q → Keep H H' p → Q x H'
theorem scOne : FnScope ["_law_hand_here", "_law_rows"] ["_law_hand_here", "_law_rows"] (defScope sOne) := ⟨rfl, rfl, rfl, by decide +kernel, rfl, by decide +kernel, by decide +kernel⟩
theorem ok_one {f : Addr} {fd : FuncData} (F : Fun K "_law_one" "_law_one" sOne f fd) (m : mg "_law_one" = some (.ref f)) (T : Bl mg) (D : HasF P w K mg base "_law_draw" 2 ["_law_hand_here", "_law_many"] spDraw) : HasF P w K mg base "_law_one" 3 ["_law_hand_here", "_law_rows"] spOne := by
  refine ⟨f, fd, ?_, m, F.kp, F.binds fun _ _ _ _ _ _ us hl => match us, hl with | [_, _], _ => rfl⟩
  obtain ⟨f1, fd1, D⟩ := D
  refine F.ok scOne (fun vs H Q E h => ?_) (fun cdv A outer s H vs Q E hr h => ?_)
  · obtain ⟨a, b, c, d, rfl, _⟩ := h
    rfl
  · obtain ⟨p, q, r, xs, rfl, hp, hx, ne, h0, h9, k⟩ := h
    refine ⟨_, pss_one (ps_ret (pe_ix ix_list (pv 1) (pe_call D.G hr (by rfl) D.m D.kp D.b .nil pass0 (pa_cons (pv 0) (pa_cons (pe_callB call_len_seq (by rfl) T.len PySem.boot_len (pa_cons (pv 1) pa_nil)) pa_nil))) (fun _ _ => rfl))), ?_⟩
    have hz : xs.length < 2 ^ 200 := Nat.lt_of_le_of_lt h9 (by decide)
    refine ⟨_, rfl, _, rfl, _, rfl, r, _, rfl, .inl (SqL.of hx), p, q, _, rfl, hp, by omega, by rw [Int.natAbs_natCast]; exact hz, fun z H1 z0 z1 hp1 k1 => ?_⟩
    obtain ⟨n, rfl⟩ : ∃ n : Nat, z = n := ⟨z.toNat, by omega⟩
    have lt : n < xs.length := by omega
    exact ⟨r, xs, n, _, rfl, rfl, SqL.of (k1 r _ hx ne), atI_nat (List.getElem?_eq_getElem lt), k _ _ (List.getElem_mem lt) hp1 k1⟩
/-- the kinds of things that are asked -/
inductive Kd (H : Hp) : V → String → Prop where
  | non : Kd H .non "NoneType"
  | bl (b : Bool) : Kd H (.bl b) "bool"
  | int (i : Int) : Kd H (.int i) "int"
  | str (z : Str) : Kd H (.str z) "str"
  | lst (a : Addr) (xs : List V) (h : H a = some (.lst xs)) : Kd H (.ref a) "list"
  | tup (a : Addr) (xs : List V) (h : H a = some (.tup xs)) : Kd H (.ref a) "tuple"
  | dct (a : Addr) (xs : List (Key × V)) (h : H a = some (.dK xs)) : Kd H (.ref a) "dict"
theorem Kd.ty {K : PySem.W.Frag} {H : Hp} {x : V} {n : String} (k : Kd H x n) : TyX K H x (.type n) := by
  cases k with
  | non => exact .base .non
  | bl b => exact .base (.bl _)
  | int i => exact .base (.int _)
  | str z => exact .base (.str _)
  | lst a xs h => exact .base (.lst h)
  | tup a xs h => exact .base (.tup h)
  | dct a xs h => exact .base (.dK h)
theorem Kd.kits {H : Hp} {x : V} {n : String} (k : Kd H x n) : n ∈ ["NoneType", "bool", "int", "str", "list", "tuple", "dict"] := by cases k <;> decide
structure Bm (mg : Str → Option Value) : Prop where
  isinstance : mg "isinstance" = none
  str : mg "str" = none
  bool : mg "bool" = none
  list : mg "list" = none
  tuple : mg "tuple" = none
theorem kit_int {n : String} (h : n ∈ ["NoneType", "bool", "int", "str", "list", "tuple", "dict"]) : kitB n "int" = some (n == "int" || n == "bool") := by
  simp only [List.mem_cons, List.not_mem_nil, or_false] at h
  rcases h with h | h | h | h | h | h | h <;> (subst h; decide +kernel)
theorem kit_bool {n : String} (h : n ∈ ["NoneType", "bool", "int", "str", "list", "tuple", "dict"]) : kitB n "bool" = some (n == "bool") := by
  simp only [List.mem_cons, List.not_mem_nil, or_false] at h
  rcases h with h | h | h | h | h | h | h <;> (subst h; decide +kernel)
theorem kit_str {n : String} (h : n ∈ ["NoneType", "bool", "int", "str", "list", "tuple", "dict"]) : kitB n "str" = some (n == "str") := by
  simp only [List.mem_cons, List.not_mem_nil, or_false] at h
  rcases h with h | h | h | h | h | h | h <;> (subst h; decide +kernel)
theorem kit_list {n : String} (h : n ∈ ["NoneType", "bool", "int", "str", "list", "tuple", "dict"]) : kitB n "list" = some (n == "list") := by
  simp only [List.mem_cons, List.not_mem_nil, or_false] at h
  rcases h with h | h | h | h | h | h | h <;> (subst h; decide +kernel)
theorem kit_tuple {n : String} (h : n ∈ ["NoneType", "bool", "int", "str", "list", "tuple", "dict"]) : kitB n "tuple" = some (n == "tuple") := by
  simp only [List.mem_cons, List.not_mem_nil, or_false] at h
  rcases h with h | h | h | h | h | h | h <;> (subst h; decide +kernel)
/-- a whole number from lo to hi -/
def wholeV (x : V) (lo hi : Int) : Bool := match x with
  | .int i => decide (lo ≤ i) && decide (i ≤ hi)
  | _ => false
def spWhole : Sp := fun vs H Q _ => ∃ (x : V) (n : String) (lo hi : Int), vs = [x, .int lo, .int hi] ∧ Kd H x n ∧ Q (.bl (wholeV x lo hi)) H
theorem scWhole : FnScope ["thing", "low", "high"] ["thing", "low", "high"] (defScope sWhole) := ⟨rfl, rfl, rfl, by decide +kernel, rfl, by decide +kernel, by decide +kernel⟩
theorem ok_whole {f : Addr} {fd : FuncData} (F : Fun K "is_whole" "is_whole" sWhole f fd) (m : mg "is_whole" = some (.ref f)) (T : Bl mg) (B : Bm mg) : HasF P w K mg base "is_whole" 1 ["thing", "low", "high"] spWhole := by
  refine ⟨f, fd, ?_, m, F.kp, F.binds fun _ _ _ _ _ _ us hl => match us, hl with | [_, _, _], _ => rfl⟩
  refine F.ok scWhole (fun vs H Q E h => ?_) (fun cdv A outer s H vs Q E hr h => ?_)
  · obtain ⟨a, b, c, d, rfl, _⟩ := h
    rfl
  · obtain ⟨x, n, lo, hi, rfl, hk, k⟩ := h
    refine ⟨_, pss_one (ps_ret (pe_and (pe_callB call_isi (by rfl) B.isinstance (by decide +kernel) (pa_cons (pv 0) (pa_cons (pe_bltn (v := .ty "int") (by rfl) T.int (by decide +kernel) rfl) pa_nil))) (pe_and (pe_not (pe_callB call_isi (by rfl) B.isinstance (by decide +kernel) (pa_cons (pv 0) (pa_cons (pe_bltn (v := .ty "bool") (by rfl) B.bool (by decide +kernel) rfl) pa_nil)))) (pe_one (pe_chain op_le op_le (pv 1) (pv 0) (pv 2)))))), ?_⟩
    refine ⟨_, rfl, x, _, _, _, _, rfl, .ty _, hk.ty, kit_ty (kit_int hk.kits), _, rfl, ?_⟩
    cases hk with
    | int i =>
      refine iteT ⟨_, rfl, .int i, _, _, _, _, rfl, .ty _, (Kd.int (H := H) i).ty, kit_ty (kit_bool (Kd.int (H := H) i).kits), _, rfl, _, rfl, ?_⟩
      refine iteT ⟨_, rfl, _, rfl, _, _, rfl, rfl, _, rfl, ?_⟩
      refine ite2 (fun h1 => ?_) (fun h1 => ?_)
      · have h1 : lo ≤ i := of_decide_eq_true h1
        refine ⟨_, rfl, _, _, rfl, rfl, ?_⟩
        have e : wholeV (.int i) lo hi = decide (i ≤ hi) := by simp [wholeV, h1]
        rw [e] at k
        exact k
      · have h1 : ¬ lo ≤ i := fun z => h1 (decide_eq_true z)
        have e : wholeV (.int i) lo hi = false := by simp [wholeV, h1]
        rw [e] at k
        exact k
    | bl b =>
      refine iteT ⟨_, rfl, .bl b, _, _, _, _, rfl, .ty _, (Kd.bl (H := H) b).ty, kit_ty (kit_bool (Kd.bl (H := H) b).kits), _, rfl, _, rfl, ?_⟩
      exact iteF k
    | non => exact iteF k
    | str z => exact iteF k
    | lst a xs h => exact iteF k
    | tup a xs h => exact iteF k
    | dct a xs h => exact iteF k
/-! labels -/
def seqV (n : String) : Bool := n == "list" || n == "tuple"
def spSeq : Sp := fun vs H Q _ => ∃ (x : V) (n : String), vs = [x] ∧ Kd H x n ∧ ∀ H', Same H H' → Q (.bl (seqV n)) H'
theorem scSeq : FnScope ["thing"] ["thing"] (defScope sSeq) := ⟨rfl, rfl, rfl, by decide +kernel, rfl, by decide +kernel, by decide +kernel⟩
theorem kit_seq {K : PySem.W.Frag} {n : String} (h : n ∈ ["NoneType", "bool", "int", "str", "list", "tuple", "dict"]) : PySem.W.kitAny K (.type n) [.type "list", .type "tuple"] = some (seqV n) := by
  refine kitAny_cons (kit_ty (kit_list h)) (fun e => kitAny_cons (kit_ty (kit_tuple h)) (fun e2 => ?_) (fun e2 => ?_)) (fun e => ?_)
  · unfold seqV; rw [e, e2]; exact kitAny_nil
  · unfold seqV; rw [e, e2]; rfl
  · unfold seqV; rw [e]; rfl
theorem Kd.keep {H H' : Hp} {x : V} {n : String} (k : Kd H x n) (s : Same H H') : Kd H' x n := by
  cases k with
  | non => exact .non
  | bl b => exact .bl b
  | int i => exact .int i
  | str z => exact .str z
  | lst a xs h => exact .lst a xs (s _ _ h)
  | tup a xs h => exact .tup a xs (s _ _ h)
  | dct a xs h => exact .dct a xs (s _ _ h)
theorem ok_seq {f : Addr} {fd : FuncData} (F : Fun K "is_sequence" "is_sequence" sSeq f fd) (m : mg "is_sequence" = some (.ref f)) (B : Bm mg) : HasF P w K mg base "is_sequence" 1 ["thing"] spSeq := by
  refine ⟨f, fd, ?_, m, F.kp, F.binds fun _ _ _ _ _ _ us hl => match us, hl with | [_], _ => rfl⟩
  refine F.ok scSeq (fun vs H Q E h => ?_) (fun cdv A outer s H vs Q E hr h => ?_)
  · obtain ⟨a, b, rfl, _⟩ := h
    rfl
  · obtain ⟨x, n, rfl, hk, k⟩ := h
    refine ⟨_, pss_one (ps_ret (pe_callB call_isiT (by rfl) B.isinstance (by decide +kernel) (pa_cons (pv 0) (pa_cons (pe_tup (pa_cons (pe_bltn (v := .ty "list") (by rfl) B.list (by decide +kernel) rfl) (pa_cons (pe_bltn (v := .ty "tuple") (by rfl) B.tuple (by decide +kernel) rfl) pa_nil))) pa_nil)))), ?_⟩
    refine ⟨_, rfl, by decide, fun t ht => ?_⟩
    exact ⟨x, t, _, _, _, _, rfl, upd_same, .cons (.ty _) (.cons (.ty _) .nil), (hk.keep (sameUpd (Same.refl _) ht)).ty, kit_seq hk.kits, k _ (sameUpd (Same.refl _) ht)⟩
theorem keepUpd {H H1 : Hp} {p a : Addr} {o : HO} (k : Keep H H1 p) (h : H a = none) : Keep H (upd H1 a o) p := fun b u e ne => by
  rw [upd_ne (ne_of_none e h)]
  exact k b u e ne
theorem HandAt.upd {H : Hp} {p q a : Addr} {o : HO} (h : HandAt H p q) (n1 : a ≠ p) (n2 : a ≠ q) : HandAt (upd H a o) p q := by
  obtain ⟨cs, x, b, c, h1, h2⟩ := h
  exact ⟨cs, x, b, c, by rw [upd_ne n1.symm]; exact h1, by rw [upd_ne n2.symm]; exact h2⟩
theorem HandAt.ap {H : Hp} {p q a : Addr} (h : HandAt H p q) (ha : H a = none) : a ≠ p := by
  obtain ⟨cs, x, b, c, h1, h2⟩ := h
  exact (ne_of_none h1 ha).symm
theorem HandAt.aq {H : Hp} {p q a : Addr} (h : HandAt H p q) (ha : H a = none) : a ≠ q := by
  obtain ⟨cs, x, b, c, h1, h2⟩ := h
  exact (ne_of_none h2 ha).symm
theorem HandAt.same {H H' : Hp} {p q : Addr} (h : HandAt H p q) (s : Same H H') : HandAt H' p q := by
  obtain ⟨cs, x, b, c, h1, h2⟩ := h
  exact ⟨cs, x, b, c, s _ _ h1, s _ _ h2⟩
theorem Same.keep {H H' : Hp} {p : Addr} (s : Same H H') : Keep H H' p := fun b o e _ => s b o e
end
end Kx

set_option maxHeartbeats 4000000
/-! list(d.values()) -/
namespace Kx
open PySem PySem.Spec PyProof.Rows L2
def tListVals (te : TE) : TE := fun σ H Q => te σ H fun x H1 => ∃ (d : Addr) (kvs : List (Key × V)), x = .ref d ∧ H1 d = some (.dK kvs) ∧ ∀ p, H1 p = none → Q (.ref p) (upd H1 p (.lst (kvs.map (·.2))))
theorem kv_vals {kvs : List (Key × V)} {vs : List (Key × Value)} (h : KV kvs vs) : Vals (kvs.map (·.2)) (vs.map (·.2)) := by
  unfold KV at h
  induction h with
  | nil => exact .nil
  | cons r t ih => exact .cons r.2 ih
section
variable {X : Cx} {e : Expr} {te : TE} {p apos cpos pos : Pos}
theorem pe_listVals (hc : X.calm = true) (he : PE X e te) (hg : Gl X "list") (hm : X.mg "list" = none) (hv : bootBuiltins "list" = some (.type "list")) (hbase : attributeBase e "values" X.env (eval e X.env) = eval e X.env := by rfl) (hline : (apos.endLine == cpos.line) = true := by rfl)
    (hs : starEach [.Call (.Attribute e "values" apos) [] [] cpos] X.env = (false, eval (.Call (.Attribute e "values" apos) [] [] cpos) X.env) :: starEach [] X.env := by rfl) :
    PE X (.Call (.Name "list" p) [.Call (.Attribute e "values" apos) [] [] cpos] [] pos) (tListVals te) := by
  refine ⟨fun pins s σ H Q I hq => ?_⟩
  refine wpAny_Call_Name_kw (ld_blt I hg hm hv ?_)
  refine PyProof.Rows.callWith_type1 ?_ hs rfl
  rw [hs]
  show wpAny _ _ (spliced ((false, eval (.Call (.Attribute e "values" apos) [] [] cpos) X.env) :: backTo pos (starEach [] X.env))) _ _ s
  refine Calls.spliced_cons ?_
  refine wpAny_Call_method (T := "dict") (id := "dict.values") hbase rfl hline F.plainAttrs_dict F.slot_dict_values F.type_dict_values (thn (he.run pins s σ H _ I hq) fun u s1 ⟨x, H1, I1, rx, d, kvs, ex, hd, q⟩ => ?_)
  subst ex
  obtain rfl : u = Value.ref d := rx
  obtain ⟨hz, hs0, vs, kv, hdo⟩ := I1.hok d _ hd
  obtain ⟨ep, hat⟩ := hdo.dictAt
  have lk : kvs.length = vs.length := Paired.length kv
  have I2 : Inv X pins σ H1 { s1 with heap := s1.heap.push { cls := .type "dict_values", data := .fields #[.ref d] } } := I1.kept (t' := s1.toks) fun b ob q => Heap.get?_push_of_some _ q
  refine ⟨hdo.typeIs, hdo.mapOf.noDict, ?_⟩
  show wpAny _ _ (callWith cpos (.builtin "dict.values") [.ref d] [] []) _ X.xe s1
  refine method_meetsIn F.slot_dict_values F.entry_dict_values rfl (PySem.evalArgs_none ⟨rfl, hdo.typeIs, F.args_dict_values_1 _, _, meets_dict_values (mixKind X.prog X.w) d hs0, ⟨vs, hdo⟩, ?_⟩)
  refine Calls.spliced_nil ?_
  refine PySem.W.kdl_call (PySem.W.kdl_values (knd := mixKind X.prog X.w) (kvs := vs) (ep := ep)) (I1.ok.hd hc) ⟨⟨_, Heap.get?_push_size _ rfl, rfl, rfl⟩, hat.push _⟩ (by omega) fun h' tk acc c hk hS hacc => ?_
  have ev : acc.toList = vs.map (·.2) := PySem.W.kdl_vals_eq acc.toList (by rw [Array.length_toList]; exact hacc.1) fun j v e => hacc.2 j v (by rw [← Array.getElem?_toList]; exact e)
  refine ⟨.ref _, _, I2.laid (t' := tk) (fun b o q => hk b o q) (Nat.le_refl _) (show ObjOk X.prog X.w _ h' _ (.lst (kvs.map (·.2))) from ⟨by rw [List.length_map]; omega, acc.toList, c, by rw [ev]; exact kv_vals kv, by rw [Array.toArray_toList]; exact hS⟩), rfl, q _ (I2.hok.fresh (Nat.le_refl _))⟩
end
end Kx

set_option maxHeartbeats 4000000
/-! links as lists of pairs -/
namespace Kx
open PySem L2
abbrev Pr := Int × Int
def leP (x y : Pr) : Bool := !SrtO.lexB y x
theorem leP_iff {x y : Pr} : leP x y = true ↔ x.1 < y.1 ∨ (x.1 = y.1 ∧ x.2 ≤ y.2) := by
  unfold leP
  rw [Bool.not_eq_true', SrtO.lexB_no]
  omega
def srt (l : List Pr) : List Pr := l.mergeSort leP
theorem srt_perm (l : List Pr) : (srt l).Perm l := List.mergeSort_perm l leP
theorem srt_pw (l : List Pr) : (srt l).Pairwise fun x y => leP x y = true := by
  refine List.pairwise_mergeSort (fun a b c h1 h2 => ?_) (fun a b => ?_) l
  · rw [leP_iff] at *
    omega
  · rw [Bool.or_eq_true, leP_iff, leP_iff]
    omega
theorem leP_anti {a b : Pr} (h1 : leP a b = true) (h2 : leP b a = true) : a = b := by
  rw [leP_iff] at *
  exact Prod.ext (by omega) (by omega)
theorem srt_eq {ys l : List Pr} (p : ys.Perm l) (h : ys.Pairwise fun x y => leP x y = true) : ys = srt l :=
  List.Perm.eq_of_pairwise (le := fun x y => leP x y = true) (fun _ _ _ _ h1 h2 => leP_anti h1 h2) h (srt_pw l) (p.trans (srt_perm l).symm)
theorem srt_congr {l m : List Pr} (p : l.Perm m) : srt l = srt m := srt_eq ((srt_perm l).trans p) (srt_pw l)
theorem srt_srt (l : List Pr) : srt (srt l) = srt l := srt_congr (srt_perm l)
theorem srt_mem {l : List Pr} {q : Pr} : q ∈ srt l ↔ q ∈ l := (srt_perm l).mem_iff
theorem srt_len (l : List Pr) : (srt l).length = l.length := (srt_perm l).length_eq
theorem srt_ext {l m : List Pr} (d1 : l.Nodup) (d2 : m.Nodup) (h : ∀ q, q ∈ l ↔ q ∈ m) : srt l = srt m := srt_congr ((List.perm_ext_iff_of_nodup d1 d2).mpr h)
/-- what a likeness of a and b persons has -/
structure Lk (a b : Int) (l : List Pr) : Prop where
  lo : ∀ q ∈ l, (0 ≤ q.1 ∧ q.1 < a) ∧ 0 ≤ q.2 ∧ q.2 < b
  n1 : (l.map (·.1)).Nodup
  n2 : (l.map (·.2)).Nodup
theorem nodup_of_map {α β : Type} {f : α → β} {l : List α} (h : (l.map f).Nodup) : l.Nodup := (List.pairwise_map.mp h).imp fun hn e => hn (by rw [e])
theorem map_nodup {α β : Type} {f : α → β} {l : List α} (h : l.Nodup) (inj : ∀ x ∈ l, ∀ y ∈ l, f x = f y → x = y) : (l.map f).Nodup :=
  List.pairwise_map.mpr (h.imp_of_mem fun hx hy hn e => hn (inj _ hx _ hy e))
theorem map_inj {α β : Type} {f : α → β} {l : List α} (h : (l.map f).Nodup) {x y : α} (hx : x ∈ l) (hy : y ∈ l) (e : f x = f y) : x = y := by
  induction l with
  | nil => cases hx
  | cons z l ih =>
    rw [List.map_cons, List.nodup_cons] at h
    rcases List.mem_cons.mp hx with e1 | hx
    · rcases List.mem_cons.mp hy with e2 | hy
      · rw [e1, e2]
      · rw [e1] at e; exact absurd (List.mem_map.mpr ⟨y, hy, e.symm⟩) h.1
    · rcases List.mem_cons.mp hy with e2 | hy
      · rw [e2] at e; exact absurd (List.mem_map.mpr ⟨x, hx, e⟩) h.1
      · exact ih h.2 hx hy
namespace Lk
variable {a b c : Int} {l m : List Pr}
theorem nd (h : Lk a b l) : l.Nodup := nodup_of_map h.n1
theorem i1 (h : Lk a b l) {i j j' : Int} (h1 : (i, j) ∈ l) (h2 : (i, j') ∈ l) : j = j' := congrArg Prod.snd (map_inj h.n1 h1 h2 rfl)
theorem i2 (h : Lk a b l) {i i' j : Int} (h1 : (i, j) ∈ l) (h2 : (i', j) ∈ l) : i = i' := congrArg Prod.fst (map_inj h.n2 h1 h2 rfl)
theorem mk' (nd : l.Nodup) (lo : ∀ q ∈ l, (0 ≤ q.1 ∧ q.1 < a) ∧ 0 ≤ q.2 ∧ q.2 < b) (i1 : ∀ i j j', (i, j) ∈ l → (i, j') ∈ l → j = j') (i2 : ∀ i i' j, (i, j) ∈ l → (i', j) ∈ l → i = i') : Lk a b l :=
  ⟨lo, map_nodup nd fun x hx y hy e => Prod.ext e (i1 x.1 x.2 y.2 hx (by rw [show x.1 = y.1 from e]; exact hy)), map_nodup nd fun x hx y hy e => Prod.ext (i2 x.1 y.1 x.2 hx (by rw [show x.2 = y.2 from e]; exact hy)) e⟩
theorem perm (h : Lk a b l) (p : m.Perm l) : Lk a b m := ⟨fun q hq => h.lo q (p.mem_iff.mp hq), (p.map _).nodup_iff.mpr h.n1, (p.map _).nodup_iff.mpr h.n2⟩
theorem srt (h : Lk a b l) : Lk a b (srt l) := h.perm (srt_perm l)
theorem sub (h : Lk a b l) (s : m.Sublist l) : Lk a b m := ⟨fun q hq => h.lo q (s.mem hq), h.n1.sublist (s.map _), h.n2.sublist (s.map _)⟩
end Lk
/-- j's in [0, n), each once, are at most n -/
theorem pig : ∀ (n : Nat) (l : List Int), l.Nodup → (∀ x ∈ l, 0 ≤ x ∧ x < (n : Int)) → l.length ≤ n
  | 0, l, _, h => by
    cases l with
    | nil => exact Nat.le_refl _
    | cons x l => have := h x (.head _); omega
  | n + 1, l, nd, h => by
    have h1 := pig n (l.erase (n : Int)) (nd.erase _) fun x hx => by
      obtain ⟨hn, hm⟩ := (nd.mem_erase_iff).mp hx
      have := h x hm
      omega
    have h2 : l.length ≤ (l.erase (n : Int)).length + 1 := by
      rw [List.length_erase]
      split <;> omega
    omega
theorem pig_full {n : Nat} {l : List Int} (nd : l.Nodup) (h : ∀ x ∈ l, 0 ≤ x ∧ x < (n : Int)) (e : l.length = n) {x : Int} (h0 : 0 ≤ x) (h1 : x < n) : x ∈ l := by
  by_cases m : x ∈ l
  · exact m
  · have := pig n (x :: l) (List.nodup_cons.mpr ⟨m, nd⟩) fun y hy => by
      rcases List.mem_cons.mp hy with rfl | hy
      · exact ⟨h0, h1⟩
      · exact h y hy
    rw [List.length_cons] at this
    omega
theorem Lk.len1 {a b : Int} {l : List Pr} (h : Lk a b l) (a0 : 0 ≤ a) : (l.length : Int) ≤ a := by
  have := pig a.toNat (l.map (·.1)) h.n1 fun x hx => by
    obtain ⟨q, hq, rfl⟩ := List.mem_map.mp hx
    have := (h.lo q hq).1
    omega
  rw [List.length_map] at this
  omega
theorem Lk.len2 {a b : Int} {l : List Pr} (h : Lk a b l) (b0 : 0 ≤ b) : (l.length : Int) ≤ b := by
  have := pig b.toNat (l.map (·.2)) h.n2 fun x hx => by
    obtain ⟨q, hq, rfl⟩ := List.mem_map.mp hx
    have := (h.lo q hq).2
    omega
  rw [List.length_map] at this
  omega
theorem Lk.all1 {a b : Int} {l : List Pr} (h : Lk a b l) (e : (l.length : Int) = a) {i : Int} (h0 : 0 ≤ i) (h1 : i < a) : ∃ j, (i, j) ∈ l := by
  have := pig_full (n := a.toNat) h.n1 (fun x hx => by
    obtain ⟨q, hq, rfl⟩ := List.mem_map.mp hx
    have := (h.lo q hq).1
    omega) (by rw [List.length_map]; omega) h0 (by omega : i < (a.toNat : Int))
  obtain ⟨q, hq, rfl⟩ := List.mem_map.mp this
  exact ⟨q.2, hq⟩
theorem Lk.all2 {a b : Int} {l : List Pr} (h : Lk a b l) (e : (l.length : Int) = b) {j : Int} (h0 : 0 ≤ j) (h1 : j < b) : ∃ i, (i, j) ∈ l := by
  have := pig_full (n := b.toNat) h.n2 (fun x hx => by
    obtain ⟨q, hq, rfl⟩ := List.mem_map.mp hx
    have := (h.lo q hq).2
    omega) (by rw [List.length_map]; omega) h0 (by omega : j < (b.toNat : Int))
  obtain ⟨q, hq, rfl⟩ := List.mem_map.mp this
  exact ⟨q.1, hq⟩
/-- flipped -/
def flpL (l : List Pr) : List Pr := l.map fun q => (q.2, q.1)
theorem mem_flpL {l : List Pr} {q : Pr} : q ∈ flpL l ↔ (q.2, q.1) ∈ l := by
  unfold flpL
  rw [List.mem_map]
  constructor
  · rintro ⟨r, hr, rfl⟩
    exact hr
  · exact fun h => ⟨_, h, rfl⟩
theorem Lk.flpL {a b : Int} {l : List Pr} (h : Lk a b l) : Lk b a (flpL l) := by
  refine ⟨fun q hq => ⟨(h.lo _ (mem_flpL.mp hq)).2, (h.lo _ (mem_flpL.mp hq)).1⟩, ?_, ?_⟩
  · unfold Kx.flpL; rw [List.map_map]; exact h.n2
  · unfold Kx.flpL; rw [List.map_map]; exact h.n1
def flp (l : List Pr) : List Pr := srt (flpL l)
theorem mem_flp {l : List Pr} {q : Pr} : q ∈ flp l ↔ (q.2, q.1) ∈ l := srt_mem.trans mem_flpL
theorem Lk.flp {a b : Int} {l : List Pr} (h : Lk a b l) : Lk b a (flp l) := h.flpL.srt
/-- led on: as the program does it -/
def getP (l : List Pr) (j : Int) : Option Int := (l.find? fun r => decide (r.1 = j)).map (·.2)
theorem getP_mem {a b : Int} {l : List Pr} (h : Lk a b l) {j k : Int} : getP l j = some k ↔ (j, k) ∈ l := by
  unfold getP
  constructor
  · intro e
    obtain ⟨r, hr, er⟩ := Option.map_eq_some_iff.mp e
    have h1 := List.mem_of_find?_eq_some hr
    have h2 : r.1 = j := by simpa using List.find?_some hr
    rw [← h2, ← er]
    exact h1
  · intro m
    cases e : l.find? fun r => decide (r.1 = j) with
    | none => exact absurd (by simp) (List.find?_eq_none.mp e _ m)
    | some r =>
      have h1 := List.mem_of_find?_eq_some e
      have h2 : r.1 = j := by simpa using List.find?_some e
      have : (j, r.2) ∈ l := by rw [← h2]; exact h1
      exact congrArg some (h.i1 this m)
def thenL (l m : List Pr) : List Pr := l.filterMap fun q => (getP m q.2).map fun k => (q.1, k)
theorem mem_thenL {b c : Int} {l m : List Pr} (h : Lk b c m) {q : Pr} : q ∈ thenL l m ↔ ∃ j, (q.1, j) ∈ l ∧ (j, q.2) ∈ m := by
  unfold thenL
  rw [List.mem_filterMap]
  constructor
  · rintro ⟨r, hr, e⟩
    obtain ⟨k, hk, e⟩ := Option.map_eq_some_iff.mp e
    rw [← e]
    exact ⟨r.2, hr, (getP_mem h).mp hk⟩
  · rintro ⟨j, h1, h2⟩
    exact ⟨(q.1, j), h1, by rw [(getP_mem h).mpr h2]; rfl⟩
theorem thenL_sub {l m : List Pr} : ((thenL l m).map (·.1)).Sublist (l.map (·.1)) := by
  induction l with
  | nil => exact .slnil
  | cons q l ih =>
    unfold thenL at ih ⊢
    cases e : getP m q.2 with
    | none => rw [List.filterMap_cons_none (by rw [e]; rfl)]; exact ih.cons _
    | some k => rw [List.filterMap_cons_some (b := (q.1, k)) (by rw [e]; rfl)]; exact ih.cons_cons _
theorem Lk.thenL {a b c : Int} {l m : List Pr} (h : Lk a b l) (h' : Lk b c m) : Lk a c (thenL l m) := by
  have nd : (Kx.thenL l m).Nodup := nodup_of_map (f := (·.1)) (h.n1.sublist thenL_sub)
  refine Lk.mk' nd (fun q hq => ?_) (fun i k k' h1 h2 => ?_) (fun i i' k h1 h2 => ?_)
  · obtain ⟨j, h1, h2⟩ := (mem_thenL h').mp hq
    exact ⟨(h.lo _ h1).1, (h'.lo _ h2).2⟩
  · obtain ⟨j, q1, q2⟩ := (mem_thenL h').mp h1
    obtain ⟨j', r1, r2⟩ := (mem_thenL h').mp h2
    have := h.i1 q1 r1
    subst this
    exact h'.i1 q2 r2
  · obtain ⟨j, q1, q2⟩ := (mem_thenL h').mp h1
    obtain ⟨j', r1, r2⟩ := (mem_thenL h').mp h2
    have := h'.i2 q2 r2
    subst this
    exact h.i2 q1 r1
def cmp (l m : List Pr) : List Pr := srt (thenL l m)
theorem mem_cmp {b c : Int} {l m : List Pr} (h : Lk b c m) {q : Pr} : q ∈ cmp l m ↔ ∃ j, (q.1, j) ∈ l ∧ (j, q.2) ∈ m := srt_mem.trans (mem_thenL h)
theorem Lk.cmp {a b c : Int} {l m : List Pr} (h : Lk a b l) (h' : Lk b c m) : Lk a c (cmp l m) := (h.thenL h').srt
/-- led on: as the law does it -/
def chL (l m : List Pr) : List Pr := l.flatMap fun q => (m.filter fun r => decide (r.1 = q.2)).map fun r => (q.1, r.2)
theorem mem_chL {l m : List Pr} {q : Pr} : q ∈ chL l m ↔ ∃ j, (q.1, j) ∈ l ∧ (j, q.2) ∈ m := by
  unfold chL
  rw [List.mem_flatMap]
  constructor
  · rintro ⟨r, hr, e⟩
    obtain ⟨t, ht, e⟩ := List.mem_map.mp e
    obtain ⟨h1, h2⟩ := List.mem_filter.mp ht
    have h2 : t.1 = r.2 := of_decide_eq_true h2
    rw [← e]
    refine ⟨r.2, hr, ?_⟩
    rw [← h2]
    exact h1
  · rintro ⟨j, h1, h2⟩
    exact ⟨(q.1, j), h1, List.mem_map.mpr ⟨(j, q.2), List.mem_filter.mpr ⟨h2, decide_eq_true rfl⟩, rfl⟩⟩
theorem one_of {b c : Int} {m : List Pr} (h : Lk b c m) (j i : Int) : (m.filter fun r => decide (r.1 = j)).map (fun r => (i, r.2)) = ((getP m j).map fun k => (i, k)).toList := by
  have n1 := h.n1
  clear h
  induction m with
  | nil => rfl
  | cons r m ih =>
    rw [List.map_cons, List.nodup_cons] at n1
    have ih := ih n1.2
    unfold getP at ih ⊢
    by_cases e : r.1 = j
    · have no : m.filter (fun r => decide (r.1 = j)) = [] := by
        rw [List.filter_eq_nil_iff]
        intro t ht z
        exact n1.1 (List.mem_map.mpr ⟨t, ht, (of_decide_eq_true z).trans e.symm⟩)
      rw [List.filter_cons_of_pos (by simpa using e), List.find?_cons_of_pos (by simpa using e), no]
      rfl
    · rw [List.filter_cons_of_neg (by simpa using e), List.find?_cons_of_neg (by simpa using e)]
      exact ih
theorem chL_eq {b c : Int} {m : List Pr} (h : Lk b c m) (l : List Pr) : chL l m = thenL l m := by
  unfold chL thenL
  induction l with
  | nil => rfl
  | cons q l ih =>
    rw [List.flatMap_cons, ih, one_of h]
    cases e : getP m q.2 with
    | none => rw [List.filterMap_cons_none (by rw [e]; rfl)]; rfl
    | some k => rw [List.filterMap_cons_some (b := (q.1, k)) (by rw [e]; rfl)]; rfl
/-- what both say of the same links in any order -/
theorem cmp_srt {a b c : Int} {l m : List Pr} (h : Lk a b l) (h' : Lk b c m) : cmp (srt l) (srt m) = cmp l m :=
  srt_ext (h.srt.thenL h'.srt).nd (h.thenL h').nd fun q => by
    rw [mem_thenL h'.srt, mem_thenL h']
    simp only [srt_mem]
theorem cmp_assoc {a b c d : Int} {l m n : List Pr} (h : Lk a b l) (h' : Lk b c m) (h'' : Lk c d n) : cmp (cmp l m) n = cmp l (cmp m n) :=
  srt_ext ((h.cmp h').thenL h'').nd (h.thenL (h'.cmp h'')).nd fun q => by
    rw [mem_thenL h'', mem_thenL (h'.cmp h'')]
    constructor
    · rintro ⟨k, h1, h2⟩
      obtain ⟨j, h3, h4⟩ := (mem_cmp h').mp h1
      exact ⟨j, h3, (mem_cmp h'').mpr ⟨k, h4, h2⟩⟩
    · rintro ⟨j, h1, h2⟩
      obtain ⟨k, h3, h4⟩ := (mem_cmp h'').mp h2
      exact ⟨k, (mem_cmp h').mpr ⟨j, h1, h3⟩, h4⟩
theorem flp_cmp {a b c : Int} {l m : List Pr} (h : Lk a b l) (h' : Lk b c m) : flp (cmp l m) = cmp (flp m) (flp l) :=
  srt_ext (h.cmp h').flpL.nd (h'.flp.thenL h.flp).nd fun q => by
    rw [mem_flpL, mem_cmp h', mem_thenL h.flp]
    constructor
    · rintro ⟨j, h1, h2⟩
      exact ⟨j, mem_flp.mpr h2, mem_flp.mpr h1⟩
    · rintro ⟨j, h1, h2⟩
      exact ⟨j, mem_flp.mp h2, mem_flp.mp h1⟩
theorem flp_flp {a b : Int} {l : List Pr} (h : Lk a b l) : flp (flp l) = srt l :=
  srt_ext h.flp.flpL.nd h.nd fun q => by rw [mem_flpL, mem_flp]
/-- each with itself -/
def idL (n : Nat) : List Pr := (List.range n).map fun (k : Nat) => ((k : Int), (k : Int))
theorem mem_idL {n : Nat} {q : Pr} : q ∈ idL n ↔ (0 ≤ q.1 ∧ q.1 < n) ∧ q.2 = q.1 := by
  unfold idL
  rw [List.mem_map]
  constructor
  · rintro ⟨k, hk, rfl⟩
    have := List.mem_range.mp hk
    exact ⟨⟨by show (0 : Int) ≤ k; omega, by show (k : Int) < n; omega⟩, rfl⟩
  · rintro ⟨⟨h0, h1⟩, e⟩
    exact ⟨q.1.toNat, List.mem_range.mpr (by omega), Prod.ext (by show ((q.1.toNat : Nat) : Int) = q.1; omega) (by show ((q.1.toNat : Nat) : Int) = q.2; omega)⟩
theorem idL_len (n : Nat) : (idL n).length = n := by unfold idL; rw [List.length_map, List.length_range]
theorem idL_lk (n : Nat) : Lk n n (idL n) := by
  have nd : (idL n).Nodup := map_nodup List.nodup_range fun x _ y _ e => by
    have := congrArg Prod.fst e
    have : (x : Int) = y := this
    omega
  refine Lk.mk' nd (fun q hq => ?_) (fun i j j' h1 h2 => ?_) (fun i i' j h1 h2 => ?_)
  · obtain ⟨h, e⟩ := mem_idL.mp hq
    exact ⟨h, by rw [e]; exact h⟩
  · exact (mem_idL.mp h1).2.trans (mem_idL.mp h2).2.symm
  · exact (mem_idL.mp h1).2.symm.trans (mem_idL.mp h2).2
theorem id_cmp {n : Nat} {b : Int} {l : List Pr} (h : Lk n b l) : cmp (srt (idL n)) l = srt l :=
  srt_ext ((idL_lk n).srt.thenL h).nd h.nd fun q => by
    rw [mem_thenL h]
    constructor
    · rintro ⟨j, h1, h2⟩
      have := (mem_idL.mp (srt_mem.mp h1)).2
      rw [show j = q.1 from this] at h2
      exact h2
    · intro hq
      exact ⟨q.1, srt_mem.mpr (mem_idL.mpr ⟨(h.lo q hq).1, rfl⟩), hq⟩
theorem cmp_id {n : Nat} {a : Int} {l : List Pr} (h : Lk a n l) : cmp l (srt (idL n)) = srt l :=
  srt_ext (h.thenL (idL_lk n).srt).nd h.nd fun q => by
    rw [mem_thenL (idL_lk n).srt]
    constructor
    · rintro ⟨j, h1, h2⟩
      have : q.2 = j := (mem_idL.mp (srt_mem.mp h2)).2
      rw [← this] at h1
      exact h1
    · intro hq
      exact ⟨q.2, hq, srt_mem.mpr (mem_idL.mpr ⟨(h.lo q hq).2, rfl⟩)⟩
/-- there and back -/
def selfL (l : List Pr) : List Pr := l.map fun q => (q.1, q.1)
theorem mem_selfL {l : List Pr} {q : Pr} : q ∈ selfL l ↔ (∃ j, (q.1, j) ∈ l) ∧ q.2 = q.1 := by
  unfold selfL
  rw [List.mem_map]
  constructor
  · rintro ⟨r, hr, rfl⟩
    exact ⟨⟨r.2, hr⟩, rfl⟩
  · rintro ⟨⟨j, hj⟩, e⟩
    exact ⟨(q.1, j), hj, Prod.ext rfl e.symm⟩
theorem selfL_nd {a b : Int} {l : List Pr} (h : Lk a b l) : (selfL l).Nodup := nodup_of_map (f := (·.1)) (by unfold selfL; rw [List.map_map]; exact h.n1)
theorem cmp_back {a b : Int} {l : List Pr} (h : Lk a b l) : cmp l (flp l) = srt (selfL l) :=
  srt_ext (h.thenL h.flp).nd (selfL_nd h) fun q => by
    rw [mem_thenL h.flp, mem_selfL]
    constructor
    · rintro ⟨j, h1, h2⟩
      exact ⟨⟨j, h1⟩, h.i2 ((mem_flp (q := (j, q.2))).mp h2) h1⟩
    · rintro ⟨⟨j, hj⟩, e⟩
      exact ⟨j, hj, mem_flp.mpr (by rw [show q.2 = q.1 from e]; exact hj)⟩
theorem back_id {n : Nat} {b : Int} {l : List Pr} (h : Lk n b l) : srt (selfL l) = srt (idL n) ↔ l.length = n := by
  constructor
  · intro e
    have := congrArg List.length e
    rw [srt_len, srt_len, idL_len] at this
    rw [← this]
    unfold selfL
    rw [List.length_map]
  · intro e
    refine srt_ext (selfL_nd h) (idL_lk n).nd fun q => ?_
    rw [mem_selfL, mem_idL]
    constructor
    · rintro ⟨⟨j, hj⟩, e2⟩
      exact ⟨(h.lo _ hj).1, e2⟩
    · rintro ⟨⟨h0, h1⟩, e2⟩
      exact ⟨h.all1 (by omega) h0 h1, e2⟩
/-- full ones -/
theorem full_back {n : Nat} {l : List Pr} (h : Lk n n l) (e : l.length = n) : cmp l (flp l) = srt (idL n) := by rw [cmp_back h, (back_id h).mpr e]
theorem full_flp {n : Nat} {l : List Pr} (h : Lk n n l) (e : l.length = n) : cmp (flp l) l = srt (idL n) := by
  have h2 := full_back h.flp (by unfold flp; rw [srt_len]; unfold flpL; rw [List.length_map]; exact e)
  rw [flp_flp h] at h2
  rw [← h2]
  exact srt_ext (h.flp.thenL h).nd (h.flp.thenL h.srt).nd fun q => by rw [mem_thenL h, mem_thenL h.srt]; simp only [srt_mem]
theorem cmp_len {n : Nat} {a : Int} {l m : List Pr} (h : Lk a n l) (h' : Lk n n m) (e : m.length = n) : (cmp l m).length = l.length := by
  unfold cmp
  rw [srt_len]
  have : ∀ l' : List Pr, (∀ q ∈ l', 0 ≤ q.2 ∧ q.2 < (n : Int)) → (thenL l' m).length = l'.length := by
    intro l' hl
    induction l' with
    | nil => rfl
    | cons q l' ih =>
      have h0 := hl q (.head _)
      obtain ⟨k, hk⟩ := h'.all1 (i := q.2) (by omega) h0.1 h0.2
      have ih := ih fun r hr => hl r (.tail _ hr)
      unfold thenL at ih ⊢
      rw [List.filterMap_cons_some (b := (q.1, k)) (by rw [(getP_mem h').mpr hk]; rfl), List.length_cons, List.length_cons, ih]
  exact this l fun q hq => (h.lo q hq).2
theorem cmp_len_le {l m : List Pr} : (cmp l m).length ≤ l.length := by
  unfold cmp
  rw [srt_len]
  unfold thenL
  exact List.length_filterMap_le _ _
theorem cmp_len_le2 {a b c : Int} {l m : List Pr} (h : Lk a b l) (h' : Lk b c m) : (cmp l m).length ≤ m.length := by
  have e : (flp (cmp l m)).length = (cmp l m).length := by unfold flp; rw [srt_len]; unfold flpL; rw [List.length_map]
  rw [← e, flp_cmp h h']
  refine Nat.le_trans cmp_len_le ?_
  unfold flp
  rw [srt_len]
  unfold flpL
  rw [List.length_map]
  exact Nat.le_refl _
end Kx

set_option maxHeartbeats 4000000
/-! pairs in the heap -/
namespace Kx
open PySem L2
inductive PL (H : Hp) : List V → List Pr → Prop where
  | nil : PL H [] []
  | cons {t : Addr} {q : Pr} {xs : List V} {ls : List Pr} (h : H t = some (.tup [.int q.1, .int q.2])) (r : PL H xs ls) : PL H (.ref t :: xs) (q :: ls)
namespace PL
variable {H H' : Hp} {xs ys : List V} {ls ms : List Pr}
theorem keep (h : PL H xs ls) (s : Same H H') : PL H' xs ls := by
  induction h with
  | nil => exact .nil
  | cons h _ ih => exact .cons (s _ _ h) ih
theorem len (h : PL H xs ls) : xs.length = ls.length := by
  induction h with
  | nil => rfl
  | cons _ _ ih => simp [ih]
theorem app (h : PL H xs ls) (h' : PL H ys ms) : PL H (xs ++ ys) (ls ++ ms) := by
  induction h with
  | nil => exact h'
  | cons h _ ih => exact .cons h ih
theorem one {t : Addr} {q : Pr} (h : H t = some (.tup [.int q.1, .int q.2])) : PL H [.ref t] [q] := .cons h .nil
theorem at_ (h : PL H xs ls) {i : Nat} {x : V} (e : xs[i]? = some x) : ∃ t q, x = .ref t ∧ ls[i]? = some q ∧ H t = some (.tup [.int q.1, .int q.2]) := by
  induction h generalizing i with
  | nil => cases e
  | @cons t q _ _ h _ ih =>
    cases i with
    | zero => cases e; exact ⟨t, q, rfl, rfl, h⟩
    | succ i => exact ih e
theorem tail {x : V} {q : Pr} (h : PL H (x :: xs) (q :: ls)) : PL H xs ls := by
  cases h with
  | cons _ r => exact r
theorem drop1 (h : PL H xs ls) : PL H (xs.drop 1) (ls.drop 1) := by
  cases h with
  | nil => exact .nil
  | cons _ r => exact r
def kOf (H : Hp) (x : V) : Pr := match x with
  | .ref t => match H t with
    | some (.tup [.int i, .int j]) => (i, j)
    | _ => (0, 0)
  | _ => (0, 0)
theorem kOf_ref {t : Addr} {q : Pr} (h : H t = some (.tup [.int q.1, .int q.2])) : kOf H (.ref t) = q := by
  show (match H t with | some (.tup [.int i, .int j]) => (i, j) | _ => (0, 0)) = q
  rw [h]
theorem all (h : PL H xs ls) : ∀ x ∈ xs, ∃ t, x = V.ref t ∧ H t = some (.tup [.int (kOf H x).1, .int (kOf H x).2]) := by
  intro x hx
  obtain ⟨i, hi⟩ := List.mem_iff_getElem?.mp hx
  obtain ⟨t, q, rfl, _, ht⟩ := h.at_ hi
  exact ⟨t, rfl, by rw [kOf_ref ht]; exact ht⟩
theorem map_k (h : PL H xs ls) : xs.map (kOf H) = ls := by
  induction h with
  | nil => rfl
  | cons h _ ih => rw [List.map_cons, ih, kOf_ref h]
theorem of_all (h : ∀ x ∈ xs, ∃ t, x = V.ref t ∧ H t = some (.tup [.int (kOf H x).1, .int (kOf H x).2])) : PL H xs (xs.map (kOf H)) := by
  induction xs with
  | nil => exact .nil
  | cons x xs ih =>
    obtain ⟨t, rfl, ht⟩ := h x (.head _)
    exact .cons ht (ih fun y hy => h y (.tail _ hy))
/-- what sorted gives -/
theorem sorted (h : PL H xs ls) (h1 : SrtO.Srtd (ltP (kOf H)) ys) (h2 : SrtO.Stb (ltP (kOf H)) ys xs) : PL H ys (srt ls) := by
  have p := h2.perm
  have r := of_all (xs := ys) fun x hx => h.all x (p.mem_iff.mp hx)
  have e : ys.map (kOf H) = srt ls := by
    refine srt_eq ?_ ?_
    · rw [← h.map_k]
      exact p.map _
    · refine List.pairwise_map.mpr (h1.imp fun {x y} hxy => ?_)
      show (!SrtO.lexB (kOf H y) (kOf H x)) = true
      rw [show SrtO.lexB (kOf H y) (kOf H x) = false from hxy]
      rfl
  rw [e] at r
  exact r
end PL
def pdI (q : Pr) : PyData := .tuple [.int q.1, .int q.2]
theorem PL.dp {K : PySem.W.Frag} {H : Hp} {xs : List V} {ls : List Pr} (h : PL H xs ls) : DpAll K H xs (ls.map pdI) := by
  induction h with
  | nil => exact .nil
  | cons h _ ih => exact .cons (.tup (SqT.of h) (.cons (.int _) (.cons (.int _) .nil))) ih
theorem eqv_pdI : ∀ ks ls : List Pr, PyData.eqvAll (ks.map pdI) (ls.map pdI) = decide (ks = ls)
  | [], [] => rfl
  | [], _ :: _ => rfl
  | _ :: _, [] => rfl
  | (a, i) :: ks, (b, j) :: ls => by
    have e : PyData.eqv (pdI (a, i)) (pdI (b, j)) = ((a == b) && ((i == j) && true)) := by
      simp [pdI, PyData.eqv, PyData.eqvAll]
    show (PyData.eqv (pdI (a, i)) (pdI (b, j)) && PyData.eqvAll (ks.map pdI) (ls.map pdI)) = _
    rw [e, eqv_pdI ks ls]
    by_cases h1 : a = b
    · by_cases h2 : i = j
      · simp [h1, h2]
      · simp [h1, h2]
    · simp [h1]
theorem small_pdI : ∀ ks : List Pr, PyData.canLayAll0 (ks.map pdI) = true ∧ PyData.depthAll (ks.map pdI) ≤ 1
  | [] => ⟨rfl, Nat.zero_le _⟩
  | q :: ks => by
    obtain ⟨h1, h2⟩ := small_pdI ks
    refine ⟨?_, ?_⟩
    · show (PyData.canLay0 (pdI q) && _) = true
      rw [h1]
      simp [pdI, PyData.canLay0, PyData.canLayAll0]
    · show max (PyData.depth (pdI q)) (PyData.depthAll (ks.map pdI)) ≤ 1
      have : PyData.depth (pdI q) = 1 := by simp [pdI, PyData.depth, PyData.depthAll]
      omega
theorem shaped_pdT (ks : List Pr) : SeqAt.shaped (.tuple (ks.map pdI)) = true := by
  obtain ⟨h1, h2⟩ := small_pdI ks
  unfold SeqAt.shaped
  rw [Bool.and_eq_true]
  refine ⟨h1, decide_eq_true ?_⟩
  show PyData.depthAll (ks.map pdI) + 1 ≤ 64
  omega
theorem shaped_pdL (ks : List Pr) : SeqAt.shaped (.list (ks.map pdI)) = true := by
  obtain ⟨h1, h2⟩ := small_pdI ks
  unfold SeqAt.shaped
  rw [Bool.and_eq_true]
  refine ⟨h1, decide_eq_true ?_⟩
  show PyData.depthAll (ks.map pdI) + 1 ≤ 64
  omega
end Kx

set_option maxHeartbeats 4000000
namespace Kx
open PySem PySem.Spec PyProof.Rows L2
section
variable {X : Cx}
/-- for x in a list or a tuple -/
def iSeq (K : PySem.W.Frag) (tl : TE) : TI := fun σ H R => tl σ H fun x H1 => ∃ a, x = .ref a ∧ (((∃ xs, SqL K H1 a xs) ∧ R (Itl K a) H1) ∨ ((∃ xs, SqT K H1 a xs) ∧ R (Itt K a) H1))
theorem pi_seq {tg l : Expr} {tl : TE} (hl : PE X l tl) : PI X tg l (iSeq X.K tl) := by
  refine ⟨fun pins s σ H R I h => ?_⟩
  refine thn (hl.run pins s σ H _ I h) fun v s1 ⟨x, H1, I1, r1, q1⟩ => ?_
  obtain ⟨a, e, q⟩ := q1
  subst e
  cases r1
  rcases q with ⟨⟨xs, hq⟩, q⟩ | ⟨⟨xs, hq⟩, q⟩
  · obtain ⟨its, rv, p, hz⟩ := I1.list hq
    refine wpAny_pyIter_list p.isList ?_
    refine ⟨s1.heap.objs.size, [s1.heap.objs.size], _, _, H1, rfl, I1.kept (t' := s1.toks) fun b o e => Heap.get?_push_of_some _ e, turn_list a _, ⟨_, Heap.get?_push_size _ rfl, rfl, rfl⟩, fun b hb => ?_, q⟩
    have e : b = s1.heap.objs.size := by simpa using hb
    subst e
    exact I1.fpOk (Nat.le_refl _) (I1.hok.fresh (Nat.le_refl _))
  · obtain ⟨its, rv, p, hz⟩ := I1.tuple hq
    refine wpAny_pyIter_tuple (show s1.heap.IsTuple a its.toArray from p) ?_
    refine ⟨s1.heap.objs.size, [s1.heap.objs.size], _, _, H1, rfl, I1.kept (t' := s1.toks) fun b o e => Heap.get?_push_of_some _ e, turn_tuple a _, ⟨_, Heap.get?_push_size _ rfl, rfl, rfl⟩, fun b hb => ?_, q⟩
    have e : b = s1.heap.objs.size := by simpa using hb
    subst e
    exact I1.fpOk (Nat.le_refl _) (I1.hok.fresh (Nat.le_refl _))
/-- repr of lists and tuples of plain things -/
def rRepr (K : PySem.W.Frag) : List V → Hp → VK → Prop := fun xs H Q => ∃ (a : Addr) (d : PyData), xs = [.ref a] ∧ Dp K H (.ref a) d ∧ d.showable = true ∧ d.hasDict = false ∧ d.depth ≤ 20 ∧ d.shown.length ≤ sizeLine ∧ Q (.str d.shown) H
theorem call_repr (hg : X.A.guards = some []) (hu : X.A.units + 64 < cLine) : CallR X (.builtin "repr") (rRepr X.K) := by
  intro pins s σ H xs us Q I r h
  obtain ⟨a, d, rfl, hd, h1, h2, h3, h4, q⟩ := h
  rw [Vals.ref1 r]
  obtain ⟨as, rd⟩ := Dp.reads I d (.ref a) (.ref a) hd rfl
  exact repr_of_reads' rd h1 (PyData.noDict_hsm h2) hg (by omega) (fun _ _ e => e) (fun h' u tk kp => ⟨.str d.shown, H, I.kept kp, ⟨u, rfl⟩, q⟩) h4
end
theorem int_short {i : Int} (h : i.natAbs < 10 ^ 25) : decide (i.natAbs.log2 < 1920) = true ∧ (PyData.shown (.int i)).length ≤ 30 := by
  refine ⟨decide_eq_true ?_, ?_⟩
  · by_cases e : i.natAbs = 0
    · rw [e]; decide
    · have : i.natAbs < 2 ^ 84 := by omega
      have := (Nat.log2_lt e).mpr this
      omega
  · have e := int_text_length_le10 (k := 25) (by decide) h
    show (Str.ofString (toString i)).length ≤ 30
    rw [PySem.ofString_length]
    omega
theorem show_pdI : ∀ {ls : List Pr}, (∀ q ∈ ls, q.1.natAbs ≤ 40 ∧ q.2.natAbs ≤ 40) → PyData.showableAll (ls.map pdI) = true ∧ PyData.hasDictAll (ls.map pdI) = false ∧ PyData.leavesShortAll 30 (ls.map pdI) = true ∧ PyData.bulkAll (ls.map pdI) = ls.length * 3
  | [], _ => ⟨rfl, rfl, rfl, rfl⟩
  | q :: ls, h => by
    obtain ⟨h1, h2, h3, h4⟩ := show_pdI fun r m => h r (.tail _ m)
    obtain ⟨g1, g2⟩ := h q (.head _)
    have a1 := int_short (i := q.1) (by omega)
    have a2 := int_short (i := q.2) (by omega)
    refine ⟨?_, ?_, ?_, ?_⟩
    · show (PyData.showable (pdI q) && _) = true
      rw [h1]
      show ((PyData.showable (.int q.1) && (PyData.showable (.int q.2) && true)) && true) = true
      rw [show PyData.showable (.int q.1) = true from a1.1, show PyData.showable (.int q.2) = true from a2.1]
      rfl
    · show (PyData.hasDict (pdI q) || _) = false
      rw [h2]
      rfl
    · show (PyData.leavesShort 30 (pdI q) && _) = true
      rw [h3]
      show ((PyData.leavesShort 30 (.int q.1) && (PyData.leavesShort 30 (.int q.2) && true)) && true) = true
      rw [show PyData.leavesShort 30 (.int q.1) = true from decide_eq_true a1.2, show PyData.leavesShort 30 (.int q.2) = true from decide_eq_true a2.2]
      rfl
    · show PyData.bulk (pdI q) + 1 + PyData.bulkAll (ls.map pdI) = _
      rw [h4]
      show 2 + 1 + _ = _
      rw [List.length_cons]
      omega
/-- the text of links -/
def lkText (ls : List Pr) : Str := (PyData.tuple (ls.map pdI)).shown
theorem lk_showT {ls : List Pr} (h : ∀ q ∈ ls, q.1.natAbs ≤ 40 ∧ q.2.natAbs ≤ 40) (l : ls.length ≤ 40) : (PyData.tuple (ls.map pdI)).showable = true ∧ (PyData.tuple (ls.map pdI)).hasDict = false ∧ (PyData.tuple (ls.map pdI)).depth ≤ 20 ∧ (lkText ls).length ≤ 100000 := by
  obtain ⟨h1, h2, h3, h4⟩ := show_pdI h
  refine ⟨h1, h2, ?_, ?_⟩
  · have := (small_pdI ls).2
    show PyData.depthAll (ls.map pdI) + 1 ≤ 20
    omega
  · have q := PyData.shown_le_bulk 30 (by decide) (.tuple (ls.map pdI)) h3
    have b : (PyData.tuple (ls.map pdI)).bulk = ls.length * 3 := h4
    unfold lkText
    omega
/-! the class -/
structure LC (K : PySem.W.Frag) (C : Addr) : Prop where
  cl : Cls K C
  nF : NoAttr K C "first"
  nS : NoAttr K C "second"
  nL : NoAttr K C "links"
  ca : PySem.W.findIn K (.ref C) "__class__" = some (some (.builtin "object.__class__"))
  cg : PySem.W.specialIn K (.builtin "object.__class__") "__get__" = some (some (.builtin "getset_descriptor.__get__"))
  ct : PySem.W.takesIn K (.builtin "object.__class__") = some true
  cm : PySem.W.mroIn K C (.type "object") = some true
theorem s_fs : ¬ (Str.ofString "first") = Str.ofString "second" := by decide +kernel
theorem s_fl : ¬ (Str.ofString "first") = Str.ofString "links" := by decide +kernel
theorem s_sl : ¬ (Str.ofString "second") = Str.ofString "links" := by decide +kernel
def lFs (a b : Int) (L : Addr) : List (Str × V) := putF "links" (.ref L) (putF "second" (.int b) (putF "first" (.int a) []))
theorem lFs_first (a b : Int) (L : Addr) : (lFs a b L).lookup ("first" : Str) = some (.int a) := by
  unfold lFs
  rw [lookup_putF, if_neg s_fl, lookup_putF, if_neg s_fs, lookup_putF, if_pos rfl]
theorem lFs_second (a b : Int) (L : Addr) : (lFs a b L).lookup ("second" : Str) = some (.int b) := by
  unfold lFs
  rw [lookup_putF, if_neg s_sl, lookup_putF, if_pos rfl]
theorem lFs_links (a b : Int) (L : Addr) : (lFs a b L).lookup ("links" : Str) = some (.ref L) := by
  unfold lFs
  rw [lookup_putF, if_pos rfl]
theorem lFs_no (a b : Int) (L : Addr) {m : Str} (h1 : ¬ m = Str.ofString "first") (h2 : ¬ m = Str.ofString "second") (h3 : ¬ m = Str.ofString "links") : (lFs a b L).lookup m = none := by
  unfold lFs
  rw [lookup_putF, if_neg h3, lookup_putF, if_neg h2, lookup_putF, if_neg h1]
  rfl
structure Sz (a b : Int) : Prop where
  a0 : 0 ≤ a
  a4 : a ≤ 40
  b0 : 0 ≤ b
  b4 : b ≤ 40
structure LkAt (C : Addr) (H : Hp) (x : Addr) (a b : Int) (ls : List Pr) : Prop where
  ob : ∃ (dx L : Addr) (ys : List V), H x = some (.ins C dx (lFs a b L)) ∧ H L = some (.tup ys) ∧ PL H ys ls
  lk : Lk a b ls
  sz : Sz a b
theorem LkAt.keep {C : Addr} {H H' : Hp} {x : Addr} {a b : Int} {ls : List Pr} (k : LkAt C H x a b ls) (s : Same H H') : LkAt C H' x a b ls := by
  obtain ⟨dx, L, ys, h1, h2, h3⟩ := k.ob
  exact ⟨⟨dx, L, ys, s _ _ h1, s _ _ h2, h3.keep s⟩, k.lk, k.sz⟩
theorem Lk.few {a b : Int} {ls : List Pr} (h : Lk a b ls) (z : Sz a b) : ls.length ≤ 40 := by
  have := h.len1 z.a0
  have := z.a4
  omega
theorem Lk.small {a b : Int} {ls : List Pr} (h : Lk a b ls) (z : Sz a b) : ∀ q ∈ ls, q.1.natAbs ≤ 40 ∧ q.2.natAbs ≤ 40 := fun q hq => by
  have := h.lo q hq
  have := z.a4
  have := z.b4
  omega
def spSizes : Sp := fun vs H Q _ => ∃ a b : Int, vs = [.int a, .int b] ∧ Sz a b ∧ Q .non H
def spIsLink : Sp := fun vs H Q _ => ∃ (t : Addr) (q : Pr) (a b : Int), vs = [.ref t, .int a, .int b] ∧ H t = some (.tup [.int q.1, .int q.2]) ∧ ((0 ≤ q.1 ∧ q.1 < a) ∧ 0 ≤ q.2 ∧ q.2 < b) ∧ ∀ H', Same H H' → Q (.bl true) H'
def spLk (C : Addr) : Sp := fun vs H Q _ => ∃ (x dx l : Addr) (a b : Int) (xs : List V) (ls : List Pr), vs = [.ref x, .int a, .int b, .ref l] ∧ H x = some (.ins C dx []) ∧ (H l = some (.lst xs) ∨ H l = some (.tup xs)) ∧ PL H xs ls ∧ Lk a b ls ∧ Sz a b ∧
  ∀ H', (∀ c o, H c = some o → c ≠ x → H' c = some o) → LkAt C H' x a b (srt ls) → Q .non H'
structure Ml (mg : Str → Option Value) : Prop where
  most : ∃ t, mg "MOST_PERSONS" = some (.int 40 t)
  sorted : mg "sorted" = none
def kvI (ls : List Pr) : List (Key × V) := ls.map fun q => (Sum.inl q.1, .int q.2)
theorem kvI_get (i : Int) : ∀ ls : List Pr, valV (kvI ls) (Sum.inl i : Key) = (getP ls i).map V.int
  | [] => rfl
  | q :: ls => by
    have ih := kvI_get i ls
    unfold getP at ih ⊢
    by_cases e : q.1 = i
    · have e1 : valV (kvI (q :: ls)) (Sum.inl i : Key) = some (.int q.2) := valV_pos (congrArg Sum.inl e)
      rw [e1, List.find?_cons_of_pos (by simpa using e)]
      rfl
    · have e1 : valV (kvI (q :: ls)) (Sum.inl i : Key) = valV (kvI ls) (Sum.inl i : Key) := valV_neg fun z => e (Sum.inl.inj z)
      rw [e1, ih, List.find?_cons_of_neg (by simpa using e)]
theorem getP_no {ls : List Pr} {i : Int} (h : ¬ i ∈ ls.map (·.1)) : getP ls i = none := by
  unfold getP
  rw [Option.map_eq_none_iff, List.find?_eq_none]
  intro r hr z
  exact h (List.mem_map.mpr ⟨r, hr, by simpa using z⟩)
theorem kvI_put {ls : List Pr} {q : Pr} (h : ¬ q.1 ∈ ls.map (·.1)) : putK (kvI ls) (Sum.inl q.1 : Key) (.int q.2) = kvI (ls ++ [q]) := by
  have e : valV (kvI ls) (Sum.inl q.1 : Key) = none := by rw [kvI_get, getP_no h]; rfl
  rw [putK_new _ e]
  simp [kvI]
theorem inV_ints (z : Int) : ∀ ys : List Int, inV (.int z) (ys.map V.int) = decide (z ∈ ys)
  | [] => rfl
  | y :: ys => by
    have ih := inV_ints z ys
    show (eqV (.int y) (.int z) || inV (.int z) (ys.map V.int)) = _
    rw [ih]
    by_cases e : z = y
    · subst e
      simp [eqV]
    · have e' : ¬ y = z := fun q => e q.symm
      simp [eqV, e, e']
theorem kvI_vals (ls : List Pr) : (kvI ls).map (·.2) = (ls.map (·.2)).map V.int := by simp [kvI]
theorem items_pl {H : Hp} : ∀ {ts : List Addr} {ls : List Pr}, Paired (fun (t : Addr) (q : Key × V) => H t = some (.tup [kV q.1, q.2])) ts (kvI ls) → PL H (ts.map V.ref) ls
  | [], [], _ => .nil
  | [], _ :: _, h => by cases h
  | _ :: _, [], h => by cases h
  | t :: ts, q :: ls, h => by
    cases h with
    | cons h r => exact .cons h (items_pl r)
theorem nodup_take {α : Type} {l : List α} (h : l.Nodup) {i : Nat} {x : α} (e : l[i]? = some x) : ¬ x ∈ l.take i := by
  intro m
  obtain ⟨j, hj⟩ := List.mem_iff_getElem?.mp m
  rw [List.getElem?_take] at hj
  split at hj
  · rename_i lt
    have li : i < l.length := (List.getElem?_eq_some_iff.mp e).1
    have lj : j < l.length := by omega
    have h1 := (List.getElem?_eq_some_iff.mp e).2
    have h2 := (List.getElem?_eq_some_iff.mp hj).2
    have := (List.pairwise_iff_getElem.mp h) j i lj li lt
    exact this (by rw [h1, h2])
  · cases hj
end Kx

set_option maxHeartbeats 4000000
namespace Kx
open PySem L2
theorem take_succ_of {α : Type} {l : List α} {i : Nat} {x : α} (e : l[i]? = some x) : l.take (i + 1) = l.take i ++ [x] := by
  rw [List.take_add_one, e]
  rfl
theorem seq_for {K : PySem.W.Frag} {a : Addr} {xs : List V} {g : TG} {tb : TS} {D : Ends} {σ : L2.St} {H : Hp} (Pv : Nat → L2.St → Hp → Prop) (h0 : Pv 0 σ H) (hl : (∀ i σ H, Pv i σ H → SqL K H a xs) ∨ (∀ i σ H, Pv i σ H → SqT K H a xs))
    (hs : ∀ i x σ H, xs[i]? = some x → Pv i σ H → g x σ H fun σ2 H2 => tb { D with nx := Pv (i + 1), ct := Pv (i + 1), bk := D.nx } σ2 H2) (hd : ∀ σ H, Pv xs.length σ H → D.nx σ H) :
    ((∃ xs, SqL K H a xs) ∧ ∃ W : Nat → Nat → L2.St → Hp → Prop, (∃ m, W 0 m σ H) ∧ ∀ i m σ H, W i m σ H →
      ((Itl K a).stop i H ∧ D.nx σ H) ∨ ((Itl K a).go i H ∧ ∃ N : L2.St → Hp → Prop, (∀ σ' H', N σ' H' → ∃ m', m' < m ∧ W (i + 1) m' σ' H') ∧ ∀ x H', (Itl K a).yld i H x H' → g x σ H' fun σ2 H2 => tb { D with nx := N, ct := N, bk := D.nx } σ2 H2)) ∨
    ((∃ xs, SqT K H a xs) ∧ ∃ W : Nat → Nat → L2.St → Hp → Prop, (∃ m, W 0 m σ H) ∧ ∀ i m σ H, W i m σ H →
      ((Itt K a).stop i H ∧ D.nx σ H) ∨ ((Itt K a).go i H ∧ ∃ N : L2.St → Hp → Prop, (∀ σ' H', N σ' H' → ∃ m', m' < m ∧ W (i + 1) m' σ' H') ∧ ∀ x H', (Itt K a).yld i H x H' → g x σ H' fun σ2 H2 => tb { D with nx := N, ct := N, bk := D.nx } σ2 H2)) := by
  rcases hl with hl | hl
  · exact .inl ⟨⟨xs, hl _ _ _ h0⟩, for_list Pv h0 (fun i σ H _ p => hl i σ H p) hs hd⟩
  · exact .inr ⟨⟨xs, hl _ _ _ h0⟩, for_tup Pv h0 (fun i σ H _ p => hl i σ H p) hs hd⟩
theorem PL.keep' {H : Hp} {x : Addr} {o : HO} {xs : List V} {ls : List Pr} (h : PL H xs ls) (n : ∀ {t : Addr} {vs : List V}, H t = some (.tup vs) → t ≠ x) : PL (upd H x o) xs ls := by
  induction h with
  | nil => exact .nil
  | cons h _ ih => exact .cons (by rw [upd_ne (n h)]; exact h) ih
section
variable {P : Program} {w : World} {K : PySem.W.Frag} {mg : Str → Option Value} {base : Heap}
theorem scSizes : FnScope ["first", "second"] ["first", "second"] (defScope sCheckSizes) := ⟨rfl, rfl, rfl, by decide +kernel, rfl, by decide +kernel, by decide +kernel⟩
theorem ok_sizes {f : Addr} {fd : FuncData} (F : Fun K "_check_sizes" "_check_sizes" sCheckSizes f fd) (m : mg "_check_sizes" = some (.ref f)) (M : Ml mg) (W : HasF P w K mg base "is_whole" 1 ["thing", "low", "high"] spWhole) : HasF P w K mg base "_check_sizes" 2 ["first", "second"] spSizes := by
  refine ⟨f, fd, ?_, m, F.kp, F.binds fun _ _ _ _ _ _ us hl => match us, hl with | [_, _], _ => rfl⟩
  obtain ⟨f1, fd1, W⟩ := W
  obtain ⟨t, mM⟩ := M.most
  refine F.ok scSizes (fun vs H Q E h => ?_) (fun cdv A outer s H vs Q E hr h => ?_)
  · obtain ⟨a, b, rfl, _⟩ := h
    rfl
  · obtain ⟨a, b, rfl, z, k⟩ := h
    refine ⟨_, (pss_cons (ps_if (pt_not (pt_val (pe_call W.G hr (by rfl) W.m W.kp W.b .nil pass0 (pa_cons (pv 0) (pa_cons pe_int (pa_cons (pe_glob (v := .int 40) rfl mM ⟨_, rfl⟩) pa_nil)))))) (pss_one ps_never) pss_nil)
    (pss_one (ps_if (pt_not (pt_val (pe_call W.G hr (by rfl) W.m W.kp W.b .nil pass0 (pa_cons (pv 1) (pa_cons pe_int (pa_cons (pe_glob (v := .int 40) rfl mM ⟨_, rfl⟩) pa_nil)))))) (pss_one ps_never) pss_nil))), ?_⟩
    have w1 : wholeV (.int a) 0 40 = true := by simp [wholeV, z.a0, z.a4]
    have w2 : wholeV (.int b) 0 40 = true := by simp [wholeV, z.b0, z.b4]
    refine ⟨_, rfl, .int a, _, 0, 40, rfl, .int a, _, rfl, ?_⟩
    rw [w1]
    refine iteF ⟨_, rfl, .int b, _, 0, 40, rfl, .int b, _, rfl, ?_⟩
    rw [w2]
    exact iteF k
theorem scIsLink : FnScope ["link", "first", "second"] ["link", "first", "second"] (defScope sIsLink) := ⟨rfl, rfl, rfl, by decide +kernel, rfl, by decide +kernel, by decide +kernel⟩
theorem ok_islink {f : Addr} {fd : FuncData} (F : Fun K "_is_link" "_is_link" sIsLink f fd) (m : mg "_is_link" = some (.ref f)) (T : Bl mg) (Sq : HasF P w K mg base "is_sequence" 1 ["thing"] spSeq) (W : HasF P w K mg base "is_whole" 1 ["thing", "low", "high"] spWhole) : HasF P w K mg base "_is_link" 2 ["link", "first", "second"] spIsLink := by
  refine ⟨f, fd, ?_, m, F.kp, F.binds fun _ _ _ _ _ _ us hl => match us, hl with | [_, _, _], _ => rfl⟩
  obtain ⟨f1, fd1, W⟩ := W; obtain ⟨f2, fd2, Sq⟩ := Sq
  refine F.ok scIsLink (fun vs H Q E h => ?_) (fun cdv A outer s H vs Q E hr h => ?_)
  · obtain ⟨a, b, c, d, rfl, _⟩ := h
    rfl
  · obtain ⟨t, q, a, b, rfl, ht, hq, k⟩ := h
    refine ⟨_, (pss_cons (ps_if (PW.pt (pw_or (pt_not (pt_val (pe_call Sq.G hr (by rfl) Sq.m Sq.kp Sq.b .nil pass0 (pa_cons (pv 0) pa_nil)))) (pw_or1 (pt_cmpR op_ne (pe_callB call_len_seq (by rfl) T.len PySem.boot_len (pa_cons (pv 0) pa_nil)) pe_int (nomark _))))) (pss_one (ps_ret pe_bl)) pss_nil)
    (pss_one (ps_ret (pe_and (pe_call W.G hr (by rfl) W.m W.kp W.b .nil pass0 (pa_cons (pe_ix ix_tup (pv 0) pe_int (fun _ _ => rfl)) (pa_cons pe_int (pa_cons (pe_op op_sub (pv 1) pe_int) pa_nil)))) (pe_one (pe_call W.G hr (by rfl) W.m W.kp W.b .nil pass0 (pa_cons (pe_ix ix_tup (pv 0) pe_int (fun _ _ => rfl)) (pa_cons pe_int (pa_cons (pe_op op_sub (pv 2) pe_int) pa_nil))))))))), ?_⟩
    refine ⟨_, rfl, .ref t, "tuple", rfl, .tup t _ ht, fun H1 s1 => ⟨_, rfl, iteF ?_⟩⟩
    have ht1 := s1 _ _ ht
    refine ⟨_, rfl, t, _, rfl, .inr (SqT.of ht1), rfl, _, rfl, iteF ?_⟩
    have w1 : wholeV (.int q.1) 0 (a - 1) = true := by simp [wholeV]; omega
    have w2 : wholeV (.int q.2) 0 (b - 1) = true := by simp [wholeV]; omega
    refine ⟨_, rfl, t, _, _, _, rfl, rfl, SqT.of ht1, rfl, _, rfl, _, _, rfl, rfl, .int q.1, _, 0, a - 1, rfl, .int q.1, _, rfl, ?_⟩
    rw [w1]
    refine iteT ⟨_, rfl, t, _, _, _, rfl, rfl, SqT.of ht1, rfl, _, rfl, _, _, rfl, rfl, .int q.2, _, 0, b - 1, rfl, .int q.2, ?_⟩
    rw [w2]
    exact k _ s1
theorem scInit : FnScope ["self", "first", "second", "links", "seconds", "link"] ["self", "first", "second", "links"] (defScope sLikeness_init) := ⟨rfl, rfl, rfl, by decide +kernel, rfl, by decide +kernel, by decide +kernel⟩
theorem ok_linit {f C : Addr} {fd : FuncData} (F : Fun K "__init__" "Likeness.__init__" sLikeness_init f fd) (T : Bl mg) (B : Bm mg) (M : Ml mg) (LX : LC K C) (Sz' : HasF P w K mg base "_check_sizes" 2 ["first", "second"] spSizes) (Sq : HasF P w K mg base "is_sequence" 1 ["thing"] spSeq) (Il : HasF P w K mg base "_is_link" 2 ["link", "first", "second"] spIsLink) :
    FnOk P w K mg base CX0 3 f fd ["self", "first", "second", "links"] (spLk C) := by
  obtain ⟨f1, fd1, Sz'⟩ := Sz'; obtain ⟨f2, fd2, Sq⟩ := Sq; obtain ⟨f3, fd3, Il⟩ := Il
  refine F.ok scInit (fun vs H Q E h => ?_) (fun cdv A outer s H vs Q E hr h => ?_)
  · obtain ⟨x, dx, l, a, b, xs, ls, rfl, _⟩ := h
    rfl
  · obtain ⟨x, dx, l, a, b, xs, ls, rfl, hx, hl, pl, lk, sz, k⟩ := h
    have hu := hu_of hr
    have hr1 : Room 1 _ := hr.mono (by decide)
    refine ⟨_, (pss_cons (ps_expr (pe_call Sz'.G hr (by rfl) Sz'.m Sz'.kp Sz'.b .nil pass0 (pa_cons (pv 1) (pa_cons (pv 2) pa_nil))))
    (pss_cons (ps_if (pt_not (pt_val (pe_call Sq.G hr1 (by rfl) Sq.m Sq.kp Sq.b .nil pass0 (pa_cons (pv 3) pa_nil)))) (pss_one ps_never) pss_nil)
    (pss_cons (ps_set (i := 4) scInit.nd rfl (Or.inl rfl) pe_dnewK)
    (C8.pss_cut (ps_for PassesOwn.never rfl (pi_seq (pv 3)) (pg_name (i := 5) scInit.nd rfl (Or.inl rfl))
        (pss_cons (ps_if (pt_not (pt_val (pe_call Il.G hr (by rfl) Il.m Il.kp Il.b .nil pass0 (pa_cons (pv 5) (pa_cons (pv 1) (pa_cons (pv 2) pa_nil)))))) (pss_one ps_never) pss_nil)
    (pss_cons (ps_if (PW.pt (pw_or (pt_cmp (pc_din hu (pe_ix ix_tup (pv 5) pe_int (fun _ _ => rfl)) (pv 4)) rfl) (pw_or1 (pt_cmpR op_in_seq (pe_ix ix_tup (pv 5) pe_int (fun _ _ => rfl)) (pe_listVals rfl (pv 4) (by rfl) B.list (by decide +kernel)) (by rfl))))) (pss_one ps_never) pss_nil)
    (pss_one (ps_dput hu (pv 4) (pe_ix ix_tup (pv 5) pe_int (fun _ _ => rfl)) (pe_ix ix_tup (pv 5) pe_int (fun _ _ => rfl)) rfl)))))
    (pss_cons (ps_fld (pv 0) (pv 1) rfl)
    (pss_cons (ps_fld (pv 0) (pv 2) rfl)
    (pss_one (ps_fld (pv 0) (pe_callTy call_tuple_of (by rfl) B.tuple (by decide +kernel) (pa_cons (pe_callB cr_sortedPO (by rfl) M.sorted (by decide +kernel) (pa_cons (LiI.pe_listItems rfl (pv 4) (by rfl) B.list (by decide +kernel)) pa_nil)) pa_nil)) rfl)))))))), ?_⟩
    refine ⟨_, rfl, _, rfl, a, b, rfl, sz, ?_⟩
    have few := lk.few sz
    have lxs := pl.len
    obtain ⟨n, kd, hn⟩ : ∃ n, Kd H (.ref l) n ∧ seqV n = true := by
      rcases hl with h | h
      · exact ⟨_, .lst l _ h, rfl⟩
      · exact ⟨_, .tup l _ h, rfl⟩
    refine ⟨_, rfl, .ref l, n, rfl, kd, fun H1 s1 => ⟨_, rfl, ?_⟩⟩
    rw [hn]
    refine iteF fun d hd => ?_
    have hl1 : H1 l = some (.lst xs) ∨ H1 l = some (.tup xs) := hl.imp (s1 _ _) (s1 _ _)
    have pl1 := pl.keep s1
    have hx1 := s1 _ _ hx
    -- the loop
    refine ⟨fun σ H2 => ∃ v5 : Option V, σ = [some (.ref x), some (.int a), some (.int b), some (.ref l), some (.ref d), v5] ∧ Same H1 H2 ∧ H2 d = some (.dK (kvI ls)), ?_, ?_⟩
    · refine ⟨_, rfl, l, rfl, ?_⟩
      refine seq_for (K := K) (xs := xs) (fun i σ H2 => ∃ v5 : Option V, σ = [some (.ref x), some (.int a), some (.int b), some (.ref l), some (.ref d), v5] ∧ Same H1 H2 ∧ H2 d = some (.dK (kvI (ls.take i))))
        ⟨none, rfl, sameUpd (Same.refl _) hd, upd_same⟩ (hl1.imp (fun h i σ H2 ⟨_, _, s, _⟩ => SqL.of (s _ _ h)) (fun h i σ H2 ⟨_, _, s, _⟩ => SqT.of (s _ _ h))) ?_ ?_
      · rintro i y σ H2 hi ⟨v5, rfl, s2, d2⟩
        obtain ⟨t, q, rfl, hq, ht⟩ := (pl1.keep s2).at_ hi
        have lti : i < ls.length := (List.getElem?_eq_some_iff.mp hq).1
        have hqm := List.mem_of_getElem? hq
        have td : t ≠ d := fun e => by rw [e, d2] at ht; cases ht
        refine ⟨_, rfl, _, rfl, _, rfl, t, q, a, b, rfl, ht, lk.lo q hqm, fun H3 s3 => ⟨_, rfl, iteF ?_⟩⟩
        have ht3 := s3 _ _ ht
        have d3 := s3 _ _ d2
        have n1 : ¬ q.1 ∈ (ls.take i).map (·.1) := by rw [List.map_take]; exact nodup_take lk.n1 (by rw [List.getElem?_map, hq]; rfl)
        have n2 : ¬ q.2 ∈ (ls.take i).map (·.2) := by rw [List.map_take]; exact nodup_take lk.n2 (by rw [List.getElem?_map, hq]; rfl)
        refine ⟨_, rfl, t, _, _, _, rfl, rfl, SqT.of ht3, rfl, _, rfl, d, _, rfl, DGet.k (k := Sum.inl q.1) d3, _, rfl, ?_⟩
        rw [kvI_get, getP_no n1]
        refine iteF ⟨_, rfl, t, _, _, _, rfl, rfl, SqT.of ht3, rfl, _, rfl, d, _, rfl, d3, fun p hp => ?_⟩
        have s4 : Same H1 (upd H3 p (.lst ((kvI (ls.take i)).map (·.2)))) := sameUpd (s2.trans s3) hp
        have d4 : upd H3 p (.lst ((kvI (ls.take i)).map (·.2))) d = some (.dK (kvI (ls.take i))) := by rw [upd_ne (ne_of_none d3 hp)]; exact d3
        have ht4 : upd H3 p (.lst ((kvI (ls.take i)).map (·.2))) t = some (.tup [.int q.1, .int q.2]) := by rw [upd_ne (ne_of_none ht3 hp)]; exact ht3
        refine ⟨p, _, rfl, .inl (SqL.of upd_same), rfl, by rw [kvI_vals, List.all_map]; exact List.all_eq_true.mpr fun _ _ => rfl, _, rfl, ?_⟩
        rw [kvI_vals, show (if false then !inV (V.int q.2) (((ls.take i).map (·.2)).map V.int) else inV (V.int q.2) (((ls.take i).map (·.2)).map V.int)) = inV (V.int q.2) (((ls.take i).map (·.2)).map V.int) from rfl, inV_ints, decide_eq_false n2]
        refine iteF ?_
        have len : (kvI (ls.take i)).length < sizeLine := small1000 (by unfold kvI; rw [List.length_map, List.length_take]; omega)
        rw [kvI_vals] at d4 ht4 s4
        refine ⟨_, rfl, t, _, _, _, rfl, rfl, SqT.of ht4, rfl, _, rfl, _, rfl, t, _, _, _, rfl, rfl, SqT.of ht4, rfl, d, _, rfl, DPut.k (k := Sum.inl q.1) d4 len, _, rfl, fun c o e => ?_, ?_⟩
        · rw [upd_ne (ne_of_none e hd)]
          exact s4 c o e
        · rw [upd_same, kvI_put n1, take_succ_of hq]
      · rintro σ H2 ⟨v5, rfl, s2, d2⟩
        rw [lxs, List.take_length] at d2
        exact ⟨v5, rfl, s2, d2⟩
    rintro σ H2 ⟨v5, rfl, s2, d2⟩
    have hx2 := s2 _ _ hx1
    have xd : x ≠ d := ne_of_none hx1 hd
    refine ⟨_, rfl, _, rfl, x, C, dx, [], rfl, hx2, LX.cl, LX.nF, by decide, ?_⟩
    refine ⟨_, rfl, _, rfl, x, C, dx, _, rfl, upd_same, LX.cl, LX.nS, Nat.lt_of_le_of_lt (length_putF _ _ _) (by decide), ?_⟩
    rw [upd_upd]
    have d3 : upd H2 x (.ins C dx (putF "second" (.int b) (putF "first" (.int a) []))) d = some (.dK (kvI ls)) := by rw [upd_ne xd.symm]; exact d2
    refine ⟨_, rfl, d, _, rfl, d3, fun H4 p ts k4 hp ht pts hp4 pd4 => ?_⟩
    have pl4 := items_pl pd4
    refine ⟨p, ts.map V.ref, PL.kOf H4, rfl, SqL.of hp4, pl4.all, fun ys p5 srtd stb hp5 => ?_⟩
    have pl5 := pl4.sorted srtd stb
    refine ⟨p5, ys, rfl, .inl ⟨SqL.of upd_same, fun L hL => ?_⟩⟩
    have s45 : Same H4 (upd (upd H4 p5 (.lst ys)) L (.tup ys)) := (sameUpd (Same.refl _) hp5).trans (sameUpd (Same.refl _) hL)
    have hx4 := k4 _ _ (upd_same (H := H2) (a := x) (o := .ins C dx (putF "second" (.int b) (putF "first" (.int a) []))))
    have hx5 := s45 _ _ hx4
    have Lx : L ≠ x := fun e => by
      rw [e] at hL
      rw [(sameUpd (Same.refl _) hp5) _ _ hx4] at hL
      cases hL
    refine ⟨_, rfl, x, C, dx, _, rfl, hx5, LX.cl, LX.nL, Nat.lt_of_le_of_lt (Nat.le_trans (length_putF _ _ _) (Nat.succ_le_succ (length_putF _ _ _))) (by decide), ?_⟩
    refine k _ (fun c o e cx => ?_) ⟨⟨dx, L, ys, upd_same, ?_, ?_⟩, lk.srt, sz⟩
    · rw [upd_ne cx]
      refine s45 _ _ (k4 _ _ ?_)
      rw [upd_ne cx]
      exact s2 _ _ (s1 _ _ e)
    · rw [upd_ne Lx, upd_same]
    · have := pl5.keep s45
      refine PL.keep' this fun {t vs} ht z => ?_
      rw [z, hx5] at ht
      cases ht
end
end Kx

set_option maxHeartbeats 4000000
namespace Kx
open PySem L2
def spLEq (C : Addr) : Sp := fun vs H Q _ => ∃ (x y : Addr) (a b a' b' : Int) (ls ls' : List Pr), vs = [.ref x, .ref y] ∧ LkAt C H x a b ls ∧ LkAt C H y a' b' ls' ∧ Q (.bl (decide (a = a' ∧ b = b' ∧ ls = ls'))) H
def spFull (C : Addr) : Sp := fun vs H Q _ => ∃ (x : Addr) (a b : Int) (ls : List Pr), vs = [.ref x] ∧ LkAt C H x a b ls ∧ Q (.bl (decide ((a = ls.length) ∧ b = ls.length))) H
def spFlip (C : Addr) : Sp := fun vs H Q _ => ∃ (x : Addr) (a b : Int) (ls : List Pr), vs = [.ref x] ∧ LkAt C H x a b ls ∧ ∀ y H', Same H H' → LkAt C H' y b a (flp ls) → Q (.ref y) H'
def spThen (C : Addr) : Sp := fun vs H Q _ => ∃ (x y : Addr) (a b c : Int) (ls ls' : List Pr), vs = [.ref x, .ref y] ∧ LkAt C H x a b ls ∧ LkAt C H y b c ls' ∧ ∀ z H', Same H H' → LkAt C H' z a c (cmp ls ls') → Q (.ref z) H'
section
variable {P : Program} {w : World} {K : PySem.W.Frag} {mg : Str → Option Value} {base : Heap}
theorem LC.ty {C : Addr} (k : LC K C) {H : Hp} {a dx : Addr} {fs : List (Str × V)} (h : H a = some (.ins C dx fs)) : TyX K H (.ref a) (.ref C) := .base (.ins h k.cl k.ca k.cg k.ct k.cm)
theorem kit_self {K : PySem.W.Frag} {c : Value} : PySem.W.kitOne K c c = some true := by
  unfold PySem.W.kitOne
  rw [beq_self_eq_true]
  rfl
theorem scLEq : FnScope ["self", "other"] ["self", "other"] (defScope sLikeness_eq) := ⟨rfl, rfl, rfl, by decide +kernel, rfl, by decide +kernel, by decide +kernel⟩
theorem ok_leq {f C : Addr} {fd : FuncData} (F : Fun K "__eq__" "Likeness.__eq__" sLikeness_eq f fd) (B : Bm mg) (LX : LC K C) (mK : mg "Likeness" = some (.ref C)) : FnOk P w K mg base CX0 1 f fd ["self", "other"] (spLEq C) := by
  refine F.ok scLEq (fun vs H Q E h => ?_) (fun cdv A outer s H vs Q E hr h => ?_)
  · obtain ⟨x, y, a, b, a', b', ls, ls', rfl, _⟩ := h
    rfl
  · obtain ⟨x, y, a, b, a', b', ls, ls', rfl, hx, hy, k⟩ := h
    refine ⟨_, (pss_cons (ps_if (PW.pt (pw_or (pt_not (pt_val (pe_callB call_isi (by rfl) B.isinstance (by decide +kernel) (pa_cons (pv 1) (pa_cons (pe_glob (v := .ref C) rfl mK rfl) pa_nil))))) (pw_or1 (pt_cmpR op_ne (pe_fld (pv 0) rfl) (pe_fld (pv 1) rfl) (nomark _))))) (pss_one (ps_ret pe_bl)) pss_nil)
    (pss_one (ps_ret (pe_and (pe_cmpR op_eq (pe_fld (pv 0) rfl) (pe_fld (pv 1) rfl) (nomark _)) (pe_one (pe_cmpR (op_eqD hr.units) (pe_fld (pv 0) rfl) (pe_fld (pv 1) rfl) (nomark _))))))), ?_⟩
    obtain ⟨dx, L, ys, h1, h2, h3⟩ := hx.ob
    obtain ⟨dy, L', zs, g1, g2, g3⟩ := hy.ob
    refine ⟨_, rfl, _, _, _, _, _, rfl, .own C, LX.ty g1, kit_self, _, rfl, iteF ?_⟩
    refine ⟨_, rfl, x, C, dx, _, _, rfl, h1, LX.cl, LX.nF, lFs_first _ _ _, _, rfl, y, C, dy, _, _, rfl, g1, LX.cl, LX.nF, lFs_first _ _ _, rfl, _, rfl, ?_⟩
    have e1 : decide (V.int a = V.int a') = decide (a = a') := by simp
    have e2 : decide (V.int b = V.int b') = decide (b = b') := by simp
    rw [e1]
    by_cases ha : a = a'
    · rw [decide_eq_true ha]
      refine iteF ⟨_, rfl, x, C, dx, _, _, rfl, h1, LX.cl, LX.nS, lFs_second _ _ _, _, rfl, y, C, dy, _, _, rfl, g1, LX.cl, LX.nS, lFs_second _ _ _, rfl, _, rfl, ?_⟩
      rw [e2]
      by_cases hb : b = b'
      · rw [decide_eq_true hb]
        refine iteT ⟨_, rfl, x, C, dx, _, _, rfl, h1, LX.cl, LX.nL, lFs_links _ _ _, _, rfl, y, C, dy, _, _, rfl, g1, LX.cl, LX.nL, lFs_links _ _ _, _, _, .tup (SqT.of h2) h3.dp, .tup (SqT.of g2) g3.dp, shaped_pdT _, shaped_pdT _, ?_⟩
        rw [show PyData.eqv (.tuple (ls.map pdI)) (.tuple (ls'.map pdI)) = decide (ls = ls') from eqv_pdI ls ls']
        rw [show decide (a = a' ∧ b = b' ∧ ls = ls') = decide (ls = ls') by simp [ha, hb]] at k
        exact k
      · rw [decide_eq_false hb]
        rw [show decide (a = a' ∧ b = b' ∧ ls = ls') = false from decide_eq_false fun z => hb z.2.1] at k
        exact iteF k
    · rw [decide_eq_false ha]
      rw [show decide (a = a' ∧ b = b' ∧ ls = ls') = false from decide_eq_false fun z => ha z.1] at k
      exact iteT k
theorem scFull : FnScope ["self"] ["self"] (defScope sLikeness_is_full) := ⟨rfl, rfl, rfl, by decide +kernel, rfl, by decide +kernel, by decide +kernel⟩
theorem ok_full {f C : Addr} {fd : FuncData} (F : Fun K "is_full" "Likeness.is_full" sLikeness_is_full f fd) (T : Bl mg) (LX : LC K C) : FnOk P w K mg base CX0 1 f fd ["self"] (spFull C) := by
  refine F.ok scFull (fun vs H Q E h => ?_) (fun cdv A outer s H vs Q E hr h => ?_)
  · obtain ⟨x, a, b, ls, rfl, _⟩ := h
    rfl
  · obtain ⟨x, a, b, ls, rfl, hx, k⟩ := h
    refine ⟨_, pss_one (ps_ret (pe_and (pe_cmpR op_eq (pe_fld (pv 0) rfl) (pe_callB call_len_seq (by rfl) T.len PySem.boot_len (pa_cons (pe_fld (pv 0) rfl) pa_nil)) (nomark _)) (pe_one (pe_cmpR op_eq (pe_fld (pv 0) rfl) (pe_callB call_len_seq (by rfl) T.len PySem.boot_len (pa_cons (pe_fld (pv 0) rfl) pa_nil)) (nomark _))))), ?_⟩
    obtain ⟨dx, L, ys, h1, h2, h3⟩ := hx.ob
    have hl := h3.len
    refine ⟨_, rfl, x, C, dx, _, _, rfl, h1, LX.cl, LX.nF, lFs_first _ _ _, _, rfl, x, C, dx, _, _, rfl, h1, LX.cl, LX.nL, lFs_links _ _ _, L, _, rfl, .inr (SqT.of h2), rfl, _, rfl, ?_⟩
    have e1 : decide (V.int a = V.int (ys.length : Nat)) = decide (a = ls.length) := by rw [hl]; simp
    have e2 : decide (V.int b = V.int (ys.length : Nat)) = decide (b = ls.length) := by rw [hl]; simp
    rw [e1]
    by_cases ha : a = ls.length
    · rw [decide_eq_true ha]
      refine iteT ⟨_, rfl, x, C, dx, _, _, rfl, h1, LX.cl, LX.nS, lFs_second _ _ _, _, rfl, x, C, dx, _, _, rfl, h1, LX.cl, LX.nL, lFs_links _ _ _, L, _, rfl, .inr (SqT.of h2), rfl, ?_⟩
      rw [e2]
      rw [show decide ((a = ls.length) ∧ b = ls.length) = decide (b = ls.length) by simp [ha]] at k
      exact k
    · rw [decide_eq_false ha]
      rw [show decide ((a = ls.length) ∧ b = ls.length) = false from decide_eq_false fun z => ha z.1] at k
      exact iteF k
end
end Kx

set_option maxHeartbeats 4000000
namespace Kx
open PySem L2
theorem makeL {C : Addr} {Hx : Hp} {a b : Int} {l : Addr} {xs : List V} {ls : List Pr} {Q' : Addr → Hp → Prop} {E : XK} (hl : Hx l = some (.lst xs) ∨ Hx l = some (.tup xs)) (pl : PL Hx xs ls) (lk : Lk a b ls) (sz : Sz a b) (q' : ∀ y H', Hx y = none → Same Hx H' → LkAt C H' y a b (srt ls) → Q' y H') :
    ∀ y dx, Hx y = none → Hx dx = none → dx ≠ y → spLk C (.ref y :: ([.int a, .int b, .ref l] ++ [])) (upd (upd Hx dx (.own y)) y (.ins C dx [])) (fun v H2 => v = .non ∧ Q' y H2) E := by
  intro y dx hy hdx ne
  have s0 : Same Hx (upd (upd Hx dx (.own y)) y (.ins C dx [])) := (sameUpd (Same.refl _) hdx).trans (sameUpd (Same.refl _) (by rw [upd_ne ne.symm]; exact hy))
  refine ⟨y, dx, l, a, b, xs, ls, rfl, upd_same, hl.imp (s0 _ _) (s0 _ _), pl.keep s0, lk, sz, fun H' kp ka => ⟨rfl, q' y H' hy (fun c o e => kp c o (s0 c o e) (ne_of_none e hy)) ka⟩⟩
section
variable {P : Program} {w : World} {K : PySem.W.Frag} {mg : Str → Option Value} {base : Heap}
abbrev nFlip : List Str := ["self", "other", "one"]
theorem scFlip : FnScope nFlip ["self"] (defScope sLikeness_flipped) := ⟨rfl, rfl, rfl, by decide +kernel, rfl, by decide +kernel, by decide +kernel⟩
theorem ok_flip {f C gI : Addr} {fd fdI : FuncData} (F : Fun K "flipped" "Likeness.flipped" sLikeness_flipped f fd) (LX : LC K C) (mK : mg "Likeness" = some (.ref C)) (MK : Mk K C gI) (GI : FnOk P w K mg base CX0 3 gI fdI ["self", "first", "second", "links"] (spLk C)) (bI : Binds K fdI ["self", "first", "second", "links"] []) : FnOk P w K mg base CX0 5 f fd ["self"] (spFlip C) := by
  refine F.ok scFlip (fun vs H Q E h => ?_) (fun cdv A outer s H vs Q E hr h => ?_)
  · obtain ⟨x, a, b, ls, rfl, _⟩ := h
    rfl
  · obtain ⟨x, a, b, ls, rfl, hx, k⟩ := h
    refine ⟨_, pss_one (ps_ret (pe_make MK GI hr (by rfl) mK bI .nil pass0 (pa_cons (pe_fld (pv 0) rfl) (pa_cons (pe_fld (pv 0) rfl) (pa_cons (pe_lc (own := [("other", 1), ("one", 2)]) (g := gTup K 2 (gCons (gName 2) (gCons (gName 1) gNil))) (tt := tYes) (by rfl) scFlip.nd (pi_tup (pe_fld (pv 0) rfl)) (blkOk_by (own := [("other", 1), ("one", 2)]) (N := nFlip) (sc := defScope sLikeness_flipped) (by decide +kernel))
        (fun _ _ _ _ _ => pg_tup rfl (pgs_cons (pg_name scFlip.nd rfl (.inl rfl)) (pgs_cons (pg_name scFlip.nd rfl (.inl rfl)) pgs_nil))) (fun _ _ _ _ _ => pts_nil) (fun _ _ _ _ _ => pe_tup (pa_cons (pv 1) (pa_cons (pv 2) pa_nil)))) pa_nil))))), ?_⟩
    obtain ⟨dx, L, ys, h1, h2, h3⟩ := hx.ob
    have hl := h3.len
    have few := hx.lk.few hx.sz
    have sz := hx.sz
    refine ⟨_, rfl, x, C, dx, _, _, rfl, h1, LX.cl, LX.nS, lFs_second _ _ _, _, rfl, x, C, dx, _, _, rfl, h1, LX.cl, LX.nF, lFs_first _ _ _, _, rfl, x, C, dx, _, _, rfl, h1, LX.cl, LX.nL, lFs_links _ _ _, L, rfl, ⟨_, SqT.of h2⟩, fun D hD => ?_⟩
    refine lc_tup (K := K) (a := L) (xs := ys) (fun i H3 => Same H H3 ∧ ∃ zs, H3 D = some (.lst zs) ∧ PL H3 zs (flpL (ls.take i)))
      ⟨sameUpd (Same.refl _) hD, [], upd_same, .nil⟩ (fun i H3 _ w => SqT.of (w.1 _ _ h2)) ?_ ?_
    · rintro i y H3 hi ⟨s3, zs, hz, pz⟩
      obtain ⟨t, q, rfl, hq, ht⟩ := (h3.keep s3).at_ hi
      have lti : i < ls.length := (List.getElem?_eq_some_iff.mp hq).1
      refine ⟨t, _, rfl, SqT.of ht, rfl, _, _, rfl, _, _, rfl, rfl, rfl, ?_⟩
      refine ⟨_, rfl, _, rfl, (by show 2 ≤ sizeLine; decide), fun u hu => ?_⟩
      have uD : u ≠ D := (ne_of_none hz hu).symm
      have zl : zs.length = i := by rw [pz.len]; unfold flpL; rw [List.length_map, List.length_take]; omega
      refine ⟨zs, by rw [upd_ne uD.symm]; exact hz, small1000 (by omega), fun c o e => ?_, zs ++ [.ref u], upd_same, ?_⟩
      · rw [upd_ne (ne_of_none e hD), upd_ne (ne_of_none (s3 c o e) hu)]
        exact s3 c o e
      · have e1 : flpL (ls.take (i + 1)) = flpL (ls.take i) ++ [(q.2, q.1)] := by rw [take_succ_of hq]; unfold flpL; rw [List.map_append]; rfl
        rw [e1]
        refine PL.keep' (PL.app (pz.keep (sameUpd (Same.refl _) hu)) (PL.one upd_same)) fun {t vs} h z => ?_
        rw [z, upd_ne uD.symm, hz] at h
        cases h
    · rintro H3 ⟨s3, zs, hz, pz⟩
      rw [hl, List.take_length] at pz
      exact makeL (.inl hz) pz hx.lk.flpL ⟨sz.b0, sz.b4, sz.a0, sz.a4⟩ fun y H' _ s4 ka => k y H' (s3.trans s4) ka
abbrev nThen : List Str := ["self", "other", "onward", "links", "middle", "last", "one"]
theorem scThen : FnScope nThen ["self", "other"] (defScope sLikeness_then) := ⟨rfl, rfl, rfl, by decide +kernel, rfl, by decide +kernel, by decide +kernel⟩
theorem ok_then {f C gI : Addr} {fd fdI : FuncData} (F : Fun K "then" "Likeness.then" sLikeness_then f fd) (B : Bm mg) (LX : LC K C) (mK : mg "Likeness" = some (.ref C)) (MK : Mk K C gI) (GI : FnOk P w K mg base CX0 3 gI fdI ["self", "first", "second", "links"] (spLk C)) (bI : Binds K fdI ["self", "first", "second", "links"] []) : FnOk P w K mg base CX0 5 f fd ["self", "other"] (spThen C) := by
  refine F.ok scThen (fun vs H Q E h => ?_) (fun cdv A outer s H vs Q E hr h => ?_)
  · obtain ⟨x, y, a, b, c, ls, ls', rfl, _⟩ := h
    rfl
  · obtain ⟨x, y, a, b, c, ls, ls', rfl, hx, hy, k⟩ := h
    have hu := hu_of hr
    refine ⟨_, (pss_cons (ps_if (PW.pt (pw_or (pt_not (pt_val (pe_callB call_isi (by rfl) B.isinstance (by decide +kernel) (pa_cons (pv 1) (pa_cons (pe_glob (v := .ref C) rfl mK rfl) pa_nil))))) (pw_or1 (pt_cmpR op_ne (pe_fld (pv 1) rfl) (pe_fld (pv 0) rfl) (nomark _))))) (pss_one ps_never) pss_nil)
    (C8.pss_cut (ps_set (i := 2) scThen.nd rfl (Or.inr rfl) (pe_dc (own := [("middle", 4), ("last", 5)]) (g := gTup K 2 (gCons (gName 4) (gCons (gName 5) gNil))) (tt := tYes) rfl scThen.nd (pi_tup (pe_fld (pv 1) rfl)) (blkOk_by (own := [("middle", 4), ("last", 5)]) (N := nThen) (sc := defScope sLikeness_then) (by decide +kernel))
        (fun _ _ _ _ _ => pg_tup rfl (pgs_cons (pg_name scThen.nd rfl (.inl rfl)) (pgs_cons (pg_name scThen.nd rfl (.inl rfl)) pgs_nil))) (fun _ _ _ _ _ => pts_nil) (fun _ _ _ _ _ => (pv 4)) (fun _ _ _ _ _ => (pv 5))))
    (C8.pss_cut (ps_setLc (i := 3) (own := [("one", 6), ("middle", 4)]) (g := gTup K 2 (gCons (gName 6) (gCons (gName 4) gNil))) (by rfl) scThen.nd rfl rfl (sw_true rfl rfl rfl (by decide +kernel)) (pi_tup (pe_fld (pv 0) rfl)) (blkOk_by (own := [("one", 6), ("middle", 4)]) (N := nThen) (sc := defScope sLikeness_then) (by decide +kernel))
        (fun _ _ _ _ _ => pg_tup rfl (pgs_cons (pg_name scThen.nd rfl (.inl rfl)) (pgs_cons (pg_name scThen.nd rfl (.inl rfl)) pgs_nil))) (fun _ _ _ _ _ => pts_one (pt_cmp (pc_din hu (pv 4) (pv 2)) rfl)) (fun _ _ _ _ _ => pe_tup (pa_cons (pv 6) (pa_cons (pe_dget hu (pv 2) (pv 4) (fun _ _ => rfl)) pa_nil))))
    (pss_one (ps_ret (pe_make MK GI hr (by rfl) mK bI .nil pass0 (pa_cons (pe_fld (pv 0) rfl) (pa_cons (pe_fld (pv 1) rfl) (pa_cons (pv 3) pa_nil))))))))), ?_⟩
    obtain ⟨dx, L, ys, h1, h2, h3⟩ := hx.ob
    obtain ⟨dy, L', ys', g1, g2, g3⟩ := hy.ob
    have hl := h3.len
    have hl' := g3.len
    have few := hx.lk.few hx.sz
    have few' := hy.lk.few hy.sz
    refine ⟨_, rfl, _, _, _, _, _, rfl, .own C, LX.ty g1, kit_self, _, rfl, iteF ?_⟩
    refine ⟨_, rfl, y, C, dy, _, _, rfl, g1, LX.cl, LX.nF, lFs_first _ _ _, _, rfl, x, C, dx, _, _, rfl, h1, LX.cl, LX.nS, lFs_second _ _ _, rfl, _, rfl, iteNS rfl ?_⟩
    refine ⟨fun σ H1 => ∃ (D : Addr) (v4 v5 v6 : Option V), σ = [some (.ref x), some (.ref y), some (.ref D), none, v4, v5, v6] ∧ Same H H1 ∧ H1 D = some (.dK (kvI ls')), ?_, ?_⟩
    · refine ⟨_, rfl, y, C, dy, _, _, rfl, g1, LX.cl, LX.nL, lFs_links _ _ _, L', rfl, ⟨_, SqT.of g2⟩, fun D hD => ?_⟩
      refine dc_tup (K := K) (a := L') (xs := ys') (fun i H3 => Same H H3 ∧ H3 D = some (.dK (kvI (ls'.take i))))
        ⟨sameUpd (Same.refl _) hD, upd_same⟩ (fun i H3 _ w => SqT.of (w.1 _ _ g2)) ?_ ?_
      · rintro i z H3 hi ⟨s3, hDs⟩
        obtain ⟨t, q, rfl, hq, ht⟩ := (g3.keep s3).at_ hi
        have lti : i < ls'.length := (List.getElem?_eq_some_iff.mp hq).1
        have n1 : ¬ q.1 ∈ (ls'.take i).map (·.1) := by rw [List.map_take]; exact nodup_take hy.lk.n1 (by rw [List.getElem?_map, hq]; rfl)
        refine ⟨t, _, rfl, SqT.of ht, rfl, _, _, rfl, _, _, rfl, rfl, rfl, ?_⟩
        refine ⟨_, rfl, _, rfl, _, Sum.inl q.1, rfl, hDs, small1000 (by unfold kvI; rw [List.length_map, List.length_take]; omega), fun c o e => ?_, ?_⟩
        · rw [upd_ne (ne_of_none e hD)]
          exact s3 c o e
        · rw [upd_same, kvI_put n1, take_succ_of hq]
      · rintro H3 ⟨s3, hDs⟩
        rw [hl', List.take_length] at hDs
        exact ⟨D, _, _, _, rfl, s3, hDs⟩
    rintro σ H1 ⟨D, v4, v5, v6, rfl, s1, hD⟩
    refine ⟨fun σ H2 => ∃ (D' : Addr) (zs : List V) (v4 v5 v6 : Option V), σ = [some (.ref x), some (.ref y), some (.ref D), some (.ref D'), v4, v5, v6] ∧ Same H H2 ∧ H2 D' = some (.lst zs) ∧ PL H2 zs (thenL ls ls'), ?_, ?_⟩
    · refine ⟨_, rfl, x, C, dx, _, _, rfl, s1 _ _ h1, LX.cl, LX.nL, lFs_links _ _ _, L, rfl, ⟨_, SqT.of (s1 _ _ h2)⟩, fun D' hD' => ?_⟩
      refine lc_tup (K := K) (a := L) (xs := ys) (fun i H3 => Same H1 H3 ∧ ∃ zs, H3 D' = some (.lst zs) ∧ PL H3 zs (thenL (ls.take i) ls'))
        ⟨sameUpd (Same.refl _) hD', [], upd_same, .nil⟩ (fun i H3 _ w => SqT.of (w.1 _ _ (s1 _ _ h2))) ?_ ?_
      · rintro i z H3 hi ⟨s3, zs, hz, pz⟩
        obtain ⟨t, q, rfl, hq, ht⟩ := ((h3.keep s1).keep s3).at_ hi
        have lti : i < ls.length := (List.getElem?_eq_some_iff.mp hq).1
        have e1 : thenL (ls.take (i + 1)) ls' = thenL (ls.take i) ls' ++ ((getP ls' q.2).map fun k => (q.1, k)).toList := by
          rw [take_succ_of hq]
          unfold thenL
          rw [List.filterMap_append]
          cases e : getP ls' q.2 with
          | none => rw [List.filterMap_cons_none (by rw [e]; rfl)]; rfl
          | some k => rw [List.filterMap_cons_some (b := (q.1, k)) (by rw [e]; rfl)]; rfl
        refine ⟨t, _, rfl, SqT.of ht, rfl, _, _, rfl, _, _, rfl, rfl, rfl, ?_⟩
        refine ⟨_, rfl, _, rfl, D, _, rfl, DGet.k (k := Sum.inl q.2) (s3 _ _ hD), _, rfl, ?_⟩
        have ev := kvI_get q.2 ls'
        cases eg : getP ls' q.2 with
        | none =>
          rw [eg] at e1 ev
          rw [ev]
          refine iteF ⟨s3, zs, hz, ?_⟩
          rw [e1]
          show PL H3 zs (thenL (ls.take i) ls' ++ [])
          rw [List.append_nil]
          exact pz
        | some kk =>
          rw [eg] at e1 ev
          rw [ev]
          refine iteT ?_
          have zl : zs.length ≤ i := by rw [pz.len]; unfold thenL; exact Nat.le_trans (List.length_filterMap_le _ _) (by rw [List.length_take]; omega)
          have dg := DGet.k (k := Sum.inl q.2) (s3 _ _ hD)
          rw [ev] at dg
          refine ⟨_, rfl, _, rfl, _, rfl, D, _, rfl, dg, (by show 2 ≤ sizeLine; decide), fun u hu => ?_⟩
          have uD : u ≠ D' := (ne_of_none hz hu).symm
          refine ⟨zs, by rw [upd_ne uD.symm]; exact hz, small1000 (by omega), fun c o e => ?_, zs ++ [.ref u], upd_same, ?_⟩
          · rw [upd_ne (ne_of_none e hD'), upd_ne (ne_of_none (s3 c o e) hu)]
            exact s3 c o e
          · rw [e1]
            refine PL.keep' (PL.app (pz.keep (sameUpd (Same.refl _) hu)) (PL.one upd_same)) fun {t vs} h z => ?_
            rw [z, upd_ne uD.symm, hz] at h
            cases h
      · rintro H3 ⟨s3, zs, hz, pz⟩
        rw [hl, List.take_length] at pz
        exact ⟨D', zs, _, _, _, rfl, s1.trans s3, hz, pz⟩
    rintro σ H2 ⟨D', zs, v4, v5, v6, rfl, s2, hz, pz⟩
    refine ⟨_, rfl, x, C, dx, _, _, rfl, s2 _ _ h1, LX.cl, LX.nF, lFs_first _ _ _, _, rfl, y, C, dy, _, _, rfl, s2 _ _ g1, LX.cl, LX.nS, lFs_second _ _ _, _, rfl, ?_⟩
    exact makeL (.inl hz) pz (hx.lk.thenL hy.lk) ⟨hx.sz.a0, hx.sz.a4, hy.sz.b0, hy.sz.b4⟩ fun z H' _ s4 ka => k z H' (s2.trans s4) ka
end
end Kx

set_option maxHeartbeats 4000000
namespace Kx
open PySem L2
def spLWhole : Sp := fun vs H Q _ => ∃ a : Int, vs = [.int a, .int a] ∧ Q (.bl true) H
def spLLinks : Sp := fun vs H Q _ => ∃ (p q : Addr) (a b m : Int), vs = [.ref p, .int a, .int b, .int m] ∧ HandAt H p q ∧ Sz a b ∧ 0 ≤ m ∧ m ≤ 40 ∧
  ∀ (l : Addr) (xs : List V) (ls : List Pr) (H' : Hp), H' l = some (.lst xs) → l ≠ p → H l = none → PL H' xs ls → Lk a b ls → ((ls.length : Nat) : Int) = min (min a b) m → HandAt H' p q → Keep H H' p → Q (.ref l) H'
def spChained : Sp := fun vs H Q _ => ∃ (x y : Addr) (xs ys : List V) (ls ls' : List Pr) (a b c : Int), vs = [.ref x, .ref y] ∧ H x = some (.lst xs) ∧ PL H xs ls ∧ H y = some (.lst ys) ∧ PL H ys ls' ∧ Lk a b ls ∧ Lk b c ls' ∧ Sz a b ∧
  ∀ (l : Addr) (zs : List V) (H' : Hp), Same H H' → H l = none → H' l = some (.lst zs) → PL H' zs (cmp ls ls') → Q (.ref l) H'
def spTold (C : Addr) : Sp := fun vs H Q _ => ∃ (x l : Addr) (a b : Int) (xs : List V) (ls : List Pr), vs = [.ref x, .int a, .int b, .ref l] ∧ LkAt C H x a b (srt ls) ∧ H l = some (.lst xs) ∧ PL H xs ls ∧ ∀ H', Same H H' → Q (.bl true) H'
section
variable {P : Program} {w : World} {K : PySem.W.Frag} {mg : Str → Option Value} {base : Heap}
theorem scLWhole : FnScope ["_law_thing", "_law_due"] ["_law_thing", "_law_due"] (defScope sLIsWhole) := ⟨rfl, rfl, rfl, by decide +kernel, rfl, by decide +kernel, by decide +kernel⟩
theorem ok_lwhole {f : Addr} {fd : FuncData} (F : Fun K "_law_is_whole" "_law_is_whole" sLIsWhole f fd) (m : mg "_law_is_whole" = some (.ref f)) (T : Bl mg) (B : Bm mg) : HasF P w K mg base "_law_is_whole" 1 ["_law_thing", "_law_due"] spLWhole := by
  refine ⟨f, fd, ?_, m, F.kp, F.binds fun _ _ _ _ _ _ us hl => match us, hl with | [_, _], _ => rfl⟩
  refine F.ok scLWhole (fun vs H Q E h => ?_) (fun cdv A outer s H vs Q E hr h => ?_)
  · obtain ⟨a, rfl, _⟩ := h
    rfl
  · obtain ⟨a, rfl, k⟩ := h
    refine ⟨_, (pss_cons (ps_if (pt_cmpR op_isN (pv 1) pe_non (nomark _)) (pss_one ps_never) pss_nil)
    (pss_one (ps_ret (pe_and (pe_callB call_isi (by rfl) B.isinstance (by decide +kernel) (pa_cons (pv 0) (pa_cons (pe_bltn (v := .ty "int") (by rfl) T.int (by decide +kernel) rfl) pa_nil))) (pe_and (pe_not (pe_callB call_isi (by rfl) B.isinstance (by decide +kernel) (pa_cons (pv 0) (pa_cons (pe_bltn (v := .ty "bool") (by rfl) B.bool (by decide +kernel) rfl) pa_nil)))) (pe_one (pe_cmpR op_eq (pv 0) (pv 1) (nomark _)))))))), ?_⟩
    have kd : Kd H (.int a) "int" := .int a
    refine ⟨_, rfl, rfl, _, rfl, iteF ?_⟩
    refine ⟨_, rfl, .int a, _, _, _, _, rfl, .ty _, kd.ty, kit_ty (kit_int kd.kits), _, rfl, iteT ?_⟩
    refine ⟨_, rfl, .int a, _, _, _, _, rfl, .ty _, kd.ty, kit_ty (kit_bool kd.kits), _, rfl, _, rfl, iteT ?_⟩
    refine ⟨_, rfl, _, rfl, rfl, ?_⟩
    rw [decide_eq_true rfl]
    exact k
/-- what may still be taken: numbers of [0, a), each once, none of them taken -/
structure Rest (a : Int) (os : List Int) (ks : List Int) (i : Nat) : Prop where
  nd : os.Nodup
  lo : ∀ x ∈ os, 0 ≤ x ∧ x < a
  off : ∀ x ∈ os, ¬ x ∈ ks
  len : (os.length : Int) = a - i
theorem Rest.zero {a : Int} (h : 0 ≤ a) : Rest a ((List.range a.toNat).map fun (i : Nat) => (i : Int)) [] 0 :=
  ⟨map_nodup List.nodup_range fun x _ y _ e => by have e : (x : Int) = y := e; omega, fun x hx => by
    obtain ⟨i, hi, rfl⟩ := List.mem_map.mp hx
    have := List.mem_range.mp hi
    exact ⟨by omega, by omega⟩, (fun x _ h => nomatch h), by rw [List.length_map, List.length_range]; omega⟩
theorem Rest.take {a : Int} {os ks : List Int} {i j : Nat} {x : Int} (h : Rest a os ks i) (e : os[j]? = some x) : Rest a (os.eraseIdx j) (ks ++ [x]) (i + 1) ∧ (0 ≤ x ∧ x < a) ∧ ¬ x ∈ ks := by
  have hx := List.mem_of_getElem? e
  have lt : j < os.length := (List.getElem?_eq_some_iff.mp e).1
  refine ⟨⟨h.nd.sublist (List.eraseIdx_sublist _ _), fun y hy => h.lo y ((List.eraseIdx_sublist _ _).mem hy), fun y hy z => ?_, ?_⟩, h.lo x hx, h.off x hx⟩
  · rcases List.mem_append.mp z with z | z
    · exact h.off y ((List.eraseIdx_sublist _ _).mem hy) z
    · rw [List.mem_singleton.mp z] at hy
      obtain ⟨k, hk, hk2⟩ := (List.mem_eraseIdx_iff_getElem?.mp hy)
      have l1 : k < os.length := (List.getElem?_eq_some_iff.mp hk2).1
      have e1 := (List.getElem?_eq_some_iff.mp hk2).2
      have e2 := (List.getElem?_eq_some_iff.mp e).2
      have := (List.getElem_inj (h₀ := l1) (h₁ := lt) h.nd).mp (by rw [e1, e2])
      exact hk this
  · rw [List.length_eraseIdx, if_pos lt]
    have := h.len
    omega
theorem seq_ix {z : Int} {n : Nat} (h0 : 0 ≤ z) (h1 : z < n) : seqIndex? z n = some z.toNat := by
  unfold seqIndex?
  simp [h0, h1, show ¬ z < 0 by omega]
theorem rgV_ints (a : Int) : rgV 0 a = ((List.range a.toNat).map fun (i : Nat) => (i : Int)).map V.int := by
  unfold rgV
  rw [List.map_map, Int.sub_zero]
  refine List.map_congr_left fun i _ => ?_
  show V.int (0 + (i : Nat)) = V.int (i : Nat)
  rw [Int.zero_add]
theorem min3 (a b m : Int) : nuMin3 (.int a) (.int b) (.int m) = some (.int (min (min a b) m)) := by
  show ((nuMin2 (.int a) (.int b)).bind fun x => nuMin2 x (.int m)) = _
  have e : ∀ x y : Int, nuMin2 (.int x) (.int y) = some (.int (min x y)) := fun x y => by
    show some (if decide (y < x) = true then V.int y else V.int x) = _
    by_cases h : y < x
    · rw [if_pos (decide_eq_true h), Int.min_eq_right (by omega)]
    · rw [if_neg (by simpa using h), Int.min_eq_left (by omega)]
  rw [e]
  exact e _ _
theorem erase_map {α β : Type} (f : α → β) : ∀ (l : List α) (k : Nat), (l.map f).eraseIdx k = (l.eraseIdx k).map f
  | [], _ => rfl
  | _ :: _, 0 => rfl
  | x :: l, k + 1 => congrArg (f x :: ·) (erase_map f l k)
theorem PL.keep'' {H H' : Hp} {xs : List V} {ls : List Pr} (h : PL H xs ls) (n : ∀ {t : Addr} {vs : List V}, H t = some (.tup vs) → H' t = some (.tup vs)) : PL H' xs ls := by
  induction h with
  | nil => exact .nil
  | cons h _ ih => exact .cons (n h) ih
abbrev nLinks : List Str := ["_law_hand_here", "_law_first", "_law_second", "_law_many", "_law_ones", "_law_others", "_law_links_here", "_law_k"]
theorem scLinks : FnScope nLinks ["_law_hand_here", "_law_first", "_law_second", "_law_many"] (defScope sLLinks) := ⟨rfl, rfl, rfl, by decide +kernel, rfl, by decide +kernel, by decide +kernel⟩
structure Mn (mg : Str → Option Value) : Prop where
  min : mg "min" = none
theorem ok_links {f : Addr} {fd : FuncData} (F : Fun K "_law_links" "_law_links" sLLinks f fd) (m : mg "_law_links" = some (.ref f)) (T : Bl mg) (B : Bm mg) (M : Mn mg) (D : HasF P w K mg base "_law_draw" 2 ["_law_hand_here", "_law_many"] spDraw) : HasF P w K mg base "_law_links" 3 ["_law_hand_here", "_law_first", "_law_second", "_law_many"] spLLinks := by
  refine ⟨f, fd, ?_, m, F.kp, F.binds fun _ _ _ _ _ _ us hl => match us, hl with | [_, _, _, _], _ => rfl⟩
  obtain ⟨f1, fd1, D⟩ := D
  refine F.ok scLinks (fun vs H Q E h => ?_) (fun cdv A outer s H vs Q E hr h => ?_)
  · obtain ⟨p, q, a, b, m, rfl, _⟩ := h
    rfl
  · obtain ⟨p, q, a, b, m, rfl, hp, sz, m0, m4, k⟩ := h
    refine ⟨_, (pss_cons (ps_par3 (i := 4) (j := 5) (l := 6) rfl scLinks.nd rfl rfl rfl (by decide) (by decide) (by decide) rfl rfl rfl (pa_cons (pe_listRg rfl (by rfl) B.list (prg_1 (by rfl) T.range (pv 1))) (pa_cons (pe_listRg rfl (by rfl) B.list (prg_1 (by rfl) T.range (pv 2))) (pa_cons (pe_lst pa_nil) pa_nil))) (by rfl))
    (C8.pss_cut (ps_for PassesOwn.never rfl (pi_range1 (by rfl) T.range (pa_cons (pe_callB (call_min3Nu rfl) (by rfl) M.min (by decide +kernel) (pa_cons (pv 1) (pa_cons (pv 2) (pa_cons (pv 3) pa_nil)))) pa_nil)) (pg_name (i := 7) scLinks.nd rfl (.inl rfl))
        (pss_one (ps_expr (pe_bm PySem.F.plainAttrs_list PySem.F.slot_list_append PySem.F.type_list_append mt_append (pv 6) (pa_cons (pe_tup (pa_cons (pe_bm PySem.F.plainAttrs_list PySem.F.slot_list_pop PySem.F.type_list_pop mt_popAt (pv 4) (pa_cons (pe_call D.G hr (by rfl) D.m D.kp D.b .nil pass0 (pa_cons (pv 0) (pa_cons (pe_callB call_len_seq (by rfl) T.len PySem.boot_len (pa_cons (pv 4) pa_nil)) pa_nil))) pa_nil)) (pa_cons (pe_bm PySem.F.plainAttrs_list PySem.F.slot_list_pop PySem.F.type_list_pop mt_popAt (pv 5) (pa_cons (pe_call D.G hr (by rfl) D.m D.kp D.b .nil pass0 (pa_cons (pv 0) (pa_cons (pe_callB call_len_seq (by rfl) T.len PySem.boot_len (pa_cons (pv 5) pa_nil)) pa_nil))) pa_nil)) pa_nil))) pa_nil)))))
    (pss_one (ps_ret (pv 6))))), ?_⟩
    have rg : ∀ {n : Int}, 0 ≤ n → n ≤ 40 → RgOk 0 n := fun h0 h4 => RgOk.of_le (by omega) (by omega) (by omega) (by omega)
    refine ⟨_, rfl, _, rfl, rg sz.a0 sz.a4, fun u hu => ?_⟩
    have hp1 := hp.upd (o := .lst (rgV 0 a)) (hp.ap hu) (hp.aq hu)
    have k1 : Keep H (upd H u (.lst (rgV 0 a))) p := keepUpd Keep.refl hu
    have hu1 : upd H u (.lst (rgV 0 a)) u = some (.lst (rgV 0 a)) := upd_same
    have up := hp.ap hu
    generalize upd H u (.lst (rgV 0 a)) = H1 at hp1 k1 hu1 ⊢
    refine ⟨_, rfl, _, rfl, rg sz.b0 sz.b4, fun v hv => ?_⟩
    have hp2 := hp1.upd (o := .lst (rgV 0 b)) (hp1.ap hv) (hp1.aq hv)
    have k2 : Keep H (upd H1 v (.lst (rgV 0 b))) p := keepUpd k1 (by
      cases e : H v with
      | none => rfl
      | some o => rw [k1 v o e (hp1.ap hv)] at hv; cases hv)
    have vu : v ≠ u := (ne_of_none hu1 hv).symm
    have hu2 : upd H1 v (.lst (rgV 0 b)) u = some (.lst (rgV 0 a)) := by rw [upd_ne vu.symm]; exact hu1
    have hv2 : upd H1 v (.lst (rgV 0 b)) v = some (.lst (rgV 0 b)) := upd_same
    have vp := hp1.ap hv
    have hv0 : H v = none := by
      cases e : H v with
      | none => rfl
      | some o => rw [k1 v o e vp] at hv; cases hv
    generalize upd H1 v (.lst (rgV 0 b)) = H2 at hp2 k2 hu2 hv2 ⊢
    refine ⟨Nat.zero_le _, fun l hl => ?_⟩
    have lp := hp2.ap hl
    have lq := hp2.aq hl
    have lu : l ≠ u := (ne_of_none hu2 hl).symm
    have lv : l ≠ v := (ne_of_none hv2 hl).symm
    have hl0 : H l = none := by
      cases e : H l with
      | none => rfl
      | some o => rw [k2 l o e lp] at hl; cases hl
    have uq : u ≠ q := hp.aq hu
    have vq : v ≠ q := hp1.aq hv
    have hp3 := hp2.upd (o := .lst []) lp lq
    have k3 : Keep H (upd H2 l (.lst [])) p := keepUpd k2 hl0
    have hu3 : upd H2 l (.lst []) u = some (.lst (rgV 0 a)) := by rw [upd_ne lu.symm]; exact hu2
    have hv3 : upd H2 l (.lst []) v = some (.lst (rgV 0 b)) := by rw [upd_ne lv.symm]; exact hv2
    have hl3 : upd H2 l (.lst []) l = some (.lst []) := upd_same
    generalize upd H2 l (.lst []) = H3 at hp3 k3 hu3 hv3 hl3 ⊢
    clear hp1 k1 hu1 hp2 k2 hu2 hv2 hl hv
    refine ⟨_, _, _, rfl, ?_⟩
    refine ⟨fun σ H4 => ∃ (xs : List V) (ls : List Pr), σ[6]? = some (some (.ref l)) ∧ H4 l = some (.lst xs) ∧ PL H4 xs ls ∧ Lk a b ls ∧ ((ls.length : Nat) : Int) = min (min a b) m ∧ HandAt H4 p q ∧ Keep H H4 p, ?_, ?_⟩
    · refine ⟨_, rfl, _, rfl, _, rfl, _, _, _, _, rfl, min3 a b m, _, rfl, by have := sz.a0; have := sz.b0; omega, by have := sz.a4; omega, ?_⟩
      have mn : 0 ≤ min (min a b) m := by have := sz.a0; have := sz.b0; omega
      refine for_range (n := (min (min a b) m).toNat) (fun i σ H4 => ∃ (os ts : List Int) (xs : List V) (ls : List Pr) (v7 : Option V), σ = [some (.ref p), some (.int a), some (.int b), some (.int m), some (.ref u), some (.ref v), some (.ref l), v7] ∧ H4 u = some (.lst (os.map V.int)) ∧ H4 v = some (.lst (ts.map V.int)) ∧ H4 l = some (.lst xs) ∧ PL H4 xs ls ∧ ls.length = i ∧ Rest a os (ls.map (·.1)) i ∧ Rest b ts (ls.map (·.2)) i ∧ Lk a b ls ∧ HandAt H4 p q ∧ Keep H H4 p)
        ⟨_, _, [], [], none, rfl, by rw [hu3, rgV_ints], by rw [hv3, rgV_ints], hl3, .nil, rfl, .zero sz.a0, .zero sz.b0, ⟨(fun x h => nomatch h), List.nodup_nil, List.nodup_nil⟩, hp3, k3⟩ ?_ ?_
      · rintro i σ H4 hi ⟨os, ts, xs, ls, v7, rfl, hu4, hv4, hl4, pl4, ll, r1, r2, lk, hp4, k4⟩
        have l1 := r1.len
        have l2 := r2.len
        have sa := sz.a4
        have sb := sz.b4
        refine ⟨_, rfl, .inl ⟨rfl, _, SqL.of hl4⟩, ?_⟩
        refine ⟨_, rfl, .inl ⟨rfl, _, SqL.of hu4⟩, _, rfl, _, rfl, u, _, rfl, .inl (SqL.of hu4), p, q, _, rfl, hp4, by rw [List.length_map]; omega, by rw [List.length_map]; omega, fun z H5 z0 z1 hp5 k5 => ?_⟩
        rw [List.length_map] at z1
        have lz : z.toNat < os.length := by omega
        have ex : os[z.toNat]? = some os[z.toNat] := List.getElem?_eq_getElem lz
        obtain ⟨r1', b1, o1⟩ := r1.take ex
        generalize os[z.toNat] = x1 at ex r1' b1 o1
        refine ⟨u, _, z, z.toNat, .int x1, rfl, rfl, k5 _ _ hu4 up, by omega, by omega, by rw [List.length_map]; exact seq_ix z0 z1, by rw [List.getElem?_map, ex]; rfl, ?_⟩
        have tp : ∀ {Hx Hy : Hp}, HandAt Hx p q → Keep Hx Hy p → ∀ {t : Addr} {vs : List V}, Hx t = some (.tup vs) → Hy t = some (.tup vs) := @fun Hx Hy hx kx t vs h => kx _ _ h fun e => by
          obtain ⟨cs, c1, c2, c3, hh, _⟩ := hx
          rw [e, hh] at h
          cases h
        have hu5 := k5 _ _ hu4 up
        have hv5 := k5 _ _ hv4 vp
        have hl5 := k5 _ _ hl4 lp
        have pl5 : PL H5 xs ls := pl4.keep'' (tp hp4 k5)
        have k45 := k4.trans k5
        rw [erase_map]
        -- the heap behind the first pop
        have hu6 : upd H5 u (.lst ((os.eraseIdx z.toNat).map V.int)) u = some (.lst ((os.eraseIdx z.toNat).map V.int)) := upd_same
        have hv6 : upd H5 u (.lst ((os.eraseIdx z.toNat).map V.int)) v = some (.lst (ts.map V.int)) := by rw [upd_ne vu]; exact hv5
        have hl6 : upd H5 u (.lst ((os.eraseIdx z.toNat).map V.int)) l = some (.lst xs) := by rw [upd_ne lu]; exact hl5
        have hp6 := hp5.upd (o := .lst ((os.eraseIdx z.toNat).map V.int)) up uq
        have pl6 : PL (upd H5 u (.lst ((os.eraseIdx z.toNat).map V.int))) xs ls := pl5.keep' fun {t vs} h e => by rw [e, hu5] at h; cases h
        have k6 : Keep H (upd H5 u (.lst ((os.eraseIdx z.toNat).map V.int))) p := fun c o h n => by
          rw [upd_ne (fun e : c = u => by rw [e, hu] at h; cases h)]
          exact k45 c o h n
        generalize upd H5 u (.lst ((os.eraseIdx z.toNat).map V.int)) = H6 at hu6 hv6 hl6 hp6 pl6 k6 ⊢
        clear hu5 hv5 hl5 pl5 hu4 hv4 hl4 pl4 k45
        refine ⟨_, rfl, .inl ⟨rfl, _, SqL.of hv6⟩, _, rfl, _, rfl, v, _, rfl, .inl (SqL.of hv6), p, q, _, rfl, hp6, by rw [List.length_map]; omega, by rw [List.length_map]; omega, fun y H7 y0 y1 hp7 k7 => ?_⟩
        rw [List.length_map] at y1
        have ly : y.toNat < ts.length := by omega
        have ey : ts[y.toNat]? = some ts[y.toNat] := List.getElem?_eq_getElem ly
        obtain ⟨r2', b2, o2⟩ := r2.take ey
        generalize ts[y.toNat] = x2 at ey r2' b2 o2
        have hu7 := k7 _ _ hu6 up
        have hv7 := k7 _ _ hv6 vp
        have hl7 := k7 _ _ hl6 lp
        have pl7 : PL H7 xs ls := pl6.keep'' (tp hp6 k7)
        have k67 := k6.trans k7
        refine ⟨v, _, y, y.toNat, .int x2, rfl, rfl, hv7, by omega, by omega, by rw [List.length_map]; exact seq_ix y0 y1, by rw [List.getElem?_map, ey]; rfl, ?_⟩
        rw [erase_map]
        have hv8 : upd H7 v (.lst ((ts.eraseIdx y.toNat).map V.int)) v = some (.lst ((ts.eraseIdx y.toNat).map V.int)) := upd_same
        have hu8 : upd H7 v (.lst ((ts.eraseIdx y.toNat).map V.int)) u = some (.lst ((os.eraseIdx z.toNat).map V.int)) := by rw [upd_ne vu.symm]; exact hu7
        have hl8 : upd H7 v (.lst ((ts.eraseIdx y.toNat).map V.int)) l = some (.lst xs) := by rw [upd_ne lv]; exact hl7
        have hp8 := hp7.upd (o := .lst ((ts.eraseIdx y.toNat).map V.int)) vp vq
        have pl8 : PL (upd H7 v (.lst ((ts.eraseIdx y.toNat).map V.int))) xs ls := pl7.keep' fun {t vs} h e => by rw [e, hv7] at h; cases h
        have k8 : Keep H (upd H7 v (.lst ((ts.eraseIdx y.toNat).map V.int))) p := fun c o h n => by
          rw [upd_ne (fun e : c = v => by rw [e, hv0] at h; cases h)]
          exact k67 c o h n
        generalize upd H7 v (.lst ((ts.eraseIdx y.toNat).map V.int)) = H8 at hu8 hv8 hl8 hp8 pl8 k8 ⊢
        clear hu7 hv7 hl7 pl7 hu6 hv6 hl6 pl6 k67
        refine ⟨(by show 2 ≤ sizeLine; decide), fun t ht => ?_⟩
        have tu : t ≠ u := (ne_of_none hu8 ht).symm
        have tv : t ≠ v := (ne_of_none hv8 ht).symm
        have tl : t ≠ l := (ne_of_none hl8 ht).symm
        have hl9 : upd H8 t (.tup [.int x1, .int x2]) l = some (.lst xs) := by rw [upd_ne tl.symm]; exact hl8
        have xl := pl8.len
        have t0 : H t = none := by
          cases e : H t with
          | none => rfl
          | some o => rw [k8 t o e (hp8.ap ht)] at ht; cases ht
        refine ⟨l, xs, _, rfl, rfl, hl9, small1000 (by omega), os.eraseIdx z.toNat, ts.eraseIdx y.toNat, xs ++ [.ref t], ls ++ [(x1, x2)], _, rfl, ?_, ?_, upd_same, ?_, by rw [List.length_append]; simp [ll], ?_, ?_, ?_, ?_, ?_⟩
        · rw [upd_ne lu.symm, upd_ne tu.symm]; exact hu8
        · rw [upd_ne lv.symm, upd_ne tv.symm]; exact hv8
        · refine PL.keep' (PL.app (pl8.keep (sameUpd (Same.refl _) ht)) (PL.one (q := (x1, x2)) upd_same)) fun {t' vs} h e => ?_
          rw [e, hl9] at h
          cases h
        · rw [List.map_append]; exact r1'
        · rw [List.map_append]; exact r2'
        · refine ⟨fun r hr => ?_, ?_, ?_⟩
          · rcases List.mem_append.mp hr with hr | hr
            · exact lk.lo r hr
            · rw [List.mem_singleton.mp hr]
              exact ⟨b1, b2⟩
          · rw [List.map_append]
            exact List.nodup_append.mpr ⟨lk.n1, by simp, fun x hx y hy e => by
              have : y = x1 := List.mem_singleton.mp hy
              exact o1 (by rw [← this, ← e]; exact hx)⟩
          · rw [List.map_append]
            exact List.nodup_append.mpr ⟨lk.n2, by simp, fun x hx y hy e => by
              have : y = x2 := List.mem_singleton.mp hy
              exact o2 (by rw [← this, ← e]; exact hx)⟩
        · exact (hp8.upd (hp8.ap ht) (hp8.aq ht)).upd lp lq
        · intro c o h n
          rw [upd_ne (fun e : c = l => by rw [e, hl0] at h; cases h), upd_ne (fun e : c = t => by rw [e, t0] at h; cases h)]
          exact k8 c o h n
      · rintro σ H4 ⟨os, ts, xs, ls, v7, rfl, hu4, hv4, hl4, pl4, ll, r1, r2, lk, hp4, k4⟩
        exact ⟨xs, ls, rfl, hl4, pl4, lk, by omega, hp4, k4⟩
    rintro σ H4 ⟨xs, ls, e, hl4, pl4, lk, ll, hp4, k4⟩
    exact ⟨_, e, k l xs ls H4 hl4 lp hl0 pl4 lk ll hp4 k4⟩
end
end Kx

set_option maxHeartbeats 4000000
namespace Kx
open PySem L2
theorem chL_step {l m : List Pr} {i : Nat} {q : Pr} (h : l[i]? = some q) : chL (l.take (i + 1)) m = chL (l.take i) m ++ (m.filter fun r => decide (r.1 = q.2)).map fun r => (q.1, r.2) := by
  rw [take_succ_of h]
  unfold chL
  rw [List.flatMap_append, List.flatMap_cons]
  simp
theorem flt_step {m : List Pr} {i : Nat} {r q : Pr} (h : m[i]? = some r) : ((m.take (i + 1)).filter fun r => decide (r.1 = q.2)).map (fun r => (q.1, r.2)) = ((m.take i).filter fun r => decide (r.1 = q.2)).map (fun r => (q.1, r.2)) ++ (if r.1 = q.2 then [(q.1, r.2)] else []) := by
  rw [take_succ_of h, List.filter_append, List.map_append]
  congr 1
  by_cases e : r.1 = q.2 <;> simp [e]
theorem chL_len {a b c : Int} {l m : List Pr} (h : Lk a b l) (h' : Lk b c m) (z : Sz a b) (i : Nat) : (chL (l.take i) m).length ≤ 40 := by
  rw [chL_eq h']
  unfold thenL
  exact Nat.le_trans (List.length_filterMap_le _ _) (by rw [List.length_take]; have := h.few z; omega)
section
variable {P : Program} {w : World} {K : PySem.W.Frag} {mg : Str → Option Value} {base : Heap}
abbrev nCh : List Str := ["_law_one_here", "_law_other", "_law_found", "_law_near", "_law_middle", "_law_mark", "_law_far"]
theorem scCh : FnScope nCh ["_law_one_here", "_law_other"] (defScope sLChained) := ⟨rfl, rfl, rfl, by decide +kernel, rfl, by decide +kernel, by decide +kernel⟩
theorem ok_chained {f : Addr} {fd : FuncData} (F : Fun K "_law_chained" "_law_chained" sLChained f fd) (m : mg "_law_chained" = some (.ref f)) (M : Ml mg) : HasF P w K mg base "_law_chained" 1 ["_law_one_here", "_law_other"] spChained := by
  refine ⟨f, fd, ?_, m, F.kp, F.binds fun _ _ _ _ _ _ us hl => match us, hl with | [_, _], _ => rfl⟩
  refine F.ok scCh (fun vs H Q E h => ?_) (fun cdv A outer s H vs Q E hr h => ?_)
  · obtain ⟨x, y, xs, ys, ls, ls', a, b, c, rfl, _⟩ := h
    rfl
  · obtain ⟨x, y, xs, ys, ls, ls', a, b, c, rfl, hx, px, hy, py, lk, lk', sz, k⟩ := h
    refine ⟨_, (pss_cons (ps_set (i := 2) scCh.nd rfl (Or.inl rfl) (pe_lst pa_nil))
    (C8.pss_cut (ps_for PassesOwn.never rfl (pi_list (pv 0)) (pg_tup rfl (pgs_cons (pg_name (i := 3) scCh.nd rfl (.inr rfl)) (pgs_cons (pg_name (i := 4) scCh.nd rfl (.inr rfl)) pgs_nil)))
        (pss_one (ps_set (i := 2) scCh.nd rfl (Or.inl rfl) (pe_op op_cat (pv 2) (pe_lc (own := [("_law_mark", 5), ("_law_far", 6)]) (g := gTup K 2 (gCons (gName 5) (gCons (gName 6) gNil))) (by rfl) scCh.nd (pi_list (pv 1)) (blkOk_by (own := [("_law_mark", 5), ("_law_far", 6)]) (N := nCh) (sc := defScope sLChained) (by decide +kernel))
          (fun _ _ _ _ _ => pg_tup rfl (pgs_cons (pg_name scCh.nd rfl (.inl rfl)) (pgs_cons (pg_name scCh.nd rfl (.inl rfl)) pgs_nil))) (fun _ _ _ _ _ => pts_one (pt_cmpR op_eq (pv 5) (pv 4) (nomark _))) (fun _ _ _ _ _ => pe_tup (pa_cons (pv 3) (pa_cons (pv 6) pa_nil))))))))
    (pss_one (ps_ret (pe_callB cr_sortedPO (by rfl) M.sorted (by decide +kernel) (pa_cons (pv 2) pa_nil)))))), ?_⟩
    have lx := px.len
    have ly := py.len
    have few := lk.few sz
    refine ⟨Nat.zero_le _, fun g hg => ?_⟩
    refine ⟨fun σ H2 => ∃ (fl : Addr) (zs : List V), σ[2]? = some (some (.ref fl)) ∧ Same H H2 ∧ H2 fl = some (.lst zs) ∧ PL H2 zs (chL ls ls'), ?_, ?_⟩
    · have s1 : Same H (upd H g (.lst [])) := sameUpd (Same.refl _) hg
      refine ⟨_, rfl, x, rfl, ⟨xs, SqL.of (s1 _ _ hx)⟩, ?_⟩
      refine for_list (K := K) (xs := xs) (fun i σ H2 => ∃ (fl : Addr) (zs : List V) (v3 v4 v5 v6 : Option V), σ = [some (.ref x), some (.ref y), some (.ref fl), v3, v4, v5, v6] ∧ Same H H2 ∧ H2 fl = some (.lst zs) ∧ PL H2 zs (chL (ls.take i) ls'))
        ⟨g, [], none, none, none, none, rfl, s1, upd_same, .nil⟩ (fun i σ H2 _ ⟨_, _, _, _, _, _, _, s, _⟩ => SqL.of (s _ _ hx)) ?_ ?_
      · rintro i z σ H2 hi ⟨fl, zs, v3, v4, v5, v6, rfl, s2, hf, pf⟩
        obtain ⟨t, q, rfl, hq, ht⟩ := (px.keep s2).at_ hi
        refine ⟨t, _, rfl, SqT.of ht, rfl, _, _, rfl, _, _, rfl, rfl, ?_⟩
        refine ⟨_, rfl, _, rfl, y, rfl, ⟨ys, SqL.of (s2 _ _ hy)⟩, fun D hD => ?_⟩
        refine lc_list (K := K) (a := y) (xs := ys) (fun j H3 => Same H2 H3 ∧ ∃ ws, H3 D = some (.lst ws) ∧ PL H3 ws (((ls'.take j).filter fun r => decide (r.1 = q.2)).map fun r => (q.1, r.2)))
          ⟨sameUpd (Same.refl _) hD, [], upd_same, .nil⟩ (fun j H3 _ w => SqL.of (w.1 _ _ (s2 _ _ hy))) ?_ ?_
        · rintro j z' H3 hj ⟨s3, ws, hw, pw⟩
          obtain ⟨t', r, rfl, hr', ht'⟩ := ((py.keep s2).keep s3).at_ hj
          have ltj : j < ls'.length := (List.getElem?_eq_some_iff.mp hr').1
          have fs := flt_step (q := q) hr'
          refine ⟨t', _, rfl, SqT.of ht', rfl, _, _, rfl, _, _, rfl, rfl, rfl, ?_⟩
          refine ⟨_, rfl, _, rfl, rfl, _, rfl, ?_⟩
          have e1 : decide (V.int r.1 = V.int q.2) = decide (r.1 = q.2) := by simp
          rw [e1]
          by_cases e : r.1 = q.2
          · rw [if_pos e] at fs
            rw [decide_eq_true e]
            refine iteT ⟨_, rfl, _, rfl, (by show 2 ≤ sizeLine; decide), fun u hu => ?_⟩
            have uD : u ≠ D := (ne_of_none hw hu).symm
            have wl : ws.length ≤ 1000 := by
              rw [pw.len, List.length_map]
              have := List.length_filter_le (fun r : Pr => decide (r.1 = q.2)) (ls'.take j)
              have l2 := lk'.len1 sz.b0
              have := sz.b4
              rw [List.length_take] at *
              omega
            refine ⟨ws, by rw [upd_ne uD.symm]; exact hw, small1000 wl, fun c o e => ?_, ws ++ [.ref u], upd_same, ?_⟩
            · rw [upd_ne (ne_of_none e hD), upd_ne (ne_of_none (s3 c o e) hu)]
              exact s3 c o e
            · rw [fs]
              refine PL.keep' (PL.app (pw.keep (sameUpd (Same.refl _) hu)) (PL.one (q := (q.1, r.2)) upd_same)) fun {t vs} h z => ?_
              rw [z, upd_ne uD.symm, hw] at h
              cases h
          · rw [if_neg e, List.append_nil] at fs
            rw [decide_eq_false e]
            refine iteF ⟨s3, ws, hw, ?_⟩
            rw [fs]
            exact pw
        · rintro H3 ⟨s3, ws, hw, pw⟩
          rw [ly, List.take_length] at pw
          have pf3 := pf.keep s3
          have e2 := chL_step (m := ls') hq
          have pa := pf3.app pw
          rw [← e2] at pa
          have pl := pa.len
          have := chL_len lk lk' sz (i + 1)
          refine ⟨fl, D, _, _, rfl, rfl, s3 _ _ hf, hw, Nat.le_of_lt (small1000 (by rw [List.length_append] at pl; omega)), fun n hn => ?_⟩
          exact ⟨n, zs ++ ws, _, _, _, _, rfl, s2.trans (sameUpd s3 hn), upd_same, pa.keep (sameUpd (Same.refl _) hn)⟩
      · rintro σ H2 ⟨fl, zs, v3, v4, v5, v6, rfl, s2, hf, pf⟩
        rw [lx, List.take_length] at pf
        exact ⟨fl, zs, rfl, s2, hf, pf⟩
    rintro σ H2 ⟨fl, zs, e, s2, hf, pf⟩
    refine ⟨_, e, fl, zs, PL.kOf H2, rfl, SqL.of hf, pf.all, fun ws p srtd stb hp => ?_⟩
    have pw := pf.sorted srtd stb
    have s3 : Same H (upd H2 p (.lst ws)) := sameUpd s2 hp
    rw [chL_eq lk'] at pw
    exact k p ws _ s3 (s2.free hp) upd_same (pw.keep (sameUpd (Same.refl _) hp))
theorem scTold : FnScope ["_law_likeness", "_law_first", "_law_second", "_law_links_here"] ["_law_likeness", "_law_first", "_law_second", "_law_links_here"] (defScope sLTold) := ⟨rfl, rfl, rfl, by decide +kernel, rfl, by decide +kernel, by decide +kernel⟩
theorem ok_told {f C : Addr} {fd : FuncData} (F : Fun K "_law_told" "_law_told" sLTold f fd) (m : mg "_law_told" = some (.ref f)) (B : Bm mg) (M : Ml mg) (LX : LC K C) (mK : mg "Likeness" = some (.ref C)) (W : HasF P w K mg base "_law_is_whole" 1 ["_law_thing", "_law_due"] spLWhole) : HasF P w K mg base "_law_told" 2 ["_law_likeness", "_law_first", "_law_second", "_law_links_here"] (spTold C) := by
  refine ⟨f, fd, ?_, m, F.kp, F.binds fun _ _ _ _ _ _ us hl => match us, hl with | [_, _, _, _], _ => rfl⟩
  obtain ⟨f1, fd1, W⟩ := W
  refine F.ok scTold (fun vs H Q E h => ?_) (fun cdv A outer s H vs Q E hr h => ?_)
  · obtain ⟨x, l, a, b, xs, ls, rfl, _⟩ := h
    rfl
  · obtain ⟨x, l, a, b, xs, ls, rfl, hx, hl, pl, k⟩ := h
    refine ⟨_, (pss_cons (ps_if (PW.pt (pw_or (pt_not (pt_val (pe_callB call_isi (by rfl) B.isinstance (by decide +kernel) (pa_cons (pv 0) (pa_cons (pe_glob (v := .ref C) rfl mK rfl) pa_nil))))) (pw_or (pt_not (pt_val (pe_callB call_isi (by rfl) B.isinstance (by decide +kernel) (pa_cons (pe_fld (pv 0) rfl) (pa_cons (pe_bltn (v := .ty "tuple") (by rfl) B.tuple (by decide +kernel) rfl) pa_nil))))) (pw_or1 (pt_cmpR (op_neD hr.units) (pe_callTy call_list_of (by rfl) B.list (by decide +kernel) (pa_cons (pe_fld (pv 0) rfl) pa_nil)) (pe_callB cr_sortedPO (by rfl) M.sorted (by decide +kernel) (pa_cons (pv 3) pa_nil)) (nomark _)))))) (pss_one (ps_ret pe_bl)) pss_nil)
    (pss_one (ps_ret (pe_and (pe_call W.G hr (by rfl) W.m W.kp W.b .nil pass0 (pa_cons (pe_fld (pv 0) rfl) (pa_cons (pv 1) pa_nil))) (pe_one (pe_call W.G hr (by rfl) W.m W.kp W.b .nil pass0 (pa_cons (pe_fld (pv 0) rfl) (pa_cons (pv 2) pa_nil)))))))), ?_⟩
    obtain ⟨dx, L, ys, h1, h2, h3⟩ := hx.ob
    have kt : PySem.W.kitOne K (.type "tuple") (.type "tuple") = some true := kit_self
    refine ⟨_, rfl, _, _, _, _, _, rfl, .own C, LX.ty h1, kit_self, _, rfl, iteF ?_⟩
    refine ⟨_, rfl, x, C, dx, _, _, rfl, h1, LX.cl, LX.nL, lFs_links _ _ _, _, _, _, _, _, rfl, .ty _, .base (.tup h2), kt, _, rfl, iteF ?_⟩
    refine ⟨_, rfl, x, C, dx, _, _, rfl, h1, LX.cl, LX.nL, lFs_links _ _ _, L, _, rfl, .inr (SqT.of h2), fun n hn => ?_⟩
    have s1 : Same H (upd H n (.lst ys)) := sameUpd (Same.refl _) hn
    refine ⟨_, rfl, l, xs, PL.kOf (upd H n (.lst ys)), rfl, SqL.of (s1 _ _ hl), (pl.keep s1).all, fun ws p srtd stb hp => ?_⟩
    have pw := (pl.keep s1).sorted srtd stb
    have s2 : Same (upd H n (.lst ys)) (upd (upd H n (.lst ys)) p (.lst ws)) := sameUpd (Same.refl _) hp
    have s12 := s1.trans s2
    refine ⟨_, _, .lst (SqL.of (s2 _ _ upd_same)) (h3.keep s12).dp, .lst (SqL.of upd_same) (pw.keep s2).dp, shaped_pdL _, shaped_pdL _, _, rfl, ?_⟩
    rw [show PyData.eqv (.list ((srt ls).map pdI)) (.list ((srt ls).map pdI)) = decide (srt ls = srt ls) from eqv_pdI _ _, decide_eq_true rfl]
    refine iteF ?_
    refine ⟨_, rfl, x, C, dx, _, _, rfl, s12 _ _ h1, LX.cl, LX.nF, lFs_first _ _ _, _, rfl, a, rfl, _, rfl, iteT ?_⟩
    exact ⟨_, rfl, x, C, dx, _, _, rfl, s12 _ _ h1, LX.cl, LX.nS, lFs_second _ _ _, _, rfl, b, rfl, k _ s12⟩
end
end Kx

set_option maxHeartbeats 4000000
namespace Kx
open PySem PySem.Spec PyProof.Rows L2
section
variable {X : Cx} {C g : Addr} {sp : Sp} {E : XK} {CXx : CXT} {n : Nat}
/-- an instance as the library's lemmas know it -/
theorem inst_of {pins : List (Addr × Obj)} {σ : L2.St} {H : Hp} {s : Shared} {a dx : Addr} {fs : List (Str × V)} (I : Inv X pins σ H s) (h : H a = some (.ins C dx fs)) : ∃ ox od, PySem.W.InstAt s.heap a ox C od := by
  obtain ⟨mA, J, _⟩ := ins_get I.hok h
  obtain ⟨od, J, _⟩ := J.look
  exact ⟨_, _, J⟩
/-- x in o, o an instance whose class has its own __contains__ -/
def rInOwn (neg : Bool) (C : Addr) (sp : Sp) (E : XK) : R2 := fun x y H Q => ∃ a dx fs, y = .ref a ∧ H a = some (.ins C dx fs) ∧ sp [.ref a, x] H (fun z H' => ∃ b, z = .bl b ∧ Q (.bl (if neg then !b else b)) H') E
theorem op_inOwn (hs : PySem.W.findIn X.K (.ref C) "__contains__" = some (some (.ref g))) (hf : PySem.W.isFn X.K (.ref g) = true) (F : FnR X.prog X.w X.K X.mg X.base CXx n g sp) (hr : Room n X.A) (hx : Passes CXx X E) : OpR X (compareOp .In) (rInOwn false C sp E) := by
  intro pins s σ H x y v u Q I rx ry h
  obtain ⟨a, dx, fs, rfl, ha, q⟩ := h
  obtain rfl : u = Value.ref a := ry
  obtain ⟨ox, od, J⟩ := inst_of I ha
  obtain ⟨m, hF⟩ := I.fr
  refine PySem.W.in_K hF I.ok.mod.kin J hs hf (wpAny_mono (wpAny_call (run_fnR (us := [.ref a, v]) (vs := [.ref a, x]) F hr hx I (.cons rfl (.cons rx .nil)) q)) (fun w s' z => ?_) fun _ _ x => x)
  obtain ⟨z', H', I', rz, b, rfl, qz⟩ := z
  obtain rfl : w = Value.bool b := rz
  exact wpAny_truthy_bool ⟨.bl b, H', I', rfl, qz⟩
theorem op_notInOwn (hs : PySem.W.findIn X.K (.ref C) "__contains__" = some (some (.ref g))) (hf : PySem.W.isFn X.K (.ref g) = true) (F : FnR X.prog X.w X.K X.mg X.base CXx n g sp) (hr : Room n X.A) (hx : Passes CXx X E) : OpR X (compareOp .NotIn) (rInOwn true C sp E) := by
  intro pins s σ H x y v u Q I rx ry h
  obtain ⟨a, dx, fs, rfl, ha, q⟩ := h
  obtain rfl : u = Value.ref a := ry
  obtain ⟨ox, od, J⟩ := inst_of I ha
  obtain ⟨m, hF⟩ := I.fr
  refine PySem.W.notIn_K hF I.ok.mod.kin J hs hf (wpAny_mono (wpAny_call (run_fnR (us := [.ref a, v]) (vs := [.ref a, x]) F hr hx I (.cons rfl (.cons rx .nil)) q)) (fun w s' z => ?_) fun _ _ x => x)
  obtain ⟨z', H', I', rz, b, rfl, qz⟩ := z
  obtain rfl : w = Value.bool b := rz
  exact wpAny_truthy_bool ⟨.bl (!b), H', I', rfl, qz⟩
/-- len(o) by an own __len__ -/
def rLenOwn (C : Addr) (sp : Sp) (E : XK) : List V → Hp → VK → Prop := fun xs H Q => ∃ a dx fs, xs = [.ref a] ∧ H a = some (.ins C dx fs) ∧ sp [.ref a] H (fun z H' => ∃ k : Int, z = .int k ∧ 0 ≤ k ∧ k < 2 ^ 63 ∧ Q (.int k) H') E
theorem call_lenOwn (hs : PySem.W.findIn X.K (.ref C) "__len__" = some (some (.ref g))) (hf : PySem.W.isFn X.K (.ref g) = true) (F : FnR X.prog X.w X.K X.mg X.base CXx n g sp) (hr : Room (n + 1) X.A) (hx : Passes CXx X E) : CallR X (.builtin "len") (rLenOwn C sp E) := by
  intro pins s σ H xs us Q I r h
  obtain ⟨a, dx, fs, rfl, ha, q⟩ := h
  rw [Vals.ref1 r]
  obtain ⟨ox, od, J⟩ := inst_of I ha
  obtain ⟨m, hF⟩ := I.fr
  have run : codeAny (model X.prog X.w) X.A.in1 (.call (.ref g) ⟨[.ref a], []⟩) (fun r s' => match r with | .ok (.ret v) => EP X pins σ (fun z H' => ∃ k : Int, z = .int k ∧ 0 ≤ k ∧ k < 2 ^ 63 ∧ Q (.int k) H') v s' | .ok _ => False | .error e => X.xe e s') s := by
    refine codeAny_mono (F X.A.in1 X.stack s H [.ref a] [.ref a] _ E hr.in1 I.env0.in1 (.cons rfl .nil) q) fun r s' hq => ?_
    rcases r with e | (_ | _ | _ | u)
    · exact hx pins σ H s e s' I hq
    · exact hq.elim
    · exact hq.elim
    · exact hq.elim
    · exact I.after hq
  refine PySem.W.len_K hF I.ok.mod.kin J hs hf (wpAny_mono (wpAny_call run) (fun w s' z => ?_) fun _ _ x => x)
  obtain ⟨z', H', I', rz, k, rfl, k0, k1, qz⟩ := z
  obtain ⟨t, rfl⟩ := (show ∃ t, w = Value.int k t from rz)
  exact ⟨⟨k0, k1⟩, .int k, H', I'.tok _, ⟨_, rfl⟩, qz⟩
/-- o == y by an own __eq__, y any thing that is not of a class below -/
def rEqOwn (K : PySem.W.Frag) (C : Addr) (sp : Sp) (E : XK) : R2 := fun x y H Q => ∃ a dx fs, x = .ref a ∧ H a = some (.ins C dx fs) ∧ ((∃ b dy gs C', y = .ref b ∧ H b = some (.ins C' dy gs) ∧ PySem.W.notFirst K C (.ref C') = true) ∨ (∃ b ys, y = .ref b ∧ H b = some (.tup ys) ∧ PySem.W.notFirst K C (.type "tuple") = true)) ∧
  sp [.ref a, y] H (fun z H' => ∃ b, z = .bl b ∧ Q (.bl b) H') E
theorem op_eqOwn (hs : PySem.W.findIn X.K (.ref C) "__eq__" = some (some (.ref g))) (hf : PySem.W.isFn X.K (.ref g) = true) (F : FnR X.prog X.w X.K X.mg X.base CXx n g sp) (hr : Room n X.A) (hx : Passes CXx X E) : OpR X (compareOp .Eq) (rEqOwn X.K C sp E) := by
  intro pins s σ H x y v u Q I rx ry h
  obtain ⟨a, dx, fs, rfl, ha, hy, q⟩ := h
  obtain rfl : v = Value.ref a := rx
  obtain ⟨ox, od, J⟩ := inst_of I ha
  obtain ⟨m, hF⟩ := I.fr
  have go : ∀ tb, PySem.W.Looks (model X.prog X.w) s.heap (typeOf u) tb → PySem.W.notFirst X.K C tb = true → wpAny (model X.prog X.w) X.A (compareOp .Eq (.ref a) u) (EP X pins σ Q) X.xe s := fun tb hb hn => by
    refine PySem.W.cmp_K (op := .Eq) hr.units0 hF I.ok.mod.kin J hb hn hs hf (wpAny_mono (wpAny_call (run_fnR (us := [.ref a, u]) (vs := [.ref a, y]) F hr hx I (.cons rfl (.cons ry .nil)) q)) (fun w s' z => ?_) fun _ _ x => x)
    obtain ⟨z', H', I', rz, b, rfl, qz⟩ := z
    obtain rfl : w = Value.bool b := rz
    exact ⟨.bl b, H', I', rfl, qz⟩
  rcases hy with ⟨b, dy, gs, C', rfl, hb, hn⟩ | ⟨b, ys, rfl, hb, hn⟩
  · obtain rfl : u = Value.ref b := ry
    obtain ⟨ox', od', J'⟩ := inst_of I hb
    exact go _ J'.type hn
  · obtain rfl : u = Value.ref b := ry
    obtain ⟨_, _, _, o, h1, h2, _⟩ := (show ObjOk X.prog X.w H s.heap b (.tup ys) from I.hok b _ hb)
    exact go _ (PySem.W.kitAt_ty _ _ ⟨o, h1, h2⟩) hn
end
/-! != by the own __eq__ -/
section
variable {prog : Program} {w : World} {A : Around} {Er : Value → Shared → Prop} {s : Shared} {K : PySem.W.Frag} {x D f : Addr} {ox : Obj} {od : Option Obj} {b tb : Value}
theorem bound_ne {M : Model} {args : List Value} {Q : Option Value → Shared → Prop} (Y : K.In s.heap) (J : PySem.W.InstAt s.heap x ox D od) (hs : PySem.W.findIn K (.ref D) "__ne__" = some (some (.builtin "object.__ne__")))
    (h : wpAny M A (call (.builtin "object.__ne__") (.ref x :: args)) (fun v => Q (some v)) Er s) : wpAny M A (callSpecialIfBound? (.ref x) "__ne__" args) Q Er s := by
  simp only [callSpecialIfBound?, bindSpecialIfBound?]
  refine wpAny_holding (wpAny_bind (wpAny_bind (wpAny_bind (J.type.here ((PySem.W.looks_findIn Y hs).here (wpAny_bind (wpAny_askSetting (wpAny_ite ?_))))))))
  have fin : wpAny M A (call (.builtin "object.__ne__") ([.ref x] ++ args) >>= fun v => pure (some v)) Q Er s := wpAny_bind (wpAny_mono h (fun v s' z => wpAny_pure z) fun _ _ z => z)
  split
  · exact wpAny_bind (wpAny_of_eq (F.cmp_object.ne.bind _) (wpAny_pure (by exact fin)))
  · exact wpAny_tryCatch (wpAny_bind (wpAny_of_eq (F.cmp_object.ne.bind _) (wpAny_pure (by exact fin))))
/-- what the own __eq__ hands back, turned about -/
def NeBack (Q : Value → Shared → Prop) (v : Value) (s' : Shared) : Prop := match v with
  | .bool c => Q (.bool (!c)) s'
  | _ => False
theorem call_ne {Q : Value → Shared → Prop} (hu : A.units + 64 < cLine) (Y : K.In s.heap) (J : PySem.W.InstAt s.heap x ox D od) (hm : PySem.W.mroIn K D (.type "object") = some true) (he : PySem.W.findIn K (.ref D) "__eq__" = some (some (.ref f))) (hf : PySem.W.isFn K (.ref f) = true)
    (h : wpAny (model prog w) A.in1 (call (.ref f) [.ref x, b]) (NeBack Q) Er s) : wpAny (model prog w) A (call (.builtin "object.__ne__") [.ref x, b]) Q Er s := by
  refine wpAny_call (codeAny_call_builtin F.cmp_object.ne.plain F.cmpEntry_ne (PySem.W.check_slot F.cmpKind_ne F.cmpSplit_ne (J.type.andThen (PySem.W.looks_mroIn Y hm)) (F.cmpArgs_ne _ _) ?_))
  unfold Builtin.«object.__ne__»
  refine wpAny_bind (m := slotArgs "__ne__" 1 _) (wpAny_of_eq (a := (Value.ref x, [b])) rfl ?_)
  dsimp only
  refine wpAny_bind (wpAny_cRoomFor (A := A.in1) (by show A.units + 1 < cLine; omega) ?_)
  refine wpAny_bind (PySem.W.ifBound_K Y J he hf (wpAny_mono h (fun v s' hv => ?_) fun _ _ z => z))
  cases v with
  | bool c => exact wpAny_bind (wpAny_truthy_bool (wpAny_pure hv))
  | _ => exact hv.elim
theorem rich_ne {h₀ : Heap} {L : Addr} {m : Str → Option Value} {Q : Value → Shared → Prop} (hu : A.units + 64 < cLine) (F₀ : Fr h₀ L s.heap m) (X₀ : K.In h₀) (J : PySem.W.InstAt s.heap x ox D od) (hb : PySem.W.Looks (model prog w) s.heap (typeOf b) tb) (hn : PySem.W.notFirst K D tb = true)
    (hm : PySem.W.mroIn K D (.type "object") = some true) (hne : PySem.W.findIn K (.ref D) "__ne__" = some (some (.builtin "object.__ne__"))) (he : PySem.W.findIn K (.ref D) "__eq__" = some (some (.ref f))) (hf : PySem.W.isFn K (.ref f) = true)
    (h : wpAny (model prog w) A.in1 (call (.ref f) [.ref x, b]) (NeBack Q) Er s) : wpAny (model prog w) A (richCompare .NotEq (.ref x) b) Q Er s := by
  have Y := X₀.keeps F₀.keep
  have one : wpAny (model prog w) A (tryCompare (.ref x) "__ne__" b) (fun r s' => ∃ c, r = some (.bool c) ∧ Q (.bool c) s') Er s := by
    unfold tryCompare
    refine wpAny_bind (bound_ne Y J hne (call_ne hu Y J hm he hf (wpAny_mono h (fun v s' hv => ?_) fun _ _ z => z)))
    cases v with
    | bool c => exact wpAny_pure ⟨!c, rfl, hv⟩
    | _ => exact hv.elim
  unfold richCompare
  simp only [oneThing_ref]
  refine wpAny_holding (wpAny_bind (wpAny_cRoomFor (by omega) (wpAny_bind (J.type.here (wpAny_bind (hb.here ?_))))))
  have fin : ∀ (r : Option Value) (s' : Shared), (∃ c, r = some (.bool c) ∧ Q (.bool c) s') → ∃ c, r = some (.bool c) ∧ Q (.bool c) s' := fun _ _ z => z
  split
  · rename_i q
    have e : PySem.W.subIn K tb (.ref D) = some false := by
      rcases Bool.or_eq_true_iff.mp hn with e | e
      · rw [beq_iff_eq.mp e] at q; simp at q
      · exact beq_iff_eq.mp e
    refine wpAny_bind ((PySem.W.looks_subIn Y e).here ?_)
    simp only [Bool.false_eq_true, if_false]
    refine wpAny_bind (wpAny_mono one (fun r s' z => ?_) fun _ _ e => e)
    obtain ⟨v, rfl, hq⟩ := fin r s' z
    exact wpAny_pure hq
  · refine wpAny_bind (wpAny_pure ?_)
    simp only [Bool.false_eq_true, if_false]
    refine wpAny_bind (wpAny_mono one (fun r s' z => ?_) fun _ _ e => e)
    obtain ⟨v, rfl, hq⟩ := fin r s' z
    exact wpAny_pure hq
end
section
variable {X : Cx} {C g : Addr} {sp : Sp} {E : XK} {CXx : CXT} {n : Nat}
/-- o != y by an own __eq__, both of one class -/
def rNeOwn (C : Addr) (sp : Sp) (E : XK) : R2 := fun x y H Q => ∃ a dx fs b dy gs, x = .ref a ∧ H a = some (.ins C dx fs) ∧ y = .ref b ∧ H b = some (.ins C dy gs) ∧ sp [.ref a, .ref b] H (fun z H' => ∃ c, z = .bl c ∧ Q (.bl (!c)) H') E
theorem op_neOwn (hm : PySem.W.mroIn X.K C (.type "object") = some true) (hne : PySem.W.findIn X.K (.ref C) "__ne__" = some (some (.builtin "object.__ne__"))) (hs : PySem.W.findIn X.K (.ref C) "__eq__" = some (some (.ref g))) (hf : PySem.W.isFn X.K (.ref g) = true) (F : FnR X.prog X.w X.K X.mg X.base CXx n g sp) (hr : Room (n + 1) X.A) (hx : Passes CXx X E) :
    OpR X (compareOp .NotEq) (rNeOwn C sp E) := by
  intro pins s σ H x y v u Q I rx ry h
  obtain ⟨a, dx, fs, b, dy, gs, rfl, ha, rfl, hb, q⟩ := h
  obtain rfl : v = Value.ref a := rx
  obtain rfl : u = Value.ref b := ry
  obtain ⟨ox, od, J⟩ := inst_of I ha
  obtain ⟨ox', od', J'⟩ := inst_of I hb
  obtain ⟨m, hF⟩ := I.fr
  have run : codeAny (model X.prog X.w) X.A.in1 (.call (.ref g) ⟨[.ref a, .ref b], []⟩) (fun r s' => match r with | .ok (.ret v) => EP X pins σ (fun z H' => ∃ c, z = .bl c ∧ Q (.bl (!c)) H') v s' | .ok _ => False | .error e => X.xe e s') s := by
    refine codeAny_mono (F X.A.in1 X.stack s H [.ref a, .ref b] [.ref a, .ref b] _ E hr.in1 I.env0.in1 (.cons rfl (.cons rfl .nil)) q) fun r s' hq => ?_
    rcases r with e | (_ | _ | _ | u)
    · exact hx pins σ H s e s' I hq
    · exact hq.elim
    · exact hq.elim
    · exact hq.elim
    · exact I.after hq
  refine rich_ne hr.units hF I.ok.mod.kin J J'.type (by simp [PySem.W.notFirst]) hm hne hs hf (wpAny_mono (wpAny_call run) (fun w s' z => ?_) fun _ _ x => x)
  obtain ⟨z', H', I', rz, c, rfl, qz⟩ := z
  obtain rfl : w = Value.bool c := rz
  exact ⟨.bl (!c), H', I', rfl, qz⟩
end
end Kx

set_option maxHeartbeats 4000000
namespace Kx
open PySem L2
/-- the heap but for the hand -/
def wo (p : Addr) (H : Hp) : Hp := fun b => if b = p then none else H b
theorem wo_same {H : Hp} {p : Addr} : Same (wo p H) H := fun b o e => by
  unfold wo at e
  by_cases h : b = p
  · rw [if_pos h] at e; cases e
  · rw [if_neg h] at e; exact e
theorem wo_ne {H : Hp} {p b : Addr} (h : b ≠ p) : wo p H b = H b := if_neg h
theorem wo_keep {H H' : Hp} {p : Addr} (k : Keep H H' p) : Same (wo p H) (wo p H') := fun b o e => by
  unfold wo at e ⊢
  by_cases h : b = p
  · rw [if_pos h] at e; cases e
  · rw [if_neg h] at e ⊢; exact k b o e h
theorem wo_at {H : Hp} {p b : Addr} {o : HO} (h : H b = some o) (n : b ≠ p) : wo p H b = some o := by rw [wo_ne n]; exact h
theorem wo_mono {H H' : Hp} {p : Addr} (s : Same H H') : Same (wo p H) (wo p H') := wo_keep fun b o e _ => s b o e
theorem wo_get {p b : Addr} {H : Hp} {o : HO} (h : wo p H b = some o) : H b = some o ∧ b ≠ p := ⟨wo_same _ _ h, fun e => by rw [e] at h; unfold wo at h; rw [if_pos rfl] at h; cases h⟩
theorem ix_listK {X : Cx} {K : PySem.W.Frag} (h : X.K = K) : IxR X (rIxL K) := by
  subst h
  exact ix_list
theorem PL.wo {H : Hp} {xs : List V} {ls : List Pr} {p q : Addr} (h : PL H xs ls) (hp : HandAt H p q) : PL (wo p H) xs ls := h.keep'' fun {t vs} e => wo_at e fun z => by
  obtain ⟨cs, a, b, c, hh, _⟩ := hp
  rw [z, hh] at e
  cases e
theorem LkAt.wo {C : Addr} {H : Hp} {x : Addr} {a b : Int} {ls : List Pr} {p q : Addr} (h : LkAt C H x a b ls) (hp : HandAt H p q) : LkAt C (wo p H) x a b ls := by
  obtain ⟨dx, L, ys, h1, h2, h3⟩ := h.ob
  obtain ⟨cs, e, f, g, hh, _⟩ := id hp
  exact ⟨⟨dx, L, ys, wo_at h1 (fun z => by rw [z, hh] at h1; cases h1), wo_at h2 (fun z => by rw [z, hh] at h2; cases h2), h3.wo hp⟩, h.lk, h.sz⟩
/-- what the law holds behind its first five rows -/
structure Held (C : Addr) (H : Hp) (p q S R R0 R1 R2 : Addr) (x0 x1 x2 : List V) (r0 r1 r2 : List Pr) (s0 s1 s2 s3 : Int) (a b c : Addr) : Prop where
  hp : HandAt H p q
  hS : wo p H S = some (.lst [.int s0, .int s1, .int s2, .int s3])
  hR : wo p H R = some (.lst [.ref R0, .ref R1, .ref R2])
  h0 : wo p H R0 = some (.lst x0)
  h1 : wo p H R1 = some (.lst x1)
  h2 : wo p H R2 = some (.lst x2)
  p0 : PL (wo p H) x0 r0
  p1 : PL (wo p H) x1 r1
  p2 : PL (wo p H) x2 r2
  ka : LkAt C (wo p H) a s0 s1 (srt r0)
  kb : LkAt C (wo p H) b s1 s2 (srt r1)
  kc : LkAt C (wo p H) c s2 s3 (srt r2)
theorem Held.keep {C : Addr} {H H' : Hp} {p q S R R0 R1 R2 : Addr} {x0 x1 x2 : List V} {r0 r1 r2 : List Pr} {s0 s1 s2 s3 : Int} {a b c : Addr} (h : Held C H p q S R R0 R1 R2 x0 x1 x2 r0 r1 r2 s0 s1 s2 s3 a b c) (k : Keep H H' p) (hp : HandAt H' p q) : Held C H' p q S R R0 R1 R2 x0 x1 x2 r0 r1 r2 s0 s1 s2 s3 a b c := by
  have s := wo_keep k
  exact ⟨hp, s _ _ h.hS, s _ _ h.hR, s _ _ h.h0, s _ _ h.h1, s _ _ h.h2, h.p0.keep s, h.p1.keep s, h.p2.keep s, h.ka.keep s, h.kb.keep s, h.kc.keep s⟩
theorem Held.same {C : Addr} {H H' : Hp} {p q S R R0 R1 R2 : Addr} {x0 x1 x2 : List V} {r0 r1 r2 : List Pr} {s0 s1 s2 s3 : Int} {a b c : Addr} (h : Held C H p q S R R0 R1 R2 x0 x1 x2 r0 r1 r2 s0 s1 s2 s3 a b c) (s : Same H H') : Held C H' p q S R R0 R1 R2 x0 x1 x2 r0 r1 r2 s0 s1 s2 s3 a b c :=
  h.keep (fun b o e _ => s b o e) (h.hp.same s)
end Kx

set_option maxHeartbeats 4000000
namespace Kx
open PySem PySem.Spec PyProof.Rows L2
abbrev QT : VK := fun v _ => v = .bl true
abbrev EF : XK := fun _ _ _ => False
/-- the body of the law's def, asked at the call that the row makes (nothing is being shown by repr there) -/
def LawBody (P : Program) (w : World) (K : PySem.W.Frag) (mg : Str → Option Value) (base : Heap) (N : List Str) (x : Str) (st : Stmt) (fa : Addr) (k : Nat) : Prop :=
  ∀ (cdv : Value) (s : Shared) (H : Hp) (a : Addr) (ns : List Int), Room k (callerA.deeper (envOfC x (defScope st) s.heap.objs.size fa cdv)) → SqL K H a (ns.map V.int) → ns.length ≤ 63 →
    ∃ t, PSs (cxOf CX0 P w K mg base N x (defScope st) fa cdv callerA [] s H EF).nox (defBody st) t ∧ t { nx := fun _ H' => QT .non H', rt := QT } (start N [.ref a]) H
section
variable {P : Program} {w : World} {K : PySem.W.Frag} {mg mb : Str → Option Value} {k : Nat} {fa a : Addr} {fd : FuncData} {x y : Str} {st : Stmt} {N : List Str}
theorem law_at {base : Heap} (F : Fun K x x st fa fd) (S : FnScope N [y] (defScope st)) (hr : Room (k + 1) callerA) (B : LawBody P w K mg base N x st fa k) (bind : ∀ (s : Shared) (u : Value), BindsTo s fd ⟨[u], []⟩ [(y, u)])
    {s : Shared} {H : Hp} {ns : List Int} (e0 : Env0 P w K mg base callerA [] s H) (hS : SqL K H a (ns.map V.int)) (hn : ns.length ≤ 63) :
    codeAny (model P w) callerA (.call (.ref fa) ⟨[.ref a], []⟩) (CR CX0 [] P w H s QT EF) s := by
  obtain ⟨oc, od, kV, doc, pm, an, cdv, ct, osl, rfl, lk, hcd⟩ := F.ex
  have KX : K.In s.heap := e0.mod.kin.keeps fun b o e => (e0.bs b o e).1
  have noLim : s.heap.NoLimit := e0.mod.nolimit.keeps fun b o e => (e0.bs b o e).1
  have kinds : ∀ z ∈ [(y, Value.ref a)], (defScope st).names.lookup z.1 = some .local ∨ ((defScope st).names.lookup z.1 = some .cell ∧ ((cellsFrom (s.heap.objs.size + 1) (defScope st).names []).lookup z.1).isSome = true) := fun z hz => by
    obtain rfl : z = (y, Value.ref a) := by simpa using hz
    rcases S.par y (.head _) with q | q
    · exact .inl q
    · exact .inr ⟨q, PySem.W.cellsFrom_some _ _ _ (.inl q)⟩
  refine codeAny_call_function hr.depth (KX _ _ lk) rfl S.co S.gen rfl (PySem.W.codeRec_of KX hcd) (bind s (.ref a) _ _ _ _ (wpAny_newFunctionEnv_cells S.kind kinds fun env he s1 z => ?_))
  subst he
  obtain ⟨t, ht, hq⟩ := B cdv s H a ns (hr.deeper _) hS hn
  refine ⟨noLim.keeps z.toInCall.keep, codeAny_func (wpAny_mono (ht.nox.run [] s1 (start N [.ref a]) H _ (inv_start S hr.hd e0 rfl (.cons rfl .nil) z) hq) (fun fl s' got => ?_) fun e s' got => got)⟩
  cases fl with
  | ret u => obtain ⟨v, σ', H', J, rv, q⟩ := got; exact ⟨v, H', J.os, J.bare, J.base, J.hok, rv, q⟩
  | next => obtain ⟨σ', H', J, q⟩ := got; exact absurd q (fun z => nomatch z)
  | brk => obtain ⟨_, _, _, q⟩ := got; exact q.elim
  | cont => obtain ⟨_, _, _, q⟩ := got; exact q.elim
/-- behind the top nothing is tracked but the script -/
theorem env_at {s : Shared} {H : Hp} {vs : List Value} (KX : K.In s.heap) (main : s.heap.Ns mainGlobals mg) (blt : s.heap.Ns builtinsNs mb) (boot : ∀ x : Str, x ≠ "__name__" → mb x = bootBuiltins x) (lim : s.heap.NoLimit) (gens : s.gens = #[])
    (at_ : s.heap.get? a = some { cls := .type "list", data := .seq vs.toArray }) (ok : HOk P w H s.heap) (only : ∀ b, b ≠ a → H b = none) (mine : H a = none ∨ K.lookup a = none) : Env0 P w K mg (hidT s.heap H) callerA [] s H := by
  have keepK : K.In (hidT s.heap H) := fun b o e => hidT_get (KX b o e) (by
    by_cases z : b = a
    · subst z
      rcases mine with q | q
      · exact q
      · rw [q] at e; cases e
    · exact only b z)
  have keepN : ∀ {b : Addr} {m : Str → Option Value}, s.heap.Ns b m → (hidT s.heap H).Ns b m := by
    rintro b m ⟨o, es, ep, e, d, r⟩
    refine ⟨o, es, ep, hidT_get e (only b fun z => ?_), d, r⟩
    subst z
    rw [at_] at e
    cases e
    cases d
  obtain ⟨mc, l1, l2⟩ := lim
  exact ⟨rfl, ⟨keepK, keepN main, ⟨mb, keepN blt, boot⟩, ⟨mc, keepN l1, l2⟩⟩, fun b o e => of_hidT e, Nat.le_of_eq (hidT_size _ _), trivial, fun b hb => (nomatch hb), ok, .of_eq gens⟩
theorem law_end {s : Shared} {vs : List Value} {ns : List Int} (KX : K.In s.heap) (main : s.heap.Ns mainGlobals mg) (blt : s.heap.Ns builtinsNs mb) (boot : ∀ x : Str, x ≠ "__name__" → mb x = bootBuiltins x) (lim : s.heap.NoLimit) (gens : s.gens = #[])
    (at_ : s.heap.get? a = some { cls := .type "list", data := .seq vs.toArray }) (hints : IntsAre vs ns) (hn : ns.length ≤ 63)
    (run : ∀ (base : Heap) (H : Hp), K.In base → base.Ns mainGlobals mg → Env0 P w K mg base callerA [] s H → SqL K H a (ns.map V.int) → codeAny (model P w) callerA (.call (.ref fa) ⟨[.ref a], []⟩) (CR CX0 [] P w H s QT EF) s) :
    codeAny (model P w) callerA (.call (.ref fa) ⟨[.ref a], []⟩) (fun r s' => r = .ok (.ret (.bool true)) ∧ OldK s.heap s'.heap ∧ s'.os = s.os ∧ AllBare s'.gens) s := by
  have rv := vals_ints hints
  have fits : (ns.map V.int).length ≤ sizeLine := by rw [List.length_map]; exact Nat.le_of_lt (small1000 (by omega))
  have go : ∀ H : Hp, (∀ b, b ≠ a → H b = none) → (H a = none ∧ SqL K H a (ns.map V.int) ∨ K.lookup a = none ∧ H a = some (.frz { cls := .type "list", data := .seq vs.toArray } (.lst (ns.map V.int)))) →
      codeAny (model P w) callerA (.call (.ref fa) ⟨[.ref a], []⟩) (fun r s' => r = .ok (.ret (.bool true)) ∧ OldK s.heap s'.heap ∧ s'.os = s.os ∧ AllBare s'.gens) s := by
    intro H only mine
    have ok : HOk P w H s.heap := fun b u e => by
      by_cases z : b = a
      · subst z
        rcases mine with ⟨q, _⟩ | ⟨_, q⟩
        · rw [q] at e; cases e
        · rw [q] at e
          cases e
          exact ⟨at_, fits, vs, _, rv, at_⟩
      · rw [only b z] at e; cases e
    have e0 := env_at (P := P) (w := w) KX main blt boot lim gens at_ ok only (mine.elim (fun q => .inl q.1) fun q => .inr q.1)
    refine codeAny_mono (run _ H e0.mod.kin e0.mod.glob e0 (mine.elim (fun q => q.2) fun q => .inl (.inr ⟨_, q.2⟩))) fun r s' got => ?_
    rcases r with e | (_ | _ | _ | u)
    · exact got.elim
    · exact got.elim
    · exact got.elim
    · exact got.elim
    · obtain ⟨v, H', os, bare, un, ok', rel, q⟩ := got
      obtain rfl : v = .bl true := q
      obtain rfl : u = Value.bool true := rel
      refine ⟨rfl, OldK.of_keep fun b o e => ?_, os, bare⟩
      cases q : H b with
      | none => exact un.keep b o e q (fun z => (nomatch z)) (fun z => (nomatch z))
      | some u =>
        have z : b = a := Classical.byContradiction fun z => by rw [only b z] at q; cases q
        subst z
        rcases mine with ⟨q2, _⟩ | ⟨_, q2⟩
        · rw [q2] at q; cases q
        · rw [at_] at e
          cases e
          exact (ok' b _ (un.frzs b _ _ q2)).1
  cases hk : K.lookup a with
  | some o =>
    have e := KX a o hk
    rw [at_] at e
    cases e
    exact go (fun _ => none) (fun _ _ => rfl) (.inl ⟨rfl, .inr ⟨_, vs.toArray, _, hk, rfl, rfl, rfl, by rw [List.size_toArray, hints.length]; exact Nat.le_of_lt (small1000 (by omega)), by simpa using rv⟩⟩)
  | none => exact go (fun b => if b = a then some (.frz { cls := .type "list", data := .seq vs.toArray } (.lst (ns.map V.int))) else none) (fun b z => if_neg z) (.inr ⟨hk, if_pos rfl⟩)
end
theorem law_walk {l : PySem.W.OpenLaw} {q : Program} {loose : List Str} {XP : (Str → Option Value) → Heap → Prop} {YP : World → Heap → Prop} {d : DefRec} {K : Params → PySem.W.Frag} (hn : l.most = some 63) (hdf : d.params.defaults = []) (hY : ∀ (w : World) (h : Heap), YP w h → (K w.params).In h)
    (F : ∀ (w : World) (mg : Str → Option Value) (fa : Addr) (h : Heap), (K w.params).In h → h.Ns mainGlobals mg → mg d.name = some (.ref fa) →
      ∀ (base : Heap) (s : Shared) (H : Hp) (a : Addr) (ns : List Int), (K w.params).In base → base.Ns mainGlobals mg → Env0 l.prog w (K w.params) mg base callerA [] s H → SqL (K w.params) H a (ns.map V.int) → ns.length ≤ 63 →
        codeAny (model l.prog w) callerA (.call (.ref fa) ⟨[.ref a], []⟩) (CR CX0 [] l.prog w H s QT EF) s) : PySem.W.WalkO q loose XP YP l.row.toRowW d [] (fun f vs => PySem.call f vs) :=
  Att.attach_call hn hdf fun w s₀ s₁ mg mb fa o pm cd doc a vs ns G Y ho hd hcd hmg hobj hints hlen hg =>
    law_end (hY w _ Y) G.T.g G.T.b G.T.builtins G.T.nolimit hg hobj hints hlen fun base H kin main e0 hS => F w mg fa _ (hY w _ Y) G.T.g hmg base s₁ H a ns kin main e0 hS hlen
end Kx

set_option maxHeartbeats 8000000
namespace Kx
open PySem L2
abbrev NLaw : List Str := ["_law_script", "_law_hand_here", "_law_most", "_law_sizes", "_law_rows", "_law_a", "_law_b", "_law_c", "_law_kept", "_law_ab", "_law_bc", "_law_ends", "_law_back", "_law_size", "_law_full", "_law_same", "_law_k", "_law_x", "_law_near", "_law_far"]
theorem scLaw : FnScope NLaw ["_law_script"] (defScope sLaw) := ⟨rfl, rfl, rfl, by decide +kernel, rfl, by decide +kernel, by decide +kernel⟩
abbrev scEnds : Scope := { kind := ScopeKind.function, names := [(Str.ofString ".0", NameKind.local), (Str.ofString "_law_size", NameKind.local), (Str.ofString "Likeness", NameKind.globalImplicit), (Str.ofString "range", NameKind.globalImplicit)], isGenerator := false, isCoroutine := false }
abbrev Z3 (a p : Addr) (mo : Int) (S : Addr) : L2.St := [some (.ref a), some (.ref p), some (.int mo), some (.ref S), none, none, none, none, none, none, none, none, none, none, none, none, none, none, none, none]
abbrev Z4 (a p : Addr) (mo : Int) (S R : Addr) : L2.St := [some (.ref a), some (.ref p), some (.int mo), some (.ref S), some (.ref R), none, none, none, none, none, none, none, none, none, none, none, none, none, none, none]
abbrev Z5 (a p : Addr) (mo : Int) (S R x y z : Addr) (v8 v9 v10 v11 v12 v13 v14 v15 : Option V) : L2.St := [some (.ref a), some (.ref p), some (.int mo), some (.ref S), some (.ref R), some (.ref x), some (.ref y), some (.ref z), v8, v9, v10, v11, v12, v13, v14, v15, none, none, none, none]
structure Rp (mg : Str → Option Value) : Prop where
  repr : mg "repr" = none
  all : mg "all" = none
/-- all that the law leans on -/
structure AllF (P : Program) (w : World) (K : PySem.W.Frag) (mg : Str → Option Value) (base : Heap) (C : Addr) (gI : Addr) (fdI : FuncData) (gE gF gP gT : Addr) (pF : Addr) (dE dF dP dT : FuncData) : Prop where
  hand : HasF P w K mg base "_law_hand" 1 ["_law_script"] (spHand K)
  draw : HasF P w K mg base "_law_draw" 2 ["_law_hand_here", "_law_many"] spDraw
  one : HasF P w K mg base "_law_one" 3 ["_law_hand_here", "_law_rows"] spOne
  links : HasF P w K mg base "_law_links" 3 ["_law_hand_here", "_law_first", "_law_second", "_law_many"] spLLinks
  chained : HasF P w K mg base "_law_chained" 1 ["_law_one_here", "_law_other"] spChained
  told : HasF P w K mg base "_law_told" 2 ["_law_likeness", "_law_first", "_law_second", "_law_links_here"] (spTold C)
  LX : LC K C
  mK : mg "Likeness" = some (.ref C)
  MK : Mk K C gI
  GI : FnOk P w K mg base CX0 3 gI fdI ["self", "first", "second", "links"] (spLk C)
  bI : Binds K fdI ["self", "first", "second", "links"] []
  ME : Meth K C "__eq__" gE
  GE : FnOk P w K mg base CX0 1 gE dE ["self", "other"] (spLEq C)
  bE : Binds K dE ["self", "other"] []
  PF : PropOf K C "is_full" pF gF
  GF : FnOk P w K mg base CX0 1 gF dF ["self"] (spFull C)
  bF : Binds K dF ["self"] []
  MP : Meth K C "flipped" gP
  GP : FnOk P w K mg base CX0 5 gP dP ["self"] (spFlip C)
  bP : Binds K dP ["self"] []
  MT : Meth K C "then" gT
  GT : FnOk P w K mg base CX0 5 gT dT ["self", "other"] (spThen C)
  bT : Binds K dT ["self", "other"] []
  ne : PySem.W.findIn K (.ref C) "__ne__" = some (some (.builtin "object.__ne__"))
theorem rawE {P : Program} {w : World} {K : PySem.W.Frag} {mg : Str → Option Value} {base : Heap} {g : Addr} {fd : FuncData} {sp : Sp} {ps : List Str} {k : Nat} (G : FnOk P w K mg base CX0 k g fd ps sp) (b : Binds K fd ps []) : FnR P w K mg base CX0 k g sp := (G.raw b .nil).imp fun vs H Q E h => by rw [List.append_nil]; exact h
theorem LkAt.rep {C : Addr} {H : Hp} {x : Addr} {a b : Int} {ls : List Pr} (k : LkAt C H x a b ls) (K : PySem.W.Frag) : ∃ dx L, H x = some (.ins C dx (lFs a b L)) ∧ Dp K H (.ref L) (.tuple (ls.map pdI)) ∧ (PyData.tuple (ls.map pdI)).showable = true ∧ (PyData.tuple (ls.map pdI)).hasDict = false ∧ (PyData.tuple (ls.map pdI)).depth ≤ 20 ∧ (PyData.tuple (ls.map pdI)).shown.length ≤ sizeLine := by
  obtain ⟨dx, L, ys, h1, h2, h3⟩ := k.ob
  obtain ⟨g1, g2, g3, g4⟩ := lk_showT (k.lk.small k.sz) (k.lk.few k.sz)
  exact ⟨dx, L, h1, .tup (SqT.of h2) h3.dp, g1, g2, g3, Nat.le_trans g4 (by rw [sizeLine_eq]; decide)⟩
theorem LkAt.go {C : Addr} {H : Hp} {x : Addr} {a b : Int} {ls : List Pr} (k : LkAt C H x a b ls) {m : Str} (h : (¬ m = Str.ofString "first") ∧ (¬ m = Str.ofString "second") ∧ ¬ m = Str.ofString "links") : ∃ dx fs, H x = some (.ins C dx fs) ∧ fs.lookup m = none := by
  obtain ⟨dx, L, ys, h1, h2, h3⟩ := k.ob
  exact ⟨dx, _, h1, lFs_no _ _ _ h.1 h.2.1 h.2.2⟩
theorem m_then : (¬ (Str.ofString "then") = Str.ofString "first") ∧ (¬ (Str.ofString "then") = Str.ofString "second") ∧ ¬ (Str.ofString "then") = Str.ofString "links" := ⟨by decide +kernel, by decide +kernel, by decide +kernel⟩
theorem m_flip : (¬ (Str.ofString "flipped") = Str.ofString "first") ∧ (¬ (Str.ofString "flipped") = Str.ofString "second") ∧ ¬ (Str.ofString "flipped") = Str.ofString "links" := ⟨by decide +kernel, by decide +kernel, by decide +kernel⟩
theorem srt_cmp (l m : List Pr) : srt (cmp l m) = cmp l m := srt_srt _
theorem LkAt.txt {C : Addr} {H : Hp} {x : Addr} {a b : Int} {ls : List Pr} (k : LkAt C H x a b ls) : (lkText ls).length ≤ 100000 := (lk_showT (k.lk.small k.sz) (k.lk.few k.sz)).2.2.2
theorem cmp_r {a b c : Int} {l m : List Pr} (h : Lk a b l) (h' : Lk b c m) : cmp l (srt m) = cmp l m :=
  srt_ext (h.thenL h'.srt).nd (h.thenL h').nd fun q => by
    rw [mem_thenL h'.srt, mem_thenL h']
    simp only [srt_mem]
theorem cmp_l {a b c : Int} {l m : List Pr} (h : Lk a b l) (h' : Lk b c m) : cmp (srt l) m = cmp l m :=
  srt_ext (h.srt.thenL h').nd (h.thenL h').nd fun q => by
    rw [mem_thenL h', mem_thenL h']
    simp only [srt_mem]
theorem flp_srt {a b : Int} {l : List Pr} (h : Lk a b l) : flp (srt l) = flp l :=
  srt_ext h.srt.flpL.nd h.flpL.nd fun q => by rw [mem_flpL, mem_flpL, srt_mem]
structure Hel2 (C : Addr) (H : Hp) (p q S R R0 R1 R2 : Addr) (x0 x1 x2 : List V) (r0 r1 r2 : List Pr) (s0 s1 s2 s3 : Int) (x y z u v : Addr) : Prop where
  h : Held C H p q S R R0 R1 R2 x0 x1 x2 r0 r1 r2 s0 s1 s2 s3 x y z
  ab : LkAt C (wo p H) u s0 s2 (cmp r0 r1)
  bc : LkAt C (wo p H) v s1 s3 (cmp r1 r2)
theorem Hel2.keep {C : Addr} {H H' : Hp} {p q S R R0 R1 R2 : Addr} {x0 x1 x2 : List V} {r0 r1 r2 : List Pr} {s0 s1 s2 s3 : Int} {x y z u v : Addr} (h : Hel2 C H p q S R R0 R1 R2 x0 x1 x2 r0 r1 r2 s0 s1 s2 s3 x y z u v) (k : Keep H H' p) (hp : HandAt H' p q) : Hel2 C H' p q S R R0 R1 R2 x0 x1 x2 r0 r1 r2 s0 s1 s2 s3 x y z u v :=
  ⟨h.h.keep k hp, h.ab.keep (wo_keep k), h.bc.keep (wo_keep k)⟩
theorem Hel2.same {C : Addr} {H H' : Hp} {p q S R R0 R1 R2 : Addr} {x0 x1 x2 : List V} {r0 r1 r2 : List Pr} {s0 s1 s2 s3 : Int} {x y z u v : Addr} (h : Hel2 C H p q S R R0 R1 R2 x0 x1 x2 r0 r1 r2 s0 s1 s2 s3 x y z u v) (s : Same H H') : Hel2 C H' p q S R R0 R1 R2 x0 x1 x2 r0 r1 r2 s0 s1 s2 s3 x y z u v :=
  ⟨h.h.same s, h.ab.keep (wo_mono s), h.bc.keep (wo_mono s)⟩
theorem idL_lk' {n : Int} (h : 0 ≤ n) : Lk n n (idL n.toNat) := by
  have := idL_lk n.toNat
  rwa [Int.toNat_of_nonneg h] at this
theorem id_cmp' {n b : Int} {l : List Pr} (h : Lk n b l) (h0 : 0 ≤ n) : cmp (srt (idL n.toNat)) l = srt l := id_cmp (by rw [Int.toNat_of_nonneg h0]; exact h)
theorem cmp_id' {n a : Int} {l : List Pr} (h : Lk a n l) (h0 : 0 ≤ n) : cmp l (srt (idL n.toNat)) = srt l := cmp_id (by rw [Int.toNat_of_nonneg h0]; exact h)
theorem idL_succ (n : Nat) : idL (n + 1) = idL n ++ [((n : Int), (n : Int))] := by
  unfold idL
  rw [List.range_succ, List.map_append]
  rfl
structure Hel3 (C : Addr) (H : Hp) (p q S R R0 R1 R2 : Addr) (x0 x1 x2 : List V) (r0 r1 r2 : List Pr) (s0 s1 s2 s3 : Int) (x y z u v E e0 e1 e2 e3 : Addr) : Prop where
  h : Hel2 C H p q S R R0 R1 R2 x0 x1 x2 r0 r1 r2 s0 s1 s2 s3 x y z u v
  hE : wo p H E = some (.lst [.ref e0, .ref e1, .ref e2, .ref e3])
  k0 : LkAt C (wo p H) e0 s0 s0 (srt (idL s0.toNat))
  k1 : LkAt C (wo p H) e1 s1 s1 (srt (idL s1.toNat))
  k2 : LkAt C (wo p H) e2 s2 s2 (srt (idL s2.toNat))
  k3 : LkAt C (wo p H) e3 s3 s3 (srt (idL s3.toNat))
theorem Hel3.keep {C : Addr} {H H' : Hp} {p q S R R0 R1 R2 : Addr} {x0 x1 x2 : List V} {r0 r1 r2 : List Pr} {s0 s1 s2 s3 : Int} {x y z u v E e0 e1 e2 e3 : Addr} (h : Hel3 C H p q S R R0 R1 R2 x0 x1 x2 r0 r1 r2 s0 s1 s2 s3 x y z u v E e0 e1 e2 e3) (k : Keep H H' p) (hp : HandAt H' p q) : Hel3 C H' p q S R R0 R1 R2 x0 x1 x2 r0 r1 r2 s0 s1 s2 s3 x y z u v E e0 e1 e2 e3 :=
  ⟨h.h.keep k hp, wo_keep k _ _ h.hE, h.k0.keep (wo_keep k), h.k1.keep (wo_keep k), h.k2.keep (wo_keep k), h.k3.keep (wo_keep k)⟩
theorem Hel3.same {C : Addr} {H H' : Hp} {p q S R R0 R1 R2 : Addr} {x0 x1 x2 : List V} {r0 r1 r2 : List Pr} {s0 s1 s2 s3 : Int} {x y z u v E e0 e1 e2 e3 : Addr} (h : Hel3 C H p q S R R0 R1 R2 x0 x1 x2 r0 r1 r2 s0 s1 s2 s3 x y z u v E e0 e1 e2 e3) (s : Same H H') : Hel3 C H' p q S R R0 R1 R2 x0 x1 x2 r0 r1 r2 s0 s1 s2 s3 x y z u v E e0 e1 e2 e3 :=
  h.keep (fun b o e _ => s b o e) (h.h.h.hp.same s)
abbrev Z6 (a p : Addr) (mo : Int) (S R x y z : Addr) (v8 v9 v10 v11 v12 : Option V) (sz : Int) (v14 v15 : Option V) : L2.St := [some (.ref a), some (.ref p), some (.int mo), some (.ref S), some (.ref R), some (.ref x), some (.ref y), some (.ref z), v8, v9, v10, v11, v12, some (.int sz), v14, v15, none, none, none, none]
theorem selfL_succ {l : List Pr} {i : Nat} {q : Pr} (h : l[i]? = some q) : selfL (l.take (i + 1)) = selfL (l.take i) ++ [(q.1, q.1)] := by
  rw [take_succ_of h]
  unfold selfL
  rw [List.map_append]
  rfl
theorem cut1' (xs : List V) : cutV xs (some 1) none = xs.drop 1 := by
  cases xs with
  | nil => unfold cutV; simp
  | cons x xs =>
    unfold cutV
    have e1 : HT.sIx (x :: xs).length 0 (some 1) = 1 := by
      simp [HT.sIx]
      try omega
    have e2 : HT.sIx (x :: xs).length (x :: xs).length none = (x :: xs).length := rfl
    rw [e1, e2]
    simp
section
variable {P : Program} {w : World} {K : PySem.W.Frag} {mg : Str → Option Value} {base : Heap}
theorem body_law {fa C gI gE gF gP gT pF : Addr} {fdI dE dF dP dT : FuncData} (T : Bl mg) (B : Bm mg) (M : Ml mg) (R : Rp mg) (A : AllF P w K mg base C gI fdI gE gF gP gT pF dE dF dP dT) : LawBody P w K mg base NLaw "law" sLaw fa 6 := by
  intro cdv s H a ns hr hS hn
  obtain ⟨h1, d1, Hd⟩ := A.hand; obtain ⟨h2, d2, D⟩ := A.draw; obtain ⟨h3, d3, O⟩ := A.one; obtain ⟨h4, d4, Lk'⟩ := A.links; obtain ⟨h5, d5, Ch⟩ := A.chained; obtain ⟨h6, d6, Td⟩ := A.told
  have hr1 : Room 1 _ := hr.mono (by decide)
  have hr2 : Room 2 _ := hr.mono (by decide)
  have hr3 : Room 3 _ := hr.mono (by decide)
  have hr4 : Room 4 _ := hr.mono (by decide)
  have hr5 : Room 5 _ := hr.mono (by decide)
  refine ⟨_, (pss_cons (ps_set (i := 1) scLaw.nd rfl (Or.inr rfl) (pe_call Hd.G hr1 (by rfl) Hd.m Hd.kp Hd.b .nil pass0 (pa_cons (pv 0) pa_nil)))
    (pss_cons (ps_set (i := 2) scLaw.nd rfl (Or.inr rfl) (pe_call O.G hr3 (by rfl) O.m O.kp O.b .nil pass0 (pa_cons (pv 1) (pa_cons (pe_lst (pa_cons pe_int (pa_cons pe_int (pa_cons pe_int (pa_cons pe_int pa_nil))))) pa_nil))))
    (C8.pss_cut (ps_set (i := 3) scLaw.nd rfl (Or.inr rfl) (pe_lc (own := [("_law_k", 16)]) (g := gName 16) (tt := tYes) (by rfl) scLaw.nd (pi_range1 (by rfl) T.range (pa_cons pe_int pa_nil)) (blkOk_by (own := [("_law_k", 16)]) (N := NLaw) (sc := defScope sLaw) (by decide +kernel)) (fun _ _ _ _ _ => pg_name (i := 16) scLaw.nd rfl (Or.inl rfl)) (fun _ _ _ _ _ => pts_nil) (fun _ _ _ _ _ => (pe_call D.G hr2 (by rfl) D.m D.kp D.b .nil pass0 (pa_cons (pv 1) (pa_cons (pe_op op_add (pv 2) pe_int) pa_nil))))))
    (C8.pss_cut (ps_set (i := 4) scLaw.nd rfl (Or.inr rfl) (pe_lc (own := [("_law_k", 16)]) (g := gName 16) (tt := tYes) (by rfl) scLaw.nd (pi_range1 (by rfl) T.range (pa_cons pe_int pa_nil)) (blkOk_by (own := [("_law_k", 16)]) (N := NLaw) (sc := defScope sLaw) (by decide +kernel)) (fun _ _ _ _ _ => pg_name (i := 16) scLaw.nd rfl (Or.inl rfl)) (fun _ _ _ _ _ => pts_nil)
      (fun _ _ _ _ _ => (pe_call Lk'.G hr3 (by rfl) Lk'.m Lk'.kp Lk'.b .nil pass0 (pa_cons (pv 1) (pa_cons (pe_ix (ix_listK (K := K) rfl) (pv 3) (pv 16) (fun _ _ => rfl)) (pa_cons (pe_ix (ix_listK (K := K) rfl) (pv 3) (pe_op op_add (pv 16) pe_int) (fun _ _ => rfl)) (pa_cons (pe_call O.G hr3 (by rfl) O.m O.kp O.b .nil pass0 (pa_cons (pv 1) (pa_cons (pe_lst (pa_cons pe_int (pa_cons pe_int (pa_cons (pv 2) (pa_cons (pv 2) pa_nil))))) pa_nil))) pa_nil))))))))
    (C8.pss_cut (ps_asg (pe_lc (own := [("_law_k", 16)]) (g := gName 16) (tt := tYes) (by rfl) scLaw.nd (pi_range1 (by rfl) T.range (pa_cons pe_int pa_nil)) (blkOk_by (own := [("_law_k", 16)]) (N := NLaw) (sc := defScope sLaw) (by decide +kernel)) (fun _ _ _ _ _ => pg_name (i := 16) scLaw.nd rfl (Or.inl rfl)) (fun _ _ _ _ _ => pts_nil)
      (fun _ _ _ _ _ => (pe_make A.MK A.GI hr4 (by rfl) A.mK A.bI .nil pass0 (pa_cons (pe_ix (ix_listK (K := K) rfl) (pv 3) (pv 16) (fun _ _ => rfl)) (pa_cons (pe_ix (ix_listK (K := K) rfl) (pv 3) (pe_op op_add (pv 16) pe_int) (fun _ _ => rfl)) (pa_cons (pe_ix (ix_listK (K := K) rfl) (pv 4) (pv 16) (fun _ _ => rfl)) pa_nil)))))) (pg_lst rfl (pgs_cons (pg_name (i := 5) scLaw.nd rfl (.inl rfl)) (pgs_cons (pg_name (i := 6) scLaw.nd rfl (.inl rfl)) (pgs_cons (pg_name (i := 7) scLaw.nd rfl (.inl rfl)) pgs_nil)))))
    (pss_cons (ps_set (i := 8) scLaw.nd rfl (Or.inl rfl) (pe_op op_add_str (pe_op op_add_str (pe_callB (call_repr rfl hr.units) (by rfl) R.repr (by decide +kernel) (pa_cons (pe_fld (pv 5) rfl) pa_nil)) (pe_callB (call_repr rfl hr.units) (by rfl) R.repr (by decide +kernel) (pa_cons (pe_fld (pv 6) rfl) pa_nil))) (pe_callB (call_repr rfl hr.units) (by rfl) R.repr (by decide +kernel) (pa_cons (pe_fld (pv 7) rfl) pa_nil))))
    (pss_cons (ps_par (i := 9) (j := 10) rfl scLaw.nd rfl rfl (by decide) rfl rfl (pa_cons (pe_meth (pv 5) A.LX.cl A.MT A.GT hr5 A.bT .nil pass0 (pa_cons (pv 6) pa_nil)) (pa_cons (pe_meth (pv 6) A.LX.cl A.MT A.GT hr5 A.bT .nil pass0 (pa_cons (pv 7) pa_nil)) pa_nil)) (by rfl))
    (C8.pss_cut (ps_if (pt_not (pt_val (pe_call Td.G hr2 (by rfl) Td.m Td.kp Td.b .nil pass0 (pa_cons (pv 9) (pa_cons (pe_ix ix_list (pv 3) pe_int (fun _ _ => rfl)) (pa_cons (pe_ix ix_list (pv 3) pe_int (fun _ _ => rfl)) (pa_cons (pe_call Ch.G hr1 (by rfl) Ch.m Ch.kp Ch.b .nil pass0 (pa_cons (pe_ix ix_list (pv 4) pe_int (fun _ _ => rfl)) (pa_cons (pe_ix ix_list (pv 4) pe_int (fun _ _ => rfl)) pa_nil))) pa_nil))))))) (pss_one ps_never) pss_nil)
    (C8.pss_cut (ps_if (pt_not (pt_val (pe_call Td.G hr2 (by rfl) Td.m Td.kp Td.b .nil pass0 (pa_cons (pv 10) (pa_cons (pe_ix ix_list (pv 3) pe_int (fun _ _ => rfl)) (pa_cons (pe_ix ix_list (pv 3) pe_int (fun _ _ => rfl)) (pa_cons (pe_call Ch.G hr1 (by rfl) Ch.m Ch.kp Ch.b .nil pass0 (pa_cons (pe_ix ix_list (pv 4) pe_int (fun _ _ => rfl)) (pa_cons (pe_ix ix_list (pv 4) pe_int (fun _ _ => rfl)) pa_nil))) pa_nil))))))) (pss_one ps_never) pss_nil)
    (C8.pss_cut (ps_if (PW.pt (pw_or (pt_cmpR (op_neOwn A.LX.cm A.ne A.ME.at_ A.ME.fn (rawE A.GE A.bE) hr2 pass0) (pe_meth (pv 9) A.LX.cl A.MT A.GT hr5 A.bT .nil pass0 (pa_cons (pv 7) pa_nil)) (pe_meth (pv 5) A.LX.cl A.MT A.GT hr5 A.bT .nil pass0 (pa_cons (pv 10) pa_nil)) (nomark _)) (pw_or1 (pt_not (pt_val (pe_call Td.G hr2 (by rfl) Td.m Td.kp Td.b .nil pass0 (pa_cons (pe_meth (pv 9) A.LX.cl A.MT A.GT hr5 A.bT .nil pass0 (pa_cons (pv 7) pa_nil)) (pa_cons (pe_ix ix_list (pv 3) pe_int (fun _ _ => rfl)) (pa_cons (pe_ix ix_list (pv 3) pe_int (fun _ _ => rfl)) (pa_cons (pe_call Ch.G hr1 (by rfl) Ch.m Ch.kp Ch.b .nil pass0 (pa_cons (pe_call Ch.G hr1 (by rfl) Ch.m Ch.kp Ch.b .nil pass0 (pa_cons (pe_ix ix_list (pv 4) pe_int (fun _ _ => rfl)) (pa_cons (pe_ix ix_list (pv 4) pe_int (fun _ _ => rfl)) pa_nil))) (pa_cons (pe_ix ix_list (pv 4) pe_int (fun _ _ => rfl)) pa_nil))) pa_nil)))))))))) (pss_one ps_never) pss_nil)
    (C8.pss_cut (ps_if (PW.pt (pw_or (pt_cmpR (op_neOwn A.LX.cm A.ne A.ME.at_ A.ME.fn (rawE A.GE A.bE) hr2 pass0) (pe_meth0 (pv 9) A.LX.cl A.MP A.GP hr5 A.bP .nil pass0) (pe_meth (pe_meth0 (pv 6) A.LX.cl A.MP A.GP hr5 A.bP .nil pass0) A.LX.cl A.MT A.GT hr5 A.bT .nil pass0 (pa_cons (pe_meth0 (pv 5) A.LX.cl A.MP A.GP hr5 A.bP .nil pass0) pa_nil)) (nomark _)) (pw_or1 (pt_cmpR (op_neOwn A.LX.cm A.ne A.ME.at_ A.ME.fn (rawE A.GE A.bE) hr2 pass0) (pe_meth0 (pe_meth0 (pv 9) A.LX.cl A.MP A.GP hr5 A.bP .nil pass0) A.LX.cl A.MP A.GP hr5 A.bP .nil pass0) (pv 9) (nomark _))))) (pss_one ps_never) pss_nil)
    (C8.pss_cut (ps_setLc (i := 11) (own := [("_law_size", 13)]) (g := gName 13) (tt := tYes) (by rfl) scLaw.nd rfl rfl (sw_true rfl rfl rfl (by decide +kernel)) (pi_list (pv 3)) (blkOk_by (own := [("_law_size", 13)]) (N := NLaw) (sc := defScope sLaw) (by decide +kernel)) (fun _ _ _ _ _ => pg_name (i := 13) scLaw.nd rfl (.inl rfl)) (fun _ _ _ _ _ => pts_nil)
      (fun _ _ _ _ _ => (pe_make A.MK A.GI hr4 (by rfl) A.mK A.bI .nil pass0 (pa_cons (pv 13) (pa_cons (pv 13) (pa_cons (pe_lc (own := [("_law_k", 16)]) (g := gName 16) (tt := tYes) (by rfl) scLaw.nd (pi_range1 (by rfl) T.range (pa_cons (pv 13) pa_nil)) (blkOk_by (own := [("_law_k", 16)]) (N := NLaw) (sc := scEnds) (by decide +kernel)) (fun _ _ _ _ _ => pg_name (i := 16) scLaw.nd rfl (.inl rfl)) (fun _ _ _ _ _ => pts_nil) (fun _ _ _ _ _ => (pe_tup (pa_cons (pv 16) (pa_cons (pv 16) pa_nil))))) pa_nil))))))
    (C8.pss_cut (ps_if (PW.pt (pw_or (pt_cmpR (op_neOwn A.LX.cm A.ne A.ME.at_ A.ME.fn (rawE A.GE A.bE) hr2 pass0) (pe_meth (pe_ix ix_list (pv 11) pe_int (fun _ _ => rfl)) A.LX.cl A.MT A.GT hr5 A.bT .nil pass0 (pa_cons (pv 5) pa_nil)) (pv 5) (nomark _)) (pw_or (pt_cmpR (op_neOwn A.LX.cm A.ne A.ME.at_ A.ME.fn (rawE A.GE A.bE) hr2 pass0) (pe_meth (pv 5) A.LX.cl A.MT A.GT hr5 A.bT .nil pass0 (pa_cons (pe_ix ix_list (pv 11) pe_int (fun _ _ => rfl)) pa_nil)) (pv 5) (nomark _)) (pw_or1 (pt_not (pt_val (pe_callB (cr_all rfl) (by rfl) R.all (by decide +kernel) (pa_cons (pe_lc (own := [("_law_x", 17)]) (g := gName 17) (tt := tYes) (by rfl) scLaw.nd (pi_list (pv 11)) (blkOk_by (own := [("_law_x", 17)]) (N := NLaw) (sc := defScope sLaw) (by decide +kernel)) (fun _ _ _ _ _ => pg_name (i := 17) scLaw.nd rfl (.inl rfl)) (fun _ _ _ _ _ => pts_nil) (fun _ _ _ _ _ => (pe_cmpR op_is_bl (pe_prop (pv 17) A.LX.cl A.PF A.GF hr2 A.bF .nil pass0 (by rfl)) pe_bl (nomark _)))) pa_nil)))))))) (pss_one ps_never) pss_nil)
    (C8.pss_cut (ps_set (i := 12) scLaw.nd rfl (Or.inl rfl) (pe_meth (pv 5) A.LX.cl A.MT A.GT hr5 A.bT .nil pass0 (pa_cons (pe_meth0 (pv 5) A.LX.cl A.MP A.GP hr5 A.bP .nil pass0) pa_nil)))
    (C8.pss_cut (ps_if (pt_not (pt_val (pe_call Td.G hr2 (by rfl) Td.m Td.kp Td.b .nil pass0 (pa_cons (pv 12) (pa_cons (pe_ix ix_list (pv 3) pe_int (fun _ _ => rfl)) (pa_cons (pe_ix ix_list (pv 3) pe_int (fun _ _ => rfl)) (pa_cons (pe_lc (own := [("_law_near", 18), ("_law_far", 19)]) (g := gTup K 2 (gCons (gName 18) (gCons (gName 19) gNil))) (tt := tYes) (by rfl) scLaw.nd (pi_list (pe_ix ix_list (pv 4) pe_int (fun _ _ => rfl))) (blkOk_by (own := [("_law_near", 18), ("_law_far", 19)]) (N := NLaw) (sc := defScope sLaw) (by decide +kernel)) (fun _ _ _ _ _ => pg_tup rfl (pgs_cons (pg_name scLaw.nd rfl (.inl rfl)) (pgs_cons (pg_name scLaw.nd rfl (.inl rfl)) pgs_nil))) (fun _ _ _ _ _ => pts_nil) (fun _ _ _ _ _ => pe_tup (pa_cons (pv 18) (pa_cons (pv 18) pa_nil)))) pa_nil))))))) (pss_one ps_never) pss_nil)
    (C8.pss_cut (ps_if (pt_cmpR op_ne (pe_cmpR (op_eqOwn A.ME.at_ A.ME.fn (rawE A.GE A.bE) hr1 pass0) (pv 12) (pe_ix ix_list (pv 11) pe_int (fun _ _ => rfl)) (nomark _)) (pe_cmpR op_eq (pe_callB call_len_seq (by rfl) T.len PySem.boot_len (pa_cons (pe_ix ix_list (pv 4) pe_int (fun _ _ => rfl)) pa_nil)) (pe_ix ix_list (pv 3) pe_int (fun _ _ => rfl)) (nomark _)) (nomark _)) (pss_one ps_never) pss_nil)
    (pss_cons (ps_set (i := 13) scLaw.nd rfl (Or.inr rfl) (pe_ix ix_list (pv 3) pe_int (fun _ _ => rfl)))
    (C8.pss_cut (ps_asg (pe_lc (own := [("_law_k", 16)]) (g := gName 16) (tt := tYes) (by rfl) scLaw.nd (pi_range1 (by rfl) T.range (pa_cons pe_int pa_nil)) (blkOk_by (own := [("_law_k", 16)]) (N := NLaw) (sc := defScope sLaw) (by decide +kernel)) (fun _ _ _ _ _ => pg_name (i := 16) scLaw.nd rfl (Or.inl rfl)) (fun _ _ _ _ _ => pts_nil)
      (fun _ _ _ _ _ => (pe_make A.MK A.GI hr4 (by rfl) A.mK A.bI .nil pass0 (pa_cons (pv 13) (pa_cons (pv 13) (pa_cons (pe_call Lk'.G hr3 (by rfl) Lk'.m Lk'.kp Lk'.b .nil pass0 (pa_cons (pv 1) (pa_cons (pv 13) (pa_cons (pv 13) (pa_cons (pv 13) pa_nil))))) pa_nil)))))) (pg_lst rfl (pgs_cons (pg_name (i := 14) scLaw.nd rfl (.inl rfl)) (pgs_cons (pg_name (i := 15) scLaw.nd rfl (.inl rfl)) pgs_nil))))
    (C8.pss_cut (ps_if (PW.pt (pw_or (pt_cmpR (op_neOwn A.LX.cm A.ne A.ME.at_ A.ME.fn (rawE A.GE A.bE) hr2 pass0) (pe_meth (pv 14) A.LX.cl A.MT A.GT hr5 A.bT .nil pass0 (pa_cons (pe_meth0 (pv 14) A.LX.cl A.MP A.GP hr5 A.bP .nil pass0) pa_nil)) (pe_ix ix_list (pv 11) pe_int (fun _ _ => rfl)) (nomark _)) (pw_or (pt_cmpR (op_neOwn A.LX.cm A.ne A.ME.at_ A.ME.fn (rawE A.GE A.bE) hr2 pass0) (pe_meth (pe_meth0 (pv 14) A.LX.cl A.MP A.GP hr5 A.bP .nil pass0) A.LX.cl A.MT A.GT hr5 A.bT .nil pass0 (pa_cons (pv 14) pa_nil)) (pe_ix ix_list (pv 11) pe_int (fun _ _ => rfl)) (nomark _)) (pw_or1 (pt_cmpR op_isnot_bl (pe_prop (pe_meth (pv 14) A.LX.cl A.MT A.GT hr5 A.bT .nil pass0 (pa_cons (pv 15) pa_nil)) A.LX.cl A.PF A.GF hr2 A.bF .nil pass0 (by rfl)) pe_bl (nomark _)))))) (pss_one ps_never) pss_nil)
    (C8.pss_cut (ps_if (pt_cmpR (op_neOwn A.LX.cm A.ne A.ME.at_ A.ME.fn (rawE A.GE A.bE) hr2 pass0) (pe_meth (pe_meth (pv 14) A.LX.cl A.MT A.GT hr5 A.bT .nil pass0 (pa_cons (pv 15) pa_nil)) A.LX.cl A.MT A.GT hr5 A.bT .nil pass0 (pa_cons (pe_meth0 (pv 15) A.LX.cl A.MP A.GP hr5 A.bP .nil pass0) pa_nil)) (pv 14) (nomark _)) (pss_one ps_never) pss_nil)
    (C8.pss_cut (ps_if (PW.pt (pw_and (pt_cmpR op_gt (pv 13) pe_int (nomark _)) (pw_and1 (pt_cmpR op_isnot_bl (pe_prop (pe_meth (pv 14) A.LX.cl A.MT A.GT hr5 A.bT .nil pass0 (pa_cons (pe_make A.MK A.GI hr4 (by rfl) A.mK A.bI .nil pass0 (pa_cons (pv 13) (pa_cons (pv 13) (pa_cons (pe_slice sl_tup (pe_fld (pv 15) rfl) (po_some pe_int) po_none) pa_nil)))) pa_nil)) A.LX.cl A.PF A.GF hr2 A.bF .nil pass0 (by rfl)) pe_bl (nomark _))))) (pss_one ps_never) pss_nil)
    (pss_one (ps_ret (pe_and (pe_cmpR op_eq (pv 8) (pe_op op_add_str (pe_op op_add_str (pe_callB (call_repr rfl hr.units) (by rfl) R.repr (by decide +kernel) (pa_cons (pe_fld (pv 5) rfl) pa_nil)) (pe_callB (call_repr rfl hr.units) (by rfl) R.repr (by decide +kernel) (pa_cons (pe_fld (pv 6) rfl) pa_nil))) (pe_callB (call_repr rfl hr.units) (by rfl) R.repr (by decide +kernel) (pa_cons (pe_fld (pv 7) rfl) pa_nil))) (nomark _)) (pe_and (pe_cmpR (op_eqOwn A.ME.at_ A.ME.fn (rawE A.GE A.bE) hr1 pass0) (pe_meth (pv 5) A.LX.cl A.MT A.GT hr5 A.bT .nil pass0 (pa_cons (pv 6) pa_nil)) (pv 9) (nomark _)) (pe_one (pe_cmpR (op_eqOwn A.ME.at_ A.ME.fn (rawE A.GE A.bE) hr1 pass0) (pe_meth (pv 9) A.LX.cl A.MT A.GT hr5 A.bT .nil pass0 (pa_cons (pv 7) pa_nil)) (pe_meth (pv 5) A.LX.cl A.MT A.GT hr5 A.bT .nil pass0 (pa_cons (pv 10) pa_nil)) (nomark _)))))))))))))))))))))))))))), ?_⟩
  refine ⟨_, rfl, a, ns, rfl, hS, hn, fun p q H1 hp0 hq0 nqp hp1 s1 => ?_⟩
  refine ⟨_, rfl, (by show 4 ≤ sizeLine; decide), fun l hl => ?_⟩
  refine ⟨p, q, l, _, rfl, hp1.upd (hp1.ap hl) (hp1.aq hl), upd_same, hp1.ap hl, (by show 0 < 4; decide), (by show 4 ≤ 1000; decide), fun x H2 hx hp2 k2 => ?_⟩
  obtain ⟨mo, rfl, mo0, mo4⟩ : ∃ mo : Int, x = .int mo ∧ 1 ≤ mo ∧ mo ≤ 40 := by
    simp only [List.mem_cons, List.not_mem_nil, or_false] at hx
    rcases hx with e | e | e | e <;> exact ⟨_, e, by decide, by decide⟩
  clear hx hp1 k2 s1 hp0 hq0 hl
  -- the sizes
  refine ⟨fun σ H3 => ∃ (S : Addr) (s0 s1 s2 s3 : Int), σ = Z3 a p mo S ∧ HandAt H3 p q ∧ wo p H3 S = some (.lst [.int s0, .int s1, .int s2, .int s3]) ∧ (0 ≤ s0 ∧ s0 ≤ 40) ∧ (0 ≤ s1 ∧ s1 ≤ 40) ∧ (0 ≤ s2 ∧ s2 ≤ 40) ∧ 0 ≤ s3 ∧ s3 ≤ 40, ?_, ?_⟩
  · refine ⟨_, rfl, by decide, by decide, fun D' hD => ?_⟩
    have np := hp2.ap hD
    have nq := hp2.aq hD
    refine lc_range (n := 4) (fun i H3 => HandAt H3 p q ∧ ∃ zs : List Int, H3 D' = some (.lst (zs.map V.int)) ∧ zs.length = i ∧ ∀ z ∈ zs, 0 ≤ z ∧ z ≤ 40)
      ⟨hp2.upd np nq, [], upd_same, rfl, fun z hz => nomatch hz⟩ ?_ ?_
    · rintro i H3 hi ⟨hp3, zs, hz, zl, zb⟩
      refine ⟨rfl, ?_⟩
      refine ⟨_, rfl, _, rfl, _, _, rfl, rfl, p, q, mo + 1, rfl, hp3, by omega, by omega, fun z H4 z0 z1 hp4 k4 => ?_⟩
      refine ⟨zs.map V.int, k4 _ _ hz np, small1000 (by rw [List.length_map]; omega), hp4.upd np nq, zs ++ [z], by rw [upd_same, List.map_append]; rfl, by simp [zl], fun y hy => ?_⟩
      rcases List.mem_append.mp hy with hy | hy
      · exact zb y hy
      · rw [List.mem_singleton.mp hy]
        omega
    · rintro H3 ⟨hp3, zs, hz, zl, zb⟩
      match zs, zl, hz, zb with
      | [s0, s1, s2, s3], _, hz, zb =>
        exact ⟨D', s0, s1, s2, s3, rfl, hp3, wo_at hz np, zb _ (by simp), zb _ (by simp), zb _ (by simp), zb _ (by simp)⟩
  clear hp2
  rintro σ H3 ⟨S, s0, s1, s2, s3, rfl, hp3, hS3, b0, b1, b2, b3⟩
  -- the rows
  have at_ : ∀ i : Nat, i < 4 → atI [V.int s0, V.int s1, V.int s2, V.int s3] ((0 : Int) + (i : Nat)) = some (.int ([s0, s1, s2, s3].getD i 0)) := fun i hi => by
    match i, hi with
    | 0, _ => rfl
    | 1, _ => rfl
    | 2, _ => rfl
    | 3, _ => rfl
  have at1 : ∀ i : Nat, i < 3 → atI [V.int s0, V.int s1, V.int s2, V.int s3] ((0 : Int) + (i : Nat) + 1) = some (.int ([s0, s1, s2, s3].getD (i + 1) 0)) := fun i hi => by
    match i, hi with
    | 0, _ => rfl
    | 1, _ => rfl
    | 2, _ => rfl
  have bs : ∀ i : Nat, i < 4 → 0 ≤ [s0, s1, s2, s3].getD i 0 ∧ [s0, s1, s2, s3].getD i 0 ≤ 40 := fun i hi => by
    match i, hi with
    | 0, _ => exact b0
    | 1, _ => exact b1
    | 2, _ => exact b2
    | 3, _ => exact b3
  have zz : ∀ i : Nat, i < 3 → Sz ([s0, s1, s2, s3].getD i 0) ([s0, s1, s2, s3].getD (i + 1) 0) := fun i hi => ⟨(bs i (by omega)).1, (bs i (by omega)).2, (bs (i + 1) (by omega)).1, (bs (i + 1) (by omega)).2⟩
  refine ⟨fun σ H4 => ∃ (R : Addr) (Rs : List Addr) (xs : List (List V)) (rs : List (List Pr)), σ = Z4 a p mo S R ∧ HandAt H4 p q ∧ wo p H4 S = some (.lst [.int s0, .int s1, .int s2, .int s3]) ∧ wo p H4 R = some (.lst (Rs.map V.ref)) ∧ Rs.length = 3 ∧ xs.length = 3 ∧ rs.length = 3 ∧
    ∀ (j : Nat) (A' : Addr) (x : List V) (r : List Pr), Rs[j]? = some A' → xs[j]? = some x → rs[j]? = some r → wo p H4 A' = some (.lst x) ∧ PL (wo p H4) x r ∧ Lk ([s0, s1, s2, s3].getD j 0) ([s0, s1, s2, s3].getD (j + 1) 0) r, ?_, ?_⟩
  · refine ⟨_, rfl, by decide, by decide, fun D' hD => ?_⟩
    have np := hp3.ap hD
    have nq := hp3.aq hD
    have nS : D' ≠ S := (ne_of_none (wo_get hS3).1 hD).symm
    have hD0 : ∀ {c : Addr} {o : HO}, H3 c = some o → c ≠ D' := fun h => ne_of_none h hD
    refine lc_range (n := 3) (fun i H4 => HandAt H4 p q ∧ wo p H4 S = some (.lst [.int s0, .int s1, .int s2, .int s3]) ∧ ∃ (Rs : List Addr) (xs : List (List V)) (rs : List (List Pr)), H4 D' = some (.lst (Rs.map V.ref)) ∧ Rs.length = i ∧ xs.length = i ∧ rs.length = i ∧
      ∀ (j : Nat) (A' : Addr) (x : List V) (r : List Pr), Rs[j]? = some A' → xs[j]? = some x → rs[j]? = some r → A' ≠ D' ∧ wo p H4 A' = some (.lst x) ∧ PL (wo p H4) x r ∧ Lk ([s0, s1, s2, s3].getD j 0) ([s0, s1, s2, s3].getD (j + 1) 0) r)
      ⟨hp3.upd np nq, wo_mono (sameUpd (Same.refl _) hD) _ _ hS3, [], [], [], upd_same, rfl, rfl, rfl, fun j A' x r e _ _ => by cases e⟩ ?_ ?_
    · rintro i H4 hi ⟨hp4, hS4, Rs, xs, rs, hR, l1, l2, l3, each⟩
      refine ⟨rfl, ?_⟩
      have hS0 := (wo_get hS4).1
      refine ⟨_, rfl, _, rfl, _, rfl, S, _, _, _, rfl, rfl, SqL.of hS0, at_ i (by omega), ?_⟩
      refine ⟨_, rfl, _, rfl, _, _, rfl, rfl, S, _, _, _, rfl, rfl, SqL.of hS0, at1 i hi, ?_⟩
      refine ⟨_, rfl, _, rfl, _, rfl, (by show 4 ≤ sizeLine; decide), fun l hl => ?_⟩
      have hp5 := hp4.upd (o := .lst [.int 1, .int 2, .int mo, .int mo]) (hp4.ap hl) (hp4.aq hl)
      refine ⟨p, q, l, _, rfl, hp5, upd_same, hp4.ap hl, (by show 0 < 4; decide), (by show 4 ≤ 1000; decide), fun x H6 hx hp6 k6 => ?_⟩
      obtain ⟨m, rfl, m0, m4⟩ : ∃ m : Int, x = .int m ∧ 1 ≤ m ∧ m ≤ 40 := by
        simp only [List.mem_cons, List.not_mem_nil, or_false] at hx
        rcases hx with e | e | e | e
        · exact ⟨_, e, by decide, by decide⟩
        · exact ⟨_, e, by decide, by decide⟩
        · exact ⟨_, e, mo0, mo4⟩
        · exact ⟨_, e, mo0, mo4⟩
      refine ⟨p, q, _, _, m, rfl, hp6, zz i hi, by omega, m4, fun A' x r H7 hA nA fA pl lk _ hp7 k7 => ?_⟩
      have kk : Keep H4 H7 p := ((keepUpd Keep.refl hl).trans k6).trans k7
      have sw := wo_keep kk
      have hR7 := kk _ _ hR np
      have hR6 := k6 _ _ (sameUpd (Same.refl H4) hl _ _ hR) np
      have AD : A' ≠ D' := (ne_of_none hR6 fA).symm
      have sD : ∀ {c : Addr} {o : HO}, wo p H7 c = some o → c ≠ D' → wo p (upd H7 D' (.lst (Rs.map V.ref ++ [V.ref A']))) c = some o := fun h n => wo_at (by rw [upd_ne n]; exact (wo_get h).1) (wo_get h).2
      have pD : ∀ {x : List V} {r : List Pr}, PL (wo p H7) x r → PL (wo p (upd H7 D' (.lst (Rs.map V.ref ++ [V.ref A'])))) x r := fun h => h.keep'' fun {t vs} e => sD e fun z => by
        have := (wo_get e).1
        rw [z, hR7] at this
        cases this
      refine ⟨Rs.map V.ref, hR7, small1000 (by rw [List.length_map]; omega), hp7.upd np nq, sD (sw _ _ hS4) nS.symm, Rs ++ [A'], xs ++ [x], rs ++ [r], by rw [upd_same, List.map_append]; rfl, by simp [l1], by simp [l2], by simp [l3], fun j B' y t e1 e2 e3 => ?_⟩
      by_cases lt : j < i
      · rw [List.getElem?_append_left (by omega)] at e1 e2 e3
        obtain ⟨g1, g2, g3, g4⟩ := each j B' y t e1 e2 e3
        exact ⟨g1, sD (sw _ _ g2) g1, pD (g3.keep sw), g4⟩
      · have ej : j = i := by
          have := (List.getElem?_eq_some_iff.mp e1).1
          simp at this
          omega
        subst ej
        rw [List.getElem?_append_right (by omega), l1, Nat.sub_self] at e1
        rw [List.getElem?_append_right (by omega), l2, Nat.sub_self] at e2
        rw [List.getElem?_append_right (by omega), l3, Nat.sub_self] at e3
        cases e1; cases e2; cases e3
        exact ⟨AD, sD (wo_at hA nA) AD, pD (pl.wo hp7), lk⟩
    · rintro H4 ⟨hp4, hS4, Rs, xs, rs, hR, l1, l2, l3, each⟩
      exact ⟨D', Rs, xs, rs, rfl, hp4, hS4, wo_at hR np, l1, l2, l3, fun j A' x r e1 e2 e3 => (each j A' x r e1 e2 e3).2⟩
  clear hp3 hS3
  rintro σ H4 ⟨R, Rs, xs, rs, rfl, hp4, hS4, hR4, l1, l2, l3, each⟩
  obtain ⟨R0, R1, R2, rfl⟩ : ∃ R0 R1 R2, Rs = [R0, R1, R2] := by
    match Rs, l1 with
    | [R0, R1, R2], _ => exact ⟨_, _, _, rfl⟩
  obtain ⟨x0, x1, x2, rfl⟩ : ∃ x0 x1 x2, xs = [x0, x1, x2] := by
    match xs, l2 with
    | [x0, x1, x2], _ => exact ⟨_, _, _, rfl⟩
  obtain ⟨r0, r1, r2, rfl⟩ : ∃ r0 r1 r2, rs = [r0, r1, r2] := by
    match rs, l3 with
    | [r0, r1, r2], _ => exact ⟨_, _, _, rfl⟩
  -- the three likenesses
  have lkA : ∀ i : Nat, i < 3 → Lk ([s0, s1, s2, s3].getD i 0) ([s0, s1, s2, s3].getD (i + 1) 0) ([r0, r1, r2].getD i []) := fun i hi => by
    match i, hi with
    | 0, _ => exact (each 0 _ _ _ rfl rfl rfl).2.2
    | 1, _ => exact (each 1 _ _ _ rfl rfl rfl).2.2
    | 2, _ => exact (each 2 _ _ _ rfl rfl rfl).2.2
  refine ⟨fun σ H5 => ∃ x y z : Addr, σ = Z5 a p mo S R x y z none none none none none none none none ∧ Held C H5 p q S R R0 R1 R2 x0 x1 x2 r0 r1 r2 s0 s1 s2 s3 x y z, ?_, ?_⟩
  · have hS0 := (wo_get hS4).1
    have hR0 := (wo_get hR4).1
    have atR : ∀ i : Nat, i < 3 → atI [V.ref R0, V.ref R1, V.ref R2] ((0 : Int) + (i : Nat)) = some (.ref ([R0, R1, R2].getD i 0)) := fun i hi => by
      match i, hi with
      | 0, _ => rfl
      | 1, _ => rfl
      | 2, _ => rfl
    have rowA : ∀ i : Nat, i < 3 → H4 ([R0, R1, R2].getD i 0) = some (.lst ([x0, x1, x2].getD i [])) ∧ PL H4 ([x0, x1, x2].getD i []) ([r0, r1, r2].getD i []) := fun i hi => by
      match i, hi with
      | 0, _ => exact ⟨(wo_get (each 0 _ _ _ rfl rfl rfl).1).1, (each 0 _ _ _ rfl rfl rfl).2.1.keep wo_same⟩
      | 1, _ => exact ⟨(wo_get (each 1 _ _ _ rfl rfl rfl).1).1, (each 1 _ _ _ rfl rfl rfl).2.1.keep wo_same⟩
      | 2, _ => exact ⟨(wo_get (each 2 _ _ _ rfl rfl rfl).1).1, (each 2 _ _ _ rfl rfl rfl).2.1.keep wo_same⟩
    refine ⟨_, rfl, by decide, by decide, fun D' hD => ?_⟩
    refine lc_range (n := 3) (fun i H5 => Same H4 H5 ∧ ∃ cs : List Addr, H5 D' = some (.lst (cs.map V.ref)) ∧ cs.length = i ∧ ∀ (j : Nat) (c : Addr), cs[j]? = some c → LkAt C H5 c ([s0, s1, s2, s3].getD j 0) ([s0, s1, s2, s3].getD (j + 1) 0) (srt ([r0, r1, r2].getD j [])))
      ⟨sameUpd (Same.refl _) hD, [], upd_same, rfl, fun j c e => by cases e⟩ ?_ ?_
    · rintro i H5 hi ⟨s5, cs, hcs, cl, each5⟩
      refine ⟨rfl, ?_⟩
      refine ⟨_, rfl, _, rfl, S, _, _, _, rfl, rfl, SqL.of (s5 _ _ hS0), at_ i (by omega), ?_⟩
      refine ⟨_, rfl, _, rfl, _, _, rfl, rfl, S, _, _, _, rfl, rfl, SqL.of (s5 _ _ hS0), at1 i hi, ?_⟩
      refine ⟨_, rfl, _, rfl, R, _, _, _, rfl, rfl, SqL.of (s5 _ _ hR0), atR i hi, ?_⟩
      obtain ⟨ro, rp⟩ := rowA i hi
      refine makeL (.inl (s5 _ _ ro)) (rp.keep s5) (lkA i hi) (zz i hi) fun y H6 fy s6 ka => ?_
      have yD : ∀ {c : Addr} {o : HO}, H6 c = some o → (∀ ws, o ≠ .lst ws) → upd H6 D' (.lst (cs.map V.ref ++ [V.ref y])) c = some o := fun {c o} h n => by
        rw [upd_ne (fun e => by rw [e, s6 _ _ hcs] at h; exact n _ (Option.some.inj h).symm)]
        exact h
      have lkD : ∀ {c : Addr} {u v : Int} {ls : List Pr}, LkAt C H6 c u v ls → LkAt C (upd H6 D' (.lst (cs.map V.ref ++ [V.ref y]))) c u v ls := fun h => by
        obtain ⟨dx, L, ys, g1, g2, g3⟩ := h.ob
        exact ⟨⟨dx, L, ys, yD g1 (fun _ z => nomatch z), yD g2 (fun _ z => nomatch z), g3.keep'' fun e => yD e fun _ z => nomatch z⟩, h.lk, h.sz⟩
      refine ⟨cs.map V.ref, s6 _ _ hcs, small1000 (by rw [List.length_map]; omega), fun c o e => ?_, cs ++ [y], by rw [upd_same, List.map_append]; rfl, by simp [cl], fun j c e => ?_⟩
      · rw [upd_ne (ne_of_none e hD)]
        exact s6 _ _ (s5 _ _ e)
      · by_cases lt : j < i
        · rw [List.getElem?_append_left (by omega)] at e
          exact lkD ((each5 j c e).keep s6)
        · have ej : j = i := by
            have := (List.getElem?_eq_some_iff.mp e).1
            simp at this
            omega
          subst ej
          rw [List.getElem?_append_right (by omega), cl, Nat.sub_self] at e
          cases e
          exact lkD ka
    · rintro H5 ⟨s5, cs, hcs, cl, each5⟩
      match cs, cl, hcs, each5 with
      | [x, y, z], _, hcs, each5 =>
        have hp5 := hp4.same s5
        have sw := wo_mono (p := p) s5
        refine ⟨D', _, rfl, SqL.of hcs, rfl, _, _, rfl, _, _, rfl, _, _, rfl, rfl, x, y, z, rfl, hp5, sw _ _ hS4, sw _ _ hR4, sw _ _ (each 0 _ _ _ rfl rfl rfl).1, sw _ _ (each 1 _ _ _ rfl rfl rfl).1, sw _ _ (each 2 _ _ _ rfl rfl rfl).1, (each 0 _ _ _ rfl rfl rfl).2.1.keep sw, (each 1 _ _ _ rfl rfl rfl).2.1.keep sw, (each 2 _ _ _ rfl rfl rfl).2.1.keep sw, (each5 0 _ rfl).wo hp5, (each5 1 _ rfl).wo hp5, (each5 2 _ rfl).wo hp5⟩
  have lk0 : Lk s0 s1 r0 := (each 0 _ _ _ rfl rfl rfl).2.2
  have lk1 : Lk s1 s2 r1 := (each 1 _ _ _ rfl rfl rfl).2.2
  have lk2 : Lk s2 s3 r2 := (each 2 _ _ _ rfl rfl rfl).2.2
  clear hp4 hS4 hR4 each lkA l1 l2 l3 at_ at1 zz bs
  rintro σ H5 ⟨x, y, z, rfl, held⟩
  -- the texts
  have ka := held.ka.keep wo_same
  have kb := held.kb.keep wo_same
  have kc := held.kc.keep wo_same
  obtain ⟨da, La, ha, ra⟩ := ka.rep K
  obtain ⟨db, Lb, hb, rb⟩ := kb.rep K
  obtain ⟨dc, Lc, hc, rc⟩ := kc.rep K
  have ta := ka.txt
  have tb := kb.txt
  have tc := kc.txt
  refine ⟨_, rfl, x, C, da, _, _, rfl, ha, A.LX.cl, A.LX.nL, lFs_links _ _ _, La, _, rfl, ra.1, ra.2.1, ra.2.2.1, ra.2.2.2.1, ra.2.2.2.2, ?_⟩
  refine ⟨_, rfl, y, C, db, _, _, rfl, hb, A.LX.cl, A.LX.nL, lFs_links _ _ _, Lb, _, rfl, rb.1, rb.2.1, rb.2.2.1, rb.2.2.2.1, rb.2.2.2.2, ?_⟩
  refine ⟨_, _, rfl, rfl, (by rw [sizeLine_eq]; exact Nat.le_trans (Nat.add_le_add ta tb) (by decide)), ?_⟩
  refine ⟨_, rfl, z, C, dc, _, _, rfl, hc, A.LX.cl, A.LX.nL, lFs_links _ _ _, Lc, _, rfl, rc.1, rc.2.1, rc.2.2.1, rc.2.2.2.1, rc.2.2.2.2, ?_⟩
  refine ⟨_, _, rfl, rfl, (by rw [sizeLine_eq]; exact Nat.le_trans (Nat.add_le_add (by rw [show ((PyData.tuple ((srt r0).map pdI)).shown ++ (PyData.tuple ((srt r1).map pdI)).shown).length = (lkText (srt r0)).length + (lkText (srt r1)).length from Array.size_append]; exact Nat.add_le_add ta tb) tc) (by decide)), ?_⟩
  generalize hkt : (PyData.tuple ((srt r0).map pdI)).shown ++ (PyData.tuple ((srt r1).map pdI)).shown ++ (PyData.tuple ((srt r2).map pdI)).shown = kt
  -- led on
  obtain ⟨dx, fs, g1, g2⟩ := ka.go m_then
  refine ⟨_, rfl, x, dx, fs, rfl, g1, g2, _, rfl, x, y, _, _, _, _, _, rfl, ka, kb, fun u H6 s6 ku => ?_⟩
  obtain ⟨dy, fs', g1', g2'⟩ := (kb.keep s6).go m_then
  refine ⟨_, rfl, y, dy, fs', rfl, g1', g2', _, rfl, y, z, _, _, _, _, _, rfl, kb.keep s6, kc.keep s6, fun v H7 s7 kv => ?_⟩
  have ku7 := ku.keep s7
  rw [cmp_srt lk0 lk1] at ku7
  rw [cmp_srt lk1 lk2] at kv
  have held7 := held.same (s6.trans s7)
  refine ⟨_, _, rfl, ?_⟩
  clear ka kb kc ha hb hc ra rb rc g1 g2 g1' g2' s6 s7 held ku
  have kab := ku7.wo held7.hp
  have kbc := kv.wo held7.hp
  clear ku7 kv
  have z0 := held7.ka.sz
  have z1 := held7.kb.sz
  have z2 := held7.kc.sz
  have lkab := lk0.cmp lk1
  have lkbc := lk1.cmp lk2
  have hel : Hel2 C H7 p q S R R0 R1 R2 x0 x1 x2 r0 r1 r2 s0 s1 s2 s3 x y z u v := ⟨held7, kab, kbc⟩
  clear held7 kab kbc
  -- told: ab
  refine ⟨fun σ H8 => σ = Z5 a p mo S R x y z (some (.str kt)) (some (.ref u)) (some (.ref v)) none none none none none ∧ Hel2 C H8 p q S R R0 R1 R2 x0 x1 x2 r0 r1 r2 s0 s1 s2 s3 x y z u v, ?_, ?_⟩
  · have hS := (wo_get hel.h.hS).1
    have hR := (wo_get hel.h.hR).1
    refine ⟨_, rfl, _, rfl, S, _, _, _, rfl, rfl, SqL.of hS, rfl, _, rfl, S, _, _, _, rfl, rfl, SqL.of hS, rfl, ?_⟩
    refine ⟨_, rfl, R, _, _, _, rfl, rfl, SqL.of hR, rfl, _, rfl, R, _, _, _, rfl, rfl, SqL.of hR, rfl, ?_⟩
    refine ⟨R0, R1, x0, x1, r0, r1, s0, s1, s2, rfl, (wo_get hel.h.h0).1, hel.h.p0.keep wo_same, (wo_get hel.h.h1).1, hel.h.p1.keep wo_same, lk0, lk1, z0, fun l zs H8 s8 _ hl pz => ?_⟩
    refine ⟨u, l, s0, s2, zs, cmp r0 r1, rfl, by rw [srt_cmp]; exact (hel.ab.keep wo_same).keep s8, hl, pz, fun H9 s9 => ⟨_, rfl, iteF ?_⟩⟩
    exact ⟨rfl, hel.same (s8.trans s9)⟩
  clear hel
  rintro σ H8 ⟨rfl, hel⟩
  -- told: bc
  refine ⟨fun σ H8 => σ = Z5 a p mo S R x y z (some (.str kt)) (some (.ref u)) (some (.ref v)) none none none none none ∧ Hel2 C H8 p q S R R0 R1 R2 x0 x1 x2 r0 r1 r2 s0 s1 s2 s3 x y z u v, ?_, ?_⟩
  · have hS := (wo_get hel.h.hS).1
    have hR := (wo_get hel.h.hR).1
    refine ⟨_, rfl, _, rfl, S, _, _, _, rfl, rfl, SqL.of hS, rfl, _, rfl, S, _, _, _, rfl, rfl, SqL.of hS, rfl, ?_⟩
    refine ⟨_, rfl, R, _, _, _, rfl, rfl, SqL.of hR, rfl, _, rfl, R, _, _, _, rfl, rfl, SqL.of hR, rfl, ?_⟩
    refine ⟨R1, R2, x1, x2, r1, r2, s1, s2, s3, rfl, (wo_get hel.h.h1).1, hel.h.p1.keep wo_same, (wo_get hel.h.h2).1, hel.h.p2.keep wo_same, lk1, lk2, z1, fun l zs H8 s8 _ hl pz => ?_⟩
    refine ⟨v, l, s1, s3, zs, cmp r1 r2, rfl, by rw [srt_cmp]; exact (hel.bc.keep wo_same).keep s8, hl, pz, fun H9 s9 => ⟨_, rfl, iteF ?_⟩⟩
    exact ⟨rfl, hel.same (s8.trans s9)⟩
  clear hel
  rintro σ H9 ⟨rfl, hel⟩
  -- led on three times
  refine ⟨fun σ H8 => σ = Z5 a p mo S R x y z (some (.str kt)) (some (.ref u)) (some (.ref v)) none none none none none ∧ Hel2 C H8 p q S R R0 R1 R2 x0 x1 x2 r0 r1 r2 s0 s1 s2 s3 x y z u v, ?_, ?_⟩
  · have ka := hel.h.ka.keep wo_same
    have kc := hel.h.kc.keep wo_same
    have kab := hel.ab.keep wo_same
    have kbc := hel.bc.keep wo_same
    obtain ⟨d1', f1', g1, g2⟩ := kab.go m_then
    refine ⟨_, rfl, u, d1', f1', rfl, g1, g2, _, rfl, u, z, _, _, _, _, _, rfl, kab, kc, fun m Ha sa km => ?_⟩
    obtain ⟨d2', f2', g3, g4⟩ := (ka.keep sa).go m_then
    refine ⟨_, rfl, x, d2', f2', rfl, g3, g4, _, rfl, x, v, _, _, _, _, _, rfl, ka.keep sa, kbc.keep sa, fun n Hb sb kn => ?_⟩
    have km := km.keep sb
    rw [cmp_r lkab lk2] at km
    rw [cmp_l lk0 lkbc, ← cmp_assoc lk0 lk1 lk2] at kn
    obtain ⟨dm, fm, e1, _⟩ := km.go m_then
    obtain ⟨dn, fn, e2, _⟩ := kn.go m_then
    refine ⟨m, dm, fm, n, dn, fn, rfl, e1, rfl, e2, m, n, _, _, _, _, _, _, rfl, km, kn, _, rfl, _, rfl, ?_⟩
    rw [decide_eq_true (show s0 = s0 ∧ s3 = s3 ∧ cmp (cmp r0 r1) r2 = cmp (cmp r0 r1) r2 from ⟨rfl, rfl, rfl⟩)]
    refine iteF ?_
    have sab := sa.trans sb
    obtain ⟨d3', f3', g5, g6⟩ := (kab.keep sab).go m_then
    refine ⟨_, rfl, u, d3', f3', rfl, g5, g6, _, rfl, u, z, _, _, _, _, _, rfl, kab.keep sab, kc.keep sab, fun m' Hc sc km' => ?_⟩
    rw [cmp_r lkab lk2] at km'
    have s3' := sab.trans sc
    have hel' := hel.same s3'
    have hS := (wo_get hel'.h.hS).1
    have hR := (wo_get hel'.h.hR).1
    refine ⟨_, rfl, S, _, _, _, rfl, rfl, SqL.of hS, rfl, _, rfl, S, _, _, _, rfl, rfl, SqL.of hS, rfl, ?_⟩
    refine ⟨_, rfl, R, _, _, _, rfl, rfl, SqL.of hR, rfl, _, rfl, R, _, _, _, rfl, rfl, SqL.of hR, rfl, ?_⟩
    refine ⟨R0, R1, x0, x1, r0, r1, s0, s1, s2, rfl, (wo_get hel'.h.h0).1, hel'.h.p0.keep wo_same, (wo_get hel'.h.h1).1, hel'.h.p1.keep wo_same, lk0, lk1, z0, fun l zs H8 s8 _ hl pz => ?_⟩
    have hel8 := hel'.same s8
    refine ⟨_, rfl, R, _, _, _, rfl, rfl, SqL.of (s8 _ _ hR), rfl, ?_⟩
    refine ⟨l, R2, zs, x2, cmp r0 r1, r2, s0, s2, s3, rfl, hl, pz, (wo_get hel8.h.h2).1, hel8.h.p2.keep wo_same, lkab, lk2, hel8.ab.sz, fun l' zs' H10 s10 _ hl' pz' => ?_⟩
    refine ⟨m', l', s0, s3, zs', cmp (cmp r0 r1) r2, rfl, by rw [srt_cmp]; exact (km'.keep s8).keep s10, hl', pz', fun H11 s11 => ⟨_, rfl, iteF ?_⟩⟩
    exact ⟨rfl, hel8.same (s10.trans s11)⟩
  clear hel
  rintro σ H10 ⟨rfl, hel⟩
  -- flipped
  refine ⟨fun σ H8 => σ = Z5 a p mo S R x y z (some (.str kt)) (some (.ref u)) (some (.ref v)) none none none none none ∧ Hel2 C H8 p q S R R0 R1 R2 x0 x1 x2 r0 r1 r2 s0 s1 s2 s3 x y z u v, ?_, ?_⟩
  · have ka := hel.h.ka.keep wo_same
    have kb := hel.h.kb.keep wo_same
    have kab := hel.ab.keep wo_same
    obtain ⟨d1', f1', g1, g2⟩ := kab.go m_flip
    refine ⟨_, rfl, u, d1', f1', rfl, g1, g2, u, _, _, _, rfl, kab, fun m Ha sa km => ?_⟩
    obtain ⟨d2', f2', g3, g4⟩ := (kb.keep sa).go m_flip
    refine ⟨_, rfl, y, d2', f2', rfl, g3, g4, y, _, _, _, rfl, kb.keep sa, fun n Hb sb kn => ?_⟩
    obtain ⟨d3', f3', g5, g6⟩ := kn.go m_then
    refine ⟨n, d3', f3', rfl, g5, g6, ?_⟩
    have sab := sa.trans sb
    obtain ⟨d4', f4', g7, g8⟩ := (ka.keep sab).go m_flip
    refine ⟨_, rfl, x, d4', f4', rfl, g7, g8, x, _, _, _, rfl, ka.keep sab, fun n' Hc sc kn' => ?_⟩
    refine ⟨n, n', _, _, _, _, _, rfl, kn.keep sc, kn', fun t Hd sd kt' => ?_⟩
    rw [flp_srt lk1, flp_srt lk0, ← flp_cmp lk0 lk1] at kt'
    have km := ((km.keep sb).keep sc).keep sd
    obtain ⟨dm, fm, e1, _⟩ := km.go m_then
    obtain ⟨dn, fn, e2, _⟩ := kt'.go m_then
    refine ⟨m, dm, fm, t, dn, fn, rfl, e1, rfl, e2, m, t, _, _, _, _, _, _, rfl, km, kt', _, rfl, _, rfl, ?_⟩
    rw [decide_eq_true (show s2 = s2 ∧ s0 = s0 ∧ flp (cmp r0 r1) = flp (cmp r0 r1) from ⟨rfl, rfl, rfl⟩)]
    refine iteF ?_
    have sd' := (sab.trans sc).trans sd
    obtain ⟨d5', f5', g9, g10⟩ := (kab.keep sd').go m_flip
    refine ⟨_, rfl, u, d5', f5', rfl, g9, g10, u, _, _, _, rfl, kab.keep sd', fun t1 He se kt1 => ?_⟩
    obtain ⟨d6', f6', g11, g12⟩ := kt1.go m_flip
    refine ⟨t1, d6', f6', rfl, g11, g12, t1, _, _, _, rfl, kt1, fun t2 Hf sf kt2 => ?_⟩
    rw [flp_flp lkab, srt_cmp] at kt2
    have kab2 := (kab.keep sd').keep (se.trans sf)
    obtain ⟨dm, fm, e1, _⟩ := kt2.go m_then
    obtain ⟨dn, fn, e2, _⟩ := kab2.go m_then
    refine ⟨_, rfl, t2, dm, fm, u, dn, fn, rfl, e1, rfl, e2, t2, u, _, _, _, _, _, _, rfl, kt2, kab2, _, rfl, _, rfl, ?_⟩
    rw [decide_eq_true (show s0 = s0 ∧ s2 = s2 ∧ cmp r0 r1 = cmp r0 r1 from ⟨rfl, rfl, rfl⟩)]
    exact iteF ⟨rfl, hel.same ((sd'.trans se).trans sf)⟩
  clear hel
  rintro σ H11 ⟨rfl, hel⟩
  -- the full ones of each with itself
  refine ⟨fun σ H8 => ∃ E e0 e1 e2 e3 : Addr, σ = Z5 a p mo S R x y z (some (.str kt)) (some (.ref u)) (some (.ref v)) (some (.ref E)) none none none none ∧ Hel3 C H8 p q S R R0 R1 R2 x0 x1 x2 r0 r1 r2 s0 s1 s2 s3 x y z u v E e0 e1 e2 e3, ?_, ?_⟩
  · have hS := (wo_get hel.h.hS).1
    refine ⟨_, rfl, S, rfl, ⟨_, SqL.of hS⟩, fun D' hD => ?_⟩
    refine lc_list (K := K) (a := S) (xs := [.int s0, .int s1, .int s2, .int s3]) (fun i H3 => Same H11 H3 ∧ ∃ cs : List Addr, H3 D' = some (.lst (cs.map V.ref)) ∧ cs.length = i ∧ ∀ (j : Nat) (c : Addr), cs[j]? = some c → LkAt C H3 c ([s0, s1, s2, s3].getD j 0) ([s0, s1, s2, s3].getD j 0) (srt (idL ([s0, s1, s2, s3].getD j 0).toNat)))
      ⟨sameUpd (Same.refl _) hD, [], upd_same, rfl, fun j c e => by cases e⟩ (fun i H3 _ w => SqL.of (w.1 _ _ hS)) ?_ ?_
    · rintro i t H3 hi ⟨s3', cs, hcs, cl, each5⟩
      obtain ⟨i4, rfl⟩ : i < 4 ∧ t = .int ([s0, s1, s2, s3].getD i 0) := by
        match i, hi with
        | 0, hi => cases hi; exact ⟨by decide, rfl⟩
        | 1, hi => cases hi; exact ⟨by decide, rfl⟩
        | 2, hi => cases hi; exact ⟨by decide, rfl⟩
        | 3, hi => cases hi; exact ⟨by decide, rfl⟩
      have bi : 0 ≤ [s0, s1, s2, s3].getD i 0 ∧ [s0, s1, s2, s3].getD i 0 ≤ 40 := by
        match i, i4 with
        | 0, _ => exact b0
        | 1, _ => exact b1
        | 2, _ => exact b2
        | 3, _ => exact b3
      generalize hs : [s0, s1, s2, s3].getD i 0 = sz at bi
      refine ⟨rfl, ?_⟩
      refine ⟨_, rfl, _, rfl, _, rfl, _, rfl, by omega, by omega, fun D2 hD2 => ?_⟩
      refine lc_range (n := sz.toNat) (fun k H4 => Same H3 H4 ∧ ∃ zs, H4 D2 = some (.lst zs) ∧ PL H4 zs (idL k))
        ⟨sameUpd (Same.refl _) hD2, [], upd_same, .nil⟩ ?_ ?_
      · rintro k H4 hk ⟨s4, zs, hz, pz⟩
        refine ⟨rfl, ?_⟩
        refine ⟨_, rfl, _, rfl, (by show 2 ≤ sizeLine; decide), fun w hw => ?_⟩
        have wD : w ≠ D2 := (ne_of_none hz hw).symm
        have zl : zs.length = k := by rw [pz.len, idL_len]
        refine ⟨zs, by rw [upd_ne wD.symm]; exact hz, small1000 (by omega), fun c o e => ?_, zs ++ [.ref w], upd_same, ?_⟩
        · rw [upd_ne (ne_of_none e hD2), upd_ne (ne_of_none (s4 c o e) hw)]
          exact s4 c o e
        · rw [idL_succ]
          refine PL.keep' (PL.app (pz.keep (sameUpd (Same.refl _) hw)) (PL.one (q := ((k : Int), (k : Int))) ?_)) fun {t vs} h z => ?_
          · rw [upd_same, Int.zero_add]
          · rw [z, upd_ne wD.symm, hz] at h
            cases h
      · rintro H4 ⟨s4, zs, hz, pz⟩
        refine makeL (.inl hz) pz (idL_lk' bi.1) ⟨bi.1, bi.2, bi.1, bi.2⟩ fun w H6 fw s6 kw => ?_
        have sD : Same H3 H6 := s4.trans s6
        have yD : ∀ {c : Addr} {o : HO}, H6 c = some o → (∀ ws, o ≠ .lst ws) → upd H6 D' (.lst (cs.map V.ref ++ [V.ref w])) c = some o := fun {c o} h n => by
          rw [upd_ne (fun e => by rw [e, sD _ _ hcs] at h; exact n _ (Option.some.inj h).symm)]
          exact h
        have lkD : ∀ {c : Addr} {f g : Int} {ls : List Pr}, LkAt C H6 c f g ls → LkAt C (upd H6 D' (.lst (cs.map V.ref ++ [V.ref w]))) c f g ls := fun h => by
          obtain ⟨dx, L, ys, g1, g2, g3⟩ := h.ob
          exact ⟨⟨dx, L, ys, yD g1 (fun _ z => nomatch z), yD g2 (fun _ z => nomatch z), g3.keep'' fun e => yD e fun _ z => nomatch z⟩, h.lk, h.sz⟩
        refine ⟨cs.map V.ref, sD _ _ hcs, small1000 (by rw [List.length_map]; omega), fun c o e => ?_, cs ++ [w], by rw [upd_same, List.map_append]; rfl, by simp [cl], fun j c e => ?_⟩
        · rw [upd_ne (ne_of_none e hD)]
          exact sD _ _ (s3' _ _ e)
        · by_cases lt : j < i
          · rw [List.getElem?_append_left (by omega)] at e
            exact lkD ((each5 j c e).keep sD)
          · have ej : j = i := by
              have := (List.getElem?_eq_some_iff.mp e).1
              simp at this
              omega
            subst ej
            rw [List.getElem?_append_right (by omega), cl, Nat.sub_self] at e
            cases e
            rw [hs]
            exact lkD kw
    · rintro H3 ⟨s3', cs, hcs, cl, each5⟩
      match cs, cl, hcs, each5 with
      | [e0, e1, e2, e3], _, hcs, each5 =>
        have hel' := hel.same s3'
        have np := (hel.h.hp.ap hD)
        exact ⟨D', e0, e1, e2, e3, rfl, hel', wo_at hcs np, (each5 0 _ rfl).wo hel'.h.hp, (each5 1 _ rfl).wo hel'.h.hp, (each5 2 _ rfl).wo hel'.h.hp, (each5 3 _ rfl).wo hel'.h.hp⟩
  clear hel
  rintro σ H12 ⟨E, e0, e1, e2, e3, rfl, hel⟩
  have nf : PySem.W.notFirst K C (.ref C) = true := by simp [PySem.W.notFirst]
  -- they change nothing, and are full
  refine ⟨fun σ H8 => σ = Z5 a p mo S R x y z (some (.str kt)) (some (.ref u)) (some (.ref v)) (some (.ref E)) none none none none ∧ Hel3 C H8 p q S R R0 R1 R2 x0 x1 x2 r0 r1 r2 s0 s1 s2 s3 x y z u v E e0 e1 e2 e3, ?_, ?_⟩
  · have ka := hel.h.h.ka.keep wo_same
    have k0 := hel.k0.keep wo_same
    have k1 := hel.k1.keep wo_same
    have hE := (wo_get hel.hE).1
    obtain ⟨d1', f1', g1, g2⟩ := k0.go m_then
    refine ⟨_, rfl, E, _, _, _, rfl, rfl, SqL.of hE, rfl, e0, d1', f1', rfl, g1, g2, _, rfl, e0, x, _, _, _, _, _, rfl, k0, ka, fun m Ha sa km => ?_⟩
    rw [id_cmp' lk0.srt b0.1, srt_srt] at km
    have ka1 := ka.keep sa
    obtain ⟨dm, fm, h1', _⟩ := km.go m_then
    obtain ⟨dn, fn, h2', _⟩ := ka1.go m_then
    refine ⟨_, rfl, m, dm, fm, x, dn, fn, rfl, h1', rfl, h2', m, x, _, _, _, _, _, _, rfl, km, ka1, _, rfl, _, rfl, ?_⟩
    rw [decide_eq_true (show s0 = s0 ∧ s1 = s1 ∧ srt r0 = srt r0 from ⟨rfl, rfl, rfl⟩)]
    refine iteF ?_
    obtain ⟨d2', f2', g3, g4⟩ := ka1.go m_then
    refine ⟨_, rfl, x, d2', f2', rfl, g3, g4, _, rfl, E, _, _, _, rfl, rfl, SqL.of (sa _ _ hE), rfl, x, e1, _, _, _, _, _, rfl, ka1, k1.keep sa, fun m' Hb sb km' => ?_⟩
    rw [cmp_id' lk0.srt b1.1, srt_srt] at km'
    have ka2 := ka1.keep sb
    obtain ⟨dm, fm, h1', _⟩ := km'.go m_then
    obtain ⟨dn, fn, h2', _⟩ := ka2.go m_then
    refine ⟨_, rfl, m', dm, fm, x, dn, fn, rfl, h1', rfl, h2', m', x, _, _, _, _, _, _, rfl, km', ka2, _, rfl, _, rfl, ?_⟩
    rw [decide_eq_true (show s0 = s0 ∧ s1 = s1 ∧ srt r0 = srt r0 from ⟨rfl, rfl, rfl⟩)]
    refine iteF ?_
    have sab := sa.trans sb
    have hel' := hel.same sab
    refine ⟨_, rfl, E, rfl, ⟨_, SqL.of (sab _ _ hE)⟩, fun D' hD => ?_⟩
    refine lc_list (K := K) (a := E) (xs := [.ref e0, .ref e1, .ref e2, .ref e3]) (fun i H3 => Same Hb H3 ∧ H3 D' = some (.lst ((List.replicate i true).map V.bl)))
      ⟨sameUpd (Same.refl _) hD, upd_same⟩ (fun i H3 _ w => SqL.of (w.1 _ _ (sab _ _ hE))) ?_ ?_
    · rintro i t H3 hi ⟨s3', hDs⟩
      obtain ⟨i4, e', s', rfl, ke'⟩ : i < 4 ∧ ∃ (e' : Addr) (s' : Int), t = .ref e' ∧ LkAt C (wo p Hb) e' s' s' (srt (idL s'.toNat)) := by
        match i, hi with
        | 0, hi => cases hi; exact ⟨by decide, _, _, rfl, hel'.k0⟩
        | 1, hi => cases hi; exact ⟨by decide, _, _, rfl, hel'.k1⟩
        | 2, hi => cases hi; exact ⟨by decide, _, _, rfl, hel'.k2⟩
        | 3, hi => cases hi; exact ⟨by decide, _, _, rfl, hel'.k3⟩
      have ke3 := (ke'.keep wo_same).keep s3'
      obtain ⟨dm, fm, h1', _⟩ := ke3.go m_then
      refine ⟨rfl, ?_⟩
      refine ⟨_, rfl, e', dm, fm, rfl, h1', e', _, _, _, rfl, ke3, ?_⟩
      have fl : decide (s' = ((srt (idL s'.toNat)).length : Nat) ∧ s' = ((srt (idL s'.toNat)).length : Nat)) = true := decide_eq_true (by
        rw [srt_len, idL_len]
        have := ke'.sz.a0
        omega)
      rw [fl]
      refine ⟨true, true, rfl, rfl, _, hDs, small1000 (by rw [List.length_map, List.length_replicate]; omega), fun c o e => ?_, ?_⟩
      · rw [upd_ne (ne_of_none e hD)]
        exact s3' c o e
      · rw [upd_same, List.replicate_succ', List.map_append]
        rfl
    · rintro H3 ⟨s3', hDs⟩
      refine ⟨D', List.replicate 4 true, rfl, SqL.of hDs, _, rfl, iteF ?_⟩
      exact ⟨rfl, hel'.same s3'⟩
  clear hel
  rintro σ H13 ⟨rfl, hel⟩
  -- there and back
  have tol : ((srt (selfL r0) = srt (idL s0.toNat)) ↔ ((x0.length : Nat) : Int) = s0) := by
    have e := back_id (n := s0.toNat) (b := s1) (l := r0) (by rw [Int.toNat_of_nonneg b0.1]; exact lk0)
    rw [e, hel.h.h.p0.len]
    have := b0.1
    omega
  refine ⟨fun σ H8 => ∃ w : Addr, σ = Z5 a p mo S R x y z (some (.str kt)) (some (.ref u)) (some (.ref v)) (some (.ref E)) (some (.ref w)) none none none ∧ Hel3 C H8 p q S R R0 R1 R2 x0 x1 x2 r0 r1 r2 s0 s1 s2 s3 x y z u v E e0 e1 e2 e3 ∧ LkAt C (wo p H8) w s0 s0 (srt (selfL r0)), ?_, ?_⟩
  · have ka := hel.h.h.ka.keep wo_same
    obtain ⟨d1', f1', g1, g2⟩ := ka.go m_then
    refine ⟨_, rfl, x, d1', f1', rfl, g1, g2, ?_⟩
    obtain ⟨d2', f2', g3, g4⟩ := ka.go m_flip
    refine ⟨_, rfl, x, d2', f2', rfl, g3, g4, x, _, _, _, rfl, ka, fun m Ha sa km => ?_⟩
    refine ⟨x, m, _, _, _, _, _, rfl, ka.keep sa, km, fun w Hb sb kw => ?_⟩
    rw [flp_srt lk0, cmp_l lk0 lk0.flp, cmp_back lk0] at kw
    have hel' := hel.same (sa.trans sb)
    exact ⟨w, rfl, hel', kw.wo hel'.h.h.hp⟩
  clear hel
  rintro σ H14 ⟨w', rfl, hel, kw⟩
  refine ⟨fun σ H8 => σ = Z5 a p mo S R x y z (some (.str kt)) (some (.ref u)) (some (.ref v)) (some (.ref E)) (some (.ref w')) none none none ∧ Hel3 C H8 p q S R R0 R1 R2 x0 x1 x2 r0 r1 r2 s0 s1 s2 s3 x y z u v E e0 e1 e2 e3 ∧ LkAt C (wo p H8) w' s0 s0 (srt (selfL r0)), ?_, ?_⟩
  · have hS := (wo_get hel.h.h.hS).1
    have hR := (wo_get hel.h.h.hR).1
    have h0 := (wo_get hel.h.h.h0).1
    have p0 := hel.h.h.p0.keep wo_same
    have xl := p0.len
    have few := lk0.few z0
    refine ⟨_, rfl, _, rfl, S, _, _, _, rfl, rfl, SqL.of hS, rfl, _, rfl, S, _, _, _, rfl, rfl, SqL.of hS, rfl, ?_⟩
    refine ⟨_, rfl, R, _, _, _, rfl, rfl, SqL.of hR, rfl, R0, rfl, ⟨_, SqL.of h0⟩, fun D' hD => ?_⟩
    refine lc_list (K := K) (a := R0) (xs := x0) (fun i H3 => Same H14 H3 ∧ ∃ zs, H3 D' = some (.lst zs) ∧ PL H3 zs (selfL (r0.take i)))
      ⟨sameUpd (Same.refl _) hD, [], upd_same, .nil⟩ (fun i H3 _ w => SqL.of (w.1 _ _ h0)) ?_ ?_
    · rintro i t H3 hi ⟨s3', zs, hz, pz⟩
      obtain ⟨t', qq, rfl, hq, ht⟩ := (p0.keep s3').at_ hi
      have lti : i < r0.length := (List.getElem?_eq_some_iff.mp hq).1
      refine ⟨t', _, rfl, SqT.of ht, rfl, _, _, rfl, _, _, rfl, rfl, rfl, ?_⟩
      refine ⟨_, rfl, _, rfl, (by show 2 ≤ sizeLine; decide), fun w hw => ?_⟩
      have wD : w ≠ D' := (ne_of_none hz hw).symm
      have zl : zs.length ≤ i := by rw [pz.len]; unfold selfL; rw [List.length_map, List.length_take]; omega
      refine ⟨zs, by rw [upd_ne wD.symm]; exact hz, small1000 (by omega), fun c o e => ?_, zs ++ [.ref w], upd_same, ?_⟩
      · rw [upd_ne (ne_of_none e hD), upd_ne (ne_of_none (s3' c o e) hw)]
        exact s3' c o e
      · rw [selfL_succ hq]
        refine PL.keep' (PL.app (pz.keep (sameUpd (Same.refl _) hw)) (PL.one (q := (qq.1, qq.1)) upd_same)) fun {t vs} h z => ?_
        rw [z, upd_ne wD.symm, hz] at h
        cases h
    · rintro H3 ⟨s3', zs, hz, pz⟩
      rw [xl, List.take_length] at pz
      refine ⟨w', D', s0, s0, zs, selfL r0, rfl, (kw.keep wo_same).keep s3', hz, pz, fun H9 s9 => ⟨_, rfl, iteF ?_⟩⟩
      have sx := s3'.trans s9
      exact ⟨rfl, hel.same sx, kw.keep (wo_mono sx)⟩
  clear hel kw
  rintro σ H15 ⟨rfl, hel, kw⟩
  refine ⟨fun σ H8 => σ = Z5 a p mo S R x y z (some (.str kt)) (some (.ref u)) (some (.ref v)) (some (.ref E)) (some (.ref w')) none none none ∧ Hel3 C H8 p q S R R0 R1 R2 x0 x1 x2 r0 r1 r2 s0 s1 s2 s3 x y z u v E e0 e1 e2 e3, ?_, ?_⟩
  · have hS := (wo_get hel.h.h.hS).1
    have hR := (wo_get hel.h.h.hR).1
    have hE := (wo_get hel.hE).1
    have h0 := (wo_get hel.h.h.h0).1
    have kw1 := kw.keep wo_same
    have k0 := hel.k0.keep wo_same
    obtain ⟨dm, fm, h1', _⟩ := kw1.go m_then
    obtain ⟨dn, fn, h2', _⟩ := k0.go m_then
    refine ⟨_, rfl, _, rfl, E, _, _, _, rfl, rfl, SqL.of hE, rfl, w', dm, fm, rfl, h1', .inl ⟨e0, dn, fn, C, rfl, h2', nf⟩, w', e0, _, _, _, _, _, _, rfl, kw1, k0, _, rfl, ?_⟩
    refine ⟨_, rfl, R, _, _, _, rfl, rfl, SqL.of hR, rfl, R0, _, rfl, .inl (SqL.of h0), _, rfl, S, _, _, _, rfl, rfl, SqL.of hS, rfl, rfl, ?_⟩
    have e1 : decide (s0 = s0 ∧ s0 = s0 ∧ srt (selfL r0) = srt (idL s0.toNat)) = decide (V.int (x0.length : Nat) = V.int s0) := by
      by_cases t : ((x0.length : Nat) : Int) = s0
      · rw [decide_eq_true (show s0 = s0 ∧ s0 = s0 ∧ _ from ⟨rfl, rfl, tol.mpr t⟩), decide_eq_true (congrArg V.int t)]
      · rw [decide_eq_false (fun c => t (tol.mp c.2.2)), decide_eq_false (fun c => t (V.int.inj c))]
    rw [e1]
    exact ⟨rfl, _, rfl, iteNS rfl ⟨rfl, hel⟩⟩
  clear hel kw
  rintro σ H16 ⟨rfl, hel⟩
  -- two full ones
  have sS : H16 S = some (.lst [.int s0, .int s1, .int s2, .int s3]) := (wo_get hel.h.h.hS).1
  refine ⟨_, rfl, S, _, _, _, rfl, rfl, SqL.of sS, rfl, ?_⟩
  refine ⟨fun σ H8 => ∃ (f g : Addr) (fl gl : List Pr), σ = Z6 a p mo S R x y z (some (.str kt)) (some (.ref u)) (some (.ref v)) (some (.ref E)) (some (.ref w')) s3 (some (.ref f)) (some (.ref g)) ∧ Hel3 C H8 p q S R R0 R1 R2 x0 x1 x2 r0 r1 r2 s0 s1 s2 s3 x y z u v E e0 e1 e2 e3 ∧ LkAt C (wo p H8) f s3 s3 (srt fl) ∧ LkAt C (wo p H8) g s3 s3 (srt gl) ∧ Lk s3 s3 fl ∧ Lk s3 s3 gl ∧ ((fl.length : Nat) : Int) = s3 ∧ ((gl.length : Nat) : Int) = s3, ?_, ?_⟩
  · refine ⟨_, rfl, by decide, by decide, fun D' hD => ?_⟩
    have np := hel.h.h.hp.ap hD
    have nq := hel.h.h.hp.aq hD
    have kD : Keep H16 (upd H16 D' (.lst [])) p := keepUpd Keep.refl hD
    have off : ∀ {c : Addr} {o : HO}, H16 c = some o → c ≠ D' := fun h => ne_of_none h hD
    refine lc_range (n := 2) (fun i H4 => HandAt H4 p q ∧ Keep H16 H4 p ∧ ∃ (cs : List Addr) (ls : List (List Pr)), H4 D' = some (.lst (cs.map V.ref)) ∧ cs.length = i ∧ ls.length = i ∧
      ∀ (j : Nat) (c : Addr) (l : List Pr), cs[j]? = some c → ls[j]? = some l → LkAt C (wo p H4) c s3 s3 (srt l) ∧ Lk s3 s3 l ∧ ((l.length : Nat) : Int) = s3)
      ⟨hel.h.h.hp.upd np nq, kD, [], [], upd_same, rfl, rfl, fun j c l e _ => by cases e⟩ ?_ ?_
    · rintro i H4 hi ⟨hp4, k4, cs, ls, hcs, l1, l2, each⟩
      refine ⟨rfl, ?_⟩
      refine ⟨_, rfl, _, rfl, _, rfl, _, rfl, _, rfl, _, rfl, p, q, s3, s3, s3, rfl, hp4, ⟨b3.1, b3.2, b3.1, b3.2⟩, b3.1, b3.2, fun l xs ll H5 hl nl fl pl lk le hp5 k5 => ?_⟩
      refine makeL (.inl hl) pl lk ⟨b3.1, b3.2, b3.1, b3.2⟩ fun y H6 fy s6 ka => ?_
      have hcs6 := s6 _ _ (k5 _ _ hcs np)
      have yD : ∀ {c : Addr} {o : HO}, H6 c = some o → (∀ ws, o ≠ .lst ws) → upd H6 D' (.lst (cs.map V.ref ++ [V.ref y])) c = some o := fun {c o} h n => by
        rw [upd_ne (fun e => by rw [e, hcs6] at h; exact n _ (Option.some.inj h).symm)]
        exact h
      have lkD : ∀ {c : Addr} {f g : Int} {ls : List Pr}, LkAt C H6 c f g ls → LkAt C (upd H6 D' (.lst (cs.map V.ref ++ [V.ref y]))) c f g ls := fun h => by
        obtain ⟨dx, L, ys, g1, g2, g3⟩ := h.ob
        exact ⟨⟨dx, L, ys, yD g1 (fun _ z => nomatch z), yD g2 (fun _ z => nomatch z), g3.keep'' fun e => yD e fun _ z => nomatch z⟩, h.lk, h.sz⟩
      have hp7 := (hp5.same s6).upd (o := .lst (cs.map V.ref ++ [V.ref y])) np nq
      refine ⟨cs.map V.ref, hcs6, small1000 (by rw [List.length_map]; omega), hp7, fun c o e n => ?_, cs ++ [y], ls ++ [ll], by rw [upd_same, List.map_append]; rfl, by simp [l1], by simp [l2], fun j c l' e1 e2 => ?_⟩
      · rw [upd_ne (off e)]
        exact s6 _ _ (k5 _ _ (k4 c o e n) n)
      · by_cases lt : j < i
        · rw [List.getElem?_append_left (by omega)] at e1 e2
          obtain ⟨g1, g2, g3⟩ := each j c l' e1 e2
          exact ⟨(lkD (((g1.keep (wo_keep k5)).keep wo_same).keep s6)).wo hp7, g2, g3⟩
        · have ej : j = i := by
            have := (List.getElem?_eq_some_iff.mp e1).1
            simp at this
            omega
          subst ej
          rw [List.getElem?_append_right (by omega), l1, Nat.sub_self] at e1
          rw [List.getElem?_append_right (by omega), l2, Nat.sub_self] at e2
          cases e1; cases e2
          exact ⟨(lkD ka).wo hp7, lk, by omega⟩
    · rintro H4 ⟨hp4, k4, cs, ls, hcs, l1, l2, each⟩
      match cs, l1, ls, l2, hcs, each with
      | [f, g], _, [fl, gl], _, hcs, each =>
        obtain ⟨f1, f2, f3⟩ := each 0 _ _ rfl rfl
        obtain ⟨g1, g2, g3⟩ := each 1 _ _ rfl rfl
        exact ⟨D', _, rfl, SqL.of hcs, rfl, _, _, rfl, _, _, rfl, rfl, f, g, fl, gl, rfl, hel.keep k4 hp4, f1, g1, f2, g2, f3, g3⟩
  clear hel sS
  rintro σ H17 ⟨f, g, fl, gl, rfl, hel, kf, kg, lf, lg, nfl, ngl⟩
  have nI : ((s3.toNat : Nat) : Int) = s3 := Int.toNat_of_nonneg b3.1
  have lfN : Lk (s3.toNat : Int) (s3.toNat : Int) (srt fl) := by rw [nI]; exact lf.srt
  have lgN : Lk (s3.toNat : Int) (s3.toNat : Int) (srt gl) := by rw [nI]; exact lg.srt
  have fe : (srt fl).length = s3.toNat := by rw [srt_len]; omega
  have ge : (srt gl).length = s3.toNat := by rw [srt_len]; omega
  have lfg : (cmp (srt fl) (srt gl)).length = s3.toNat := by rw [cmp_len lfN lgN ge, fe]
  refine ⟨fun σ H8 => σ = Z6 a p mo S R x y z (some (.str kt)) (some (.ref u)) (some (.ref v)) (some (.ref E)) (some (.ref w')) s3 (some (.ref f)) (some (.ref g)) ∧ Hel3 C H8 p q S R R0 R1 R2 x0 x1 x2 r0 r1 r2 s0 s1 s2 s3 x y z u v E e0 e1 e2 e3 ∧ LkAt C (wo p H8) f s3 s3 (srt fl) ∧ LkAt C (wo p H8) g s3 s3 (srt gl), ?_, ?_⟩
  · have kf1 := kf.keep wo_same
    have kg1 := kg.keep wo_same
    have k3 := hel.k3.keep wo_same
    have hE := (wo_get hel.hE).1
    obtain ⟨d1', f1', g1, g2⟩ := kf1.go m_then
    refine ⟨_, rfl, f, d1', f1', rfl, g1, g2, ?_⟩
    obtain ⟨d2', f2', g3, g4⟩ := kf1.go m_flip
    refine ⟨_, rfl, f, d2', f2', rfl, g3, g4, f, _, _, _, rfl, kf1, fun m Ha sa km => ?_⟩
    refine ⟨f, m, _, _, _, _, _, rfl, kf1.keep sa, km, fun w Hb sb kw => ?_⟩
    rw [full_back lfN fe] at kw
    have sab := sa.trans sb
    have k3b := k3.keep sab
    obtain ⟨dm, fm, h1', _⟩ := kw.go m_then
    obtain ⟨dn, fn, h2', _⟩ := k3b.go m_then
    refine ⟨_, rfl, E, _, _, _, rfl, rfl, SqL.of (sab _ _ hE), rfl, w, dm, fm, e3, dn, fn, rfl, h1', rfl, h2', w, e3, _, _, _, _, _, _, rfl, kw, k3b, _, rfl, _, rfl, ?_⟩
    rw [decide_eq_true (show s3 = s3 ∧ s3 = s3 ∧ srt (idL s3.toNat) = srt (idL s3.toNat) from ⟨rfl, rfl, rfl⟩)]
    refine iteF ?_
    have kf2 := kf1.keep sab
    obtain ⟨d3', f3', g5, g6⟩ := kf2.go m_flip
    refine ⟨_, rfl, f, d3', f3', rfl, g5, g6, f, _, _, _, rfl, kf2, fun m2 Hc sc km2 => ?_⟩
    obtain ⟨d4', f4', g7, g8⟩ := km2.go m_then
    refine ⟨m2, d4', f4', rfl, g7, g8, _, rfl, m2, f, _, _, _, _, _, rfl, km2, kf2.keep sc, fun w2 Hd sd kw2 => ?_⟩
    rw [full_flp lfN fe] at kw2
    have sd' := (sab.trans sc).trans sd
    have k3d := k3.keep sd'
    obtain ⟨dm, fm, h1', _⟩ := kw2.go m_then
    obtain ⟨dn, fn, h2', _⟩ := k3d.go m_then
    refine ⟨_, rfl, E, _, _, _, rfl, rfl, SqL.of (sd' _ _ hE), rfl, w2, dm, fm, e3, dn, fn, rfl, h1', rfl, h2', w2, e3, _, _, _, _, _, _, rfl, kw2, k3d, _, rfl, _, rfl, ?_⟩
    rw [decide_eq_true (show s3 = s3 ∧ s3 = s3 ∧ srt (idL s3.toNat) = srt (idL s3.toNat) from ⟨rfl, rfl, rfl⟩)]
    refine iteF ?_
    have kf3 := kf1.keep sd'
    obtain ⟨d5', f5', g9, g10⟩ := kf3.go m_then
    refine ⟨_, rfl, f, d5', f5', rfl, g9, g10, _, rfl, f, g, _, _, _, _, _, rfl, kf3, kg1.keep sd', fun w3 He se kw3 => ?_⟩
    obtain ⟨dm, fm, h1', _⟩ := kw3.go m_then
    refine ⟨w3, dm, fm, rfl, h1', w3, _, _, _, rfl, kw3, ?_⟩
    rw [show decide (s3 = ((cmp (srt fl) (srt gl)).length : Nat) ∧ s3 = ((cmp (srt fl) (srt gl)).length : Nat)) = true from decide_eq_true (by rw [lfg]; omega)]
    refine ⟨true, true, rfl, rfl, _, rfl, iteF ?_⟩
    have sx := sd'.trans se
    exact ⟨rfl, hel.same sx, kf.keep (wo_mono sx), kg.keep (wo_mono sx)⟩
  clear hel kf kg
  rintro σ H18 ⟨rfl, hel, kf, kg⟩
  refine ⟨fun σ H8 => σ = Z6 a p mo S R x y z (some (.str kt)) (some (.ref u)) (some (.ref v)) (some (.ref E)) (some (.ref w')) s3 (some (.ref f)) (some (.ref g)) ∧ Hel3 C H8 p q S R R0 R1 R2 x0 x1 x2 r0 r1 r2 s0 s1 s2 s3 x y z u v E e0 e1 e2 e3 ∧ LkAt C (wo p H8) f s3 s3 (srt fl) ∧ LkAt C (wo p H8) g s3 s3 (srt gl), ?_, ?_⟩
  · have kf1 := kf.keep wo_same
    have kg1 := kg.keep wo_same
    obtain ⟨d1', f1', g1, g2⟩ := kf1.go m_then
    refine ⟨_, rfl, f, d1', f1', rfl, g1, g2, _, rfl, f, g, _, _, _, _, _, rfl, kf1, kg1, fun m Ha sa km => ?_⟩
    obtain ⟨d2', f2', g3, g4⟩ := km.go m_then
    refine ⟨m, d2', f2', rfl, g3, g4, ?_⟩
    obtain ⟨d3', f3', g5, g6⟩ := (kg1.keep sa).go m_flip
    refine ⟨_, rfl, g, d3', f3', rfl, g5, g6, g, _, _, _, rfl, kg1.keep sa, fun n Hb sb kn => ?_⟩
    refine ⟨m, n, _, _, _, _, _, rfl, km.keep sb, kn, fun w Hc sc kw => ?_⟩
    rw [cmp_assoc lf.srt lg.srt lg.srt.flp, full_back lgN ge, cmp_id' lf.srt b3.1, srt_srt] at kw
    have sx := (sa.trans sb).trans sc
    have kf2 := kf1.keep sx
    obtain ⟨dm, fm, h1', _⟩ := kw.go m_then
    obtain ⟨dn, fn, h2', _⟩ := kf2.go m_then
    refine ⟨_, rfl, w, dm, fm, f, dn, fn, rfl, h1', rfl, h2', w, f, _, _, _, _, _, _, rfl, kw, kf2, _, rfl, _, rfl, ?_⟩
    rw [decide_eq_true (show s3 = s3 ∧ s3 = s3 ∧ srt fl = srt fl from ⟨rfl, rfl, rfl⟩)]
    exact iteF ⟨rfl, hel.same sx, kf.keep (wo_mono sx), kg.keep (wo_mono sx)⟩
  clear hel kf kg
  rintro σ H19 ⟨rfl, hel, kf, kg⟩
  refine ⟨fun σ H8 => σ = Z6 a p mo S R x y z (some (.str kt)) (some (.ref u)) (some (.ref v)) (some (.ref E)) (some (.ref w')) s3 (some (.ref f)) (some (.ref g)) ∧ Hel3 C H8 p q S R R0 R1 R2 x0 x1 x2 r0 r1 r2 s0 s1 s2 s3 x y z u v E e0 e1 e2 e3, ?_, ?_⟩
  · refine ⟨_, rfl, _, _, rfl, rfl, _, rfl, ?_⟩
    refine ite2 (fun hpos => ?_) (fun _ => ⟨rfl, hel⟩)
    have hpos : 0 < s3 := of_decide_eq_true hpos
    have kf1 := kf.keep wo_same
    have kg1 := kg.keep wo_same
    obtain ⟨d1', f1', g1, g2⟩ := kf1.go m_then
    refine ⟨_, rfl, f, d1', f1', rfl, g1, g2, ?_⟩
    obtain ⟨dg, Lg, ys, h1', h2', h3'⟩ := kg1.ob
    have yl := h3'.len
    have ylp : 0 < ys.length := by rw [yl, ge]; omega
    refine ⟨_, rfl, _, rfl, _, rfl, g, C, dg, _, _, rfl, h1', A.LX.cl, A.LX.nL, lFs_links _ _ _, _, rfl, Lg, ys, rfl, SqT.of h2', ?_, fun t ht => ?_⟩
    · rintro ⟨e1, _⟩
      have e2 : HT.sIx ys.length 0 (some 1) = 1 := by
        simp [HT.sIx]
        try omega
      rw [e2] at e1
      exact absurd e1 (by decide)
    · rw [cut1'] at *
      have sa : Same H19 (upd H19 t (.tup (ys.drop 1))) := sameUpd (Same.refl _) ht
      have ld : Lk s3 s3 ((srt gl).drop 1) := lg.srt.sub (List.drop_sublist _ _)
      refine makeL (.inr upd_same) ((h3'.keep sa).drop1) ld ⟨b3.1, b3.2, b3.1, b3.2⟩ fun n Hb _ sb kn => ?_
      have sab := sa.trans sb
      refine ⟨f, n, _, _, _, _, _, rfl, kf1.keep sab, kn, fun w Hc sc kw => ?_⟩
      obtain ⟨dm, fm, h4', _⟩ := kw.go m_then
      refine ⟨w, dm, fm, rfl, h4', w, _, _, _, rfl, kw, ?_⟩
      have short : (cmp (srt fl) (srt ((srt gl).drop 1))).length < s3.toNat := by
        have := cmp_len_le2 lf.srt ld.srt
        rw [srt_len, List.length_drop, ge] at this
        omega
      rw [show decide (s3 = ((cmp (srt fl) (srt ((srt gl).drop 1))).length : Nat) ∧ s3 = ((cmp (srt fl) (srt ((srt gl).drop 1))).length : Nat)) = false from decide_eq_false (fun e => by have := e.1; omega)]
      exact ⟨false, false, rfl, rfl, _, rfl, iteF ⟨rfl, hel.same (sab.trans sc)⟩⟩
  clear hel kf kg
  rintro σ H20 ⟨rfl, hel⟩
  -- the end
  have ka := hel.h.h.ka.keep wo_same
  have kb := hel.h.h.kb.keep wo_same
  have kc := hel.h.h.kc.keep wo_same
  have kab := hel.h.ab.keep wo_same
  have kbc := hel.h.bc.keep wo_same
  obtain ⟨da, La, ha, ra⟩ := ka.rep K
  obtain ⟨db, Lb, hb, rb⟩ := kb.rep K
  obtain ⟨dc, Lc, hc, rc⟩ := kc.rep K
  refine ⟨_, rfl, _, rfl, x, C, da, _, _, rfl, ha, A.LX.cl, A.LX.nL, lFs_links _ _ _, La, _, rfl, ra.1, ra.2.1, ra.2.2.1, ra.2.2.2.1, ra.2.2.2.2, ?_⟩
  refine ⟨_, rfl, y, C, db, _, _, rfl, hb, A.LX.cl, A.LX.nL, lFs_links _ _ _, Lb, _, rfl, rb.1, rb.2.1, rb.2.2.1, rb.2.2.2.1, rb.2.2.2.2, ?_⟩
  refine ⟨_, _, rfl, rfl, (by rw [sizeLine_eq]; exact Nat.le_trans (Nat.add_le_add ta tb) (by decide)), ?_⟩
  refine ⟨_, rfl, z, C, dc, _, _, rfl, hc, A.LX.cl, A.LX.nL, lFs_links _ _ _, Lc, _, rfl, rc.1, rc.2.1, rc.2.2.1, rc.2.2.2.1, rc.2.2.2.2, ?_⟩
  refine ⟨_, _, rfl, rfl, (by rw [sizeLine_eq]; exact Nat.le_trans (Nat.add_le_add (by rw [show ((PyData.tuple ((srt r0).map pdI)).shown ++ (PyData.tuple ((srt r1).map pdI)).shown).length = (lkText (srt r0)).length + (lkText (srt r1)).length from Array.size_append]; exact Nat.add_le_add ta tb) tc) (by decide)), ?_⟩
  rw [hkt]
  refine ⟨rfl, _, rfl, ?_⟩
  rw [decide_eq_true rfl]
  refine iteT ?_
  obtain ⟨d1', f1', g1, g2⟩ := ka.go m_then
  refine ⟨_, rfl, x, d1', f1', rfl, g1, g2, _, rfl, x, y, _, _, _, _, _, rfl, ka, kb, fun m Ha sa km => ?_⟩
  rw [cmp_srt lk0 lk1] at km
  have kab1 := kab.keep sa
  obtain ⟨dm, fm, h1', _⟩ := km.go m_then
  obtain ⟨dn, fn, h2', _⟩ := kab1.go m_then
  refine ⟨_, rfl, m, dm, fm, rfl, h1', .inl ⟨u, dn, fn, C, rfl, h2', nf⟩, m, u, _, _, _, _, _, _, rfl, km, kab1, _, rfl, _, rfl, ?_⟩
  rw [decide_eq_true (show s0 = s0 ∧ s2 = s2 ∧ cmp r0 r1 = cmp r0 r1 from ⟨rfl, rfl, rfl⟩)]
  refine iteT ?_
  obtain ⟨d2', f2', g3, g4⟩ := kab1.go m_then
  refine ⟨_, rfl, u, d2', f2', rfl, g3, g4, _, rfl, u, z, _, _, _, _, _, rfl, kab1, kc.keep sa, fun n Hb sb kn => ?_⟩
  obtain ⟨d3', f3', g5, g6⟩ := ((ka.keep sa).keep sb).go m_then
  refine ⟨_, rfl, x, d3', f3', rfl, g5, g6, _, rfl, x, v, _, _, _, _, _, rfl, (ka.keep sa).keep sb, (kbc.keep sa).keep sb, fun n' Hc sc kn' => ?_⟩
  have kn := kn.keep sc
  rw [cmp_r lkab lk2] at kn
  rw [cmp_l lk0 lkbc, ← cmp_assoc lk0 lk1 lk2] at kn'
  obtain ⟨dm, fm, h3', _⟩ := kn.go m_then
  obtain ⟨dn, fn, h4', _⟩ := kn'.go m_then
  refine ⟨n, dm, fm, rfl, h3', .inl ⟨n', dn, fn, C, rfl, h4', nf⟩, n, n', _, _, _, _, _, _, rfl, kn, kn', _, rfl, ?_⟩
  rw [decide_eq_true (show s0 = s0 ∧ s3 = s3 ∧ cmp (cmp r0 r1) r2 = cmp (cmp r0 r1) r2 from ⟨rfl, rfl, rfl⟩)]
end
end Kx

set_option maxHeartbeats 8000000
namespace Kx
open PySem PySem.Spec PyProof.Rows L2
theorem all_mk {l : PySem.W.OpenLaw} {w : World} {K : PySem.W.Frag} {h : Heap} {mg : Str → Option Value} {fa : Addr} {t2 : Tok} (X : K.In h) (G : h.Ns mainGlobals mg) (hfa : mg "law" = some (.ref fa))
    {f0 f1 f2 f3 f4 f5 f6 f7 f8 f9 f10 f11 f12 g0 g1 g2 g3 g4 C pF : Addr} {od0 an0 od1 an1 od2 an2 od3 an3 od4 an4 od5 an5 od6 an6 od7 an7 od8 an8 od9 an9 od10 an10 od11 an11 od12 an12 pd0 bn0 pd1 bn1 pd2 bn2 pd3 bn3 pd4 bn4 : Option Addr} {sl0 sl1 sl2 sl3 sl4 sl5 sl6 sl7 sl8 sl9 sl10 sl11 sl12 tl0 tl1 tl2 tl3 tl4 : Array (Option Value)} {oc0 kV0 dc0 pm0 cd0 ct0 oc1 kV1 dc1 pm1 cd1 ct1 oc2 kV2 dc2 pm2 cd2 ct2 oc3 kV3 dc3 pm3 cd3 ct3 oc4 kV4 dc4 pm4 cd4 ct4 oc5 kV5 dc5 pm5 cd5 ct5 oc6 kV6 dc6 pm6 cd6 ct6 oc7 kV7 dc7 pm7 cd7 ct7 oc8 kV8 dc8 pm8 cd8 ct8 oc9 kV9 dc9 pm9 cd9 ct9 oc10 kV10 dc10 pm10 cd10 ct10 oc11 kV11 dc11 pm11 cd11 ct11 oc12 kV12 dc12 pm12 cd12 ct12 pc0 lV0 ec0 qm0 dd0 dt0 pc1 lV1 ec1 qm1 dd1 dt1 pc2 lV2 ec2 qm2 dd2 dt2 pc3 lV3 ec3 qm3 dd3 dt3 pc4 lV4 ec4 qm4 dd4 dt4 : Value} {rest : List Value}
    (a0 : PySem.W.nsIn K mainGlobals "is_whole" = some (some (.ref f0)))
    (l0 : K.lookup f0 = some ⟨oc0, od0, .func (PySem.W.fnOf "is_whole" "is_whole" (defArgs sWhole) (defBody sWhole) (defScope sWhole) .none kV0 dc0 pm0 an0 cd0 ct0), sl0⟩)
    (c0 : PySem.W.codeIn K cd0 "is_whole" = true)
    (k0 : PySem.W.keepIn K (.ref f0) = true)
    (a1 : PySem.W.nsIn K mainGlobals "is_sequence" = some (some (.ref f1)))
    (l1 : K.lookup f1 = some ⟨oc1, od1, .func (PySem.W.fnOf "is_sequence" "is_sequence" (defArgs sSeq) (defBody sSeq) (defScope sSeq) .none kV1 dc1 pm1 an1 cd1 ct1), sl1⟩)
    (c1 : PySem.W.codeIn K cd1 "is_sequence" = true)
    (k1 : PySem.W.keepIn K (.ref f1) = true)
    (a2 : PySem.W.nsIn K mainGlobals "_check_sizes" = some (some (.ref f2)))
    (l2 : K.lookup f2 = some ⟨oc2, od2, .func (PySem.W.fnOf "_check_sizes" "_check_sizes" (defArgs sCheckSizes) (defBody sCheckSizes) (defScope sCheckSizes) .none kV2 dc2 pm2 an2 cd2 ct2), sl2⟩)
    (c2 : PySem.W.codeIn K cd2 "_check_sizes" = true)
    (k2 : PySem.W.keepIn K (.ref f2) = true)
    (a3 : PySem.W.nsIn K mainGlobals "_is_link" = some (some (.ref f3)))
    (l3 : K.lookup f3 = some ⟨oc3, od3, .func (PySem.W.fnOf "_is_link" "_is_link" (defArgs sIsLink) (defBody sIsLink) (defScope sIsLink) .none kV3 dc3 pm3 an3 cd3 ct3), sl3⟩)
    (c3 : PySem.W.codeIn K cd3 "_is_link" = true)
    (k3 : PySem.W.keepIn K (.ref f3) = true)
    (a4 : PySem.W.nsIn K mainGlobals "_law_mix" = some (some (.ref f4)))
    (l4 : K.lookup f4 = some ⟨oc4, od4, .func (PySem.W.fnOf "_law_mix" "_law_mix" (defArgs sMix) (defBody sMix) (defScope sMix) .none kV4 dc4 pm4 an4 cd4 ct4), sl4⟩)
    (c4 : PySem.W.codeIn K cd4 "_law_mix" = true)
    (k4 : PySem.W.keepIn K (.ref f4) = true)
    (a5 : PySem.W.nsIn K mainGlobals "_law_hand" = some (some (.ref f5)))
    (l5 : K.lookup f5 = some ⟨oc5, od5, .func (PySem.W.fnOf "_law_hand" "_law_hand" (defArgs sHand) (defBody sHand) (defScope sHand) .none kV5 dc5 pm5 an5 cd5 ct5), sl5⟩)
    (c5 : PySem.W.codeIn K cd5 "_law_hand" = true)
    (k5 : PySem.W.keepIn K (.ref f5) = true)
    (a6 : PySem.W.nsIn K mainGlobals "_law_draw" = some (some (.ref f6)))
    (l6 : K.lookup f6 = some ⟨oc6, od6, .func (PySem.W.fnOf "_law_draw" "_law_draw" (defArgs sDraw) (defBody sDraw) (defScope sDraw) .none kV6 dc6 pm6 an6 cd6 ct6), sl6⟩)
    (c6 : PySem.W.codeIn K cd6 "_law_draw" = true)
    (k6 : PySem.W.keepIn K (.ref f6) = true)
    (a7 : PySem.W.nsIn K mainGlobals "_law_one" = some (some (.ref f7)))
    (l7 : K.lookup f7 = some ⟨oc7, od7, .func (PySem.W.fnOf "_law_one" "_law_one" (defArgs sOne) (defBody sOne) (defScope sOne) .none kV7 dc7 pm7 an7 cd7 ct7), sl7⟩)
    (c7 : PySem.W.codeIn K cd7 "_law_one" = true)
    (k7 : PySem.W.keepIn K (.ref f7) = true)
    (a8 : PySem.W.nsIn K mainGlobals "_law_is_whole" = some (some (.ref f8)))
    (l8 : K.lookup f8 = some ⟨oc8, od8, .func (PySem.W.fnOf "_law_is_whole" "_law_is_whole" (defArgs sLIsWhole) (defBody sLIsWhole) (defScope sLIsWhole) .none kV8 dc8 pm8 an8 cd8 ct8), sl8⟩)
    (c8 : PySem.W.codeIn K cd8 "_law_is_whole" = true)
    (k8 : PySem.W.keepIn K (.ref f8) = true)
    (a9 : PySem.W.nsIn K mainGlobals "_law_links" = some (some (.ref f9)))
    (l9 : K.lookup f9 = some ⟨oc9, od9, .func (PySem.W.fnOf "_law_links" "_law_links" (defArgs sLLinks) (defBody sLLinks) (defScope sLLinks) .none kV9 dc9 pm9 an9 cd9 ct9), sl9⟩)
    (c9 : PySem.W.codeIn K cd9 "_law_links" = true)
    (k9 : PySem.W.keepIn K (.ref f9) = true)
    (a10 : PySem.W.nsIn K mainGlobals "_law_chained" = some (some (.ref f10)))
    (l10 : K.lookup f10 = some ⟨oc10, od10, .func (PySem.W.fnOf "_law_chained" "_law_chained" (defArgs sLChained) (defBody sLChained) (defScope sLChained) .none kV10 dc10 pm10 an10 cd10 ct10), sl10⟩)
    (c10 : PySem.W.codeIn K cd10 "_law_chained" = true)
    (k10 : PySem.W.keepIn K (.ref f10) = true)
    (a11 : PySem.W.nsIn K mainGlobals "_law_told" = some (some (.ref f11)))
    (l11 : K.lookup f11 = some ⟨oc11, od11, .func (PySem.W.fnOf "_law_told" "_law_told" (defArgs sLTold) (defBody sLTold) (defScope sLTold) .none kV11 dc11 pm11 an11 cd11 ct11), sl11⟩)
    (c11 : PySem.W.codeIn K cd11 "_law_told" = true)
    (k11 : PySem.W.keepIn K (.ref f11) = true)
    (a12 : PySem.W.nsIn K mainGlobals "law" = some (some (.ref f12)))
    (l12 : K.lookup f12 = some ⟨oc12, od12, .func (PySem.W.fnOf "law" "law" (defArgs sLaw) (defBody sLaw) (defScope sLaw) .none kV12 dc12 pm12 an12 cd12 ct12), sl12⟩)
    (c12 : PySem.W.codeIn K cd12 "law" = true)
    (k12 : PySem.W.keepIn K (.ref f12) = true)
    (mC : PySem.W.nsIn K mainGlobals "Likeness" = some (some (.ref C)))
    (M0 : PySem.W.findIn K (.ref C) "__init__" = some (some (.ref g0)))
    (L0 : K.lookup g0 = some ⟨pc0, pd0, .func (PySem.W.fnOf "__init__" "Likeness.__init__" (defArgs sLikeness_init) (defBody sLikeness_init) (defScope sLikeness_init) .none lV0 ec0 qm0 bn0 dd0 dt0), tl0⟩)
    (D0 : PySem.W.codeIn K dd0 "Likeness.__init__" = true)
    (N0 : PySem.W.keepIn K (.ref g0) = true)
    (T0 : PySem.W.typeIn K (.ref g0) = some (.type "function"))
    (M1 : PySem.W.findIn K (.ref C) "__eq__" = some (some (.ref g1)))
    (L1 : K.lookup g1 = some ⟨pc1, pd1, .func (PySem.W.fnOf "__eq__" "Likeness.__eq__" (defArgs sLikeness_eq) (defBody sLikeness_eq) (defScope sLikeness_eq) .none lV1 ec1 qm1 bn1 dd1 dt1), tl1⟩)
    (D1 : PySem.W.codeIn K dd1 "Likeness.__eq__" = true)
    (N1 : PySem.W.keepIn K (.ref g1) = true)
    (T1 : PySem.W.typeIn K (.ref g1) = some (.type "function"))
    (M2 : PySem.W.findIn K (.ref C) "flipped" = some (some (.ref g2)))
    (L2 : K.lookup g2 = some ⟨pc2, pd2, .func (PySem.W.fnOf "flipped" "Likeness.flipped" (defArgs sLikeness_flipped) (defBody sLikeness_flipped) (defScope sLikeness_flipped) .none lV2 ec2 qm2 bn2 dd2 dt2), tl2⟩)
    (D2 : PySem.W.codeIn K dd2 "Likeness.flipped" = true)
    (N2 : PySem.W.keepIn K (.ref g2) = true)
    (T2 : PySem.W.typeIn K (.ref g2) = some (.type "function"))
    (M3 : PySem.W.findIn K (.ref C) "then" = some (some (.ref g3)))
    (L3 : K.lookup g3 = some ⟨pc3, pd3, .func (PySem.W.fnOf "then" "Likeness.then" (defArgs sLikeness_then) (defBody sLikeness_then) (defScope sLikeness_then) .none lV3 ec3 qm3 bn3 dd3 dt3), tl3⟩)
    (D3 : PySem.W.codeIn K dd3 "Likeness.then" = true)
    (N3 : PySem.W.keepIn K (.ref g3) = true)
    (T3 : PySem.W.typeIn K (.ref g3) = some (.type "function"))
    (P1 : PySem.W.findIn K (.ref C) "is_full" = some (some (.ref pF)))
    (P2 : PySem.W.specialIn K (.ref pF) "__get__" = some (some (.builtin "property.__get__")))
    (P3 : PySem.W.takesIn K (.ref pF) = some true)
    (P4 : PySem.W.recIn K pF "property" = some (.ref g4 :: rest))
    (L4 : K.lookup g4 = some ⟨pc4, pd4, .func (PySem.W.fnOf "is_full" "Likeness.is_full" (defArgs sLikeness_is_full) (defBody sLikeness_is_full) (defScope sLikeness_is_full) .none lV4 ec4 qm4 bn4 dd4 dt4), tl4⟩)
    (D4 : PySem.W.codeIn K dd4 "Likeness.is_full" = true)
    (N4 : PySem.W.keepIn K (.ref g4) = true)
    (u1 : PySem.W.plainGet K C Str.empty = true)
    (u2 : PySem.W.hasDictIn K C = true)
    (u3 : PySem.W.plainOver K C = true)
    (u4 : PySem.W.findIn K (.ref C) "__setattr__" = some (some (.builtin "object.__setattr__")))
    (u5 : PySem.W.findIn K (.ref C) "first" = some none)
    (u6 : PySem.W.findIn K (.ref C) "second" = some none)
    (u7 : PySem.W.findIn K (.ref C) "links" = some none)
    (u8 : PySem.W.findIn K (.ref C) "__class__" = some (some (.builtin "object.__class__")))
    (u9 : PySem.W.specialIn K (.builtin "object.__class__") "__get__" = some (some (.builtin "getset_descriptor.__get__")))
    (u10 : PySem.W.takesIn K (.builtin "object.__class__") = some true)
    (u11 : PySem.W.mroIn K C (.type "object") = some true)
    (u13 : PySem.W.makesIn K C = true)
    (u14 : PySem.W.keepIn K (.ref C) = true)
    (u15 : PySem.W.findIn K (.ref C) "__ne__" = some (some (.builtin "object.__ne__")))
    (y2 : PySem.W.nsIn K mainGlobals "MOST_PERSONS" = some (some (.int 40 t2)))
    (z_int : PySem.W.nsIn K mainGlobals "int" = some none)
    (z_abs : PySem.W.nsIn K mainGlobals "abs" = some none)
    (z_len : PySem.W.nsIn K mainGlobals "len" = some none)
    (z_enumerate : PySem.W.nsIn K mainGlobals "enumerate" = some none)
    (z_range : PySem.W.nsIn K mainGlobals "range" = some none)
    (z_isinstance : PySem.W.nsIn K mainGlobals "isinstance" = some none)
    (z_str : PySem.W.nsIn K mainGlobals "str" = some none)
    (z_bool : PySem.W.nsIn K mainGlobals "bool" = some none)
    (z_list : PySem.W.nsIn K mainGlobals "list" = some none)
    (z_tuple : PySem.W.nsIn K mainGlobals "tuple" = some none)
    (z_repr : PySem.W.nsIn K mainGlobals "repr" = some none)
    (z_sorted : PySem.W.nsIn K mainGlobals "sorted" = some none)
    (z_min : PySem.W.nsIn K mainGlobals "min" = some none)
    (z_all : PySem.W.nsIn K mainGlobals "all" = some none) :
    ∀ (base : Heap) (s : Shared) (H : Hp) (a : Addr) (ns : List Int), K.In base → base.Ns mainGlobals mg → Env0 l.prog w K mg base callerA [] s H → SqL K H a (ns.map V.int) → ns.length ≤ 63 →
      codeAny (model l.prog w) callerA (.call (.ref fa) ⟨[.ref a], []⟩) (CR CX0 [] l.prog w H s QT EF) s := by
  have e := hfa.symm.trans (PySem.W.mg_of X G a12)
  cases e
  intro base s H a ns _ _ e0 hS hn
  have T : Bl mg := ⟨(PySem.W.mg_none_of X G z_int), (PySem.W.mg_none_of X G z_abs), (PySem.W.mg_none_of X G z_len), (PySem.W.mg_none_of X G z_enumerate), (PySem.W.mg_none_of X G z_range)⟩
  have B : Bm mg := ⟨(PySem.W.mg_none_of X G z_isinstance), (PySem.W.mg_none_of X G z_str), (PySem.W.mg_none_of X G z_bool), (PySem.W.mg_none_of X G z_list), (PySem.W.mg_none_of X G z_tuple)⟩
  have R : Rp mg := ⟨(PySem.W.mg_none_of X G z_repr), (PySem.W.mg_none_of X G z_all)⟩
  have M : Ml mg := ⟨⟨_, PySem.W.mg_of X G y2⟩, (PySem.W.mg_none_of X G z_sorted)⟩
  have Mi : Mn mg := ⟨(PySem.W.mg_none_of X G z_min)⟩
  have LX : LC K C := ⟨⟨u1, u2, u3, u4⟩, u5, u6, u7, u8, u9, u10, u11⟩
  have mix := ok_mix (P := l.prog) (w := w) (base := base) (fun_mk (st := sMix) l4 c4 k4) (PySem.W.mg_of X G a4) T
  have draw := ok_draw (P := l.prog) (w := w) (base := base) (fun_mk (st := sDraw) l6 c6 k6) (PySem.W.mg_of X G a6) T mix
  have hand := ok_hand (P := l.prog) (w := w) (base := base) (fun_mk (st := sHand) l5 c5 k5) (PySem.W.mg_of X G a5) T
  have one := ok_one (P := l.prog) (w := w) (base := base) (fun_mk (st := sOne) l7 c7 k7) (PySem.W.mg_of X G a7) T draw
  have whole := ok_whole (P := l.prog) (w := w) (base := base) (fun_mk (st := sWhole) l0 c0 k0) (PySem.W.mg_of X G a0) T B
  have seq := ok_seq (P := l.prog) (w := w) (base := base) (fun_mk (st := sSeq) l1 c1 k1) (PySem.W.mg_of X G a1) B
  have sizes := ok_sizes (P := l.prog) (w := w) (base := base) (fun_mk (st := sCheckSizes) l2 c2 k2) (PySem.W.mg_of X G a2) M whole
  have islink := ok_islink (P := l.prog) (w := w) (base := base) (fun_mk (st := sIsLink) l3 c3 k3) (PySem.W.mg_of X G a3) T seq whole
  have lwhole := ok_lwhole (P := l.prog) (w := w) (base := base) (fun_mk (st := sLIsWhole) l8 c8 k8) (PySem.W.mg_of X G a8) T B
  have links := ok_links (P := l.prog) (w := w) (base := base) (fun_mk (st := sLLinks) l9 c9 k9) (PySem.W.mg_of X G a9) T B Mi draw
  have chained := ok_chained (P := l.prog) (w := w) (base := base) (fun_mk (st := sLChained) l10 c10 k10) (PySem.W.mg_of X G a10) M
  have mK := PySem.W.mg_of X G mC
  have told := ok_told (P := l.prog) (w := w) (base := base) (fun_mk (st := sLTold) l11 c11 k11) (PySem.W.mg_of X G a11) B M LX mK lwhole
  have MK : Mk K C g0 := ⟨u13, M0, (by unfold PySem.W.isFn; rw [T0]; rfl), u14⟩
  have GI := ok_linit (P := l.prog) (w := w) (mg := mg) (base := base) (fun_mk (st := sLikeness_init) L0 D0 N0) T B M LX sizes seq islink
  have bI := (fun_mk (st := sLikeness_init) L0 D0 N0).binds (ps := ["self", "first", "second", "links"]) (fun _ _ _ _ _ _ us hl => match us, hl with | [_, _, _, _], _ => rfl)
  have GE := ok_leq (P := l.prog) (w := w) (mg := mg) (base := base) (fun_mk (st := sLikeness_eq) L1 D1 N1) B LX mK
  have bE := (fun_mk (st := sLikeness_eq) L1 D1 N1).binds (ps := ["self", "other"]) (fun _ _ _ _ _ _ us hl => match us, hl with | [_, _], _ => rfl)
  have GF := ok_full (P := l.prog) (w := w) (mg := mg) (base := base) (fun_mk (st := sLikeness_is_full) L4 D4 N4) T LX
  have bF := (fun_mk (st := sLikeness_is_full) L4 D4 N4).binds (ps := ["self"]) (fun _ _ _ _ _ _ us hl => match us, hl with | [_], _ => rfl)
  have GP := ok_flip (P := l.prog) (w := w) (mg := mg) (base := base) (fun_mk (st := sLikeness_flipped) L2 D2 N2) LX mK MK GI bI
  have bP := (fun_mk (st := sLikeness_flipped) L2 D2 N2).binds (ps := ["self"]) (fun _ _ _ _ _ _ us hl => match us, hl with | [_], _ => rfl)
  have GT := ok_then (P := l.prog) (w := w) (mg := mg) (base := base) (fun_mk (st := sLikeness_then) L3 D3 N3) B LX mK MK GI bI
  have bT := (fun_mk (st := sLikeness_then) L3 D3 N3).binds (ps := ["self", "other"]) (fun _ _ _ _ _ _ us hl => match us, hl with | [_, _], _ => rfl)
  have A : AllF l.prog w K mg base C g0 _ g1 g4 g2 g3 pF _ _ _ _ := ⟨hand, draw, one, links, chained, told, LX, mK, MK, GI, bI, ⟨M1, (by unfold PySem.W.isFn; rw [T1]; rfl), N1⟩, GE, bE, ⟨P1, P2, P3, _, P4⟩, GF, bF, ⟨M2, (by unfold PySem.W.isFn; rw [T2]; rfl), N2⟩, GP, bP, ⟨M3, (by unfold PySem.W.isFn; rw [T3]; rfl), N3⟩, GT, bT, u15⟩
  exact law_at (fun_mk (st := sLaw) l12 c12 k12) scLaw ⟨rfl, by decide, by decide⟩ (body_law T B M R A) (fun s v => .of_eq rfl) e0 hS hn
end Kx

set_option maxHeartbeats 8000000
namespace Kx

end Kx
open PySem PySem.W PyProof.Rows
set_option maxRecDepth 100000 in
set_option maxHeartbeats 0 in
theorem PySem.Challenge.cw_searchback_k25_whole_likenesses_lead_on_holds : PySem.Challenge.rw_searchback_k25_whole_likenesses_lead_on.Holds := by
  w_on; o_law; k_head; (case hw => w_witness2)
  k_fill
  refine Kx.law_walk (l := PySem.Challenge.rw_searchback_k25_whole_likenesses_lead_on) rfl rfl (fun w h Y => PySem.W.kIn_of Y) ?F
  case F =>
    intro w mg fa h KX G hmg
    refine' Kx.all_mk KX G hmg ?a0 ?l0 ?c0 ?k0 ?a1 ?l1 ?c1 ?k1 ?a2 ?l2 ?c2 ?k2 ?a3 ?l3 ?c3 ?k3 ?a4 ?l4 ?c4 ?k4 ?a5 ?l5 ?c5 ?k5 ?a6 ?l6 ?c6 ?k6 ?a7 ?l7 ?c7 ?k7 ?a8 ?l8 ?c8 ?k8 ?a9 ?l9 ?c9 ?k9 ?a10 ?l10 ?c10 ?k10 ?a11 ?l11 ?c11 ?k11 ?a12 ?l12 ?c12 ?k12 ?mC ?M0 ?L0 ?D0 ?N0 ?T0 ?M1 ?L1 ?D1 ?N1 ?T1 ?M2 ?L2 ?D2 ?N2 ?T2 ?M3 ?L3 ?D3 ?N3 ?T3 ?P1 ?P2 ?P3 ?P4 ?L4 ?D4 ?N4 ?u1 ?u2 ?u3 ?u4 ?u5 ?u6 ?u7 ?u8 ?u9 ?u10 ?u11 ?u13 ?u14 ?u15 ?y2 ?z_int ?z_abs ?z_len ?z_enumerate ?z_range ?z_isinstance ?z_str ?z_bool ?z_list ?z_tuple ?z_repr ?z_sorted ?z_min ?z_all
    (case a0 => first | k_is | exact rfl | kernel_rfl | decide +kernel)
    (case l0 => first | k_is | exact rfl | kernel_rfl | decide +kernel)
    (case c0 => first | k_is | exact rfl | kernel_rfl | decide +kernel)
    (case k0 => first | k_is | exact rfl | kernel_rfl | decide +kernel)
    (case a1 => first | k_is | exact rfl | kernel_rfl | decide +kernel)
    (case l1 => first | k_is | exact rfl | kernel_rfl | decide +kernel)
    (case c1 => first | k_is | exact rfl | kernel_rfl | decide +kernel)
    (case k1 => first | k_is | exact rfl | kernel_rfl | decide +kernel)
    (case a2 => first | k_is | exact rfl | kernel_rfl | decide +kernel)
    (case l2 => first | k_is | exact rfl | kernel_rfl | decide +kernel)
    (case c2 => first | k_is | exact rfl | kernel_rfl | decide +kernel)
    (case k2 => first | k_is | exact rfl | kernel_rfl | decide +kernel)
    (case a3 => first | k_is | exact rfl | kernel_rfl | decide +kernel)
    (case l3 => first | k_is | exact rfl | kernel_rfl | decide +kernel)
    (case c3 => first | k_is | exact rfl | kernel_rfl | decide +kernel)
    (case k3 => first | k_is | exact rfl | kernel_rfl | decide +kernel)
    (case a4 => first | k_is | exact rfl | kernel_rfl | decide +kernel)
    (case l4 => first | k_is | exact rfl | kernel_rfl | decide +kernel)
    (case c4 => first | k_is | exact rfl | kernel_rfl | decide +kernel)
    (case k4 => first | k_is | exact rfl | kernel_rfl | decide +kernel)
    (case a5 => first | k_is | exact rfl | kernel_rfl | decide +kernel)
    (case l5 => first | k_is | exact rfl | kernel_rfl | decide +kernel)
    (case c5 => first | k_is | exact rfl | kernel_rfl | decide +kernel)
    (case k5 => first | k_is | exact rfl | kernel_rfl | decide +kernel)
    (case a6 => first | k_is | exact rfl | kernel_rfl | decide +kernel)
    (case l6 => first | k_is | exact rfl | kernel_rfl | decide +kernel)
    (case c6 => first | k_is | exact rfl | kernel_rfl | decide +kernel)
    (case k6 => first | k_is | exact rfl | kernel_rfl | decide +kernel)
    (case a7 => first | k_is | exact rfl | kernel_rfl | decide +kernel)
    (case l7 => first | k_is | exact rfl | kernel_rfl | decide +kernel)
    (case c7 => first | k_is | exact rfl | kernel_rfl | decide +kernel)
    (case k7 => first | k_is | exact rfl | kernel_rfl | decide +kernel)
    (case a8 => first | k_is | exact rfl | kernel_rfl | decide +kernel)
    (case l8 => first | k_is | exact rfl | kernel_rfl | decide +kernel)
    (case c8 => first | k_is | exact rfl | kernel_rfl | decide +kernel)
    (case k8 => first | k_is | exact rfl | kernel_rfl | decide +kernel)
    (case a9 => first | k_is | exact rfl | kernel_rfl | decide +kernel)
    (case l9 => first | k_is | exact rfl | kernel_rfl | decide +kernel)
    (case c9 => first | k_is | exact rfl | kernel_rfl | decide +kernel)
    (case k9 => first | k_is | exact rfl | kernel_rfl | decide +kernel)
    (case a10 => first | k_is | exact rfl | kernel_rfl | decide +kernel)
    (case l10 => first | k_is | exact rfl | kernel_rfl | decide +kernel)
    (case c10 => first | k_is | exact rfl | kernel_rfl | decide +kernel)
    (case k10 => first | k_is | exact rfl | kernel_rfl | decide +kernel)
    (case a11 => first | k_is | exact rfl | kernel_rfl | decide +kernel)
    (case l11 => first | k_is | exact rfl | kernel_rfl | decide +kernel)
    (case c11 => first | k_is | exact rfl | kernel_rfl | decide +kernel)
    (case k11 => first | k_is | exact rfl | kernel_rfl | decide +kernel)
    (case a12 => first | k_is | exact rfl | kernel_rfl | decide +kernel)
    (case l12 => first | k_is | exact rfl | kernel_rfl | decide +kernel)
    (case c12 => first | k_is | exact rfl | kernel_rfl | decide +kernel)
    (case k12 => first | k_is | exact rfl | kernel_rfl | decide +kernel)
    (case mC => first | k_is | exact rfl | kernel_rfl | decide +kernel)
    (case M0 => first | k_is | exact rfl | kernel_rfl | decide +kernel)
    (case L0 => first | k_is | exact rfl | kernel_rfl | decide +kernel)
    (case D0 => first | k_is | exact rfl | kernel_rfl | decide +kernel)
    (case N0 => first | k_is | exact rfl | kernel_rfl | decide +kernel)
    (case T0 => first | k_is | exact rfl | kernel_rfl | decide +kernel)
    (case M1 => first | k_is | exact rfl | kernel_rfl | decide +kernel)
    (case L1 => first | k_is | exact rfl | kernel_rfl | decide +kernel)
    (case D1 => first | k_is | exact rfl | kernel_rfl | decide +kernel)
    (case N1 => first | k_is | exact rfl | kernel_rfl | decide +kernel)
    (case T1 => first | k_is | exact rfl | kernel_rfl | decide +kernel)
    (case M2 => first | k_is | exact rfl | kernel_rfl | decide +kernel)
    (case L2 => first | k_is | exact rfl | kernel_rfl | decide +kernel)
    (case D2 => first | k_is | exact rfl | kernel_rfl | decide +kernel)
    (case N2 => first | k_is | exact rfl | kernel_rfl | decide +kernel)
    (case T2 => first | k_is | exact rfl | kernel_rfl | decide +kernel)
    (case M3 => first | k_is | exact rfl | kernel_rfl | decide +kernel)
    (case L3 => first | k_is | exact rfl | kernel_rfl | decide +kernel)
    (case D3 => first | k_is | exact rfl | kernel_rfl | decide +kernel)
    (case N3 => first | k_is | exact rfl | kernel_rfl | decide +kernel)
    (case T3 => first | k_is | exact rfl | kernel_rfl | decide +kernel)
    (case P1 => first | k_is | exact rfl | kernel_rfl | decide +kernel)
    (case P2 => first | k_is | exact rfl | kernel_rfl | decide +kernel)
    (case P3 => first | k_is | exact rfl | kernel_rfl | decide +kernel)
    (case P4 => first | k_is | exact rfl | kernel_rfl | decide +kernel)
    (case L4 => first | k_is | exact rfl | kernel_rfl | decide +kernel)
    (case D4 => first | k_is | exact rfl | kernel_rfl | decide +kernel)
    (case N4 => first | k_is | exact rfl | kernel_rfl | decide +kernel)
    (case u1 => first | k_is | exact rfl | kernel_rfl | decide +kernel)
    (case u2 => first | k_is | exact rfl | kernel_rfl | decide +kernel)
    (case u3 => first | k_is | exact rfl | kernel_rfl | decide +kernel)
    (case u4 => first | k_is | exact rfl | kernel_rfl | decide +kernel)
    (case u5 => first | k_is | exact rfl | kernel_rfl | decide +kernel)
    (case u6 => first | k_is | exact rfl | kernel_rfl | decide +kernel)
    (case u7 => first | k_is | exact rfl | kernel_rfl | decide +kernel)
    (case u8 => first | k_is | exact rfl | kernel_rfl | decide +kernel)
    (case u9 => first | k_is | exact rfl | kernel_rfl | decide +kernel)
    (case u10 => first | k_is | exact rfl | kernel_rfl | decide +kernel)
    (case u11 => first | k_is | exact rfl | kernel_rfl | decide +kernel)
    (case u13 => first | k_is | exact rfl | kernel_rfl | decide +kernel)
    (case u14 => first | k_is | exact rfl | kernel_rfl | decide +kernel)
    (case u15 => first | k_is | exact rfl | kernel_rfl | decide +kernel)
    (case y2 => first | k_is | exact rfl | kernel_rfl | decide +kernel)
    (case z_int => first | k_is | exact rfl | kernel_rfl | decide +kernel)
    (case z_abs => first | k_is | exact rfl | kernel_rfl | decide +kernel)
    (case z_len => first | k_is | exact rfl | kernel_rfl | decide +kernel)
    (case z_enumerate => first | k_is | exact rfl | kernel_rfl | decide +kernel)
    (case z_range => first | k_is | exact rfl | kernel_rfl | decide +kernel)
    (case z_isinstance => first | k_is | exact rfl | kernel_rfl | decide +kernel)
    (case z_str => first | k_is | exact rfl | kernel_rfl | decide +kernel)
    (case z_bool => first | k_is | exact rfl | kernel_rfl | decide +kernel)
    (case z_list => first | k_is | exact rfl | kernel_rfl | decide +kernel)
    (case z_tuple => first | k_is | exact rfl | kernel_rfl | decide +kernel)
    (case z_repr => first | k_is | exact rfl | kernel_rfl | decide +kernel)
    (case z_sorted => first | k_is | exact rfl | kernel_rfl | decide +kernel)
    (case z_min => first | k_is | exact rfl | kernel_rfl | decide +kernel)
    (case z_all => first | k_is | exact rfl | kernel_rfl | decide +kernel)

