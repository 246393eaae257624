import PyProof.Rows.All
import Wide.All
import OpenK.AllK
import Wide.FinOn
import HandS.ForMost
import HandS.Wide
import HandS.Codes
import HandS.Exc
import HandS.TryOnly
import HandS.ExcOwn
import HandS.WordsExc
import HandS.ExcInit
import HandS.ExcField
import HandS.IsInst
import HandS.StrMore
import HandS.Style
import HandS.Sort
import HandS.SortRule
import HandS.ListItems
import HandS.DictComp
import HandS.Property
import KE.KDictList
import PyProof.ReprBulk
import HandS.Conv
import HandS.Flt
import HandS.ExcIs
import HandS.More
import HandS.IterVal
import KE.KOwnIter
import HandS.OwnIter
import KE.KFromBytes
import HandS.TupLe
import PySem.Challenge.RW_searchback_k23_likenesses_made_and_refus
set_option Elab.async false
set_option maxRecDepth 100000
namespace Kx
open PySem L2
def top (i : Nat) : Stmt := PySem.Challenge.pw_searchback_k23_likenesses_made_and_refus.main.body.getD i (.Pass ⟨0, 0, 0, 0⟩)
abbrev sBadLikeness_init : Stmt := inClass (top 2) 0 -- BadLikeness.__init__
abbrev sBadIndex_init : Stmt := inClass (top 3) 0 -- BadIndex.__init__
abbrev sWhole : Stmt := top 5 -- is_whole(thing, low, high)
abbrev sSeq : Stmt := top 6 -- is_sequence(thing)
abbrev sLikeness_init : Stmt := inClass (top 9) 0 -- Likeness.__init__
abbrev sLikeness_eq : Stmt := inClass (top 9) 1 -- Likeness.__eq__
abbrev sLikeness_len : Stmt := inClass (top 9) 2 -- Likeness.__len__
abbrev sLikeness_iter : Stmt := inClass (top 9) 3 -- Likeness.__iter__
abbrev sLikeness_is_full : Stmt := inClass (top 9) 4 -- Likeness.is_full
abbrev sLikeness_partner : Stmt := inClass (top 9) 5 -- Likeness.partner
abbrev sLikeness_flipped : Stmt := inClass (top 9) 6 -- Likeness.flipped
abbrev sLikeness_then : Stmt := inClass (top 9) 7 -- Likeness.then
abbrev sCheckSizes : Stmt := top 10 -- _check_sizes(first, second)
abbrev sIsLink : Stmt := top 11 -- _is_link(link, first, second)
abbrev sMix : Stmt := top 13 -- _law_mix(_law_number, _law_turn)
abbrev sHand : Stmt := top 14 -- _law_hand(_law_script)
abbrev sDraw : Stmt := top 15 -- _law_draw(_law_hand_here, _law_many)
abbrev sOne : Stmt := top 16 -- _law_one(_law_hand_here, _law_rows)
abbrev sLIsWhole : Stmt := top 17 -- _law_is_whole(_law_thing, _law_due)
abbrev sLLinks : Stmt := top 18 -- _law_links(_law_hand_here, _law_first, _law_second, _law_many)
abbrev sLWhole : Stmt := top 19 -- _law_whole(_law_thing, _law_low, _law_high)
abbrev sLFault : Stmt := top 20 -- _law_fault(_law_first, _law_second, _law_links_here)
abbrev sLSpoilt : Stmt := top 21 -- _law_spoilt(_law_hand_here, _law_parts)
abbrev sLTried : Stmt := top 22 -- _law_tried(_law_first, _law_second, _law_links_here)
abbrev sLPartner : Stmt := top 23 -- _law_partner(_law_likeness, _law_number)
abbrev sLThen : Stmt := top 24 -- _law_then(_law_one_here, _law_other)
abbrev sLIsLikeness : Stmt := top 25 -- _law_is_likeness(_law_likeness, _law_first, _law_second, _law_links_here)
abbrev sLaw : Stmt := top 26 -- law(_law_script)
end Kx

set_option maxHeartbeats 4000000
namespace Kx
open PySem L2
section
variable {P : Program} {w : World} {K : PySem.W.Frag} {mg : Str → Option Value} {base : Heap}
structure Bl (mg : Str → Option Value) : Prop where
  int : mg "int" = none
  abs : mg "abs" = none
  len : mg "len" = none
  enumerate : mg "enumerate" = none
  range : mg "range" = none
def spMix : Sp := fun vs H Q _ => ∃ a b : Int, vs = [.int a, .int b] ∧ ∀ z : Int, Q (.int z) H
structure Has (P : Program) (w : World) (K : PySem.W.Frag) (mg : Str → Option Value) (base : Heap) (x : Str) (k : Nat) (ps : List Str) (sp : Sp) (f : Addr) (fd : FuncData) : Prop where
  G : FnOk P w K mg base CX0 k f fd ps sp
  m : mg x = some (.ref f)
  kp : PySem.W.keepIn K (.ref f) = true
  b : Binds K fd ps []
def HasF (P : Program) (w : World) (K : PySem.W.Frag) (mg : Str → Option Value) (base : Heap) (x : Str) (k : Nat) (ps : List Str) (sp : Sp) : Prop := ∃ f fd, Has P w K mg base x k ps sp f fd
theorem scMix : FnScope ["_law_number", "_law_turn", "_law_once", "_law_twice"] ["_law_number", "_law_turn"] (defScope sMix) := ⟨rfl, rfl, rfl, by decide +kernel, rfl, by decide +kernel, by decide +kernel⟩
theorem small31 {z : Int} {m : Int} (h : 0 < m) (h' : m ≤ 2147483648) : CMul (z % m) (z % m) := by
  have h1 := Int.emod_nonneg z (show m ≠ 0 by omega)
  have h2 := Int.emod_lt_of_pos z h
  exact .inl ⟨by omega, by omega⟩
theorem ok_mix {f : Addr} {fd : FuncData} (F : Fun K "_law_mix" "_law_mix" sMix f fd) (m : mg "_law_mix" = some (.ref f)) (T : Bl mg) : HasF P w K mg base "_law_mix" 1 ["_law_number", "_law_turn"] spMix := by
  refine ⟨f, fd, ?_, m, F.kp, F.binds fun _ _ _ _ _ _ us hl => match us, hl with | [_, _], _ => rfl⟩
  refine F.ok scMix (fun vs H Q E h => ?_) (fun cdv A outer s H vs Q E hr h => ?_)
  · obtain ⟨a, b, rfl, _⟩ := h
    rfl
  · obtain ⟨a, b, rfl, k⟩ := h
    refine ⟨_, pss_cons (ps_set (i := 2) scMix.nd rfl (Or.inl rfl) (pe_op op_mod (pe_callTy call_int1 (by rfl) T.int (by decide +kernel) (pa_cons (pe_op op_add (pe_op op_add (pe_op op_mul (pv 0) pe_int) (pe_op op_mul (pv 1) pe_int)) pe_int) pa_nil)) pe_int))
      (pss_cons (ps_set (i := 3) scMix.nd rfl (Or.inl rfl) (pe_op op_mod (pe_callTy call_int1 (by rfl) T.int (by decide +kernel) (pa_cons (pe_op op_add (pe_op op_add (pe_op op_mul (pv 2) (pv 2)) (pe_op op_mul (pe_op op_fdiv (pv 2) pe_int) pe_int)) (pe_op op_mul (pv 1) pe_int)) pa_nil)) pe_int))
      (pss_one (ps_ret (pe_op op_fdiv (pe_op op_mod (pe_callTy call_int1 (by rfl) T.int (by decide +kernel) (pa_cons (pe_op op_add (pe_op op_fdiv (pe_op op_mul (pv 3) (pv 3)) pe_int) (pv 2)) pa_nil)) pe_int) pe_int)))), ?_⟩
    refine ⟨_, rfl, _, _, rfl, rfl, .inr ⟨by decide, by decide⟩, _, rfl, _, _, rfl, rfl, .inr ⟨by decide, by decide⟩, _, _, rfl, rfl, _, _, rfl, rfl, .inl ⟨_, rfl, _, _, rfl, rfl, (by show (0 : Int) < _; decide), ?_⟩⟩
    refine ⟨_, rfl, _, rfl, _, _, rfl, rfl, small31 (by decide) (by decide), _, rfl, _, _, rfl, rfl, ⟨by decide, by decide⟩, _, _, rfl, rfl, .inr ⟨by decide, by decide⟩, _, _, rfl, rfl, _, rfl, _, _, rfl, rfl, .inr ⟨by decide, by decide⟩, _, _, rfl, rfl, .inl ⟨_, rfl, _, _, rfl, rfl, (by show (0 : Int) < _; decide), ?_⟩⟩
    refine ⟨_, rfl, _, rfl, _, _, rfl, rfl, small31 (by decide) (by decide), _, _, rfl, rfl, ⟨by decide, by decide⟩, _, rfl, _, _, rfl, rfl, .inl ⟨_, rfl, _, _, rfl, rfl, (by show (0 : Int) < _; decide), _, _, rfl, rfl, ⟨by decide, by decide⟩, ?_⟩⟩
    exact k _
/-- the hand at p: what is left of the script, and three counters -/
def HandAt (H : Hp) (p q : Addr) : Prop := ∃ (cs : List Int) (a : Nat) (b c : Int), H p = some (.lst [.ref q, .int a, .int b, .int c]) ∧ H q = some (.lst (cs.map V.int))
/-- all but p is as it was -/
def Keep (H H' : Hp) (p : Addr) : Prop := ∀ b o, H b = some o → b ≠ p → H' b = some o
theorem Keep.refl {H : Hp} {p : Addr} : Keep H H p := fun _ _ h _ => h
theorem Keep.trans {H H1 H2 : Hp} {p : Addr} (a : Keep H H1 p) (b : Keep H1 H2 p) : Keep H H2 p := fun c o h e => b c o (a c o h e) e
theorem Keep.upd {H H1 : Hp} {p : Addr} {o : HO} (a : Keep H H1 p) : Keep H (upd H1 p o) p := fun c u h e => by rw [upd_ne e]; exact a c u h e
theorem HandAt.ne {H : Hp} {p q : Addr} {xs ys : List V} (h : H p = some (.lst (.ref q :: xs))) {cs : List Int} (h' : H q = some (.lst (cs.map V.int))) : q ≠ p := by
  intro e
  subst e
  rw [h] at h'
  cases cs with
  | nil => exact nomatch h'
  | cons c cs => exact nomatch h'
def spDraw : Sp := fun vs H Q _ => ∃ (p q : Addr) (m : Int), vs = [.ref p, .int m] ∧ HandAt H p q ∧ 0 < m ∧ m.natAbs < 2 ^ 200 ∧
  ∀ (z : Int) (H' : Hp), 0 ≤ z → z < m → HandAt H' p q → Keep H H' p → Q (.int z) H'
theorem scDraw : FnScope ["_law_hand_here", "_law_many", "_law_cell", "_law_rest"] ["_law_hand_here", "_law_many"] (defScope sDraw) := ⟨rfl, rfl, rfl, by decide +kernel, rfl, by decide +kernel, by decide +kernel⟩
theorem ok_draw {f : Addr} {fd : FuncData} (F : Fun K "_law_draw" "_law_draw" sDraw f fd) (m : mg "_law_draw" = some (.ref f)) (T : Bl mg) (M : HasF P w K mg base "_law_mix" 1 ["_law_number", "_law_turn"] spMix) : HasF P w K mg base "_law_draw" 2 ["_law_hand_here", "_law_many"] spDraw := by
  refine ⟨f, fd, ?_, m, F.kp, F.binds fun _ _ _ _ _ _ us hl => match us, hl with | [_, _], _ => rfl⟩
  obtain ⟨f1, fd1, M⟩ := M
  refine F.ok scDraw (fun vs H Q E h => ?_) (fun cdv A outer s H vs Q E hr h => ?_)
  · obtain ⟨a, b, c, rfl, _⟩ := h
    rfl
  · obtain ⟨p, q, m, rfl, ⟨cs, a, b, c, hp, hq⟩, m0, m1, k⟩ := h
    have nqp : q ≠ p := HandAt.ne (ys := []) hp hq
    refine ⟨_, C8.pss_cut (ps_if (PW.pt (pw_and (pt_cmpR op_eq (pe_ix ix_list (pv 0) pe_int (fun _ _ => rfl)) pe_int (nomark _)) (pw_and1 (pt_cmpR op_lt (pe_ix ix_list (pv 0) pe_int (fun _ _ => rfl)) (pe_callB call_len_seq (by rfl) T.len PySem.boot_len (pa_cons (pe_ix ix_list (pv 0) pe_int (fun _ _ => rfl)) pa_nil)) (nomark _)))))
        (pss_cons (ps_set (i := 2) scDraw.nd rfl (Or.inl rfl) (pe_ix ix_list (pe_ix ix_list (pv 0) pe_int (fun _ _ => rfl)) (pe_ix ix_list (pv 0) pe_int (fun _ _ => rfl)) (fun _ _ => rfl)))
        (pss_cons (ps_asg (pe_op op_add (pe_ix ix_list (pv 0) pe_int (fun _ _ => rfl)) pe_int) (pg_sub (pv 0) pe_int set_list))
        (pss_cons (ps_if (pt_cmpR op_lt (pv 2) (pe_op op_pow pe_int pe_int) (nomark _)) (pss_one (ps_ret (pe_op op_mod (pe_callTy call_int1 (by rfl) T.int (by decide +kernel) (pa_cons (pe_call M.G hr (by rfl) M.m M.kp M.b .nil pass0 (pa_cons (pe_op op_mod (pe_callTy call_int1 (by rfl) T.int (by decide +kernel) (pa_cons (pv 2) pa_nil)) pe_int) (pa_cons (pe_ix ix_list (pv 0) pe_int (fun _ _ => rfl)) pa_nil))) pa_nil)) (pv 1)))) pss_nil)
        (pss_one (ps_asg (pv 2) (pg_sub (pv 0) pe_int set_list)))))) pss_nil)
      (pss_cons (ps_if (pt_cmpR op_gt (pe_ix ix_list (pv 0) pe_int (fun _ _ => rfl)) pe_int (nomark _))
        (pss_cons (ps_set (i := 3) scDraw.nd rfl (Or.inl rfl) (pe_ix ix_list (pv 0) pe_int (fun _ _ => rfl)))
        (pss_cons (ps_asg (pe_op op_fdivW (pv 3) (pv 1)) (pg_sub (pv 0) pe_int set_list))
        (pss_one (ps_ret (pe_op op_mod (pe_callTy call_int1 (by rfl) T.int (by decide +kernel) (pa_cons (pv 3) pa_nil)) (pv 1)))))) pss_nil)
      (pss_cons (ps_asg (pe_op op_mod (pe_callTy call_int1 (by rfl) T.int (by decide +kernel) (pa_cons (pe_op op_add (pe_ix ix_list (pv 0) pe_int (fun _ _ => rfl)) pe_int) pa_nil)) pe_int) (pg_sub (pv 0) pe_int set_list))
      (pss_one (ps_ret (pe_op op_mod (pe_callTy call_int1 (by rfl) T.int (by decide +kernel) (pa_cons (pe_call M.G hr (by rfl) M.m M.kp M.b .nil pass0 (pa_cons (pe_ix ix_list (pv 0) pe_int (fun _ _ => rfl)) (pa_cons (pe_ix ix_list (pv 0) pe_int (fun _ _ => rfl)) pa_nil))) pa_nil)) (pv 1)))))), ?_⟩
    refine ⟨fun σ H1 => ∃ (x y : Option V) (a : Nat) (b c : Int), σ = [some (.ref p), some (.int m), x, y] ∧ H1 p = some (.lst [.ref q, .int a, .int b, .int c]) ∧ H1 q = some (.lst (cs.map V.int)) ∧ Keep H H1 p, ?_, ?_⟩
    · refine ⟨_, rfl, p, _, _, _, rfl, rfl, SqL.of hp, by rfl, rfl, _, rfl, ?_⟩
      refine ite2 (fun _ => ?_) (fun _ => ?_)
      · refine ⟨_, rfl, p, _, _, _, rfl, rfl, SqL.of hp, by rfl, _, rfl, p, _, _, _, rfl, rfl, SqL.of hp, by rfl, q, _, rfl, .inl (SqL.of hq), _, _, rfl, rfl, _, rfl, ?_⟩
        refine ite2 (fun h1 => ?_) (fun _ => ?_)
        · have h1 : (a : Int) < ((cs.map V.int).length : Nat) := of_decide_eq_true h1
          rw [List.length_map] at h1
          have h2 : a < cs.length := by omega
          have h3 : (cs.map V.int)[a]? = some (V.int cs[a]) := by rw [List.getElem?_map, List.getElem?_eq_getElem h2]; rfl
          have hq' : ∀ o, (upd H p o) q = some (.lst (cs.map V.int)) := fun o => by rw [upd_ne nqp]; exact hq
          refine ⟨_, rfl, p, _, _, _, rfl, rfl, SqL.of hp, by rfl, _, rfl, p, _, _, _, rfl, rfl, SqL.of hp, by rfl, q, _, _, _, rfl, rfl, SqL.of hq, atI_nat h3, ?_⟩
          refine ⟨_, rfl, p, _, _, _, rfl, rfl, SqL.of hp, by rfl, _, _, rfl, rfl, _, rfl, p, _, _, _, rfl, rfl, hp, by rfl, ?_⟩
          refine ⟨_, rfl, _, _, rfl, rfl, ⟨by decide, by decide, by decide⟩, _, _, rfl, rfl, _, rfl, ?_⟩
          refine ite2 (fun _ => ?_) (fun _ => ?_)
          · refine ⟨_, rfl, .inl ⟨_, rfl, _, _, rfl, rfl, (by show (0 : Int) < _; decide), _, rfl, p, _, _, _, rfl, rfl, SqL.of upd_same, by rfl, _, _, rfl, fun z => .inl ⟨_, rfl, _, rfl, _, _, rfl, rfl, m0, ?_⟩⟩⟩
            exact k _ _ (Int.emod_nonneg _ (by omega)) (Int.emod_lt_of_pos _ m0) ⟨cs, a + 1, b, c, upd_same, hq' _⟩ Keep.refl.upd
          · refine ⟨_, rfl, _, rfl, p, _, _, _, rfl, rfl, upd_same, by rfl, ?_⟩
            refine ⟨_, _, a + 1, cs[a], c, rfl, upd_same, ?_, Keep.refl.upd.upd⟩
            rw [upd_upd]
            exact hq' _
        · exact ⟨_, _, a, b, c, rfl, hp, hq, Keep.refl⟩
      · exact ⟨_, _, a, b, c, rfl, hp, hq, Keep.refl⟩
    · rintro σ H1 ⟨x, y, a, b, c, rfl, hp, hq, kp⟩
      have hq' : ∀ o, (upd H1 p o) q = some (.lst (cs.map V.int)) := fun o => by rw [upd_ne nqp]; exact hq
      refine ⟨_, rfl, p, _, _, _, rfl, rfl, SqL.of hp, by rfl, _, _, rfl, rfl, _, rfl, ?_⟩
      refine ite2 (fun _ => ?_) (fun _ => ?_)
      · refine ⟨_, rfl, p, _, _, _, rfl, rfl, SqL.of hp, by rfl, _, rfl, _, rfl, _, _, rfl, rfl, wide_div m0 m1 (by decide) (by decide), _, rfl, p, _, _, _, rfl, rfl, hp, by rfl, ?_⟩
        refine ⟨_, rfl, .inl ⟨_, rfl, _, rfl, _, _, rfl, rfl, m0, ?_⟩⟩
        exact k _ _ (Int.emod_nonneg _ (by omega)) (Int.emod_lt_of_pos _ m0) ⟨cs, a, _, c, upd_same, hq' _⟩ kp.upd
      · refine ⟨_, rfl, p, _, _, _, rfl, rfl, SqL.of hp, by rfl, _, _, rfl, rfl, .inl ⟨_, rfl, _, _, rfl, rfl, (by show (0 : Int) < _; decide), _, rfl, p, _, _, _, rfl, rfl, hp, by rfl, ?_⟩⟩
        refine ⟨_, rfl, p, _, _, _, rfl, rfl, SqL.of upd_same, by rfl, _, rfl, p, _, _, _, rfl, rfl, SqL.of upd_same, by rfl, _, _, rfl, fun z => .inl ⟨_, rfl, _, rfl, _, _, rfl, rfl, m0, ?_⟩⟩
        exact k _ _ (Int.emod_nonneg _ (by omega)) (Int.emod_lt_of_pos _ m0) ⟨cs, a, _, _, upd_same, hq' _⟩ kp.upd
/-- over enumerate(list), the list standing still -/
theorem for_enum {K : PySem.W.Frag} {a : Addr} {xs : List V} {g : TG} {tb : TS} {D : Ends} {σ : St} {H : Hp} (W : Nat → St → Hp → Prop) (start : W 0 σ H) (still : ∀ i σ H, W i σ H → SqL K H a xs)
    (turn : ∀ i x σ H T, xs[i]? = some x → W i σ H → H T = none → g (.ref T) σ (upd H T (.tup [.int (i : Nat), x])) fun σ2 H2 => tb { D with nx := W (i + 1), ct := W (i + 1), bk := D.nx } σ2 H2) (after : ∀ σ H, W xs.length σ H → D.nx σ H) :
    ∃ U : Nat → Nat → St → Hp → Prop, (∃ m, U 0 m σ H) ∧ ∀ i m σ H, U i m σ H → ((Ite K a).stop i H ∧ D.nx σ H) ∨ ((Ite K a).go i H ∧ ∃ N : St → Hp → Prop, (∀ σ' H', N σ' H' → ∃ m', m' < m ∧ U (i + 1) m' σ' H') ∧
      ∀ x H', (Ite K a).yld i H x H' → g x σ H' fun σ2 H2 => tb { D with nx := N, ct := N, bk := D.nx } σ2 H2) := by
  refine ⟨fun i m σ H => m + i = xs.length ∧ W i σ H, ⟨xs.length, by omega, start⟩, fun i m σ H u => ?_⟩
  obtain ⟨e, u⟩ := u
  cases m with
  | zero =>
    have e : i = xs.length := by omega
    subst e
    exact .inl ⟨⟨xs, still _ _ _ u, Nat.le_refl _⟩, after _ _ u⟩
  | succ m =>
    have lt : i < xs.length := by omega
    refine .inr ⟨⟨xs, xs[i], still _ _ _ u, List.getElem?_eq_getElem lt⟩, W (i + 1), fun σ' H' u' => ⟨m, Nat.lt_succ_self _, by omega, u'⟩, fun x H' y => ?_⟩
    obtain ⟨T, z, rfl, free, rfl, same⟩ := y
    exact turn i z σ H T (same xs (still _ _ _ u)) u free
def spHand (K : PySem.W.Frag) : Sp := fun vs H Q _ => ∃ (a : Addr) (ns : List Int), vs = [.ref a] ∧ SqL K H a (ns.map V.int) ∧ ns.length ≤ 63 ∧ ∀ (p q : Addr) (H' : Hp), H p = none → H q = none → q ≠ p → HandAt H' p q → Same H H' → Q (.ref p) H'
theorem sameUpd {H H1 : Hp} {p : Addr} {o : HO} (s : Same H H1) (h : H1 p = none) : Same H (upd H1 p o) := fun b u e => by
  have e1 := s b u e
  rw [upd_ne (ne_of_none e1 h)]
  exact e1
theorem item_int {ns : List Int} {i : Nat} {y : V} (h : (ns.map V.int)[i]? = some y) : ∃ z, y = V.int z ∧ ns[i]? = some z := by
  rw [List.getElem?_map] at h
  cases e : ns[i]? with
  | none => rw [e] at h; cases h
  | some z => rw [e] at h; exact ⟨z, (Option.some.inj h).symm, rfl⟩
theorem scHand : FnScope ["_law_script", "_law_total", "_law_k", "_law_cell"] ["_law_script"] (defScope sHand) := ⟨rfl, rfl, rfl, by decide +kernel, rfl, by decide +kernel, by decide +kernel⟩
theorem ok_hand {f : Addr} {fd : FuncData} (F : Fun K "_law_hand" "_law_hand" sHand f fd) (m : mg "_law_hand" = some (.ref f)) (T : Bl mg) : HasF P w K mg base "_law_hand" 1 ["_law_script"] (spHand K) := by
  refine ⟨f, fd, ?_, m, F.kp, F.binds fun _ _ _ _ _ _ us hl => match us, hl with | [_], _ => rfl⟩
  refine F.ok scHand (fun vs H Q E h => ?_) (fun cdv A outer s H vs Q E hr h => ?_)
  · obtain ⟨a, b, rfl, _⟩ := h
    rfl
  · obtain ⟨a, ns, rfl, hS, hl, k⟩ := h
    refine ⟨_, pss_cons (ps_set (i := 1) scHand.nd rfl (Or.inl rfl) pe_int)
      (pss_cons (ps_for PassesOwn.never rfl (pi_enum (by rfl) T.enumerate (pa_cons (pv 0) pa_nil)) (pg_tup rfl (pgs_cons (pg_name (i := 2) scHand.nd rfl (.inl rfl)) (pgs_cons (pg_name (i := 3) scHand.nd rfl (.inl rfl)) pgs_nil)))
        (pss_one (ps_set (i := 1) scHand.nd rfl (Or.inl rfl) (pe_op op_mod (pe_callTy call_int1 (by rfl) T.int (by decide +kernel) (pa_cons (pe_op op_add (pe_op op_mul (pv 1) pe_int) (pe_op op_mul (pe_callTy call_int1 (by rfl) T.int (by decide +kernel) (pa_cons (pv 3) pa_nil)) (pe_op op_add (pv 2) pe_int))) pa_nil)) pe_int))))
      (pss_one (ps_ret (pe_lst (pa_cons (pe_lc (own := [("_law_cell", 3)]) (g := gName 3) (tt := tYes) (by rfl) scHand.nd (pi_list (pv 0)) (blkOk_by (own := [("_law_cell", 3)]) (N := ["_law_script", "_law_total", "_law_k", "_law_cell"]) (sc := defScope sHand) (by decide +kernel))
          (fun _ _ _ _ _ => pg_name (i := 3) scHand.nd rfl (Or.inl rfl)) (fun _ _ _ _ _ => pts_nil) (fun _ _ _ _ _ => (pe_callB call_abs (by rfl) T.abs (by decide +kernel) (pa_cons (pe_callTy call_int1 (by rfl) T.int (by decide +kernel) (pa_cons (pv 3) pa_nil)) pa_nil))))
        (pa_cons pe_int (pa_cons pe_int (pa_cons (pv 1) pa_nil)))))))), ?_⟩
    refine ⟨_, rfl, a, _, rfl, hS, for_enum (K := K) (a := a) (xs := ns.map V.int) (fun i σ H2 => ∃ (t : Int) (x y : Option V), σ = [some (.ref a), some (.int t), x, y] ∧ Same H H2 ∧ True) ⟨_, _, _, rfl, Same.refl _, trivial⟩ (fun i σ H2 ⟨_, _, _, _, s2, _⟩ => s2.seq hS) ?_ ?_⟩
    · rintro i x σ H2 T hi ⟨t, c, d, rfl, s2, _⟩ free
      obtain ⟨z, rfl, hz⟩ := item_int hi
      have hlt : i < ns.length := (List.getElem?_eq_some_iff.mp hz).1
      refine ⟨T, _, rfl, SqT.of upd_same, rfl, _, _, rfl, _, _, rfl, rfl, ?_⟩
      refine ⟨_, rfl, _, _, rfl, rfl, .inr ⟨by decide, by decide⟩, _, rfl, .inl ⟨_, rfl, _, rfl, _, _, rfl, rfl, _, _, rfl, rfl, .inr ⟨by omega, by omega⟩, _, _, rfl, rfl, .inl ⟨_, rfl, _, _, rfl, rfl, (by show (0 : Int) < _; decide), ?_⟩⟩⟩
      exact ⟨_, _, _, rfl, sameUpd s2 free, trivial⟩
    · rintro σ H2 ⟨t, c, d, rfl, s2, _⟩
      have q : ∀ (b : Int) (l : List Int), (l ++ [b]).map V.int = l.map V.int ++ [V.int b] := fun b l => by rw [List.map_append]; rfl
      refine ⟨_, rfl, a, rfl, ⟨_, s2.seq hS⟩, fun D hD => lc_list (K := K) (a := a) (xs := ns.map V.int) (fun i H3 => Same H H3 ∧ ∃ cs : List Int, cs.length = i ∧ H3 D = some (.lst (cs.map V.int))) ⟨sameUpd s2 hD, [], rfl, upd_same⟩ (fun i H3 _ w => w.1.seq hS) ?_ ?_⟩
      · rintro i y H3 hi ⟨s3, cs, hc, hd⟩
        obtain ⟨z, rfl, hz⟩ := item_int hi
        have hlt : i < ns.length := (List.getElem?_eq_some_iff.mp hz).1
        refine ⟨rfl, ?_⟩
        refine ⟨_, rfl, .inl ⟨_, rfl, _, rfl, cs.map V.int, hd, small1000 (by rw [List.length_map]; omega), ?_⟩⟩
        have e : H D = none := s2.free hD
        refine ⟨fun b u e' => ?_, cs ++ [_], by rw [List.length_append, hc]; rfl, by rw [q]; exact upd_same⟩
        rw [upd_ne (ne_of_none e' e)]
        exact s3 b u e'
      · rintro H3 ⟨s3, cs, hc, hd⟩
        refine ⟨_, rfl, (by show 4 ≤ sizeLine; decide), fun p hp => ?_⟩
        have np : p ≠ D := fun e => by rw [e, hd] at hp; cases hp
        exact k p D _ (s3.free hp) (s2.free hD) np.symm ⟨cs, 0, 0, _, upd_same, by rw [upd_ne np.symm]; exact hd⟩ (sameUpd s3 hp)
/-- every sign a letter from a to z -/
def spOne : Sp := fun vs H Q _ => ∃ (p q r : Addr) (xs : List V), vs = [.ref p, .ref r] ∧ HandAt H p q ∧ H r = some (.lst xs) ∧ r ≠ p ∧ 0 < xs.length ∧ xs.length ≤ 1000 ∧
  ∀ (x : V) (H' : Hp), x ∈ xs → HandAt H' p q → Keep H H' p → Q x H'
theorem scOne : FnScope ["_law_hand_here", "_law_rows"] ["_law_hand_here", "_law_rows"] (defScope sOne) := ⟨rfl, rfl, rfl, by decide +kernel, rfl, by decide +kernel, by decide +kernel⟩
theorem ok_one {f : Addr} {fd : FuncData} (F : Fun K "_law_one" "_law_one" sOne f fd) (m : mg "_law_one" = some (.ref f)) (T : Bl mg) (D : HasF P w K mg base "_law_draw" 2 ["_law_hand_here", "_law_many"] spDraw) : HasF P w K mg base "_law_one" 3 ["_law_hand_here", "_law_rows"] spOne := by
  refine ⟨f, fd, ?_, m, F.kp, F.binds fun _ _ _ _ _ _ us hl => match us, hl with | [_, _], _ => rfl⟩
  obtain ⟨f1, fd1, D⟩ := D
  refine F.ok scOne (fun vs H Q E h => ?_) (fun cdv A outer s H vs Q E hr h => ?_)
  · obtain ⟨a, b, c, d, rfl, _⟩ := h
    rfl
  · obtain ⟨p, q, r, xs, rfl, hp, hx, ne, h0, h9, k⟩ := h
    refine ⟨_, pss_one (ps_ret (pe_ix ix_list (pv 1) (pe_call D.G hr (by rfl) D.m D.kp D.b .nil pass0 (pa_cons (pv 0) (pa_cons (pe_callB call_len_seq (by rfl) T.len PySem.boot_len (pa_cons (pv 1) pa_nil)) pa_nil))) (fun _ _ => rfl))), ?_⟩
    have hz : xs.length < 2 ^ 200 := Nat.lt_of_le_of_lt h9 (by decide)
    refine ⟨_, rfl, _, rfl, _, rfl, r, _, rfl, .inl (SqL.of hx), p, q, _, rfl, hp, by omega, by rw [Int.natAbs_natCast]; exact hz, fun z H1 z0 z1 hp1 k1 => ?_⟩
    obtain ⟨n, rfl⟩ : ∃ n : Nat, z = n := ⟨z.toNat, by omega⟩
    have lt : n < xs.length := by omega
    exact ⟨r, xs, n, _, rfl, rfl, SqL.of (k1 r _ hx ne), atI_nat (List.getElem?_eq_getElem lt), k _ _ (List.getElem_mem lt) hp1 k1⟩
/-- the kinds of things that are asked -/
inductive Kd (H : Hp) : V → String → Prop where
  | non : Kd H .non "NoneType"
  | bl (b : Bool) : Kd H (.bl b) "bool"
  | int (i : Int) : Kd H (.int i) "int"
  | str (z : Str) : Kd H (.str z) "str"
  | lst (a : Addr) (xs : List V) (h : H a = some (.lst xs)) : Kd H (.ref a) "list"
  | tup (a : Addr) (xs : List V) (h : H a = some (.tup xs)) : Kd H (.ref a) "tuple"
  | dct (a : Addr) (xs : List (Key × V)) (h : H a = some (.dK xs)) : Kd H (.ref a) "dict"
theorem Kd.ty {K : PySem.W.Frag} {H : Hp} {x : V} {n : String} (k : Kd H x n) : TyX K H x (.type n) := by
  cases k with
  | non => exact .base .non
  | bl b => exact .base (.bl _)
  | int i => exact .base (.int _)
  | str z => exact .base (.str _)
  | lst a xs h => exact .base (.lst h)
  | tup a xs h => exact .base (.tup h)
  | dct a xs h => exact .base (.dK h)
theorem Kd.kits {H : Hp} {x : V} {n : String} (k : Kd H x n) : n ∈ ["NoneType", "bool", "int", "str", "list", "tuple", "dict"] := by cases k <;> decide
structure Bm (mg : Str → Option Value) : Prop where
  isinstance : mg "isinstance" = none
  str : mg "str" = none
  bool : mg "bool" = none
  list : mg "list" = none
  tuple : mg "tuple" = none
theorem kit_int {n : String} (h : n ∈ ["NoneType", "bool", "int", "str", "list", "tuple", "dict"]) : kitB n "int" = some (n == "int" || n == "bool") := by
  simp only [List.mem_cons, List.not_mem_nil, or_false] at h
  rcases h with h | h | h | h | h | h | h <;> (subst h; decide +kernel)
theorem kit_bool {n : String} (h : n ∈ ["NoneType", "bool", "int", "str", "list", "tuple", "dict"]) : kitB n "bool" = some (n == "bool") := by
  simp only [List.mem_cons, List.not_mem_nil, or_false] at h
  rcases h with h | h | h | h | h | h | h <;> (subst h; decide +kernel)
theorem kit_str {n : String} (h : n ∈ ["NoneType", "bool", "int", "str", "list", "tuple", "dict"]) : kitB n "str" = some (n == "str") := by
  simp only [List.mem_cons, List.not_mem_nil, or_false] at h
  rcases h with h | h | h | h | h | h | h <;> (subst h; decide +kernel)
theorem kit_list {n : String} (h : n ∈ ["NoneType", "bool", "int", "str", "list", "tuple", "dict"]) : kitB n "list" = some (n == "list") := by
  simp only [List.mem_cons, List.not_mem_nil, or_false] at h
  rcases h with h | h | h | h | h | h | h <;> (subst h; decide +kernel)
theorem kit_tuple {n : String} (h : n ∈ ["NoneType", "bool", "int", "str", "list", "tuple", "dict"]) : kitB n "tuple" = some (n == "tuple") := by
  simp only [List.mem_cons, List.not_mem_nil, or_false] at h
  rcases h with h | h | h | h | h | h | h <;> (subst h; decide +kernel)
/-- a whole number from lo to hi -/
def wholeV (x : V) (lo hi : Int) : Bool := match x with
  | .int i => decide (lo ≤ i) && decide (i ≤ hi)
  | _ => false
def spWhole : Sp := fun vs H Q _ => ∃ (x : V) (n : String) (lo hi : Int), vs = [x, .int lo, .int hi] ∧ Kd H x n ∧ Q (.bl (wholeV x lo hi)) H
theorem scWhole : FnScope ["thing", "low", "high"] ["thing", "low", "high"] (defScope sWhole) := ⟨rfl, rfl, rfl, by decide +kernel, rfl, by decide +kernel, by decide +kernel⟩
theorem ok_whole {f : Addr} {fd : FuncData} (F : Fun K "is_whole" "is_whole" sWhole f fd) (m : mg "is_whole" = some (.ref f)) (T : Bl mg) (B : Bm mg) : HasF P w K mg base "is_whole" 1 ["thing", "low", "high"] spWhole := by
  refine ⟨f, fd, ?_, m, F.kp, F.binds fun _ _ _ _ _ _ us hl => match us, hl with | [_, _, _], _ => rfl⟩
  refine F.ok scWhole (fun vs H Q E h => ?_) (fun cdv A outer s H vs Q E hr h => ?_)
  · obtain ⟨a, b, c, d, rfl, _⟩ := h
    rfl
  · obtain ⟨x, n, lo, hi, rfl, hk, k⟩ := h
    refine ⟨_, pss_one (ps_ret (pe_and (pe_callB call_isi (by rfl) B.isinstance (by decide +kernel) (pa_cons (pv 0) (pa_cons (pe_bltn (v := .ty "int") (by rfl) T.int (by decide +kernel) rfl) pa_nil))) (pe_and (pe_not (pe_callB call_isi (by rfl) B.isinstance (by decide +kernel) (pa_cons (pv 0) (pa_cons (pe_bltn (v := .ty "bool") (by rfl) B.bool (by decide +kernel) rfl) pa_nil)))) (pe_one (pe_chain op_le op_le (pv 1) (pv 0) (pv 2)))))), ?_⟩
    refine ⟨_, rfl, x, _, _, _, _, rfl, .ty _, hk.ty, kit_ty (kit_int hk.kits), _, rfl, ?_⟩
    cases hk with
    | int i =>
      refine iteT ⟨_, rfl, .int i, _, _, _, _, rfl, .ty _, (Kd.int (H := H) i).ty, kit_ty (kit_bool (Kd.int (H := H) i).kits), _, rfl, _, rfl, ?_⟩
      refine iteT ⟨_, rfl, _, rfl, _, _, rfl, rfl, _, rfl, ?_⟩
      refine ite2 (fun h1 => ?_) (fun h1 => ?_)
      · have h1 : lo ≤ i := of_decide_eq_true h1
        refine ⟨_, rfl, _, _, rfl, rfl, ?_⟩
        have e : wholeV (.int i) lo hi = decide (i ≤ hi) := by simp [wholeV, h1]
        rw [e] at k
        exact k
      · have h1 : ¬ lo ≤ i := fun z => h1 (decide_eq_true z)
        have e : wholeV (.int i) lo hi = false := by simp [wholeV, h1]
        rw [e] at k
        exact k
    | bl b =>
      refine iteT ⟨_, rfl, .bl b, _, _, _, _, rfl, .ty _, (Kd.bl (H := H) b).ty, kit_ty (kit_bool (Kd.bl (H := H) b).kits), _, rfl, _, rfl, ?_⟩
      exact iteF k
    | non => exact iteF k
    | str z => exact iteF k
    | lst a xs h => exact iteF k
    | tup a xs h => exact iteF k
    | dct a xs h => exact iteF k
/-! labels -/
def seqV (n : String) : Bool := n == "list" || n == "tuple"
def spSeq : Sp := fun vs H Q _ => ∃ (x : V) (n : String), vs = [x] ∧ Kd H x n ∧ ∀ H', Same H H' → Q (.bl (seqV n)) H'
theorem scSeq : FnScope ["thing"] ["thing"] (defScope sSeq) := ⟨rfl, rfl, rfl, by decide +kernel, rfl, by decide +kernel, by decide +kernel⟩
theorem kit_seq {K : PySem.W.Frag} {n : String} (h : n ∈ ["NoneType", "bool", "int", "str", "list", "tuple", "dict"]) : PySem.W.kitAny K (.type n) [.type "list", .type "tuple"] = some (seqV n) := by
  refine kitAny_cons (kit_ty (kit_list h)) (fun e => kitAny_cons (kit_ty (kit_tuple h)) (fun e2 => ?_) (fun e2 => ?_)) (fun e => ?_)
  · unfold seqV; rw [e, e2]; exact kitAny_nil
  · unfold seqV; rw [e, e2]; rfl
  · unfold seqV; rw [e]; rfl
theorem Kd.keep {H H' : Hp} {x : V} {n : String} (k : Kd H x n) (s : Same H H') : Kd H' x n := by
  cases k with
  | non => exact .non
  | bl b => exact .bl b
  | int i => exact .int i
  | str z => exact .str z
  | lst a xs h => exact .lst a xs (s _ _ h)
  | tup a xs h => exact .tup a xs (s _ _ h)
  | dct a xs h => exact .dct a xs (s _ _ h)
theorem ok_seq {f : Addr} {fd : FuncData} (F : Fun K "is_sequence" "is_sequence" sSeq f fd) (m : mg "is_sequence" = some (.ref f)) (B : Bm mg) : HasF P w K mg base "is_sequence" 1 ["thing"] spSeq := by
  refine ⟨f, fd, ?_, m, F.kp, F.binds fun _ _ _ _ _ _ us hl => match us, hl with | [_], _ => rfl⟩
  refine F.ok scSeq (fun vs H Q E h => ?_) (fun cdv A outer s H vs Q E hr h => ?_)
  · obtain ⟨a, b, rfl, _⟩ := h
    rfl
  · obtain ⟨x, n, rfl, hk, k⟩ := h
    refine ⟨_, pss_one (ps_ret (pe_callB call_isiT (by rfl) B.isinstance (by decide +kernel) (pa_cons (pv 0) (pa_cons (pe_tup (pa_cons (pe_bltn (v := .ty "list") (by rfl) B.list (by decide +kernel) rfl) (pa_cons (pe_bltn (v := .ty "tuple") (by rfl) B.tuple (by decide +kernel) rfl) pa_nil))) pa_nil)))), ?_⟩
    refine ⟨_, rfl, by decide, fun t ht => ?_⟩
    exact ⟨x, t, _, _, _, _, rfl, upd_same, .cons (.ty _) (.cons (.ty _) .nil), (hk.keep (sameUpd (Same.refl _) ht)).ty, kit_seq hk.kits, k _ (sameUpd (Same.refl _) ht)⟩
theorem keepUpd {H H1 : Hp} {p a : Addr} {o : HO} (k : Keep H H1 p) (h : H a = none) : Keep H (upd H1 a o) p := fun b u e ne => by
  rw [upd_ne (ne_of_none e h)]
  exact k b u e ne
theorem HandAt.upd {H : Hp} {p q a : Addr} {o : HO} (h : HandAt H p q) (n1 : a ≠ p) (n2 : a ≠ q) : HandAt (upd H a o) p q := by
  obtain ⟨cs, x, b, c, h1, h2⟩ := h
  exact ⟨cs, x, b, c, by rw [upd_ne n1.symm]; exact h1, by rw [upd_ne n2.symm]; exact h2⟩
theorem HandAt.ap {H : Hp} {p q a : Addr} (h : HandAt H p q) (ha : H a = none) : a ≠ p := by
  obtain ⟨cs, x, b, c, h1, h2⟩ := h
  exact (ne_of_none h1 ha).symm
theorem HandAt.aq {H : Hp} {p q a : Addr} (h : HandAt H p q) (ha : H a = none) : a ≠ q := by
  obtain ⟨cs, x, b, c, h1, h2⟩ := h
  exact (ne_of_none h2 ha).symm
theorem HandAt.same {H H' : Hp} {p q : Addr} (h : HandAt H p q) (s : Same H H') : HandAt H' p q := by
  obtain ⟨cs, x, b, c, h1, h2⟩ := h
  exact ⟨cs, x, b, c, s _ _ h1, s _ _ h2⟩
theorem Same.keep {H H' : Hp} {p : Addr} (s : Same H H') : Keep H H' p := fun b o e _ => s b o e
end
end Kx

set_option maxHeartbeats 4000000
/-! list(d.values()) -/
namespace Kx
open PySem PySem.Spec PyProof.Rows L2
def tListVals (te : TE) : TE := fun σ H Q => te σ H fun x H1 => ∃ (d : Addr) (kvs : List (Key × V)), x = .ref d ∧ H1 d = some (.dK kvs) ∧ ∀ p, H1 p = none → Q (.ref p) (upd H1 p (.lst (kvs.map (·.2))))
theorem kv_vals {kvs : List (Key × V)} {vs : List (Key × Value)} (h : KV kvs vs) : Vals (kvs.map (·.2)) (vs.map (·.2)) := by
  unfold KV at h
  induction h with
  | nil => exact .nil
  | cons r t ih => exact .cons r.2 ih
section
variable {X : Cx} {e : Expr} {te : TE} {p apos cpos pos : Pos}
theorem pe_listVals (hc : X.calm = true) (he : PE X e te) (hg : Gl X "list") (hm : X.mg "list" = none) (hv : bootBuiltins "list" = some (.type "list")) (hbase : attributeBase e "values" X.env (eval e X.env) = eval e X.env := by rfl) (hline : (apos.endLine == cpos.line) = true := by rfl)
    (hs : starEach [.Call (.Attribute e "values" apos) [] [] cpos] X.env = (false, eval (.Call (.Attribute e "values" apos) [] [] cpos) X.env) :: starEach [] X.env := by rfl) :
    PE X (.Call (.Name "list" p) [.Call (.Attribute e "values" apos) [] [] cpos] [] pos) (tListVals te) := by
  refine ⟨fun pins s σ H Q I hq => ?_⟩
  refine wpAny_Call_Name_kw (ld_blt I hg hm hv ?_)
  refine PyProof.Rows.callWith_type1 ?_ hs rfl
  rw [hs]
  show wpAny _ _ (spliced ((false, eval (.Call (.Attribute e "values" apos) [] [] cpos) X.env) :: backTo pos (starEach [] X.env))) _ _ s
  refine Calls.spliced_cons ?_
  refine wpAny_Call_method (T := "dict") (id := "dict.values") hbase rfl hline F.plainAttrs_dict F.slot_dict_values F.type_dict_values (thn (he.run pins s σ H _ I hq) fun u s1 ⟨x, H1, I1, rx, d, kvs, ex, hd, q⟩ => ?_)
  subst ex
  obtain rfl : u = Value.ref d := rx
  obtain ⟨hz, hs0, vs, kv, hdo⟩ := I1.hok d _ hd
  obtain ⟨ep, hat⟩ := hdo.dictAt
  have lk : kvs.length = vs.length := Paired.length kv
  have I2 : Inv X pins σ H1 { s1 with heap := s1.heap.push { cls := .type "dict_values", data := .fields #[.ref d] } } := I1.kept (t' := s1.toks) fun b ob q => Heap.get?_push_of_some _ q
  refine ⟨hdo.typeIs, hdo.mapOf.noDict, ?_⟩
  show wpAny _ _ (callWith cpos (.builtin "dict.values") [.ref d] [] []) _ X.xe s1
  refine method_meetsIn F.slot_dict_values F.entry_dict_values rfl (PySem.evalArgs_none ⟨rfl, hdo.typeIs, F.args_dict_values_1 _, _, meets_dict_values (mixKind X.prog X.w) d hs0, ⟨vs, hdo⟩, ?_⟩)
  refine Calls.spliced_nil ?_
  refine PySem.W.kdl_call (PySem.W.kdl_values (knd := mixKind X.prog X.w) (kvs := vs) (ep := ep)) (I1.ok.hd hc) ⟨⟨_, Heap.get?_push_size _ rfl, rfl, rfl⟩, hat.push _⟩ (by omega) fun h' tk acc c hk hS hacc => ?_
  have ev : acc.toList = vs.map (·.2) := PySem.W.kdl_vals_eq acc.toList (by rw [Array.length_toList]; exact hacc.1) fun j v e => hacc.2 j v (by rw [← Array.getElem?_toList]; exact e)
  refine ⟨.ref _, _, I2.laid (t' := tk) (fun b o q => hk b o q) (Nat.le_refl _) (show ObjOk X.prog X.w _ h' _ (.lst (kvs.map (·.2))) from ⟨by rw [List.length_map]; omega, acc.toList, c, by rw [ev]; exact kv_vals kv, by rw [Array.toArray_toList]; exact hS⟩), rfl, q _ (I2.hok.fresh (Nat.le_refl _))⟩
end
end Kx

set_option maxHeartbeats 4000000
/-! links as lists of pairs -/
namespace Kx
open PySem L2
abbrev Pr := Int × Int
def leP (x y : Pr) : Bool := !SrtO.lexB y x
theorem leP_iff {x y : Pr} : leP x y = true ↔ x.1 < y.1 ∨ (x.1 = y.1 ∧ x.2 ≤ y.2) := by
  unfold leP
  rw [Bool.not_eq_true', SrtO.lexB_no]
  omega
def srt (l : List Pr) : List Pr := l.mergeSort leP
theorem srt_perm (l : List Pr) : (srt l).Perm l := List.mergeSort_perm l leP
theorem srt_pw (l : List Pr) : (srt l).Pairwise fun x y => leP x y = true := by
  refine List.pairwise_mergeSort (fun a b c h1 h2 => ?_) (fun a b => ?_) l
  · rw [leP_iff] at *
    omega
  · rw [Bool.or_eq_true, leP_iff, leP_iff]
    omega
theorem leP_anti {a b : Pr} (h1 : leP a b = true) (h2 : leP b a = true) : a = b := by
  rw [leP_iff] at *
  exact Prod.ext (by omega) (by omega)
theorem srt_eq {ys l : List Pr} (p : ys.Perm l) (h : ys.Pairwise fun x y => leP x y = true) : ys = srt l :=
  List.Perm.eq_of_pairwise (le := fun x y => leP x y = true) (fun _ _ _ _ h1 h2 => leP_anti h1 h2) h (srt_pw l) (p.trans (srt_perm l).symm)
theorem srt_congr {l m : List Pr} (p : l.Perm m) : srt l = srt m := srt_eq ((srt_perm l).trans p) (srt_pw l)
theorem srt_srt (l : List Pr) : srt (srt l) = srt l := srt_congr (srt_perm l)
theorem srt_mem {l : List Pr} {q : Pr} : q ∈ srt l ↔ q ∈ l := (srt_perm l).mem_iff
theorem srt_len (l : List Pr) : (srt l).length = l.length := (srt_perm l).length_eq
theorem srt_ext {l m : List Pr} (d1 : l.Nodup) (d2 : m.Nodup) (h : ∀ q, q ∈ l ↔ q ∈ m) : srt l = srt m := srt_congr ((List.perm_ext_iff_of_nodup d1 d2).mpr h)
/-- what a likeness of a and b persons has -/
structure Lk (a b : Int) (l : List Pr) : Prop where
  lo : ∀ q ∈ l, (0 ≤ q.1 ∧ q.1 < a) ∧ 0 ≤ q.2 ∧ q.2 < b
  n1 : (l.map (·.1)).Nodup
  n2 : (l.map (·.2)).Nodup
theorem nodup_of_map {α β : Type} {f : α → β} {l : List α} (h : (l.map f).Nodup) : l.Nodup := (List.pairwise_map.mp h).imp fun hn e => hn (by rw [e])
theorem map_nodup {α β : Type} {f : α → β} {l : List α} (h : l.Nodup) (inj : ∀ x ∈ l, ∀ y ∈ l, f x = f y → x = y) : (l.map f).Nodup :=
  List.pairwise_map.mpr (h.imp_of_mem fun hx hy hn e => hn (inj _ hx _ hy e))
theorem map_inj {α β : Type} {f : α → β} {l : List α} (h : (l.map f).Nodup) {x y : α} (hx : x ∈ l) (hy : y ∈ l) (e : f x = f y) : x = y := by
  induction l with
  | nil => cases hx
  | cons z l ih =>
    rw [List.map_cons, List.nodup_cons] at h
    rcases List.mem_cons.mp hx with e1 | hx
    · rcases List.mem_cons.mp hy with e2 | hy
      · rw [e1, e2]
      · rw [e1] at e; exact absurd (List.mem_map.mpr ⟨y, hy, e.symm⟩) h.1
    · rcases List.mem_cons.mp hy with e2 | hy
      · rw [e2] at e; exact absurd (List.mem_map.mpr ⟨x, hx, e⟩) h.1
      · exact ih h.2 hx hy
namespace Lk
variable {a b c : Int} {l m : List Pr}
theorem nd (h : Lk a b l) : l.Nodup := nodup_of_map h.n1
theorem i1 (h : Lk a b l) {i j j' : Int} (h1 : (i, j) ∈ l) (h2 : (i, j') ∈ l) : j = j' := congrArg Prod.snd (map_inj h.n1 h1 h2 rfl)
theorem i2 (h : Lk a b l) {i i' j : Int} (h1 : (i, j) ∈ l) (h2 : (i', j) ∈ l) : i = i' := congrArg Prod.fst (map_inj h.n2 h1 h2 rfl)
theorem mk' (nd : l.Nodup) (lo : ∀ q ∈ l, (0 ≤ q.1 ∧ q.1 < a) ∧ 0 ≤ q.2 ∧ q.2 < b) (i1 : ∀ i j j', (i, j) ∈ l → (i, j') ∈ l → j = j') (i2 : ∀ i i' j, (i, j) ∈ l → (i', j) ∈ l → i = i') : Lk a b l :=
  ⟨lo, map_nodup nd fun x hx y hy e => Prod.ext e (i1 x.1 x.2 y.2 hx (by rw [show x.1 = y.1 from e]; exact hy)), map_nodup nd fun x hx y hy e => Prod.ext (i2 x.1 y.1 x.2 hx (by rw [show x.2 = y.2 from e]; exact hy)) e⟩
theorem perm (h : Lk a b l) (p : m.Perm l) : Lk a b m := ⟨fun q hq => h.lo q (p.mem_iff.mp hq), (p.map _).nodup_iff.mpr h.n1, (p.map _).nodup_iff.mpr h.n2⟩
theorem srt (h : Lk a b l) : Lk a b (srt l) := h.perm (srt_perm l)
theorem sub (h : Lk a b l) (s : m.Sublist l) : Lk a b m := ⟨fun q hq => h.lo q (s.mem hq), h.n1.sublist (s.map _), h.n2.sublist (s.map _)⟩
end Lk
/-- j's in [0, n), each once, are at most n -/
theorem pig : ∀ (n : Nat) (l : List Int), l.Nodup → (∀ x ∈ l, 0 ≤ x ∧ x < (n : Int)) → l.length ≤ n
  | 0, l, _, h => by
    cases l with
    | nil => exact Nat.le_refl _
    | cons x l => have := h x (.head _); omega
  | n + 1, l, nd, h => by
    have h1 := pig n (l.erase (n : Int)) (nd.erase _) fun x hx => by
      obtain ⟨hn, hm⟩ := (nd.mem_erase_iff).mp hx
      have := h x hm
      omega
    have h2 : l.length ≤ (l.erase (n : Int)).length + 1 := by
      rw [List.length_erase]
      split <;> omega
    omega
theorem pig_full {n : Nat} {l : List Int} (nd : l.Nodup) (h : ∀ x ∈ l, 0 ≤ x ∧ x < (n : Int)) (e : l.length = n) {x : Int} (h0 : 0 ≤ x) (h1 : x < n) : x ∈ l := by
  by_cases m : x ∈ l
  · exact m
  · have := pig n (x :: l) (List.nodup_cons.mpr ⟨m, nd⟩) fun y hy => by
      rcases List.mem_cons.mp hy with rfl | hy
      · exact ⟨h0, h1⟩
      · exact h y hy
    rw [List.length_cons] at this
    omega
theorem Lk.len1 {a b : Int} {l : List Pr} (h : Lk a b l) (a0 : 0 ≤ a) : (l.length : Int) ≤ a := by
  have := pig a.toNat (l.map (·.1)) h.n1 fun x hx => by
    obtain ⟨q, hq, rfl⟩ := List.mem_map.mp hx
    have := (h.lo q hq).1
    omega
  rw [List.length_map] at this
  omega
theorem Lk.len2 {a b : Int} {l : List Pr} (h : Lk a b l) (b0 : 0 ≤ b) : (l.length : Int) ≤ b := by
  have := pig b.toNat (l.map (·.2)) h.n2 fun x hx => by
    obtain ⟨q, hq, rfl⟩ := List.mem_map.mp hx
    have := (h.lo q hq).2
    omega
  rw [List.length_map] at this
  omega
theorem Lk.all1 {a b : Int} {l : List Pr} (h : Lk a b l) (e : (l.length : Int) = a) {i : Int} (h0 : 0 ≤ i) (h1 : i < a) : ∃ j, (i, j) ∈ l := by
  have := pig_full (n := a.toNat) h.n1 (fun x hx => by
    obtain ⟨q, hq, rfl⟩ := List.mem_map.mp hx
    have := (h.lo q hq).1
    omega) (by rw [List.length_map]; omega) h0 (by omega : i < (a.toNat : Int))
  obtain ⟨q, hq, rfl⟩ := List.mem_map.mp this
  exact ⟨q.2, hq⟩
theorem Lk.all2 {a b : Int} {l : List Pr} (h : Lk a b l) (e : (l.length : Int) = b) {j : Int} (h0 : 0 ≤ j) (h1 : j < b) : ∃ i, (i, j) ∈ l := by
  have := pig_full (n := b.toNat) h.n2 (fun x hx => by
    obtain ⟨q, hq, rfl⟩ := List.mem_map.mp hx
    have := (h.lo q hq).2
    omega) (by rw [List.length_map]; omega) h0 (by omega : j < (b.toNat : Int))
  obtain ⟨q, hq, rfl⟩ := List.mem_map.mp this
  exact ⟨q.1, hq⟩
/-- flipped -/
def flpL (l : List Pr) : List Pr := l.map fun q => (q.2, q.1)
theorem mem_flpL {l : List Pr} {q : Pr} : q ∈ flpL l ↔ (q.2, q.1) ∈ l := by
  unfold flpL
  rw [List.mem_map]
  constructor
  · rintro ⟨r, hr, rfl⟩
    exact hr
  · exact fun h => ⟨_, h, rfl⟩
theorem Lk.flpL {a b : Int} {l : List Pr} (h : Lk a b l) : Lk b a (flpL l) := by
  refine ⟨fun q hq => ⟨(h.lo _ (mem_flpL.mp hq)).2, (h.lo _ (mem_flpL.mp hq)).1⟩, ?_, ?_⟩
  · unfold Kx.flpL; rw [List.map_map]; exact h.n2
  · unfold Kx.flpL; rw [List.map_map]; exact h.n1
def flp (l : List Pr) : List Pr := srt (flpL l)
theorem mem_flp {l : List Pr} {q : Pr} : q ∈ flp l ↔ (q.2, q.1) ∈ l := srt_mem.trans mem_flpL
theorem Lk.flp {a b : Int} {l : List Pr} (h : Lk a b l) : Lk b a (flp l) := h.flpL.srt
/-- led on: as the program does it -/
def getP (l : List Pr) (j : Int) : Option Int := (l.find? fun r => decide (r.1 = j)).map (·.2)
theorem getP_mem {a b : Int} {l : List Pr} (h : Lk a b l) {j k : Int} : getP l j = some k ↔ (j, k) ∈ l := by
  unfold getP
  constructor
  · intro e
    obtain ⟨r, hr, er⟩ := Option.map_eq_some_iff.mp e
    have h1 := List.mem_of_find?_eq_some hr
    have h2 : r.1 = j := by simpa using List.find?_some hr
    rw [← h2, ← er]
    exact h1
  · intro m
    cases e : l.find? fun r => decide (r.1 = j) with
    | none => exact absurd (by simp) (List.find?_eq_none.mp e _ m)
    | some r =>
      have h1 := List.mem_of_find?_eq_some e
      have h2 : r.1 = j := by simpa using List.find?_some e
      have : (j, r.2) ∈ l := by rw [← h2]; exact h1
      exact congrArg some (h.i1 this m)
def thenL (l m : List Pr) : List Pr := l.filterMap fun q => (getP m q.2).map fun k => (q.1, k)
theorem mem_thenL {b c : Int} {l m : List Pr} (h : Lk b c m) {q : Pr} : q ∈ thenL l m ↔ ∃ j, (q.1, j) ∈ l ∧ (j, q.2) ∈ m := by
  unfold thenL
  rw [List.mem_filterMap]
  constructor
  · rintro ⟨r, hr, e⟩
    obtain ⟨k, hk, e⟩ := Option.map_eq_some_iff.mp e
    rw [← e]
    exact ⟨r.2, hr, (getP_mem h).mp hk⟩
  · rintro ⟨j, h1, h2⟩
    exact ⟨(q.1, j), h1, by rw [(getP_mem h).mpr h2]; rfl⟩
theorem thenL_sub {l m : List Pr} : ((thenL l m).map (·.1)).Sublist (l.map (·.1)) := by
  induction l with
  | nil => exact .slnil
  | cons q l ih =>
    unfold thenL at ih ⊢
    cases e : getP m q.2 with
    | none => rw [List.filterMap_cons_none (by rw [e]; rfl)]; exact ih.cons _
    | some k => rw [List.filterMap_cons_some (b := (q.1, k)) (by rw [e]; rfl)]; exact ih.cons_cons _
theorem Lk.thenL {a b c : Int} {l m : List Pr} (h : Lk a b l) (h' : Lk b c m) : Lk a c (thenL l m) := by
  have nd : (Kx.thenL l m).Nodup := nodup_of_map (f := (·.1)) (h.n1.sublist thenL_sub)
  refine Lk.mk' nd (fun q hq => ?_) (fun i k k' h1 h2 => ?_) (fun i i' k h1 h2 => ?_)
  · obtain ⟨j, h1, h2⟩ := (mem_thenL h').mp hq
    exact ⟨(h.lo _ h1).1, (h'.lo _ h2).2⟩
  · obtain ⟨j, q1, q2⟩ := (mem_thenL h').mp h1
    obtain ⟨j', r1, r2⟩ := (mem_thenL h').mp h2
    have := h.i1 q1 r1
    subst this
    exact h'.i1 q2 r2
  · obtain ⟨j, q1, q2⟩ := (mem_thenL h').mp h1
    obtain ⟨j', r1, r2⟩ := (mem_thenL h').mp h2
    have := h'.i2 q2 r2
    subst this
    exact h.i2 q1 r1
def cmp (l m : List Pr) : List Pr := srt (thenL l m)
theorem mem_cmp {b c : Int} {l m : List Pr} (h : Lk b c m) {q : Pr} : q ∈ cmp l m ↔ ∃ j, (q.1, j) ∈ l ∧ (j, q.2) ∈ m := srt_mem.trans (mem_thenL h)
theorem Lk.cmp {a b c : Int} {l m : List Pr} (h : Lk a b l) (h' : Lk b c m) : Lk a c (cmp l m) := (h.thenL h').srt
/-- led on: as the law does it -/
def chL (l m : List Pr) : List Pr := l.flatMap fun q => (m.filter fun r => decide (r.1 = q.2)).map fun r => (q.1, r.2)
theorem mem_chL {l m : List Pr} {q : Pr} : q ∈ chL l m ↔ ∃ j, (q.1, j) ∈ l ∧ (j, q.2) ∈ m := by
  unfold chL
  rw [List.mem_flatMap]
  constructor
  · rintro ⟨r, hr, e⟩
    obtain ⟨t, ht, e⟩ := List.mem_map.mp e
    obtain ⟨h1, h2⟩ := List.mem_filter.mp ht
    have h2 : t.1 = r.2 := of_decide_eq_true h2
    rw [← e]
    refine ⟨r.2, hr, ?_⟩
    rw [← h2]
    exact h1
  · rintro ⟨j, h1, h2⟩
    exact ⟨(q.1, j), h1, List.mem_map.mpr ⟨(j, q.2), List.mem_filter.mpr ⟨h2, decide_eq_true rfl⟩, rfl⟩⟩
theorem one_of {b c : Int} {m : List Pr} (h : Lk b c m) (j i : Int) : (m.filter fun r => decide (r.1 = j)).map (fun r => (i, r.2)) = ((getP m j).map fun k => (i, k)).toList := by
  have n1 := h.n1
  clear h
  induction m with
  | nil => rfl
  | cons r m ih =>
    rw [List.map_cons, List.nodup_cons] at n1
    have ih := ih n1.2
    unfold getP at ih ⊢
    by_cases e : r.1 = j
    · have no : m.filter (fun r => decide (r.1 = j)) = [] := by
        rw [List.filter_eq_nil_iff]
        intro t ht z
        exact n1.1 (List.mem_map.mpr ⟨t, ht, (of_decide_eq_true z).trans e.symm⟩)
      rw [List.filter_cons_of_pos (by simpa using e), List.find?_cons_of_pos (by simpa using e), no]
      rfl
    · rw [List.filter_cons_of_neg (by simpa using e), List.find?_cons_of_neg (by simpa using e)]
      exact ih
theorem chL_eq {b c : Int} {m : List Pr} (h : Lk b c m) (l : List Pr) : chL l m = thenL l m := by
  unfold chL thenL
  induction l with
  | nil => rfl
  | cons q l ih =>
    rw [List.flatMap_cons, ih, one_of h]
    cases e : getP m q.2 with
    | none => rw [List.filterMap_cons_none (by rw [e]; rfl)]; rfl
    | some k => rw [List.filterMap_cons_some (b := (q.1, k)) (by rw [e]; rfl)]; rfl
/-- what both say of the same links in any order -/
theorem cmp_srt {a b c : Int} {l m : List Pr} (h : Lk a b l) (h' : Lk b c m) : cmp (srt l) (srt m) = cmp l m :=
  srt_ext (h.srt.thenL h'.srt).nd (h.thenL h').nd fun q => by
    rw [mem_thenL h'.srt, mem_thenL h']
    simp only [srt_mem]
theorem cmp_assoc {a b c d : Int} {l m n : List Pr} (h : Lk a b l) (h' : Lk b c m) (h'' : Lk c d n) : cmp (cmp l m) n = cmp l (cmp m n) :=
  srt_ext ((h.cmp h').thenL h'').nd (h.thenL (h'.cmp h'')).nd fun q => by
    rw [mem_thenL h'', mem_thenL (h'.cmp h'')]
    constructor
    · rintro ⟨k, h1, h2⟩
      obtain ⟨j, h3, h4⟩ := (mem_cmp h').mp h1
      exact ⟨j, h3, (mem_cmp h'').mpr ⟨k, h4, h2⟩⟩
    · rintro ⟨j, h1, h2⟩
      obtain ⟨k, h3, h4⟩ := (mem_cmp h'').mp h2
      exact ⟨k, (mem_cmp h').mpr ⟨j, h1, h3⟩, h4⟩
theorem flp_cmp {a b c : Int} {l m : List Pr} (h : Lk a b l) (h' : Lk b c m) : flp (cmp l m) = cmp (flp m) (flp l) :=
  srt_ext (h.cmp h').flpL.nd (h'.flp.thenL h.flp).nd fun q => by
    rw [mem_flpL, mem_cmp h', mem_thenL h.flp]
    constructor
    · rintro ⟨j, h1, h2⟩
      exact ⟨j, mem_flp.mpr h2, mem_flp.mpr h1⟩
    · rintro ⟨j, h1, h2⟩
      exact ⟨j, mem_flp.mp h2, mem_flp.mp h1⟩
theorem flp_flp {a b : Int} {l : List Pr} (h : Lk a b l) : flp (flp l) = srt l :=
  srt_ext h.flp.flpL.nd h.nd fun q => by rw [mem_flpL, mem_flp]
/-- each with itself -/
def idL (n : Nat) : List Pr := (List.range n).map fun (k : Nat) => ((k : Int), (k : Int))
theorem mem_idL {n : Nat} {q : Pr} : q ∈ idL n ↔ (0 ≤ q.1 ∧ q.1 < n) ∧ q.2 = q.1 := by
  unfold idL
  rw [List.mem_map]
  constructor
  · rintro ⟨k, hk, rfl⟩
    have := List.mem_range.mp hk
    exact ⟨⟨by show (0 : Int) ≤ k; omega, by show (k : Int) < n; omega⟩, rfl⟩
  · rintro ⟨⟨h0, h1⟩, e⟩
    exact ⟨q.1.toNat, List.mem_range.mpr (by omega), Prod.ext (by show ((q.1.toNat : Nat) : Int) = q.1; omega) (by show ((q.1.toNat : Nat) : Int) = q.2; omega)⟩
theorem idL_len (n : Nat) : (idL n).length = n := by unfold idL; rw [List.length_map, List.length_range]
theorem idL_lk (n : Nat) : Lk n n (idL n) := by
  have nd : (idL n).Nodup := map_nodup List.nodup_range fun x _ y _ e => by
    have := congrArg Prod.fst e
    have : (x : Int) = y := this
    omega
  refine Lk.mk' nd (fun q hq => ?_) (fun i j j' h1 h2 => ?_) (fun i i' j h1 h2 => ?_)
  · obtain ⟨h, e⟩ := mem_idL.mp hq
    exact ⟨h, by rw [e]; exact h⟩
  · exact (mem_idL.mp h1).2.trans (mem_idL.mp h2).2.symm
  · exact (mem_idL.mp h1).2.symm.trans (mem_idL.mp h2).2
theorem id_cmp {n : Nat} {b : Int} {l : List Pr} (h : Lk n b l) : cmp (srt (idL n)) l = srt l :=
  srt_ext ((idL_lk n).srt.thenL h).nd h.nd fun q => by
    rw [mem_thenL h]
    constructor
    · rintro ⟨j, h1, h2⟩
      have := (mem_idL.mp (srt_mem.mp h1)).2
      rw [show j = q.1 from this] at h2
      exact h2
    · intro hq
      exact ⟨q.1, srt_mem.mpr (mem_idL.mpr ⟨(h.lo q hq).1, rfl⟩), hq⟩
theorem cmp_id {n : Nat} {a : Int} {l : List Pr} (h : Lk a n l) : cmp l (srt (idL n)) = srt l :=
  srt_ext (h.thenL (idL_lk n).srt).nd h.nd fun q => by
    rw [mem_thenL (idL_lk n).srt]
    constructor
    · rintro ⟨j, h1, h2⟩
      have : q.2 = j := (mem_idL.mp (srt_mem.mp h2)).2
      rw [← this] at h1
      exact h1
    · intro hq
      exact ⟨q.2, hq, srt_mem.mpr (mem_idL.mpr ⟨(h.lo q hq).2, rfl⟩)⟩
/-- there and back -/
def selfL (l : List Pr) : List Pr := l.map fun q => (q.1, q.1)
theorem mem_selfL {l : List Pr} {q : Pr} : q ∈ selfL l ↔ (∃ j, (q.1, j) ∈ l) ∧ q.2 = q.1 := by
  unfold selfL
  rw [List.mem_map]
  constructor
  · rintro ⟨r, hr, rfl⟩
    exact ⟨⟨r.2, hr⟩, rfl⟩
  · rintro ⟨⟨j, hj⟩, e⟩
    exact ⟨(q.1, j), hj, Prod.ext rfl e.symm⟩
theorem selfL_nd {a b : Int} {l : List Pr} (h : Lk a b l) : (selfL l).Nodup := nodup_of_map (f := (·.1)) (by unfold selfL; rw [List.map_map]; exact h.n1)
theorem cmp_back {a b : Int} {l : List Pr} (h : Lk a b l) : cmp l (flp l) = srt (selfL l) :=
  srt_ext (h.thenL h.flp).nd (selfL_nd h) fun q => by
    rw [mem_thenL h.flp, mem_selfL]
    constructor
    · rintro ⟨j, h1, h2⟩
      exact ⟨⟨j, h1⟩, h.i2 ((mem_flp (q := (j, q.2))).mp h2) h1⟩
    · rintro ⟨⟨j, hj⟩, e⟩
      exact ⟨j, hj, mem_flp.mpr (by rw [show q.2 = q.1 from e]; exact hj)⟩
theorem back_id {n : Nat} {b : Int} {l : List Pr} (h : Lk n b l) : srt (selfL l) = srt (idL n) ↔ l.length = n := by
  constructor
  · intro e
    have := congrArg List.length e
    rw [srt_len, srt_len, idL_len] at this
    rw [← this]
    unfold selfL
    rw [List.length_map]
  · intro e
    refine srt_ext (selfL_nd h) (idL_lk n).nd fun q => ?_
    rw [mem_selfL, mem_idL]
    constructor
    · rintro ⟨⟨j, hj⟩, e2⟩
      exact ⟨(h.lo _ hj).1, e2⟩
    · rintro ⟨⟨h0, h1⟩, e2⟩
      exact ⟨h.all1 (by omega) h0 h1, e2⟩
/-- full ones -/
theorem full_back {n : Nat} {l : List Pr} (h : Lk n n l) (e : l.length = n) : cmp l (flp l) = srt (idL n) := by rw [cmp_back h, (back_id h).mpr e]
theorem full_flp {n : Nat} {l : List Pr} (h : Lk n n l) (e : l.length = n) : cmp (flp l) l = srt (idL n) := by
  have h2 := full_back h.flp (by unfold flp; rw [srt_len]; unfold flpL; rw [List.length_map]; exact e)
  rw [flp_flp h] at h2
  rw [← h2]
  exact srt_ext (h.flp.thenL h).nd (h.flp.thenL h.srt).nd fun q => by rw [mem_thenL h, mem_thenL h.srt]; simp only [srt_mem]
theorem cmp_len {n : Nat} {a : Int} {l m : List Pr} (h : Lk a n l) (h' : Lk n n m) (e : m.length = n) : (cmp l m).length = l.length := by
  unfold cmp
  rw [srt_len]
  have : ∀ l' : List Pr, (∀ q ∈ l', 0 ≤ q.2 ∧ q.2 < (n : Int)) → (thenL l' m).length = l'.length := by
    intro l' hl
    induction l' with
    | nil => rfl
    | cons q l' ih =>
      have h0 := hl q (.head _)
      obtain ⟨k, hk⟩ := h'.all1 (i := q.2) (by omega) h0.1 h0.2
      have ih := ih fun r hr => hl r (.tail _ hr)
      unfold thenL at ih ⊢
      rw [List.filterMap_cons_some (b := (q.1, k)) (by rw [(getP_mem h').mpr hk]; rfl), List.length_cons, List.length_cons, ih]
  exact this l fun q hq => (h.lo q hq).2
theorem cmp_len_le {l m : List Pr} : (cmp l m).length ≤ l.length := by
  unfold cmp
  rw [srt_len]
  unfold thenL
  exact List.length_filterMap_le _ _
theorem cmp_len_le2 {a b c : Int} {l m : List Pr} (h : Lk a b l) (h' : Lk b c m) : (cmp l m).length ≤ m.length := by
  have e : (flp (cmp l m)).length = (cmp l m).length := by unfold flp; rw [srt_len]; unfold flpL; rw [List.length_map]
  rw [← e, flp_cmp h h']
  refine Nat.le_trans cmp_len_le ?_
  unfold flp
  rw [srt_len]
  unfold flpL
  rw [List.length_map]
  exact Nat.le_refl _
end Kx

set_option maxHeartbeats 4000000
/-! pairs in the heap -/
namespace Kx
open PySem L2
inductive PL (H : Hp) : List V → List Pr → Prop where
  | nil : PL H [] []
  | cons {t : Addr} {q : Pr} {xs : List V} {ls : List Pr} (h : H t = some (.tup [.int q.1, .int q.2])) (r : PL H xs ls) : PL H (.ref t :: xs) (q :: ls)
namespace PL
variable {H H' : Hp} {xs ys : List V} {ls ms : List Pr}
theorem keep (h : PL H xs ls) (s : Same H H') : PL H' xs ls := by
  induction h with
  | nil => exact .nil
  | cons h _ ih => exact .cons (s _ _ h) ih
theorem len (h : PL H xs ls) : xs.length = ls.length := by
  induction h with
  | nil => rfl
  | cons _ _ ih => simp [ih]
theorem app (h : PL H xs ls) (h' : PL H ys ms) : PL H (xs ++ ys) (ls ++ ms) := by
  induction h with
  | nil => exact h'
  | cons h _ ih => exact .cons h ih
theorem one {t : Addr} {q : Pr} (h : H t = some (.tup [.int q.1, .int q.2])) : PL H [.ref t] [q] := .cons h .nil
theorem at_ (h : PL H xs ls) {i : Nat} {x : V} (e : xs[i]? = some x) : ∃ t q, x = .ref t ∧ ls[i]? = some q ∧ H t = some (.tup [.int q.1, .int q.2]) := by
  induction h generalizing i with
  | nil => cases e
  | @cons t q _ _ h _ ih =>
    cases i with
    | zero => cases e; exact ⟨t, q, rfl, rfl, h⟩
    | succ i => exact ih e
theorem tail {x : V} {q : Pr} (h : PL H (x :: xs) (q :: ls)) : PL H xs ls := by
  cases h with
  | cons _ r => exact r
theorem drop1 (h : PL H xs ls) : PL H (xs.drop 1) (ls.drop 1) := by
  cases h with
  | nil => exact .nil
  | cons _ r => exact r
def kOf (H : Hp) (x : V) : Pr := match x with
  | .ref t => match H t with
    | some (.tup [.int i, .int j]) => (i, j)
    | _ => (0, 0)
  | _ => (0, 0)
theorem kOf_ref {t : Addr} {q : Pr} (h : H t = some (.tup [.int q.1, .int q.2])) : kOf H (.ref t) = q := by
  show (match H t with | some (.tup [.int i, .int j]) => (i, j) | _ => (0, 0)) = q
  rw [h]
theorem all (h : PL H xs ls) : ∀ x ∈ xs, ∃ t, x = V.ref t ∧ H t = some (.tup [.int (kOf H x).1, .int (kOf H x).2]) := by
  intro x hx
  obtain ⟨i, hi⟩ := List.mem_iff_getElem?.mp hx
  obtain ⟨t, q, rfl, _, ht⟩ := h.at_ hi
  exact ⟨t, rfl, by rw [kOf_ref ht]; exact ht⟩
theorem map_k (h : PL H xs ls) : xs.map (kOf H) = ls := by
  induction h with
  | nil => rfl
  | cons h _ ih => rw [List.map_cons, ih, kOf_ref h]
theorem of_all (h : ∀ x ∈ xs, ∃ t, x = V.ref t ∧ H t = some (.tup [.int (kOf H x).1, .int (kOf H x).2])) : PL H xs (xs.map (kOf H)) := by
  induction xs with
  | nil => exact .nil
  | cons x xs ih =>
    obtain ⟨t, rfl, ht⟩ := h x (.head _)
    exact .cons ht (ih fun y hy => h y (.tail _ hy))
/-- what sorted gives -/
theorem sorted (h : PL H xs ls) (h1 : SrtO.Srtd (ltP (kOf H)) ys) (h2 : SrtO.Stb (ltP (kOf H)) ys xs) : PL H ys (srt ls) := by
  have p := h2.perm
  have r := of_all (xs := ys) fun x hx => h.all x (p.mem_iff.mp hx)
  have e : ys.map (kOf H) = srt ls := by
    refine srt_eq ?_ ?_
    · rw [← h.map_k]
      exact p.map _
    · refine List.pairwise_map.mpr (h1.imp fun {x y} hxy => ?_)
      show (!SrtO.lexB (kOf H y) (kOf H x)) = true
      rw [show SrtO.lexB (kOf H y) (kOf H x) = false from hxy]
      rfl
  rw [e] at r
  exact r
end PL
def pdI (q : Pr) : PyData := .tuple [.int q.1, .int q.2]
theorem PL.dp {K : PySem.W.Frag} {H : Hp} {xs : List V} {ls : List Pr} (h : PL H xs ls) : DpAll K H xs (ls.map pdI) := by
  induction h with
  | nil => exact .nil
  | cons h _ ih => exact .cons (.tup (SqT.of h) (.cons (.int _) (.cons (.int _) .nil))) ih
theorem eqv_pdI : ∀ ks ls : List Pr, PyData.eqvAll (ks.map pdI) (ls.map pdI) = decide (ks = ls)
  | [], [] => rfl
  | [], _ :: _ => rfl
  | _ :: _, [] => rfl
  | (a, i) :: ks, (b, j) :: ls => by
    have e : PyData.eqv (pdI (a, i)) (pdI (b, j)) = ((a == b) && ((i == j) && true)) := by
      simp [pdI, PyData.eqv, PyData.eqvAll]
    show (PyData.eqv (pdI (a, i)) (pdI (b, j)) && PyData.eqvAll (ks.map pdI) (ls.map pdI)) = _
    rw [e, eqv_pdI ks ls]
    by_cases h1 : a = b
    · by_cases h2 : i = j
      · simp [h1, h2]
      · simp [h1, h2]
    · simp [h1]
theorem small_pdI : ∀ ks : List Pr, PyData.canLayAll0 (ks.map pdI) = true ∧ PyData.depthAll (ks.map pdI) ≤ 1
  | [] => ⟨rfl, Nat.zero_le _⟩
  | q :: ks => by
    obtain ⟨h1, h2⟩ := small_pdI ks
    refine ⟨?_, ?_⟩
    · show (PyData.canLay0 (pdI q) && _) = true
      rw [h1]
      simp [pdI, PyData.canLay0, PyData.canLayAll0]
    · show max (PyData.depth (pdI q)) (PyData.depthAll (ks.map pdI)) ≤ 1
      have : PyData.depth (pdI q) = 1 := by simp [pdI, PyData.depth, PyData.depthAll]
      omega
theorem shaped_pdT (ks : List Pr) : SeqAt.shaped (.tuple (ks.map pdI)) = true := by
  obtain ⟨h1, h2⟩ := small_pdI ks
  unfold SeqAt.shaped
  rw [Bool.and_eq_true]
  refine ⟨h1, decide_eq_true ?_⟩
  show PyData.depthAll (ks.map pdI) + 1 ≤ 64
  omega
theorem shaped_pdL (ks : List Pr) : SeqAt.shaped (.list (ks.map pdI)) = true := by
  obtain ⟨h1, h2⟩ := small_pdI ks
  unfold SeqAt.shaped
  rw [Bool.and_eq_true]
  refine ⟨h1, decide_eq_true ?_⟩
  show PyData.depthAll (ks.map pdI) + 1 ≤ 64
  omega
end Kx

set_option maxHeartbeats 4000000
namespace Kx
open PySem PySem.Spec PyProof.Rows L2
section
variable {X : Cx}
/-- for x in a list or a tuple -/
def iSeq (K : PySem.W.Frag) (tl : TE) : TI := fun σ H R => tl σ H fun x H1 => ∃ a, x = .ref a ∧ (((∃ xs, SqL K H1 a xs) ∧ R (Itl K a) H1) ∨ ((∃ xs, SqT K H1 a xs) ∧ R (Itt K a) H1))
theorem pi_seq {tg l : Expr} {tl : TE} (hl : PE X l tl) : PI X tg l (iSeq X.K tl) := by
  refine ⟨fun pins s σ H R I h => ?_⟩
  refine thn (hl.run pins s σ H _ I h) fun v s1 ⟨x, H1, I1, r1, q1⟩ => ?_
  obtain ⟨a, e, q⟩ := q1
  subst e
  cases r1
  rcases q with ⟨⟨xs, hq⟩, q⟩ | ⟨⟨xs, hq⟩, q⟩
  · obtain ⟨its, rv, p, hz⟩ := I1.list hq
    refine wpAny_pyIter_list p.isList ?_
    refine ⟨s1.heap.objs.size, [s1.heap.objs.size], _, _, H1, rfl, I1.kept (t' := s1.toks) fun b o e => Heap.get?_push_of_some _ e, turn_list a _, ⟨_, Heap.get?_push_size _ rfl, rfl, rfl⟩, fun b hb => ?_, q⟩
    have e : b = s1.heap.objs.size := by simpa using hb
    subst e
    exact I1.fpOk (Nat.le_refl _) (I1.hok.fresh (Nat.le_refl _))
  · obtain ⟨its, rv, p, hz⟩ := I1.tuple hq
    refine wpAny_pyIter_tuple (show s1.heap.IsTuple a its.toArray from p) ?_
    refine ⟨s1.heap.objs.size, [s1.heap.objs.size], _, _, H1, rfl, I1.kept (t' := s1.toks) fun b o e => Heap.get?_push_of_some _ e, turn_tuple a _, ⟨_, Heap.get?_push_size _ rfl, rfl, rfl⟩, fun b hb => ?_, q⟩
    have e : b = s1.heap.objs.size := by simpa using hb
    subst e
    exact I1.fpOk (Nat.le_refl _) (I1.hok.fresh (Nat.le_refl _))
/-- repr of lists and tuples of plain things -/
def rRepr (K : PySem.W.Frag) : List V → Hp → VK → Prop := fun xs H Q => ∃ (a : Addr) (d : PyData), xs = [.ref a] ∧ Dp K H (.ref a) d ∧ d.showable = true ∧ d.hasDict = false ∧ d.depth ≤ 20 ∧ d.shown.length ≤ sizeLine ∧ Q (.str d.shown) H
theorem call_repr (hg : X.A.guards = some []) (hu : X.A.units + 64 < cLine) : CallR X (.builtin "repr") (rRepr X.K) := by
  intro pins s σ H xs us Q I r h
  obtain ⟨a, d, rfl, hd, h1, h2, h3, h4, q⟩ := h
  rw [Vals.ref1 r]
  obtain ⟨as, rd⟩ := Dp.reads I d (.ref a) (.ref a) hd rfl
  exact repr_of_reads' rd h1 (PyData.noDict_hsm h2) hg (by omega) (fun _ _ e => e) (fun h' u tk kp => ⟨.str d.shown, H, I.kept kp, ⟨u, rfl⟩, q⟩) h4
end
theorem int_short {i : Int} (h : i.natAbs < 10 ^ 25) : decide (i.natAbs.log2 < 1920) = true ∧ (PyData.shown (.int i)).length ≤ 30 := by
  refine ⟨decide_eq_true ?_, ?_⟩
  · by_cases e : i.natAbs = 0
    · rw [e]; decide
    · have : i.natAbs < 2 ^ 84 := by omega
      have := (Nat.log2_lt e).mpr this
      omega
  · have e := int_text_length_le10 (k := 25) (by decide) h
    show (Str.ofString (toString i)).length ≤ 30
    rw [PySem.ofString_length]
    omega
theorem show_pdI : ∀ {ls : List Pr}, (∀ q ∈ ls, q.1.natAbs ≤ 40 ∧ q.2.natAbs ≤ 40) → PyData.showableAll (ls.map pdI) = true ∧ PyData.hasDictAll (ls.map pdI) = false ∧ PyData.leavesShortAll 30 (ls.map pdI) = true ∧ PyData.bulkAll (ls.map pdI) = ls.length * 3
  | [], _ => ⟨rfl, rfl, rfl, rfl⟩
  | q :: ls, h => by
    obtain ⟨h1, h2, h3, h4⟩ := show_pdI fun r m => h r (.tail _ m)
    obtain ⟨g1, g2⟩ := h q (.head _)
    have a1 := int_short (i := q.1) (by omega)
    have a2 := int_short (i := q.2) (by omega)
    refine ⟨?_, ?_, ?_, ?_⟩
    · show (PyData.showable (pdI q) && _) = true
      rw [h1]
      show ((PyData.showable (.int q.1) && (PyData.showable (.int q.2) && true)) && true) = true
      rw [show PyData.showable (.int q.1) = true from a1.1, show PyData.showable (.int q.2) = true from a2.1]
      rfl
    · show (PyData.hasDict (pdI q) || _) = false
      rw [h2]
      rfl
    · show (PyData.leavesShort 30 (pdI q) && _) = true
      rw [h3]
      show ((PyData.leavesShort 30 (.int q.1) && (PyData.leavesShort 30 (.int q.2) && true)) && true) = true
      rw [show PyData.leavesShort 30 (.int q.1) = true from decide_eq_true a1.2, show PyData.leavesShort 30 (.int q.2) = true from decide_eq_true a2.2]
      rfl
    · show PyData.bulk (pdI q) + 1 + PyData.bulkAll (ls.map pdI) = _
      rw [h4]
      show 2 + 1 + _ = _
      rw [List.length_cons]
      omega
/-- the text of links -/
def lkText (ls : List Pr) : Str := (PyData.tuple (ls.map pdI)).shown
theorem lk_showT {ls : List Pr} (h : ∀ q ∈ ls, q.1.natAbs ≤ 40 ∧ q.2.natAbs ≤ 40) (l : ls.length ≤ 40) : (PyData.tuple (ls.map pdI)).showable = true ∧ (PyData.tuple (ls.map pdI)).hasDict = false ∧ (PyData.tuple (ls.map pdI)).depth ≤ 20 ∧ (lkText ls).length ≤ 100000 := by
  obtain ⟨h1, h2, h3, h4⟩ := show_pdI h
  refine ⟨h1, h2, ?_, ?_⟩
  · have := (small_pdI ls).2
    show PyData.depthAll (ls.map pdI) + 1 ≤ 20
    omega
  · have q := PyData.shown_le_bulk 30 (by decide) (.tuple (ls.map pdI)) h3
    have b : (PyData.tuple (ls.map pdI)).bulk = ls.length * 3 := h4
    unfold lkText
    omega
/-! the class -/
structure LC (K : PySem.W.Frag) (C : Addr) : Prop where
  cl : Cls K C
  nF : NoAttr K C "first"
  nS : NoAttr K C "second"
  nL : NoAttr K C "links"
  ca : PySem.W.findIn K (.ref C) "__class__" = some (some (.builtin "object.__class__"))
  cg : PySem.W.specialIn K (.builtin "object.__class__") "__get__" = some (some (.builtin "getset_descriptor.__get__"))
  ct : PySem.W.takesIn K (.builtin "object.__class__") = some true
  cm : PySem.W.mroIn K C (.type "object") = some true
theorem s_fs : ¬ (Str.ofString "first") = Str.ofString "second" := by decide +kernel
theorem s_fl : ¬ (Str.ofString "first") = Str.ofString "links" := by decide +kernel
theorem s_sl : ¬ (Str.ofString "second") = Str.ofString "links" := by decide +kernel
def lFs (a b : Int) (L : Addr) : List (Str × V) := putF "links" (.ref L) (putF "second" (.int b) (putF "first" (.int a) []))
theorem lFs_first (a b : Int) (L : Addr) : (lFs a b L).lookup ("first" : Str) = some (.int a) := by
  unfold lFs
  rw [lookup_putF, if_neg s_fl, lookup_putF, if_neg s_fs, lookup_putF, if_pos rfl]
theorem lFs_second (a b : Int) (L : Addr) : (lFs a b L).lookup ("second" : Str) = some (.int b) := by
  unfold lFs
  rw [lookup_putF, if_neg s_sl, lookup_putF, if_pos rfl]
theorem lFs_links (a b : Int) (L : Addr) : (lFs a b L).lookup ("links" : Str) = some (.ref L) := by
  unfold lFs
  rw [lookup_putF, if_pos rfl]
theorem lFs_no (a b : Int) (L : Addr) {m : Str} (h1 : ¬ m = Str.ofString "first") (h2 : ¬ m = Str.ofString "second") (h3 : ¬ m = Str.ofString "links") : (lFs a b L).lookup m = none := by
  unfold lFs
  rw [lookup_putF, if_neg h3, lookup_putF, if_neg h2, lookup_putF, if_neg h1]
  rfl
structure Sz (a b : Int) : Prop where
  a0 : 0 ≤ a
  a4 : a ≤ 40
  b0 : 0 ≤ b
  b4 : b ≤ 40
structure LkAt (C : Addr) (H : Hp) (x : Addr) (a b : Int) (ls : List Pr) : Prop where
  ob : ∃ (dx L : Addr) (ys : List V), H x = some (.ins C dx (lFs a b L)) ∧ H L = some (.tup ys) ∧ PL H ys ls
  lk : Lk a b ls
  sz : Sz a b
theorem LkAt.keep {C : Addr} {H H' : Hp} {x : Addr} {a b : Int} {ls : List Pr} (k : LkAt C H x a b ls) (s : Same H H') : LkAt C H' x a b ls := by
  obtain ⟨dx, L, ys, h1, h2, h3⟩ := k.ob
  exact ⟨⟨dx, L, ys, s _ _ h1, s _ _ h2, h3.keep s⟩, k.lk, k.sz⟩
theorem Lk.few {a b : Int} {ls : List Pr} (h : Lk a b ls) (z : Sz a b) : ls.length ≤ 40 := by
  have := h.len1 z.a0
  have := z.a4
  omega
theorem Lk.small {a b : Int} {ls : List Pr} (h : Lk a b ls) (z : Sz a b) : ∀ q ∈ ls, q.1.natAbs ≤ 40 ∧ q.2.natAbs ≤ 40 := fun q hq => by
  have := h.lo q hq
  have := z.a4
  have := z.b4
  omega
def spSizes : Sp := fun vs H Q _ => ∃ a b : Int, vs = [.int a, .int b] ∧ Sz a b ∧ Q .non H
def spIsLink : Sp := fun vs H Q _ => ∃ (t : Addr) (q : Pr) (a b : Int), vs = [.ref t, .int a, .int b] ∧ H t = some (.tup [.int q.1, .int q.2]) ∧ ((0 ≤ q.1 ∧ q.1 < a) ∧ 0 ≤ q.2 ∧ q.2 < b) ∧ ∀ H', Same H H' → Q (.bl true) H'
def spLk (C : Addr) : Sp := fun vs H Q _ => ∃ (x dx l : Addr) (a b : Int) (xs : List V) (ls : List Pr), vs = [.ref x, .int a, .int b, .ref l] ∧ H x = some (.ins C dx []) ∧ (H l = some (.lst xs) ∨ H l = some (.tup xs)) ∧ PL H xs ls ∧ Lk a b ls ∧ Sz a b ∧
  ∀ H', (∀ c o, H c = some o → c ≠ x → H' c = some o) → LkAt C H' x a b (srt ls) → Q .non H'
structure Ml (mg : Str → Option Value) : Prop where
  most : ∃ t, mg "MOST_PERSONS" = some (.int 40 t)
  sorted : mg "sorted" = none
def kvI (ls : List Pr) : List (Key × V) := ls.map fun q => (Sum.inl q.1, .int q.2)
theorem kvI_get (i : Int) : ∀ ls : List Pr, valV (kvI ls) (Sum.inl i : Key) = (getP ls i).map V.int
  | [] => rfl
  | q :: ls => by
    have ih := kvI_get i ls
    unfold getP at ih ⊢
    by_cases e : q.1 = i
    · have e1 : valV (kvI (q :: ls)) (Sum.inl i : Key) = some (.int q.2) := valV_pos (congrArg Sum.inl e)
      rw [e1, List.find?_cons_of_pos (by simpa using e)]
      rfl
    · have e1 : valV (kvI (q :: ls)) (Sum.inl i : Key) = valV (kvI ls) (Sum.inl i : Key) := valV_neg fun z => e (Sum.inl.inj z)
      rw [e1, ih, List.find?_cons_of_neg (by simpa using e)]
theorem getP_no {ls : List Pr} {i : Int} (h : ¬ i ∈ ls.map (·.1)) : getP ls i = none := by
  unfold getP
  rw [Option.map_eq_none_iff, List.find?_eq_none]
  intro r hr z
  exact h (List.mem_map.mpr ⟨r, hr, by simpa using z⟩)
theorem kvI_put {ls : List Pr} {q : Pr} (h : ¬ q.1 ∈ ls.map (·.1)) : putK (kvI ls) (Sum.inl q.1 : Key) (.int q.2) = kvI (ls ++ [q]) := by
  have e : valV (kvI ls) (Sum.inl q.1 : Key) = none := by rw [kvI_get, getP_no h]; rfl
  rw [putK_new _ e]
  simp [kvI]
theorem inV_ints (z : Int) : ∀ ys : List Int, inV (.int z) (ys.map V.int) = decide (z ∈ ys)
  | [] => rfl
  | y :: ys => by
    have ih := inV_ints z ys
    show (eqV (.int y) (.int z) || inV (.int z) (ys.map V.int)) = _
    rw [ih]
    by_cases e : z = y
    · subst e
      simp [eqV]
    · have e' : ¬ y = z := fun q => e q.symm
      simp [eqV, e, e']
theorem kvI_vals (ls : List Pr) : (kvI ls).map (·.2) = (ls.map (·.2)).map V.int := by simp [kvI]
theorem items_pl {H : Hp} : ∀ {ts : List Addr} {ls : List Pr}, Paired (fun (t : Addr) (q : Key × V) => H t = some (.tup [kV q.1, q.2])) ts (kvI ls) → PL H (ts.map V.ref) ls
  | [], [], _ => .nil
  | [], _ :: _, h => by cases h
  | _ :: _, [], h => by cases h
  | t :: ts, q :: ls, h => by
    cases h with
    | cons h r => exact .cons h (items_pl r)
theorem nodup_take {α : Type} {l : List α} (h : l.Nodup) {i : Nat} {x : α} (e : l[i]? = some x) : ¬ x ∈ l.take i := by
  intro m
  obtain ⟨j, hj⟩ := List.mem_iff_getElem?.mp m
  rw [List.getElem?_take] at hj
  split at hj
  · rename_i lt
    have li : i < l.length := (List.getElem?_eq_some_iff.mp e).1
    have lj : j < l.length := by omega
    have h1 := (List.getElem?_eq_some_iff.mp e).2
    have h2 := (List.getElem?_eq_some_iff.mp hj).2
    have := (List.pairwise_iff_getElem.mp h) j i lj li lt
    exact this (by rw [h1, h2])
  · cases hj
end Kx

set_option maxHeartbeats 4000000
namespace Kx
open PySem L2
/-! own errors with fields -/
section
variable {P : Program} {w : World} {K : PySem.W.Frag} {mg : Str → Option Value} {base : Heap}
/-- __init__ of an error with one field -/
def spInit1 (K : PySem.W.Frag) (C : Addr) (f1 : Str) : Sp := fun vs H Q _ => ∃ (a : Addr) (y : V), vs = [.ref a, y] ∧ OexC K C ∧ PySem.W.findIn K (.ref C) f1 = some none ∧ H a = some (exo a C none) ∧
  ∀ (d : Addr) (H' : Hp), H d = none → d ≠ a → H' a = some (exo a C (some d)) → H' d = some (exd d [(f1, y)]) → (∀ b o, H b = some o → b ≠ a → H' b = some o) → Q .non H'
theorem scBadL : FnScope ["self", "what"] ["self", "what"] (defScope sBadLikeness_init) := ⟨rfl, rfl, rfl, by decide +kernel, rfl, by decide +kernel, by decide +kernel⟩
theorem ok_BadL {f C : Addr} {fd : FuncData} (F : Fun K "__init__" "BadLikeness.__init__" sBadLikeness_init f fd) : FnOk P w K mg base CX0 1 f fd ["self", "what"] (spInit1 K C "what") := by
  refine F.ok scBadL (fun vs H Q E h => ?_) (fun cdv A outer s H vs Q E hr h => ?_)
  · obtain ⟨a, y, rfl, _⟩ := h
    rfl
  · obtain ⟨a, y, rfl, T, n1, ha, k⟩ := h
    refine ⟨_, pss_one (ps_ost (pv 0) (pv 1)), ?_⟩
    refine ⟨_, rfl, _, rfl, a, C, rfl, T, n1, .inl ⟨ha, fun dx hdx ne => ?_⟩⟩
    refine k dx _ hdx ne upd_same (by rw [upd_ne ne, upd_same]) fun b o e nb => ?_
    rw [upd_ne nb, upd_ne (ne_of_none e hdx)]
    exact e
theorem scBadI : FnScope ["self", "index"] ["self", "index"] (defScope sBadIndex_init) := ⟨rfl, rfl, rfl, by decide +kernel, rfl, by decide +kernel, by decide +kernel⟩
theorem ok_BadI {f C : Addr} {fd : FuncData} (F : Fun K "__init__" "BadIndex.__init__" sBadIndex_init f fd) : FnOk P w K mg base CX0 1 f fd ["self", "index"] (spInit1 K C "index") := by
  refine F.ok scBadI (fun vs H Q E h => ?_) (fun cdv A outer s H vs Q E hr h => ?_)
  · obtain ⟨a, y, rfl, _⟩ := h
    rfl
  · obtain ⟨a, y, rfl, T, n1, ha, k⟩ := h
    refine ⟨_, pss_one (ps_ost (pv 0) (pv 1)), ?_⟩
    refine ⟨_, rfl, _, rfl, a, C, rfl, T, n1, .inl ⟨ha, fun dx hdx ne => ?_⟩⟩
    refine k dx _ hdx ne upd_same (by rw [upd_ne ne, upd_same]) fun b o e nb => ?_
    rw [upd_ne nb, upd_ne (ne_of_none e hdx)]
    exact e
end
/-- what is known of an error's class -/
structure ErC (P : Program) (w : World) (K : PySem.W.Frag) (mg : Str → Option Value) (base : Heap) (x : Str) (ps : List Str) (C fI : Addr) (fd : FuncData) (sp : Sp) : Prop where
  T : OexC K C
  iC : PySem.W.findIn K (.ref C) "__init__" = some (some (.ref fI))
  tI : PySem.W.typeIn K (.ref fI) = some (.type "function")
  gC : mg x = some (.ref C)
  b : Binds K fd ps []
  G : FnOk P w K mg base CX0 1 fI fd ps sp
  xf : XfC K C
theorem fin1 {K : PySem.W.Frag} {C : Addr} {f1 : Str} (T : OexC K C) (n1 : PySem.W.findIn K (.ref C) f1 = some none) {H : Hp} {y : V} {Q : XK} (q : ∀ d H', H d = none → Same H H' → H' d = some (.xd [(f1, y)]) → Q (.ref C) (some d) H') :
    [y].length ≤ 1000 ∧ ∀ a, H a = none → spInit1 K C f1 (.ref a :: ([y] ++ [])) (upd H a (exo a C none)) (fun v H2 => v = .non ∧ ∃ (d : Addr) (fs : List (Str × V)), H2 a = some (exo a C (some d)) ∧ H2 d = some (exd d fs) ∧ H d = none ∧ Q (.ref C) (some d) (upd (del H2 a) d (.xd fs))) (fun _ _ _ => False) := by
  refine ⟨(by show 1 ≤ 1000; decide), fun a ha => ⟨a, y, rfl, T, n1, upd_same, fun d H' hd ne ea ed kp => ⟨rfl, d, _, ea, ed, ?_, ?_⟩⟩⟩
  · rw [upd_ne ne] at hd
    exact hd
  · rw [upd_ne ne] at hd
    refine q d _ hd (fun b o e => ?_) upd_same
    have nba := ne_of_none e ha
    rw [upd_ne (ne_of_none e hd), del_ne nba]
    exact kp b o (by rw [upd_ne nba]; exact e) nba
/-- a thing that is asked about: its kind, and its text is of known length -/
structure Thing (H : Hp) (x : V) (n : String) : Prop where
  kd : Kd H x n
  fine : ∀ z, x = .str z → PyData.strOk z = true ∧ z.length ≤ 100
theorem Thing.keep {H H' : Hp} {x : V} {n : String} (t : Thing H x n) (s : Same H H') : Thing H' x n := ⟨t.kd.keep s, t.fine⟩
theorem Kd.uniq {H : Hp} {x : V} {n m : String} (a : Kd H x n) (b : Kd H x m) : n = m := by
  cases a with
  | non => cases b; rfl
  | bl => cases b; rfl
  | int => cases b; rfl
  | str => cases b; rfl
  | lst a xs h => cases b with
    | lst _ ys h' => rfl
    | tup _ ys h' => rw [h] at h'; cases h'
    | dct _ ys h' => rw [h] at h'; cases h'
  | tup a xs h => cases b with
    | lst _ ys h' => rw [h] at h'; cases h'
    | tup _ ys h' => rfl
    | dct _ ys h' => rw [h] at h'; cases h'
  | dct a xs h => cases b with
    | lst _ ys h' => rw [h] at h'; cases h'
    | tup _ ys h' => rw [h] at h'; cases h'
    | dct _ ys h' => rfl
/-- a row, as it stands: a pair, or no sequence of two -/
inductive RowIs (H : Hp) : V → Option (V × V) → Prop where
  | lst {b : Addr} {n a : V} {t u : String} (h : H b = some (.lst [n, a])) (hn : Thing H n t) (ha : Thing H a u) : RowIs H (.ref b) (some (n, a))
  | tup {b : Addr} {n a : V} {t u : String} (h : H b = some (.tup [n, a])) (hn : Thing H n t) (ha : Thing H a u) : RowIs H (.ref b) (some (n, a))
  | lstN {b : Addr} {xs : List V} (h : H b = some (.lst xs)) (l : xs.length ≠ 2) : RowIs H (.ref b) none
  | tupN {b : Addr} {xs : List V} (h : H b = some (.tup xs)) (l : xs.length ≠ 2) : RowIs H (.ref b) none
  | oth {y : V} {n : String} (h : Kd H y n) (l : seqV n = false) : RowIs H y none
theorem RowIs.keep {H H' : Hp} {y : V} {r : Option (V × V)} (h : RowIs H y r) (s : Same H H') : RowIs H' y r := by
  cases h with
  | lst h hn ha => exact .lst (s _ _ h) (hn.keep s) (ha.keep s)
  | tup h hn ha => exact .tup (s _ _ h) (hn.keep s) (ha.keep s)
  | lstN h l => exact .lstN (s _ _ h) l
  | tupN h l => exact .tupN (s _ _ h) l
  | oth h l => exact .oth (h.keep s) l
theorem RowIs.kd {H : Hp} {y : V} {r : Option (V × V)} (h : RowIs H y r) : ∃ n, Kd H y n ∧ (seqV n = false → r = none) := by
  cases h with
  | lst h hn ha => exact ⟨_, .lst _ _ h, fun z => nomatch z⟩
  | tup h hn ha => exact ⟨_, .tup _ _ h, fun z => nomatch z⟩
  | lstN h l => exact ⟨_, .lst _ _ h, fun _ => rfl⟩
  | tupN h l => exact ⟨_, .tup _ _ h, fun _ => rfl⟩
  | oth h l => exact ⟨_, h, fun _ => rfl⟩
/-- the things xs are the rows rs -/
def AllR (H : Hp) (xs : List V) (rs : List (Option (V × V))) : Prop := xs.length = rs.length ∧ ∀ (i : Nat) (y : V) (r : Option (V × V)), xs[i]? = some y → rs[i]? = some r → RowIs H y r
theorem AllR.keep {H H' : Hp} {xs : List V} {rs : List (Option (V × V))} (h : AllR H xs rs) (s : Same H H') : AllR H' xs rs := ⟨h.1, fun i y r e1 e2 => (h.2 i y r e1 e2).keep s⟩
inductive RowsIs (H : Hp) : V → Option (List (Option (V × V))) → Prop where
  | lst {b : Addr} {xs : List V} {rs : List (Option (V × V))} (h : H b = some (.lst xs)) (a : AllR H xs rs) (l : xs.length ≤ 100) : RowsIs H (.ref b) (some rs)
  | tup {b : Addr} {xs : List V} {rs : List (Option (V × V))} (h : H b = some (.tup xs)) (a : AllR H xs rs) (l : xs.length ≤ 100) : RowsIs H (.ref b) (some rs)
  | oth {y : V} {n : String} (h : Kd H y n) (l : seqV n = false) : RowsIs H y none
theorem RowsIs.kd {H : Hp} {y : V} {r : Option (List (Option (V × V)))} (h : RowsIs H y r) : ∃ n, Kd H y n ∧ (seqV n = false → r = none) := by
  cases h with
  | lst h a l => exact ⟨_, .lst _ _ h, fun z => nomatch z⟩
  | tup h a l => exact ⟨_, .tup _ _ h, fun z => nomatch z⟩
  | oth h l => exact ⟨_, h, fun _ => rfl⟩
theorem RowsIs.keep {H H' : Hp} {y : V} {r : Option (List (Option (V × V)))} (h : RowsIs H y r) (s : Same H H') : RowsIs H' y r := by
  cases h with
  | lst h a l => exact .lst (s _ _ h) (a.keep s) l
  | tup h a l => exact .tup (s _ _ h) (a.keep s) l
  | oth h l => exact .oth (h.keep s) l
def intOf : V → Int
  | .int i => i
  | _ => 0
/-- the word for a link that may not follow -/
def lkWord (a b : Int) (ones others : List Int) : Option (V × V) → Option Str
  | none => some "link"
  | some (n, m) => if wholeV n 0 (a - 1) = true ∧ wholeV m 0 (b - 1) = true then (if intOf n ∈ ones ∨ intOf m ∈ others then some "double" else none) else some "link"
def prI (r : Option (V × V)) : Pr := match r with
  | some (n, m) => (intOf n, intOf m)
  | none => (0, 0)
def scanL (a b : Int) : List Pr → List (Option (V × V)) → Option Str
  | _, [] => none
  | seen, r :: rs => match lkWord a b (seen.map (·.1)) (seen.map (·.2)) r with
    | some w => some w
    | none => scanL a b (seen ++ [prI r]) rs
def likeDue (x y : V) (r : Option (List (Option (V × V)))) : Option Str :=
  if wholeV x 0 40 = true then (if wholeV y 0 40 = true then (match r with
    | none => some "links"
    | some rs => scanL (intOf x) (intOf y) [] rs) else some "second") else some "first"
theorem whole_int {x : V} {lo hi : Int} (h : wholeV x lo hi = true) : ∃ i, x = .int i ∧ lo ≤ i ∧ i ≤ hi := by
  cases x with
  | int i =>
    unfold wholeV at h
    simp only [Bool.and_eq_true, decide_eq_true_eq] at h
    exact ⟨i, rfl, h.1, h.2⟩
  | _ => cases h
theorem lkWord_none {a b : Int} {s t : List Int} {r : Option (V × V)} (h : lkWord a b s t r = none) : ∃ i j : Int, r = some (.int i, .int j) ∧ ((0 ≤ i ∧ i < a) ∧ 0 ≤ j ∧ j < b) ∧ ¬ i ∈ s ∧ ¬ j ∈ t := by
  cases r with
  | none => cases h
  | some q =>
    obtain ⟨n, m⟩ := q
    have h : (if wholeV n 0 (a - 1) = true ∧ wholeV m 0 (b - 1) = true then (if intOf n ∈ s ∨ intOf m ∈ t then some (Str.ofString "double") else none) else some (Str.ofString "link")) = none := h
    split at h
    · rename_i hw
      obtain ⟨i, rfl, i0, i1⟩ := whole_int hw.1
      obtain ⟨j, rfl, j0, j1⟩ := whole_int hw.2
      split at h
      · cases h
      · rename_i hd
        exact ⟨i, j, rfl, ⟨⟨i0, by omega⟩, j0, by omega⟩, fun z => hd (.inl z), fun z => hd (.inr z)⟩
    · cases h
theorem scanL_none {a b : Int} : ∀ {rs : List (Option (V × V))} {seen : List Pr}, Lk a b seen → scanL a b seen rs = none → Lk a b (seen ++ rs.map prI)
  | [], seen, h, _ => by rw [List.map_nil, List.append_nil]; exact h
  | r :: rs, seen, h, e => by
    have e : (match lkWord a b (seen.map (·.1)) (seen.map (·.2)) r with | some w => some w | none => scanL a b (seen ++ [prI r]) rs) = none := e
    cases e1 : lkWord a b (seen.map (·.1)) (seen.map (·.2)) r with
    | some w => rw [e1] at e; cases e
    | none =>
      rw [e1] at e
      obtain ⟨i, j, rfl, lo, n1, n2⟩ := lkWord_none e1
      have h2 : Lk a b (seen ++ [(i, j)]) := by
        refine ⟨fun q hq => ?_, ?_, ?_⟩
        · rcases List.mem_append.mp hq with hq | hq
          · exact h.lo q hq
          · rw [List.mem_singleton.mp hq]; exact lo
        · rw [List.map_append]
          exact List.nodup_append.mpr ⟨h.n1, by simp, fun x hx y hy e => n1 (by rw [← (List.mem_singleton.mp hy : y = i), ← e]; exact hx)⟩
        · rw [List.map_append]
          exact List.nodup_append.mpr ⟨h.n2, by simp, fun x hx y hy e => n2 (by rw [← (List.mem_singleton.mp hy : y = j), ← e]; exact hx)⟩
      have := scanL_none h2 e
      rw [List.append_assoc] at this
      exact this
theorem scanL_good {a b : Int} : ∀ {ls seen : List Pr}, Lk a b (seen ++ ls) → scanL a b seen (ls.map fun q => some (V.int q.1, V.int q.2)) = none
  | [], _, _ => rfl
  | q :: ls, seen, h => by
    have hq := h.lo q (by simp)
    have n1 := h.n1
    have n2 := h.n2
    rw [List.map_append, List.nodup_append] at n1 n2
    have o1 : ¬ q.1 ∈ seen.map (·.1) := fun m => n1.2.2 _ m _ (by simp) rfl
    have o2 : ¬ q.2 ∈ seen.map (·.2) := fun m => n2.2.2 _ m _ (by simp) rfl
    have w : lkWord a b (seen.map (·.1)) (seen.map (·.2)) (some (V.int q.1, V.int q.2)) = none := by
      show (if wholeV (.int q.1) 0 (a - 1) = true ∧ wholeV (.int q.2) 0 (b - 1) = true then (if intOf (.int q.1) ∈ _ ∨ intOf (.int q.2) ∈ _ then some (Str.ofString "double") else none) else some (Str.ofString "link")) = none
      rw [if_pos ⟨by simp [wholeV]; omega, by simp [wholeV]; omega⟩, if_neg (fun z => z.elim o1 o2)]
    show (match lkWord a b (seen.map (·.1)) (seen.map (·.2)) (some (V.int q.1, V.int q.2)) with | some w => some w | none => scanL a b (seen ++ [q]) (ls.map fun q => some (V.int q.1, V.int q.2))) = none
    rw [w]
    exact scanL_good (by rw [List.append_assoc]; exact h)
end Kx

set_option maxHeartbeats 4000000
namespace Kx
open PySem L2
def sizesDue (x y : V) : Option Str := if wholeV x 0 40 = true then (if wholeV y 0 40 = true then none else some "second") else some "first"
def refuse (CB : Addr) (E : XK) (H : Hp) (w : Str) : Prop := ∀ d H', H d = none → Same H H' → H' d = some (.xd [("what", .str w)]) → E (.ref CB) (some d) H'
def spSizesX (CB : Addr) : Sp := fun vs H Q E => ∃ (x y : V) (n m : String), vs = [x, y] ∧ Kd H x n ∧ Kd H y m ∧ match sizesDue x y with
  | some w => refuse CB E H w
  | none => Q .non H
def lkOk (a b : Int) : Option (V × V) → Bool
  | none => false
  | some (n, m) => wholeV n 0 (a - 1) && wholeV m 0 (b - 1)
def spIsLinkX : Sp := fun vs H Q _ => ∃ (y : V) (r : Option (V × V)) (a b : Int), vs = [y, .int a, .int b] ∧ RowIs H y r ∧ ∀ H', Same H H' → Q (.bl (lkOk a b r)) H'
def spLkX (C CB : Addr) : Sp := fun vs H Q E => ∃ (p dx : Addr) (x y l : V) (n m : String) (r : Option (List (Option (V × V)))), vs = [.ref p, x, y, l] ∧ H p = some (.ins C dx []) ∧ Kd H x n ∧ Kd H y m ∧ RowsIs H l r ∧ l ≠ .ref p ∧ l ≠ .ref dx ∧
  match likeDue x y r with
  | some w => refuse CB E H w
  | none => ∀ (a b : Int) (rs : List (Option (V × V))) H', x = .int a → y = .int b → r = some rs → (∀ c o, H c = some o → c ≠ p → H' c = some o) → LkAt C H' p a b (srt (rs.map prI)) → Q .non H'
def HasX (P : Program) (w : World) (K : PySem.W.Frag) (mg : Str → Option Value) (base : Heap) (x : Str) (k : Nat) (ps : List Str) (sp : Sp) : Prop := ∃ f fd, FnOk P w K mg base (L2.CX P w) k f fd ps sp ∧ mg x = some (.ref f) ∧ PySem.W.keepIn K (.ref f) = true ∧ Binds K fd ps []
section
variable {P : Program} {w : World} {K : PySem.W.Frag} {mg : Str → Option Value} {base : Heap}
theorem scSizes : FnScope ["first", "second"] ["first", "second"] (defScope sCheckSizes) := ⟨rfl, rfl, rfl, by decide +kernel, rfl, by decide +kernel, by decide +kernel⟩
theorem ok_sizesX {f CB fB : Addr} {fd fdB : FuncData} (F : Fun K "_check_sizes" "_check_sizes" sCheckSizes f fd) (m : mg "_check_sizes" = some (.ref f)) (M : Ml mg) (W : HasF P w K mg base "is_whole" 1 ["thing", "low", "high"] spWhole)
    (EB : ErC P w K mg base "BadLikeness" ["self", "what"] CB fB fdB (spInit1 K CB "what")) (n1 : PySem.W.findIn K (.ref CB) "what" = some none) : HasX P w K mg base "_check_sizes" 3 ["first", "second"] (spSizesX CB) := by
  refine ⟨f, fd, ?_, m, F.kp, F.binds fun _ _ _ _ _ _ us hl => match us, hl with | [_, _], _ => rfl⟩
  obtain ⟨f1, fd1, W⟩ := W
  obtain ⟨t, mM⟩ := M.most
  refine F.okX scSizes (fun vs H Q E h => ?_) (fun cdv A outer s H vs Q E hr h => ?_)
  · obtain ⟨x, y, n, m, rfl, _⟩ := h
    rfl
  · obtain ⟨x, y, n, m, rfl, kx, ky, k⟩ := h
    have hr1 : Room 1 _ := hr.mono (by decide)
    refine ⟨_, (pss_cons (ps_if (pt_not (pt_val (pe_call W.G hr1 (by rfl) W.m W.kp W.b .nil pass0 (pa_cons (pv 0) (pa_cons pe_int (pa_cons (pe_glob (v := .int 40) rfl mM ⟨_, rfl⟩) pa_nil)))))) (pss_one (ps_raise rfl (takes_of rfl rfl rfl rfl) (pmk_oex EB.T EB.iC EB.tI EB.G hr EB.b .nil pass0 (by rfl) EB.gC (pa_cons pe_str pa_nil)))) pss_nil)
    (pss_one (ps_if (pt_not (pt_val (pe_call W.G hr1 (by rfl) W.m W.kp W.b .nil pass0 (pa_cons (pv 1) (pa_cons pe_int (pa_cons (pe_glob (v := .int 40) rfl mM ⟨_, rfl⟩) pa_nil)))))) (pss_one (ps_raise rfl (takes_of rfl rfl rfl rfl) (pmk_oex EB.T EB.iC EB.tI EB.G hr EB.b .nil pass0 (by rfl) EB.gC (pa_cons pe_str pa_nil)))) pss_nil))), ?_⟩
    refine ⟨_, rfl, x, _, 0, 40, rfl, kx, _, rfl, ?_⟩
    cases w1 : wholeV x 0 40 with
    | false =>
      rw [show sizesDue x y = some (Str.ofString "first") by unfold sizesDue; rw [w1]; rfl] at k
      exact iteT (fin1 EB.T n1 k)
    | true =>
      refine iteF ⟨_, rfl, y, _, 0, 40, rfl, ky, _, rfl, ?_⟩
      cases w2 : wholeV y 0 40 with
      | false =>
        rw [show sizesDue x y = some (Str.ofString "second") by unfold sizesDue; rw [w1, w2]; rfl] at k
        exact iteT (fin1 EB.T n1 k)
      | true =>
        rw [show sizesDue x y = none by unfold sizesDue; rw [w1, w2]; rfl] at k
        exact iteF k
theorem scIsLink : FnScope ["link", "first", "second"] ["link", "first", "second"] (defScope sIsLink) := ⟨rfl, rfl, rfl, by decide +kernel, rfl, by decide +kernel, by decide +kernel⟩
theorem ok_islinkX {f : Addr} {fd : FuncData} (F : Fun K "_is_link" "_is_link" sIsLink f fd) (m : mg "_is_link" = some (.ref f)) (T : Bl mg) (Sq : HasF P w K mg base "is_sequence" 1 ["thing"] spSeq) (W : HasF P w K mg base "is_whole" 1 ["thing", "low", "high"] spWhole) : HasF P w K mg base "_is_link" 2 ["link", "first", "second"] spIsLinkX := by
  refine ⟨f, fd, ?_, m, F.kp, F.binds fun _ _ _ _ _ _ us hl => match us, hl with | [_, _, _], _ => rfl⟩
  obtain ⟨f1, fd1, W⟩ := W; obtain ⟨f2, fd2, Sq⟩ := Sq
  refine F.ok scIsLink (fun vs H Q E h => ?_) (fun cdv A outer s H vs Q E hr h => ?_)
  · obtain ⟨a, b, c, d, rfl, _⟩ := h
    rfl
  · obtain ⟨y, r, a, b, rfl, hy, k⟩ := h
    refine ⟨_, (pss_cons (ps_if (PW.pt (pw_or (pt_not (pt_val (pe_call Sq.G hr (by rfl) Sq.m Sq.kp Sq.b .nil pass0 (pa_cons (pv 0) pa_nil)))) (pw_or1 (pt_cmpR op_ne (pe_callB call_len_seq (by rfl) T.len PySem.boot_len (pa_cons (pv 0) pa_nil)) pe_int (nomark _))))) (pss_one (ps_ret pe_bl)) pss_nil)
    (pss_one (ps_ret (pe_and (pe_call W.G hr (by rfl) W.m W.kp W.b .nil pass0 (pa_cons (pe_ix ix_seq (pv 0) pe_int (fun _ _ => rfl)) (pa_cons pe_int (pa_cons (pe_op op_sub (pv 1) pe_int) pa_nil)))) (pe_one (pe_call W.G hr (by rfl) W.m W.kp W.b .nil pass0 (pa_cons (pe_ix ix_seq (pv 0) pe_int (fun _ _ => rfl)) (pa_cons pe_int (pa_cons (pe_op op_sub (pv 2) pe_int) pa_nil))))))))), ?_⟩
    obtain ⟨n, kd, kn⟩ := hy.kd
    refine ⟨_, rfl, y, n, rfl, kd, fun H1 s1 => ⟨_, rfl, ?_⟩⟩
    have hy1 := hy.keep s1
    have kd1 := kd.keep s1
    cases hy1 with
    | @lst b' c d t u h hn ha =>
      rw [kd1.uniq (.lst _ _ h)]
      refine iteF ⟨_, rfl, b', _, rfl, .inl (SqL.of h), rfl, _, rfl, iteF ?_⟩
      refine ⟨_, rfl, .inl ⟨b', _, _, _, rfl, rfl, SqL.of h, rfl, _, rfl, _, _, rfl, rfl, c, _, 0, a - 1, rfl, hn.kd, _, rfl, ?_⟩⟩
      cases w1 : wholeV c 0 (a - 1) with
      | false =>
        have e : lkOk a b (some (c, d)) = false := by show (wholeV c 0 (a - 1) && _) = false; rw [w1]; rfl
        rw [e] at k
        exact iteF (k _ s1)
      | true =>
        have e : lkOk a b (some (c, d)) = wholeV d 0 (b - 1) := by show (wholeV c 0 (a - 1) && _) = _; rw [w1]; rfl
        rw [e] at k
        exact iteT ⟨_, rfl, .inl ⟨b', _, _, _, rfl, rfl, SqL.of h, rfl, _, rfl, _, _, rfl, rfl, d, _, 0, b - 1, rfl, ha.kd, k _ s1⟩⟩
    | @tup b' c d t u h hn ha =>
      rw [kd1.uniq (.tup _ _ h)]
      refine iteF ⟨_, rfl, b', _, rfl, .inr (SqT.of h), rfl, _, rfl, iteF ?_⟩
      refine ⟨_, rfl, .inr (.inl ⟨b', _, _, _, rfl, rfl, SqT.of h, rfl, _, rfl, _, _, rfl, rfl, c, _, 0, a - 1, rfl, hn.kd, _, rfl, ?_⟩)⟩
      cases w1 : wholeV c 0 (a - 1) with
      | false =>
        have e : lkOk a b (some (c, d)) = false := by show (wholeV c 0 (a - 1) && _) = false; rw [w1]; rfl
        rw [e] at k
        exact iteF (k _ s1)
      | true =>
        have e : lkOk a b (some (c, d)) = wholeV d 0 (b - 1) := by show (wholeV c 0 (a - 1) && _) = _; rw [w1]; rfl
        rw [e] at k
        exact iteT ⟨_, rfl, .inr (.inl ⟨b', _, _, _, rfl, rfl, SqT.of h, rfl, _, rfl, _, _, rfl, rfl, d, _, 0, b - 1, rfl, ha.kd, k _ s1⟩)⟩
    | @lstN b' xs h l =>
      rw [kd1.uniq (.lst _ _ h)]
      refine iteF ⟨_, rfl, b', _, rfl, .inl (SqL.of h), rfl, _, rfl, ?_⟩
      have e : decide (V.int (xs.length : Nat) = V.int 2) = false := decide_eq_false fun z => l (by have := V.int.inj z; omega)
      rw [e]
      exact iteT (k _ s1)
    | @tupN b' xs h l =>
      rw [kd1.uniq (.tup _ _ h)]
      refine iteF ⟨_, rfl, b', _, rfl, .inr (SqT.of h), rfl, _, rfl, ?_⟩
      have e : decide (V.int (xs.length : Nat) = V.int 2) = false := decide_eq_false fun z => l (by have := V.int.inj z; omega)
      rw [e]
      exact iteT (k _ s1)
    | @oth y' n' h l =>
      rw [kd1.uniq h, l]
      exact iteT (k _ s1)
end
end Kx

set_option maxHeartbeats 4000000
namespace Kx
open PySem L2
theorem take_succ_of {α : Type} {l : List α} {i : Nat} {x : α} (e : l[i]? = some x) : l.take (i + 1) = l.take i ++ [x] := by
  rw [List.take_add_one, e]
  rfl
theorem seq_for {K : PySem.W.Frag} {a : Addr} {xs : List V} {g : TG} {tb : TS} {D : Ends} {σ : L2.St} {H : Hp} (Pv : Nat → L2.St → Hp → Prop) (h0 : Pv 0 σ H) (hl : (∀ i σ H, Pv i σ H → SqL K H a xs) ∨ (∀ i σ H, Pv i σ H → SqT K H a xs))
    (hs : ∀ i x σ H, xs[i]? = some x → Pv i σ H → g x σ H fun σ2 H2 => tb { D with nx := Pv (i + 1), ct := Pv (i + 1), bk := D.nx } σ2 H2) (hd : ∀ σ H, Pv xs.length σ H → D.nx σ H) :
    ((∃ xs, SqL K H a xs) ∧ ∃ W : Nat → Nat → L2.St → Hp → Prop, (∃ m, W 0 m σ H) ∧ ∀ i m σ H, W i m σ H →
      ((Itl K a).stop i H ∧ D.nx σ H) ∨ ((Itl K a).go i H ∧ ∃ N : L2.St → Hp → Prop, (∀ σ' H', N σ' H' → ∃ m', m' < m ∧ W (i + 1) m' σ' H') ∧ ∀ x H', (Itl K a).yld i H x H' → g x σ H' fun σ2 H2 => tb { D with nx := N, ct := N, bk := D.nx } σ2 H2)) ∨
    ((∃ xs, SqT K H a xs) ∧ ∃ W : Nat → Nat → L2.St → Hp → Prop, (∃ m, W 0 m σ H) ∧ ∀ i m σ H, W i m σ H →
      ((Itt K a).stop i H ∧ D.nx σ H) ∨ ((Itt K a).go i H ∧ ∃ N : L2.St → Hp → Prop, (∀ σ' H', N σ' H' → ∃ m', m' < m ∧ W (i + 1) m' σ' H') ∧ ∀ x H', (Itt K a).yld i H x H' → g x σ H' fun σ2 H2 => tb { D with nx := N, ct := N, bk := D.nx } σ2 H2)) := by
  rcases hl with hl | hl
  · exact .inl ⟨⟨xs, hl _ _ _ h0⟩, for_list Pv h0 (fun i σ H _ p => hl i σ H p) hs hd⟩
  · exact .inr ⟨⟨xs, hl _ _ _ h0⟩, for_tup Pv h0 (fun i σ H _ p => hl i σ H p) hs hd⟩
theorem PL.keep' {H : Hp} {x : Addr} {o : HO} {xs : List V} {ls : List Pr} (h : PL H xs ls) (n : ∀ {t : Addr} {vs : List V}, H t = some (.tup vs) → t ≠ x) : PL (upd H x o) xs ls := by
  induction h with
  | nil => exact .nil
  | cons h _ ih => exact .cons (by rw [upd_ne (n h)]; exact h) ih
theorem scanL_step {a b : Int} {seen : List Pr} {rs : List (Option (V × V))} {i : Nat} {r : Option (V × V)} (h : rs[i]? = some r) : scanL a b seen (rs.drop i) = (match lkWord a b (seen.map (·.1)) (seen.map (·.2)) r with
    | some w => some w
    | none => scanL a b (seen ++ [prI r]) (rs.drop (i + 1))) := by
  have lt : i < rs.length := (List.getElem?_eq_some_iff.mp h).1
  have e : rs.drop i = r :: rs.drop (i + 1) := by
    rw [List.drop_eq_getElem_cons lt, (List.getElem?_eq_some_iff.mp h).2]
  rw [e]
  rfl
theorem getP_some {ls : List Pr} {i : Int} : (getP ls i).isSome = decide (i ∈ ls.map (·.1)) := by
  by_cases h : i ∈ ls.map (·.1)
  · rw [decide_eq_true h]
    cases e : getP ls i with
    | some k => rfl
    | none =>
      unfold getP at e
      rw [Option.map_eq_none_iff, List.find?_eq_none] at e
      obtain ⟨r, hr, e2⟩ := List.mem_map.mp h
      exact absurd (by simpa using e2) (e r hr)
  · rw [getP_no h, decide_eq_false h]
    rfl
theorem lkOk_false {a b : Int} {s t : List Int} {r : Option (V × V)} (h : lkOk a b r = false) : lkWord a b s t r = some (Str.ofString "link") := by
  cases r with
  | none => rfl
  | some q =>
    obtain ⟨n, m⟩ := q
    have h : (wholeV n 0 (a - 1) && wholeV m 0 (b - 1)) = false := h
    show (if wholeV n 0 (a - 1) = true ∧ wholeV m 0 (b - 1) = true then _ else some (Str.ofString "link")) = _
    rw [if_neg]
    rintro ⟨h1, h2⟩
    rw [h1, h2] at h
    cases h
theorem lkOk_true {a b : Int} {r : Option (V × V)} (h : lkOk a b r = true) : ∃ i j : Int, r = some (.int i, .int j) ∧ ∀ s t : List Int, lkWord a b s t r = if i ∈ s ∨ j ∈ t then some (Str.ofString "double") else none := by
  cases r with
  | none => cases h
  | some q =>
    obtain ⟨n, m⟩ := q
    have h : (wholeV n 0 (a - 1) && wholeV m 0 (b - 1)) = true := h
    rw [Bool.and_eq_true] at h
    obtain ⟨i, rfl, _⟩ := whole_int h.1
    obtain ⟨j, rfl, _⟩ := whole_int h.2
    refine ⟨i, j, rfl, fun s t => ?_⟩
    show (if wholeV (.int i) 0 (a - 1) = true ∧ wholeV (.int j) 0 (b - 1) = true then _ else some (Str.ofString "link")) = _
    rw [if_pos h]
    rfl
section
variable {P : Program} {w : World} {K : PySem.W.Frag} {mg : Str → Option Value} {base : Heap}
theorem scInit : FnScope ["self", "first", "second", "links", "seconds", "link"] ["self", "first", "second", "links"] (defScope sLikeness_init) := ⟨rfl, rfl, rfl, by decide +kernel, rfl, by decide +kernel, by decide +kernel⟩
theorem ok_linitX {f C CB fB : Addr} {fd fdB : FuncData} (F : Fun K "__init__" "Likeness.__init__" sLikeness_init f fd) (T : Bl mg) (B : Bm mg) (M : Ml mg) (LX : LC K C) (Sz' : HasX P w K mg base "_check_sizes" 3 ["first", "second"] (spSizesX CB)) (Sq : HasF P w K mg base "is_sequence" 1 ["thing"] spSeq) (Il : HasF P w K mg base "_is_link" 2 ["link", "first", "second"] spIsLinkX)
    (EB : ErC P w K mg base "BadLikeness" ["self", "what"] CB fB fdB (spInit1 K CB "what")) (n1 : PySem.W.findIn K (.ref CB) "what" = some none) :
    FnOk P w K mg base (L2.CX P w) 4 f fd ["self", "first", "second", "links"] (spLkX C CB) := by
  obtain ⟨f1, fd1, SG, Sm, Sk, Sb⟩ := Sz'; obtain ⟨f2, fd2, Sq⟩ := Sq; obtain ⟨f3, fd3, Il⟩ := Il
  refine F.okX scInit (fun vs H Q E h => ?_) (fun cdv A outer s H vs Q E hr h => ?_)
  · obtain ⟨p, dx, x, y, l, n, m, r, rfl, _⟩ := h
    rfl
  · obtain ⟨p, dx, x, y, l, n, m, r, rfl, hp, kx, ky, hl, lp, ld, k⟩ := h
    have hu := hu_of hr
    have hr1 : Room 1 _ := hr.mono (by decide)
    have hr2 : Room 2 _ := hr.mono (by decide)
    refine ⟨_, (pss_cons (ps_expr (pe_call (E := E) SG hr (by rfl) Sm Sk Sb .nil (passes_call (W := fun cls d _ H => E cls d H) (takes_of rfl rfl rfl rfl) (fun _ _ _ _ h => h)) (pa_cons (pv 1) (pa_cons (pv 2) pa_nil))))
    (pss_cons (ps_if (pt_not (pt_val (pe_call Sq.G hr1 (by rfl) Sq.m Sq.kp Sq.b .nil pass0 (pa_cons (pv 3) pa_nil)))) (pss_one (ps_raise rfl (takes_of rfl rfl rfl rfl) (pmk_oex EB.T EB.iC EB.tI EB.G hr2 EB.b .nil pass0 (by rfl) EB.gC (pa_cons pe_str pa_nil)))) pss_nil)
    (pss_cons (ps_set (i := 4) scInit.nd rfl (Or.inl rfl) pe_dnewK)
    (C8.pss_cut (ps_for (passes_of rfl) rfl (pi_seq (pv 3)) (pg_name (i := 5) scInit.nd rfl (Or.inl rfl))
        (pss_cons (ps_if (pt_not (pt_val (pe_call Il.G hr2 (by rfl) Il.m Il.kp Il.b .nil pass0 (pa_cons (pv 5) (pa_cons (pv 1) (pa_cons (pv 2) pa_nil)))))) (pss_one (ps_raise rfl (takes_of rfl rfl rfl rfl) (pmk_oex EB.T EB.iC EB.tI EB.G hr2 EB.b .nil pass0 (by rfl) EB.gC (pa_cons pe_str pa_nil)))) pss_nil)
    (pss_cons (ps_if (PW.pt (pw_or (pt_cmp (pc_din hu (pe_ix ix_seq (pv 5) pe_int (fun _ _ => rfl)) (pv 4)) rfl) (pw_or1 (pt_cmpR op_in_seq (pe_ix ix_seq (pv 5) pe_int (fun _ _ => rfl)) (pe_listVals rfl (pv 4) (by rfl) B.list (by decide +kernel)) (by rfl))))) (pss_one (ps_raise rfl (takes_of rfl rfl rfl rfl) (pmk_oex EB.T EB.iC EB.tI EB.G hr2 EB.b .nil pass0 (by rfl) EB.gC (pa_cons pe_str pa_nil)))) pss_nil)
    (pss_one (ps_dput hu (pv 4) (pe_ix ix_seq (pv 5) pe_int (fun _ _ => rfl)) (pe_ix ix_seq (pv 5) pe_int (fun _ _ => rfl)) rfl)))))
    (pss_cons (ps_fld (pv 0) (pv 1) rfl)
    (pss_cons (ps_fld (pv 0) (pv 2) rfl)
    (pss_one (ps_fld (pv 0) (pe_callTy call_tuple_of (by rfl) B.tuple (by decide +kernel) (pa_cons (pe_callB cr_sortedPO (by rfl) M.sorted (by decide +kernel) (pa_cons (LiI.pe_listItems rfl (pv 4) (by rfl) B.list (by decide +kernel)) pa_nil)) pa_nil)) rfl)))))))), ?_⟩
    have rest : sizesDue x y = none → spSizesX CB [x, y] H (fun v H' => v = .non ∧ H' = H) E := fun e => ⟨x, y, n, m, rfl, kx, ky, by rw [e]; exact ⟨rfl, rfl⟩⟩
    refine ⟨_, rfl, _, rfl, x, y, n, m, rfl, kx, ky, ?_⟩
    cases w1 : wholeV x 0 40 with
    | false =>
      rw [show likeDue x y r = some (Str.ofString "first") by unfold likeDue; rw [w1]; rfl] at k
      rw [show sizesDue x y = some (Str.ofString "first") by unfold sizesDue; rw [w1]; rfl]
      have k : refuse CB E H (Str.ofString "first") := k
      exact k
    | true =>
    cases w2 : wholeV y 0 40 with
    | false =>
      rw [show likeDue x y r = some (Str.ofString "second") by unfold likeDue; rw [w1, w2]; rfl] at k
      rw [show sizesDue x y = some (Str.ofString "second") by unfold sizesDue; rw [w1, w2]; rfl]
      have k : refuse CB E H (Str.ofString "second") := k
      exact k
    | true =>
    rw [show sizesDue x y = none by unfold sizesDue; rw [w1, w2]; rfl]
    obtain ⟨a, rfl, a0, a4⟩ := whole_int w1
    obtain ⟨b, rfl, b0, b4⟩ := whole_int w2
    have sz : Sz a b := ⟨a0, a4, b0, b4⟩
    obtain ⟨nl, kd, kn⟩ := hl.kd
    refine ⟨_, rfl, l, nl, rfl, kd, fun H1 s1 => ⟨_, rfl, ?_⟩⟩
    have hl1 := hl.keep s1
    have raise : ∀ {wd : Str} {Hx : Hp}, likeDue (.int a) (.int b) r = some wd → Same H Hx → ∀ {E' : XK}, E' = E → [V.str wd].length ≤ 1000 ∧ ∀ a', Hx a' = none → spInit1 K CB "what" (.ref a' :: ([V.str wd] ++ [])) (upd Hx a' (exo a' CB none)) (fun v H2 => v = .non ∧ ∃ (d : Addr) (fs : List (Str × V)), H2 a' = some (exo a' CB (some d)) ∧ H2 d = some (exd d fs) ∧ Hx d = none ∧ E' (.ref CB) (some d) (upd (del H2 a') d (.xd fs))) (fun _ _ _ => False) := fun {wd Hx} e s {E'} ee => by
      subst ee
      rw [e] at k
      exact fin1 EB.T n1 fun d H2 hd s2 e2 => k d H2 (s.free hd) (s.trans s2) e2
    cases e1 : seqV nl with
    | false =>
      have er := kn e1
      subst er
      exact iteT (raise (by unfold likeDue; rw [w1, w2]; rfl) s1 rfl)
    | true =>
    refine iteF fun d hd => ?_
    obtain ⟨rs, xs, lb, rfl, rfl, hlb, al⟩ : ∃ (rs : List (Option (V × V))) (xs : List V) (lb : Addr), r = some rs ∧ l = .ref lb ∧ (H1 lb = some (.lst xs) ∨ H1 lb = some (.tup xs)) ∧ AllR H1 xs rs ∧ xs.length ≤ 100 := by
      cases hl1 with
      | lst h a l => exact ⟨_, _, _, rfl, rfl, .inl h, a, l⟩
      | tup h a l => exact ⟨_, _, _, rfl, rfl, .inr h, a, l⟩
      | oth h l => rw [← (kd.keep s1).uniq h, e1] at l; cases l
    obtain ⟨al, x100⟩ := al
    have due : likeDue (.int a) (.int b) (some rs) = scanL a b [] rs := by unfold likeDue; rw [w1, w2]; rfl
    have hp1 := s1 _ _ hp
    have pd : p ≠ d := ne_of_none hp1 hd
    refine ⟨fun σ H2 => ∃ v5 : Option V, σ = [some (.ref p), some (.int a), some (.int b), some (.ref lb), some (.ref d), v5] ∧ Same H1 H2 ∧ H2 d = some (.dK (kvI (rs.map prI))) ∧ scanL a b [] rs = none, ?_, ?_⟩
    · refine ⟨_, rfl, lb, rfl, ?_⟩
      refine seq_for (K := K) (xs := xs) (fun i σ H2 => ∃ v5 : Option V, σ = [some (.ref p), some (.int a), some (.int b), some (.ref lb), some (.ref d), v5] ∧ Same H1 H2 ∧ H2 d = some (.dK (kvI ((rs.take i).map prI))) ∧ scanL a b [] rs = scanL a b ((rs.take i).map prI) (rs.drop i))
        ⟨none, rfl, sameUpd (Same.refl _) hd, upd_same, rfl⟩ (hlb.imp (fun h i σ H2 ⟨_, _, s, _⟩ => SqL.of (s _ _ h)) (fun h i σ H2 ⟨_, _, s, _⟩ => SqT.of (s _ _ h))) ?_ ?_
      · rintro i y σ H2 hi ⟨v5, rfl, s2, d2, sc⟩
        have ltx : i < xs.length := (List.getElem?_eq_some_iff.mp hi).1
        have ltr : i < rs.length := by have := al.1; omega
        have hr' : rs[i]? = some rs[i] := List.getElem?_eq_getElem ltr
        have row := (al.2 i y _ hi hr').keep s2
        generalize rs[i] = r at hr' row
        rw [scanL_step hr'] at sc
        have etk : (rs.take (i + 1)).map prI = (rs.take i).map prI ++ [prI r] := by rw [take_succ_of hr', List.map_append]; rfl
        generalize hsn : (rs.take i).map prI = seen at d2 sc etk
        have sl : seen.length ≤ 100 := by rw [← hsn, List.length_map, List.length_take]; have := al.1; omega
        refine ⟨_, rfl, _, rfl, _, rfl, y, r, a, b, rfl, row, fun H3 s3 => ⟨_, rfl, ?_⟩⟩
        have d3 := s3 _ _ d2
        have s13 := s2.trans s3
        have sH := s1.trans s13
        cases ok : lkOk a b r with
        | false =>
          rw [lkOk_false ok] at sc
          exact iteT (raise (due.trans sc) sH rfl)
        | true =>
          obtain ⟨p1, p2, rfl, hw⟩ := lkOk_true ok
          rw [hw] at sc
          have row3 := row.keep s3
          have put : ∀ {Hx : Hp} {σ' : L2.St}, Same H1 Hx → Hx d = some (.dK (kvI seen)) → σ' = [some (V.ref p), some (V.int a), some (V.int b), some (V.ref lb), some (V.ref d), some y] → ¬ (p1 ∈ seen.map (·.1) ∨ p2 ∈ seen.map (·.2)) → ∃ v5 : Option V, σ' = [some (V.ref p), some (V.int a), some (V.int b), some (V.ref lb), some (V.ref d), v5] ∧ Same H1 (upd Hx d (.dK (putK (kvI seen) (Sum.inl p1 : Key) (.int p2)))) ∧ upd Hx d (.dK (putK (kvI seen) (Sum.inl p1 : Key) (.int p2))) d = some (.dK (kvI ((rs.take (i + 1)).map prI))) ∧ scanL a b [] rs = scanL a b ((rs.take (i + 1)).map prI) (rs.drop (i + 1)) := fun {Hx σ'} sx dx' es no => by
            rw [if_neg no] at sc
            refine ⟨_, es, fun c o e => ?_, ?_, ?_⟩
            · rw [upd_ne (ne_of_none e hd)]
              exact sx c o e
            · rw [upd_same, kvI_put (q := (p1, p2)) (fun z => no (.inl z)), etk]
              rfl
            · rw [etk]
              exact sc
          refine iteF ?_
          have gi := kvI_get p1 seen
          have gs : ((getP seen p1).map V.int).isSome = decide (p1 ∈ seen.map (·.1)) := by rw [← getP_some]; cases getP seen p1 <;> rfl
          have dg := DGet.k (k := Sum.inl p1) d3
          rw [gi] at dg
          have len : (kvI seen).length < sizeLine := small1000 (by unfold kvI; rw [List.length_map]; omega)
          obtain ⟨t, rfl, ixr⟩ : ∃ t, y = .ref t ∧ ∀ {Hx : Hp}, Same H3 Hx → ∀ {j : Int} {v : V} {Q' : V → Hp → Prop}, atI [V.int p1, V.int p2] j = some v → Q' v Hx → rIx K (.ref t) (.int j) Hx Q' := by
            cases row3 with
            | lst h hn ha => exact ⟨_, rfl, @fun Hx s j v Q' e q => .inl ⟨_, _, _, _, rfl, rfl, SqL.of (s _ _ h), e, q⟩⟩
            | tup h hn ha => exact ⟨_, rfl, @fun Hx s j v Q' e q => .inr (.inl ⟨_, _, _, _, rfl, rfl, SqT.of (s _ _ h), e, q⟩)⟩
          refine ⟨_, rfl, ixr (Same.refl _) rfl ⟨_, rfl, d, _, rfl, dg, _, rfl, ?_⟩⟩
          rw [gs]
          by_cases m1 : p1 ∈ seen.map (·.1)
          · rw [decide_eq_true m1]
            rw [if_pos (.inl m1)] at sc
            exact iteT (raise (due.trans sc) sH rfl)
          · rw [decide_eq_false m1]
            refine iteF ⟨_, rfl, ixr (Same.refl _) rfl ⟨_, rfl, d, _, rfl, d3, fun u hu' => ?_⟩⟩
            have s4 : Same H3 (upd H3 u (.lst ((kvI seen).map (·.2)))) := sameUpd (Same.refl _) hu'
            refine ⟨u, _, rfl, .inl (SqL.of upd_same), rfl, by rw [kvI_vals, List.all_map]; exact List.all_eq_true.mpr fun _ _ => rfl, _, rfl, ?_⟩
            have ei : (if false then !inV (V.int p2) ((kvI seen).map (·.2)) else inV (V.int p2) ((kvI seen).map (·.2))) = decide (p2 ∈ seen.map (·.2)) := by
              rw [kvI_vals]
              exact inV_ints _ _
            rw [ei]
            by_cases m2 : p2 ∈ seen.map (·.2)
            · rw [decide_eq_true m2]
              rw [if_pos (.inr m2)] at sc
              exact iteT (raise (due.trans sc) (sH.trans s4) rfl)
            · rw [decide_eq_false m2]
              exact iteF ⟨_, rfl, ixr s4 rfl ⟨_, rfl, _, rfl, ixr s4 rfl ⟨d, _, rfl, DPut.k (k := Sum.inl p1) (s4 _ _ d3) len, put (s13.trans s4) (s4 _ _ d3) rfl (fun z => z.elim m1 m2)⟩⟩⟩
      · rintro σ H2 ⟨v5, rfl, s2, d2, sc⟩
        rw [al.1, List.take_length] at d2 sc
        rw [List.drop_length] at sc
        exact ⟨v5, rfl, s2, d2, sc⟩
    rintro σ H2 ⟨v5, rfl, s2, d2, sc⟩
    rw [due, sc] at k
    have lk : Lk a b (rs.map prI) := scanL_none (seen := []) ⟨(fun q h => nomatch h), List.nodup_nil, List.nodup_nil⟩ sc
    have hx2 := s2 _ _ hp1
    have xd := pd
    refine ⟨_, rfl, _, rfl, p, C, dx, [], rfl, hx2, LX.cl, LX.nF, by decide, ?_⟩
    refine ⟨_, rfl, _, rfl, p, C, dx, _, rfl, upd_same, LX.cl, LX.nS, Nat.lt_of_le_of_lt (length_putF _ _ _) (by decide), ?_⟩
    rw [upd_upd]
    have d3 : upd H2 p (.ins C dx (putF "second" (.int b) (putF "first" (.int a) []))) d = some (.dK (kvI (rs.map prI))) := by rw [upd_ne xd.symm]; exact d2
    refine ⟨_, rfl, d, _, rfl, d3, fun H4 q ts k4 hq ht pts hp4 pd4 => ?_⟩
    have pl4 := items_pl pd4
    refine ⟨q, ts.map V.ref, PL.kOf H4, rfl, SqL.of hp4, pl4.all, fun ys p5 srtd stb hp5 => ?_⟩
    have pl5 := pl4.sorted srtd stb
    refine ⟨p5, ys, rfl, .inl ⟨SqL.of upd_same, fun L hL => ?_⟩⟩
    have s45 : Same H4 (upd (upd H4 p5 (.lst ys)) L (.tup ys)) := (sameUpd (Same.refl _) hp5).trans (sameUpd (Same.refl _) hL)
    have hx4 := k4 _ _ (upd_same (H := H2) (a := p) (o := .ins C dx (putF "second" (.int b) (putF "first" (.int a) []))))
    have hx5 := s45 _ _ hx4
    have Lx : L ≠ p := fun e => by
      rw [e] at hL
      rw [(sameUpd (Same.refl _) hp5) _ _ hx4] at hL
      cases hL
    refine ⟨_, rfl, p, C, dx, _, rfl, hx5, LX.cl, LX.nL, Nat.lt_of_le_of_lt (Nat.le_trans (length_putF _ _ _) (Nat.succ_le_succ (length_putF _ _ _))) (by decide), ?_⟩
    refine k a b rs _ rfl rfl rfl (fun c o e cx => ?_) ⟨⟨dx, L, ys, upd_same, ?_, ?_⟩, lk.srt, sz⟩
    · rw [upd_ne cx]
      refine s45 _ _ (k4 _ _ ?_)
      rw [upd_ne cx]
      exact s2 _ _ (s1 _ _ e)
    · rw [upd_ne Lx, upd_same]
    · have := pl5.keep s45
      refine PL.keep' this fun {t vs} ht z => ?_
      rw [z, hx5] at ht
      cases ht
end
end Kx

set_option maxHeartbeats 4000000
namespace Kx
open PySem L2
def rsI (ls : List Pr) : List (Option (V × V)) := ls.map fun q => some (V.int q.1, V.int q.2)
theorem rsI_pr (ls : List Pr) : (rsI ls).map prI = ls := by
  unfold rsI
  rw [List.map_map]
  exact List.map_id' _
theorem PL.rows {H : Hp} {xs : List V} {ls : List Pr} (h : PL H xs ls) : AllR H xs (rsI ls) := by
  refine ⟨by rw [h.len]; unfold rsI; rw [List.length_map], fun i y r e1 e2 => ?_⟩
  obtain ⟨t, q, rfl, hq, ht⟩ := h.at_ e1
  unfold rsI at e2
  rw [List.getElem?_map, hq] at e2
  cases e2
  exact .tup ht ⟨.int _, fun z e => nomatch e⟩ ⟨.int _, fun z e => nomatch e⟩
theorem due_good {a b : Int} {ls : List Pr} (lk : Lk a b ls) (sz : Sz a b) : likeDue (.int a) (.int b) (some (rsI ls)) = none := by
  unfold likeDue
  rw [if_pos (by simp [wholeV, sz.a0, sz.a4]), if_pos (by simp [wholeV, sz.b0, sz.b4])]
  exact scanL_good (seen := []) lk
theorem makeLX {C CB : Addr} {Hx : Hp} {a b : Int} {l : Addr} {xs : List V} {ls : List Pr} {Q' : Addr → Hp → Prop} {E : XK} (hl : Hx l = some (.lst xs) ∨ Hx l = some (.tup xs)) (pl : PL Hx xs ls) (lk : Lk a b ls) (sz : Sz a b) (q' : ∀ y H', Hx y = none → Same Hx H' → LkAt C H' y a b (srt ls) → Q' y H') :
    ∀ y dx, Hx y = none → Hx dx = none → dx ≠ y → spLkX C CB (.ref y :: ([.int a, .int b, .ref l] ++ [])) (upd (upd Hx dx (.own y)) y (.ins C dx [])) (fun v H2 => v = .non ∧ Q' y H2) E := by
  intro y dx hy hdx ne
  have s0 : Same Hx (upd (upd Hx dx (.own y)) y (.ins C dx [])) := (sameUpd (Same.refl _) hdx).trans (sameUpd (Same.refl _) (by rw [upd_ne ne.symm]; exact hy))
  have l100 : xs.length ≤ 100 := by have := pl.len; have := lk.few sz; omega
  have rows : RowsIs (upd (upd Hx dx (.own y)) y (.ins C dx [])) (.ref l) (some (rsI ls)) := by
    rcases hl with h | h
    · exact .lst (s0 _ _ h) (pl.keep s0).rows l100
    · exact .tup (s0 _ _ h) (pl.keep s0).rows l100
  have l0 : Hx l ≠ none := by rcases hl with h | h <;> (rw [h]; exact fun z => nomatch z)
  refine ⟨y, dx, .int a, .int b, .ref l, _, _, some (rsI ls), rfl, upd_same, .int a, .int b, rows, (fun e => l0 (by rw [V.ref.inj e]; exact hy)), (fun e => l0 (by rw [V.ref.inj e]; exact hdx)), ?_⟩
  rw [due_good lk sz]
  intro a' b' rs H' ea eb er kp ka
  cases ea; cases eb; cases er
  rw [rsI_pr] at ka
  exact ⟨rfl, q' y H' hy (fun c o e => kp c o (s0 c o e) (ne_of_none e hy)) ka⟩
def spLEq (C : Addr) : Sp := fun vs H Q _ => ∃ (x : Addr) (y : V) (a b : Int) (ls : List Pr), vs = [.ref x, y] ∧ LkAt C H x a b ls ∧
  ((∃ (t : Addr) (zs : List V), y = .ref t ∧ H t = some (.tup zs) ∧ Q (.bl false) H) ∨ ∃ (y' : Addr) (a' b' : Int) (ls' : List Pr), y = .ref y' ∧ LkAt C H y' a' b' ls' ∧ Q (.bl (decide (a = a' ∧ b = b' ∧ ls = ls'))) H)
def spFull (C : Addr) : Sp := fun vs H Q _ => ∃ (x : Addr) (a b : Int) (ls : List Pr), vs = [.ref x] ∧ LkAt C H x a b ls ∧ Q (.bl (decide ((a = ls.length) ∧ b = ls.length))) H
def spFlip (C : Addr) : Sp := fun vs H Q _ => ∃ (x : Addr) (a b : Int) (ls : List Pr), vs = [.ref x] ∧ LkAt C H x a b ls ∧ ∀ y H', Same H H' → LkAt C H' y b a (flp ls) → Q (.ref y) H'
def spLLen (C : Addr) : Sp := fun vs H Q _ => ∃ (x : Addr) (a b : Int) (ls : List Pr), vs = [.ref x] ∧ LkAt C H x a b ls ∧ Q (.int (ls.length : Nat)) H
def spPartner (C CI : Addr) : Sp := fun vs H Q E => ∃ (x : Addr) (y : V) (n : String) (a b : Int) (ls : List Pr), vs = [.ref x, y] ∧ LkAt C H x a b ls ∧ Kd H y n ∧
  (if wholeV y 0 (a - 1) = true then ∀ H', Same H H' → Q (match getP ls (intOf y) with | some j => .int j | none => .non) H' else ∀ d H', H d = none → Same H H' → H' d = some (.xd [("index", y)]) → E (.ref CI) (some d) H')
def spThenX (C CB : Addr) : Sp := fun vs H Q E => ∃ (x : Addr) (y : V) (a b : Int) (ls : List Pr), vs = [.ref x, y] ∧ LkAt C H x a b ls ∧
  ((∃ (n : String), Kd H y n ∧ n ∈ ["NoneType", "list", "int"] ∧ refuse CB E H "sizes") ∨ ∃ (y' : Addr) (c d : Int) (ls' : List Pr), y = .ref y' ∧ LkAt C H y' c d ls' ∧
    (if c = b then ∀ z H', Same H H' → LkAt C H' z a d (cmp ls ls') → Q (.ref z) H' else refuse CB E H "sizes"))
section
variable {P : Program} {w : World} {K : PySem.W.Frag} {mg : Str → Option Value} {base : Heap}
theorem LC.ty {C : Addr} (k : LC K C) {H : Hp} {a dx : Addr} {fs : List (Str × V)} (h : H a = some (.ins C dx fs)) : TyX K H (.ref a) (.ref C) := .base (.ins h k.cl k.ca k.cg k.ct k.cm)
theorem kit_self {K : PySem.W.Frag} {c : Value} : PySem.W.kitOne K c c = some true := by
  unfold PySem.W.kitOne
  rw [beq_self_eq_true]
  rfl
theorem scLEq : FnScope ["self", "other"] ["self", "other"] (defScope sLikeness_eq) := ⟨rfl, rfl, rfl, by decide +kernel, rfl, by decide +kernel, by decide +kernel⟩
theorem ok_leq {f C : Addr} {fd : FuncData} (F : Fun K "__eq__" "Likeness.__eq__" sLikeness_eq f fd) (B : Bm mg) (LX : LC K C) (mK : mg "Likeness" = some (.ref C)) (iT : PySem.W.kitOne K (.type "tuple") (.ref C) = some false) : FnOk P w K mg base CX0 1 f fd ["self", "other"] (spLEq C) := by
  refine F.ok scLEq (fun vs H Q E h => ?_) (fun cdv A outer s H vs Q E hr h => ?_)
  · obtain ⟨x, y, a, b, ls, rfl, _⟩ := h
    rfl
  · obtain ⟨x, yy, a, b, ls, rfl, hx, h⟩ := h
    refine ⟨_, (pss_cons (ps_if (PW.pt (pw_or (pt_not (pt_val (pe_callB call_isi (by rfl) B.isinstance (by decide +kernel) (pa_cons (pv 1) (pa_cons (pe_glob (v := .ref C) rfl mK rfl) pa_nil))))) (pw_or1 (pt_cmpR op_ne (pe_fld (pv 0) rfl) (pe_fld (pv 1) rfl) (nomark _))))) (pss_one (ps_ret pe_bl)) pss_nil)
    (pss_one (ps_ret (pe_and (pe_cmpR op_eq (pe_fld (pv 0) rfl) (pe_fld (pv 1) rfl) (nomark _)) (pe_one (pe_cmpR (op_eqD hr.units) (pe_fld (pv 0) rfl) (pe_fld (pv 1) rfl) (nomark _))))))), ?_⟩
    obtain ⟨dx, L, ys, h1, h2, h3⟩ := hx.ob
    rcases h with ⟨t, zs, rfl, ht, k⟩ | ⟨y, a', b', ls', rfl, hy, k⟩
    · exact ⟨_, rfl, _, _, _, _, _, rfl, .own C, .base (.tup ht), iT, _, rfl, iteT k⟩
    obtain ⟨dy, L', zs, g1, g2, g3⟩ := hy.ob
    refine ⟨_, rfl, _, _, _, _, _, rfl, .own C, LX.ty g1, kit_self, _, rfl, iteF ?_⟩
    refine ⟨_, rfl, x, C, dx, _, _, rfl, h1, LX.cl, LX.nF, lFs_first _ _ _, _, rfl, y, C, dy, _, _, rfl, g1, LX.cl, LX.nF, lFs_first _ _ _, rfl, _, rfl, ?_⟩
    have e1 : decide (V.int a = V.int a') = decide (a = a') := by simp
    have e2 : decide (V.int b = V.int b') = decide (b = b') := by simp
    rw [e1]
    by_cases ha : a = a'
    · rw [decide_eq_true ha]
      refine iteF ⟨_, rfl, x, C, dx, _, _, rfl, h1, LX.cl, LX.nS, lFs_second _ _ _, _, rfl, y, C, dy, _, _, rfl, g1, LX.cl, LX.nS, lFs_second _ _ _, rfl, _, rfl, ?_⟩
      rw [e2]
      by_cases hb : b = b'
      · rw [decide_eq_true hb]
        refine iteT ⟨_, rfl, x, C, dx, _, _, rfl, h1, LX.cl, LX.nL, lFs_links _ _ _, _, rfl, y, C, dy, _, _, rfl, g1, LX.cl, LX.nL, lFs_links _ _ _, _, _, .tup (SqT.of h2) h3.dp, .tup (SqT.of g2) g3.dp, shaped_pdT _, shaped_pdT _, ?_⟩
        rw [show PyData.eqv (.tuple (ls.map pdI)) (.tuple (ls'.map pdI)) = decide (ls = ls') from eqv_pdI ls ls']
        rw [show decide (a = a' ∧ b = b' ∧ ls = ls') = decide (ls = ls') by simp [ha, hb]] at k
        exact k
      · rw [decide_eq_false hb]
        rw [show decide (a = a' ∧ b = b' ∧ ls = ls') = false from decide_eq_false fun z => hb z.2.1] at k
        exact iteF k
    · rw [decide_eq_false ha]
      rw [show decide (a = a' ∧ b = b' ∧ ls = ls') = false from decide_eq_false fun z => ha z.1] at k
      exact iteT k
theorem scFull : FnScope ["self"] ["self"] (defScope sLikeness_is_full) := ⟨rfl, rfl, rfl, by decide +kernel, rfl, by decide +kernel, by decide +kernel⟩
theorem ok_full {f C : Addr} {fd : FuncData} (F : Fun K "is_full" "Likeness.is_full" sLikeness_is_full f fd) (T : Bl mg) (LX : LC K C) : FnOk P w K mg base CX0 1 f fd ["self"] (spFull C) := by
  refine F.ok scFull (fun vs H Q E h => ?_) (fun cdv A outer s H vs Q E hr h => ?_)
  · obtain ⟨x, a, b, ls, rfl, _⟩ := h
    rfl
  · obtain ⟨x, a, b, ls, rfl, hx, k⟩ := h
    refine ⟨_, pss_one (ps_ret (pe_and (pe_cmpR op_eq (pe_fld (pv 0) rfl) (pe_callB call_len_seq (by rfl) T.len PySem.boot_len (pa_cons (pe_fld (pv 0) rfl) pa_nil)) (nomark _)) (pe_one (pe_cmpR op_eq (pe_fld (pv 0) rfl) (pe_callB call_len_seq (by rfl) T.len PySem.boot_len (pa_cons (pe_fld (pv 0) rfl) pa_nil)) (nomark _))))), ?_⟩
    obtain ⟨dx, L, ys, h1, h2, h3⟩ := hx.ob
    have hl := h3.len
    refine ⟨_, rfl, x, C, dx, _, _, rfl, h1, LX.cl, LX.nF, lFs_first _ _ _, _, rfl, x, C, dx, _, _, rfl, h1, LX.cl, LX.nL, lFs_links _ _ _, L, _, rfl, .inr (SqT.of h2), rfl, _, rfl, ?_⟩
    have e1 : decide (V.int a = V.int (ys.length : Nat)) = decide (a = ls.length) := by rw [hl]; simp
    have e2 : decide (V.int b = V.int (ys.length : Nat)) = decide (b = ls.length) := by rw [hl]; simp
    rw [e1]
    by_cases ha : a = ls.length
    · rw [decide_eq_true ha]
      refine iteT ⟨_, rfl, x, C, dx, _, _, rfl, h1, LX.cl, LX.nS, lFs_second _ _ _, _, rfl, x, C, dx, _, _, rfl, h1, LX.cl, LX.nL, lFs_links _ _ _, L, _, rfl, .inr (SqT.of h2), rfl, ?_⟩
      rw [e2]
      rw [show decide ((a = ls.length) ∧ b = ls.length) = decide (b = ls.length) by simp [ha]] at k
      exact k
    · rw [decide_eq_false ha]
      rw [show decide ((a = ls.length) ∧ b = ls.length) = false from decide_eq_false fun z => ha z.1] at k
      exact iteF k
abbrev nFlip : List Str := ["self", "other", "one"]
theorem scFlip : FnScope nFlip ["self"] (defScope sLikeness_flipped) := ⟨rfl, rfl, rfl, by decide +kernel, rfl, by decide +kernel, by decide +kernel⟩
theorem ok_flip {f C CB gI : Addr} {fd fdI : FuncData} (F : Fun K "flipped" "Likeness.flipped" sLikeness_flipped f fd) (LX : LC K C) (mK : mg "Likeness" = some (.ref C)) (MK : Mk K C gI) (GI : FnOk P w K mg base (L2.CX P w) 4 gI fdI ["self", "first", "second", "links"] (spLkX C CB)) (bI : Binds K fdI ["self", "first", "second", "links"] []) : FnOk P w K mg base CX0 6 f fd ["self"] (spFlip C) := by
  refine F.ok scFlip (fun vs H Q E h => ?_) (fun cdv A outer s H vs Q E hr h => ?_)
  · obtain ⟨x, a, b, ls, rfl, _⟩ := h
    rfl
  · obtain ⟨x, a, b, ls, rfl, hx, k⟩ := h
    refine ⟨_, pss_one (ps_ret (pe_make MK GI hr (by rfl) mK bI .nil passL (pa_cons (pe_fld (pv 0) rfl) (pa_cons (pe_fld (pv 0) rfl) (pa_cons (pe_lc (own := [("other", 1), ("one", 2)]) (g := gTup K 2 (gCons (gName 2) (gCons (gName 1) gNil))) (tt := tYes) (by rfl) scFlip.nd (pi_tup (pe_fld (pv 0) rfl)) (blkOk_by (own := [("other", 1), ("one", 2)]) (N := nFlip) (sc := defScope sLikeness_flipped) (by decide +kernel))
        (fun _ _ _ _ _ => pg_tup rfl (pgs_cons (pg_name scFlip.nd rfl (.inl rfl)) (pgs_cons (pg_name scFlip.nd rfl (.inl rfl)) pgs_nil))) (fun _ _ _ _ _ => pts_nil) (fun _ _ _ _ _ => pe_tup (pa_cons (pv 1) (pa_cons (pv 2) pa_nil)))) pa_nil))))), ?_⟩
    obtain ⟨dx, L, ys, h1, h2, h3⟩ := hx.ob
    have hl := h3.len
    have few := hx.lk.few hx.sz
    have sz := hx.sz
    refine ⟨_, rfl, x, C, dx, _, _, rfl, h1, LX.cl, LX.nS, lFs_second _ _ _, _, rfl, x, C, dx, _, _, rfl, h1, LX.cl, LX.nF, lFs_first _ _ _, _, rfl, x, C, dx, _, _, rfl, h1, LX.cl, LX.nL, lFs_links _ _ _, L, rfl, ⟨_, SqT.of h2⟩, fun D hD => ?_⟩
    refine lc_tup (K := K) (a := L) (xs := ys) (fun i H3 => Same H H3 ∧ ∃ zs, H3 D = some (.lst zs) ∧ PL H3 zs (flpL (ls.take i)))
      ⟨sameUpd (Same.refl _) hD, [], upd_same, .nil⟩ (fun i H3 _ w => SqT.of (w.1 _ _ h2)) ?_ ?_
    · rintro i y H3 hi ⟨s3, zs, hz, pz⟩
      obtain ⟨t, q, rfl, hq, ht⟩ := (h3.keep s3).at_ hi
      have lti : i < ls.length := (List.getElem?_eq_some_iff.mp hq).1
      refine ⟨t, _, rfl, SqT.of ht, rfl, _, _, rfl, _, _, rfl, rfl, rfl, ?_⟩
      refine ⟨_, rfl, _, rfl, (by show 2 ≤ sizeLine; decide), fun u hu => ?_⟩
      have uD : u ≠ D := (ne_of_none hz hu).symm
      have zl : zs.length = i := by rw [pz.len]; unfold flpL; rw [List.length_map, List.length_take]; omega
      refine ⟨zs, by rw [upd_ne uD.symm]; exact hz, small1000 (by omega), fun c o e => ?_, zs ++ [.ref u], upd_same, ?_⟩
      · rw [upd_ne (ne_of_none e hD), upd_ne (ne_of_none (s3 c o e) hu)]
        exact s3 c o e
      · have e1 : flpL (ls.take (i + 1)) = flpL (ls.take i) ++ [(q.2, q.1)] := by rw [take_succ_of hq]; unfold flpL; rw [List.map_append]; rfl
        rw [e1]
        refine PL.keep' (PL.app (pz.keep (sameUpd (Same.refl _) hu)) (PL.one upd_same)) fun {t vs} h z => ?_
        rw [z, upd_ne uD.symm, hz] at h
        cases h
    · rintro H3 ⟨s3, zs, hz, pz⟩
      rw [hl, List.take_length] at pz
      exact makeLX (.inl hz) pz hx.lk.flpL ⟨sz.b0, sz.b4, sz.a0, sz.a4⟩ fun y H' _ s4 ka => k y H' (s3.trans s4) ka
theorem scLLen : FnScope ["self"] ["self"] (defScope sLikeness_len) := ⟨rfl, rfl, rfl, by decide +kernel, rfl, by decide +kernel, by decide +kernel⟩
theorem ok_llen {f C : Addr} {fd : FuncData} (F : Fun K "__len__" "Likeness.__len__" sLikeness_len f fd) (T : Bl mg) (LX : LC K C) : FnOk P w K mg base CX0 1 f fd ["self"] (spLLen C) := by
  refine F.ok scLLen (fun vs H Q E h => ?_) (fun cdv A outer s H vs Q E hr h => ?_)
  · obtain ⟨x, a, b, ls, rfl, _⟩ := h
    rfl
  · obtain ⟨x, a, b, ls, rfl, hx, k⟩ := h
    refine ⟨_, pss_one (ps_ret (pe_callB call_len_seq (by rfl) T.len PySem.boot_len (pa_cons (pe_fld (pv 0) rfl) pa_nil))), ?_⟩
    obtain ⟨dx, L, ys, h1, h2, h3⟩ := hx.ob
    rw [← h3.len] at k
    exact ⟨_, rfl, x, C, dx, _, _, rfl, h1, LX.cl, LX.nL, lFs_links _ _ _, L, _, rfl, .inr (SqT.of h2), k⟩
theorem scPart : FnScope ["self", "number", "one", "other"] ["self", "number"] (defScope sLikeness_partner) := ⟨rfl, rfl, rfl, by decide +kernel, rfl, by decide +kernel, by decide +kernel⟩
theorem ok_partner {f C CI fI : Addr} {fd fdI : FuncData} (F : Fun K "partner" "Likeness.partner" sLikeness_partner f fd) (LX : LC K C) (W : HasF P w K mg base "is_whole" 1 ["thing", "low", "high"] spWhole)
    (EI : ErC P w K mg base "BadIndex" ["self", "index"] CI fI fdI (spInit1 K CI "index")) (n1 : PySem.W.findIn K (.ref CI) "index" = some none) : FnOk P w K mg base (L2.CX P w) 3 f fd ["self", "number"] (spPartner C CI) := by
  obtain ⟨f1, fd1, W⟩ := W
  refine F.okX scPart (fun vs H Q E h => ?_) (fun cdv A outer s H vs Q E hr h => ?_)
  · obtain ⟨x, y, n, a, b, ls, rfl, _⟩ := h
    rfl
  · obtain ⟨x, y, n, a, b, ls, rfl, hx, ky, k⟩ := h
    have hr1 : Room 1 _ := hr.mono (by decide)
    refine ⟨_, (pss_cons (ps_if (pt_not (pt_val (pe_call W.G hr1 (by rfl) W.m W.kp W.b .nil pass0 (pa_cons (pv 1) (pa_cons pe_int (pa_cons (pe_op op_sub (pe_fld (pv 0) rfl) pe_int) pa_nil)))))) (pss_one (ps_raise rfl (takes_of rfl rfl rfl rfl) (pmk_oex EI.T EI.iC EI.tI EI.G hr EI.b .nil pass0 (by rfl) EI.gC (pa_cons (pv 1) pa_nil)))) pss_nil)
    (C8.pss_cut (ps_for (passes_of rfl) rfl (pi_tup (pe_fld (pv 0) rfl)) (pg_tup rfl (pgs_cons (pg_name (i := 2) scPart.nd rfl (.inl rfl)) (pgs_cons (pg_name (i := 3) scPart.nd rfl (.inl rfl)) pgs_nil)))
        (pss_one (ps_if (pt_cmpR op_eq (pv 2) (pv 1) (nomark _)) (pss_one (ps_ret (pv 3))) pss_nil)))
    (pss_one (ps_ret pe_non)))), ?_⟩
    obtain ⟨dx, L, ys, h1, h2, h3⟩ := hx.ob
    have hl := h3.len
    refine ⟨_, rfl, _, rfl, x, C, dx, _, _, rfl, h1, LX.cl, LX.nF, lFs_first _ _ _, _, _, rfl, rfl, y, _, 0, a - 1, rfl, ky, _, rfl, ?_⟩
    cases wy : wholeV y 0 (a - 1) with
    | false =>
      rw [wy] at k
      have k : ∀ d H', H d = none → Same H H' → H' d = some (.xd [("index", y)]) → E (.ref CI) (some d) H' := by simpa using k
      exact iteT ⟨_, rfl, fin1 EI.T n1 k⟩
    | true =>
      rw [wy] at k
      have k : ∀ H', Same H H' → Q (match getP ls (intOf y) with | some j => .int j | none => .non) H' := by simpa using k
      obtain ⟨i, rfl, i0, i1⟩ := whole_int wy
      refine iteF ?_
      refine ⟨fun σ H2 => Same H H2 ∧ getP ls i = none, ?_, ?_⟩
      · refine ⟨_, rfl, x, C, dx, _, _, rfl, h1, LX.cl, LX.nL, lFs_links _ _ _, L, rfl, ⟨_, SqT.of h2⟩, ?_⟩
        refine for_tup (K := K) (xs := ys) (fun j σ H2 => ∃ v2 v3 : Option V, σ = [some (.ref x), some (.int i), v2, v3] ∧ Same H H2 ∧ ¬ i ∈ (ls.take j).map (·.1))
          ⟨none, none, rfl, Same.refl _, by simp⟩ (fun j σ H2 _ ⟨_, _, _, s, _⟩ => SqT.of (s _ _ h2)) ?_ ?_
        · rintro j z σ H2 hj ⟨v2, v3, rfl, s2, no⟩
          obtain ⟨t, q, rfl, hq, ht⟩ := (h3.keep s2).at_ hj
          refine ⟨t, _, rfl, SqT.of ht, rfl, _, _, rfl, _, _, rfl, rfl, ?_⟩
          refine ⟨_, rfl, _, rfl, rfl, _, rfl, ?_⟩
          have e1 : decide (V.int q.1 = V.int i) = decide (q.1 = i) := by simp
          rw [e1]
          by_cases e : q.1 = i
          · rw [decide_eq_true e]
            have g : getP ls i = some q.2 := (getP_mem hx.lk).mpr (by rw [← e]; exact List.mem_of_getElem? hq)
            have k := k H2 s2
            rw [show intOf (V.int i) = i from rfl, g] at k
            exact iteT ⟨_, rfl, k⟩
          · rw [decide_eq_false e]
            refine iteF ⟨_, _, rfl, s2, ?_⟩
            rw [take_succ_of hq, List.map_append]
            intro m
            rcases List.mem_append.mp m with m | m
            · exact no m
            · exact e (List.mem_singleton.mp m).symm
        · rintro σ H2 ⟨v2, v3, rfl, s2, no⟩
          rw [hl, List.take_length] at no
          exact ⟨s2, getP_no no⟩
      rintro σ H2 ⟨s2, g⟩
      have k := k H2 s2
      rw [show intOf (V.int i) = i from rfl, g] at k
      exact k
abbrev nThen : List Str := ["self", "other", "onward", "links", "middle", "last", "one"]
theorem scThen : FnScope nThen ["self", "other"] (defScope sLikeness_then) := ⟨rfl, rfl, rfl, by decide +kernel, rfl, by decide +kernel, by decide +kernel⟩
theorem ok_thenX {f C CB fB gI : Addr} {fd fdB fdI : FuncData} (F : Fun K "then" "Likeness.then" sLikeness_then f fd) (B : Bm mg) (LX : LC K C) (mK : mg "Likeness" = some (.ref C)) (MK : Mk K C gI) (GI : FnOk P w K mg base (L2.CX P w) 4 gI fdI ["self", "first", "second", "links"] (spLkX C CB)) (bI : Binds K fdI ["self", "first", "second", "links"] [])
    (EB : ErC P w K mg base "BadLikeness" ["self", "what"] CB fB fdB (spInit1 K CB "what")) (n1 : PySem.W.findIn K (.ref CB) "what" = some none) (nk : ∀ n ∈ ["NoneType", "list", "int"], PySem.W.kitOne K (.type n) (.ref C) = some false) : FnOk P w K mg base (L2.CX P w) 6 f fd ["self", "other"] (spThenX C CB) := by
  refine F.okX scThen (fun vs H Q E h => ?_) (fun cdv A outer s H vs Q E hr h => ?_)
  · obtain ⟨x, y, a, b, ls, rfl, _⟩ := h
    rfl
  · obtain ⟨x, yy, a, b, ls, rfl, hx, hh⟩ := h
    have hu := hu_of hr
    have hr2 : Room 2 _ := hr.mono (by decide)
    refine ⟨_, (pss_cons (ps_if (PW.pt (pw_or (pt_not (pt_val (pe_callB call_isi (by rfl) B.isinstance (by decide +kernel) (pa_cons (pv 1) (pa_cons (pe_glob (v := .ref C) rfl mK rfl) pa_nil))))) (pw_or1 (pt_cmpR op_ne (pe_fld (pv 1) rfl) (pe_fld (pv 0) rfl) (nomark _))))) (pss_one (ps_raise rfl (takes_of rfl rfl rfl rfl) (pmk_oex EB.T EB.iC EB.tI EB.G hr2 EB.b .nil pass0 (by rfl) EB.gC (pa_cons pe_str pa_nil)))) pss_nil)
    (C8.pss_cut (ps_set (i := 2) scThen.nd rfl (Or.inr rfl) (pe_dc (own := [("middle", 4), ("last", 5)]) (g := gTup K 2 (gCons (gName 4) (gCons (gName 5) gNil))) (tt := tYes) rfl scThen.nd (pi_tup (pe_fld (pv 1) rfl)) (blkOk_by (own := [("middle", 4), ("last", 5)]) (N := nThen) (sc := defScope sLikeness_then) (by decide +kernel))
        (fun _ _ _ _ _ => pg_tup rfl (pgs_cons (pg_name scThen.nd rfl (.inl rfl)) (pgs_cons (pg_name scThen.nd rfl (.inl rfl)) pgs_nil))) (fun _ _ _ _ _ => pts_nil) (fun _ _ _ _ _ => (pv 4)) (fun _ _ _ _ _ => (pv 5))))
    (C8.pss_cut (ps_setLc (i := 3) (own := [("one", 6), ("middle", 4)]) (g := gTup K 2 (gCons (gName 6) (gCons (gName 4) gNil))) (by rfl) scThen.nd rfl rfl (sw_true rfl rfl rfl (by decide +kernel)) (pi_tup (pe_fld (pv 0) rfl)) (blkOk_by (own := [("one", 6), ("middle", 4)]) (N := nThen) (sc := defScope sLikeness_then) (by decide +kernel))
        (fun _ _ _ _ _ => pg_tup rfl (pgs_cons (pg_name scThen.nd rfl (.inl rfl)) (pgs_cons (pg_name scThen.nd rfl (.inl rfl)) pgs_nil))) (fun _ _ _ _ _ => pts_one (pt_cmp (pc_din hu (pv 4) (pv 2)) rfl)) (fun _ _ _ _ _ => pe_tup (pa_cons (pv 6) (pa_cons (pe_dget hu (pv 2) (pv 4) (fun _ _ => rfl)) pa_nil))))
    (pss_one (ps_ret (pe_make MK GI hr (by rfl) mK bI .nil passL (pa_cons (pe_fld (pv 0) rfl) (pa_cons (pe_fld (pv 1) rfl) (pa_cons (pv 3) pa_nil))))))))), ?_⟩
    rcases hh with ⟨n, kd, hn, k⟩ | ⟨y, c', c, ls', rfl, hy, k⟩
    · exact ⟨_, rfl, _, _, _, _, _, rfl, .own C, kd.ty, nk n hn, _, rfl, iteT (fin1 EB.T n1 k)⟩
    obtain ⟨dx, L, ys, h1, h2, h3⟩ := hx.ob
    obtain ⟨dy, L', ys', g1, g2, g3⟩ := hy.ob
    have hl := h3.len
    have hl' := g3.len
    have few := hx.lk.few hx.sz
    have few' := hy.lk.few hy.sz
    refine ⟨_, rfl, _, _, _, _, _, rfl, .own C, LX.ty g1, kit_self, _, rfl, iteF ?_⟩
    refine ⟨_, rfl, y, C, dy, _, _, rfl, g1, LX.cl, LX.nF, lFs_first _ _ _, _, rfl, x, C, dx, _, _, rfl, h1, LX.cl, LX.nS, lFs_second _ _ _, rfl, _, rfl, ?_⟩
    have ec : decide (V.int c' = V.int b) = decide (c' = b) := by simp
    rw [ec]
    by_cases cb : c' = b
    case neg =>
      rw [if_neg cb] at k
      rw [decide_eq_false cb]
      exact iteT (fin1 EB.T n1 k)
    subst cb
    rw [if_pos rfl] at k
    rw [decide_eq_true rfl]
    refine iteF ?_
    refine ⟨fun σ H1 => ∃ (D : Addr) (v4 v5 v6 : Option V), σ = [some (.ref x), some (.ref y), some (.ref D), none, v4, v5, v6] ∧ Same H H1 ∧ H1 D = some (.dK (kvI ls')), ?_, ?_⟩
    · refine ⟨_, rfl, y, C, dy, _, _, rfl, g1, LX.cl, LX.nL, lFs_links _ _ _, L', rfl, ⟨_, SqT.of g2⟩, fun D hD => ?_⟩
      refine dc_tup (K := K) (a := L') (xs := ys') (fun i H3 => Same H H3 ∧ H3 D = some (.dK (kvI (ls'.take i))))
        ⟨sameUpd (Same.refl _) hD, upd_same⟩ (fun i H3 _ w => SqT.of (w.1 _ _ g2)) ?_ ?_
      · rintro i z H3 hi ⟨s3, hDs⟩
        obtain ⟨t, q, rfl, hq, ht⟩ := (g3.keep s3).at_ hi
        have lti : i < ls'.length := (List.getElem?_eq_some_iff.mp hq).1
        have n1 : ¬ q.1 ∈ (ls'.take i).map (·.1) := by rw [List.map_take]; exact nodup_take hy.lk.n1 (by rw [List.getElem?_map, hq]; rfl)
        refine ⟨t, _, rfl, SqT.of ht, rfl, _, _, rfl, _, _, rfl, rfl, rfl, ?_⟩
        refine ⟨_, rfl, _, rfl, _, Sum.inl q.1, rfl, hDs, small1000 (by unfold kvI; rw [List.length_map, List.length_take]; omega), fun c o e => ?_, ?_⟩
        · rw [upd_ne (ne_of_none e hD)]
          exact s3 c o e
        · rw [upd_same, kvI_put n1, take_succ_of hq]
      · rintro H3 ⟨s3, hDs⟩
        rw [hl', List.take_length] at hDs
        exact ⟨D, _, _, _, rfl, s3, hDs⟩
    rintro σ H1 ⟨D, v4, v5, v6, rfl, s1, hD⟩
    refine ⟨fun σ H2 => ∃ (D' : Addr) (zs : List V) (v4 v5 v6 : Option V), σ = [some (.ref x), some (.ref y), some (.ref D), some (.ref D'), v4, v5, v6] ∧ Same H H2 ∧ H2 D' = some (.lst zs) ∧ PL H2 zs (thenL ls ls'), ?_, ?_⟩
    · refine ⟨_, rfl, x, C, dx, _, _, rfl, s1 _ _ h1, LX.cl, LX.nL, lFs_links _ _ _, L, rfl, ⟨_, SqT.of (s1 _ _ h2)⟩, fun D' hD' => ?_⟩
      refine lc_tup (K := K) (a := L) (xs := ys) (fun i H3 => Same H1 H3 ∧ ∃ zs, H3 D' = some (.lst zs) ∧ PL H3 zs (thenL (ls.take i) ls'))
        ⟨sameUpd (Same.refl _) hD', [], upd_same, .nil⟩ (fun i H3 _ w => SqT.of (w.1 _ _ (s1 _ _ h2))) ?_ ?_
      · rintro i z H3 hi ⟨s3, zs, hz, pz⟩
        obtain ⟨t, q, rfl, hq, ht⟩ := ((h3.keep s1).keep s3).at_ hi
        have lti : i < ls.length := (List.getElem?_eq_some_iff.mp hq).1
        have e1 : thenL (ls.take (i + 1)) ls' = thenL (ls.take i) ls' ++ ((getP ls' q.2).map fun k => (q.1, k)).toList := by
          rw [take_succ_of hq]
          unfold thenL
          rw [List.filterMap_append]
          cases e : getP ls' q.2 with
          | none => rw [List.filterMap_cons_none (by rw [e]; rfl)]; rfl
          | some k => rw [List.filterMap_cons_some (b := (q.1, k)) (by rw [e]; rfl)]; rfl
        refine ⟨t, _, rfl, SqT.of ht, rfl, _, _, rfl, _, _, rfl, rfl, rfl, ?_⟩
        refine ⟨_, rfl, _, rfl, D, _, rfl, DGet.k (k := Sum.inl q.2) (s3 _ _ hD), _, rfl, ?_⟩
        have ev := kvI_get q.2 ls'
        cases eg : getP ls' q.2 with
        | none =>
          rw [eg] at e1 ev
          rw [ev]
          refine iteF ⟨s3, zs, hz, ?_⟩
          rw [e1]
          show PL H3 zs (thenL (ls.take i) ls' ++ [])
          rw [List.append_nil]
          exact pz
        | some kk =>
          rw [eg] at e1 ev
          rw [ev]
          refine iteT ?_
          have zl : zs.length ≤ i := by rw [pz.len]; unfold thenL; exact Nat.le_trans (List.length_filterMap_le _ _) (by rw [List.length_take]; omega)
          have dg := DGet.k (k := Sum.inl q.2) (s3 _ _ hD)
          rw [ev] at dg
          refine ⟨_, rfl, _, rfl, _, rfl, D, _, rfl, dg, (by show 2 ≤ sizeLine; decide), fun u hu => ?_⟩
          have uD : u ≠ D' := (ne_of_none hz hu).symm
          refine ⟨zs, by rw [upd_ne uD.symm]; exact hz, small1000 (by omega), fun c o e => ?_, zs ++ [.ref u], upd_same, ?_⟩
          · rw [upd_ne (ne_of_none e hD'), upd_ne (ne_of_none (s3 c o e) hu)]
            exact s3 c o e
          · rw [e1]
            refine PL.keep' (PL.app (pz.keep (sameUpd (Same.refl _) hu)) (PL.one upd_same)) fun {t vs} h z => ?_
            rw [z, upd_ne uD.symm, hz] at h
            cases h
      · rintro H3 ⟨s3, zs, hz, pz⟩
        rw [hl, List.take_length] at pz
        exact ⟨D', zs, _, _, _, rfl, s1.trans s3, hz, pz⟩
    rintro σ H2 ⟨D', zs, v4, v5, v6, rfl, s2, hz, pz⟩
    refine ⟨_, rfl, x, C, dx, _, _, rfl, s2 _ _ h1, LX.cl, LX.nF, lFs_first _ _ _, _, rfl, y, C, dy, _, _, rfl, s2 _ _ g1, LX.cl, LX.nS, lFs_second _ _ _, _, rfl, ?_⟩
    exact makeLX (.inl hz) pz (hx.lk.thenL hy.lk) ⟨hx.sz.a0, hx.sz.a4, hy.sz.b0, hy.sz.b4⟩ fun z H' _ s4 ka => k z H' (s2.trans s4) ka
end
end Kx

set_option maxHeartbeats 4000000
namespace Kx
open PySem L2
def spLIsW : Sp := fun vs H Q _ => ∃ a : V, vs = [a, a] ∧ ((∃ i, a = .int i) ∨ a = .non) ∧ Q (.bl true) H
def spLLinks : Sp := fun vs H Q _ => ∃ (p q : Addr) (a b m : Int), vs = [.ref p, .int a, .int b, .int m] ∧ HandAt H p q ∧ Sz a b ∧ 0 ≤ m ∧ m ≤ 41 ∧
  ∀ (l : Addr) (xs : List V) (ls : List Pr) (H' : Hp), H' l = some (.lst xs) → l ≠ p → H l = none → PL H' xs ls → Lk a b ls → ((ls.length : Nat) : Int) = min (min a b) m → HandAt H' p q → Keep H H' p → Q (.ref l) H'
def wordV : Option Str → V
  | none => .non
  | some w => .str w
def spFaultL : Sp := fun vs H Q _ => ∃ (x y l : V) (n m : String) (r : Option (List (Option (V × V)))), vs = [x, y, l] ∧ Kd H x n ∧ Kd H y m ∧ RowsIs H l r ∧ ∀ H', Same H H' → Q (wordV (likeDue x y r)) H'
section
variable {P : Program} {w : World} {K : PySem.W.Frag} {mg : Str → Option Value} {base : Heap}
theorem scLIsW : FnScope ["_law_thing", "_law_due"] ["_law_thing", "_law_due"] (defScope sLIsWhole) := ⟨rfl, rfl, rfl, by decide +kernel, rfl, by decide +kernel, by decide +kernel⟩
theorem ok_lisw {f : Addr} {fd : FuncData} (F : Fun K "_law_is_whole" "_law_is_whole" sLIsWhole f fd) (m : mg "_law_is_whole" = some (.ref f)) (T : Bl mg) (B : Bm mg) : HasF P w K mg base "_law_is_whole" 1 ["_law_thing", "_law_due"] spLIsW := by
  refine ⟨f, fd, ?_, m, F.kp, F.binds fun _ _ _ _ _ _ us hl => match us, hl with | [_, _], _ => rfl⟩
  refine F.ok scLIsW (fun vs H Q E h => ?_) (fun cdv A outer s H vs Q E hr h => ?_)
  · obtain ⟨a, rfl, _⟩ := h
    rfl
  · obtain ⟨a, rfl, ha, k⟩ := h
    refine ⟨_, (pss_cons (ps_if (pt_cmpR op_isN (pv 1) pe_non (nomark _)) (pss_one (ps_ret (pe_cmpR op_isN (pv 0) pe_non (nomark _)))) pss_nil)
    (pss_one (ps_ret (pe_and (pe_callB call_isi (by rfl) B.isinstance (by decide +kernel) (pa_cons (pv 0) (pa_cons (pe_bltn (v := .ty "int") (by rfl) T.int (by decide +kernel) rfl) pa_nil))) (pe_and (pe_not (pe_callB call_isi (by rfl) B.isinstance (by decide +kernel) (pa_cons (pv 0) (pa_cons (pe_bltn (v := .ty "bool") (by rfl) B.bool (by decide +kernel) rfl) pa_nil)))) (pe_one (pe_cmpR op_eq (pv 0) (pv 1) (nomark _)))))))), ?_⟩
    rcases ha with ⟨a, rfl⟩ | rfl
    · have kd : Kd H (.int a) "int" := .int a
      refine ⟨_, rfl, rfl, _, rfl, iteF ?_⟩
      refine ⟨_, rfl, .int a, _, _, _, _, rfl, .ty _, kd.ty, kit_ty (kit_int kd.kits), _, rfl, iteT ?_⟩
      refine ⟨_, rfl, .int a, _, _, _, _, rfl, .ty _, kd.ty, kit_ty (kit_bool kd.kits), _, rfl, _, rfl, iteT ?_⟩
      refine ⟨_, rfl, _, rfl, rfl, ?_⟩
      rw [decide_eq_true rfl]
      exact k
    · refine ⟨_, rfl, rfl, _, rfl, iteT ⟨_, rfl, rfl, ?_⟩⟩
      rw [decide_eq_true rfl]
      exact k
/-- what may still be taken: numbers of [0, a), each once, none of them taken -/
structure Rest (a : Int) (os : List Int) (ks : List Int) (i : Nat) : Prop where
  nd : os.Nodup
  lo : ∀ x ∈ os, 0 ≤ x ∧ x < a
  off : ∀ x ∈ os, ¬ x ∈ ks
  len : (os.length : Int) = a - i
theorem Rest.zero {a : Int} (h : 0 ≤ a) : Rest a ((List.range a.toNat).map fun (i : Nat) => (i : Int)) [] 0 :=
  ⟨map_nodup List.nodup_range fun x _ y _ e => by have e : (x : Int) = y := e; omega, fun x hx => by
    obtain ⟨i, hi, rfl⟩ := List.mem_map.mp hx
    have := List.mem_range.mp hi
    exact ⟨by omega, by omega⟩, (fun x _ h => nomatch h), by rw [List.length_map, List.length_range]; omega⟩
theorem Rest.take {a : Int} {os ks : List Int} {i j : Nat} {x : Int} (h : Rest a os ks i) (e : os[j]? = some x) : Rest a (os.eraseIdx j) (ks ++ [x]) (i + 1) ∧ (0 ≤ x ∧ x < a) ∧ ¬ x ∈ ks := by
  have hx := List.mem_of_getElem? e
  have lt : j < os.length := (List.getElem?_eq_some_iff.mp e).1
  refine ⟨⟨h.nd.sublist (List.eraseIdx_sublist _ _), fun y hy => h.lo y ((List.eraseIdx_sublist _ _).mem hy), fun y hy z => ?_, ?_⟩, h.lo x hx, h.off x hx⟩
  · rcases List.mem_append.mp z with z | z
    · exact h.off y ((List.eraseIdx_sublist _ _).mem hy) z
    · rw [List.mem_singleton.mp z] at hy
      obtain ⟨k, hk, hk2⟩ := (List.mem_eraseIdx_iff_getElem?.mp hy)
      have l1 : k < os.length := (List.getElem?_eq_some_iff.mp hk2).1
      have e1 := (List.getElem?_eq_some_iff.mp hk2).2
      have e2 := (List.getElem?_eq_some_iff.mp e).2
      have := (List.getElem_inj (h₀ := l1) (h₁ := lt) h.nd).mp (by rw [e1, e2])
      exact hk this
  · rw [List.length_eraseIdx, if_pos lt]
    have := h.len
    omega
theorem seq_ix {z : Int} {n : Nat} (h0 : 0 ≤ z) (h1 : z < n) : seqIndex? z n = some z.toNat := by
  unfold seqIndex?
  simp [h0, h1, show ¬ z < 0 by omega]
theorem rgV_ints (a : Int) : rgV 0 a = ((List.range a.toNat).map fun (i : Nat) => (i : Int)).map V.int := by
  unfold rgV
  rw [List.map_map, Int.sub_zero]
  refine List.map_congr_left fun i _ => ?_
  show V.int (0 + (i : Nat)) = V.int (i : Nat)
  rw [Int.zero_add]
theorem min3 (a b m : Int) : nuMin3 (.int a) (.int b) (.int m) = some (.int (min (min a b) m)) := by
  show ((nuMin2 (.int a) (.int b)).bind fun x => nuMin2 x (.int m)) = _
  have e : ∀ x y : Int, nuMin2 (.int x) (.int y) = some (.int (min x y)) := fun x y => by
    show some (if decide (y < x) = true then V.int y else V.int x) = _
    by_cases h : y < x
    · rw [if_pos (decide_eq_true h), Int.min_eq_right (by omega)]
    · rw [if_neg (by simpa using h), Int.min_eq_left (by omega)]
  rw [e]
  exact e _ _
theorem erase_map {α β : Type} (f : α → β) : ∀ (l : List α) (k : Nat), (l.map f).eraseIdx k = (l.eraseIdx k).map f
  | [], _ => rfl
  | _ :: _, 0 => rfl
  | x :: l, k + 1 => congrArg (f x :: ·) (erase_map f l k)
theorem PL.keep'' {H H' : Hp} {xs : List V} {ls : List Pr} (h : PL H xs ls) (n : ∀ {t : Addr} {vs : List V}, H t = some (.tup vs) → H' t = some (.tup vs)) : PL H' xs ls := by
  induction h with
  | nil => exact .nil
  | cons h _ ih => exact .cons (n h) ih
abbrev nLinks : List Str := ["_law_hand_here", "_law_first", "_law_second", "_law_many", "_law_ones", "_law_others", "_law_links_here", "_law_k"]
theorem scLinks : FnScope nLinks ["_law_hand_here", "_law_first", "_law_second", "_law_many"] (defScope sLLinks) := ⟨rfl, rfl, rfl, by decide +kernel, rfl, by decide +kernel, by decide +kernel⟩
structure Mn (mg : Str → Option Value) : Prop where
  min : mg "min" = none
theorem ok_links {f : Addr} {fd : FuncData} (F : Fun K "_law_links" "_law_links" sLLinks f fd) (m : mg "_law_links" = some (.ref f)) (T : Bl mg) (B : Bm mg) (M : Mn mg) (D : HasF P w K mg base "_law_draw" 2 ["_law_hand_here", "_law_many"] spDraw) : HasF P w K mg base "_law_links" 3 ["_law_hand_here", "_law_first", "_law_second", "_law_many"] spLLinks := by
  refine ⟨f, fd, ?_, m, F.kp, F.binds fun _ _ _ _ _ _ us hl => match us, hl with | [_, _, _, _], _ => rfl⟩
  obtain ⟨f1, fd1, D⟩ := D
  refine F.ok scLinks (fun vs H Q E h => ?_) (fun cdv A outer s H vs Q E hr h => ?_)
  · obtain ⟨p, q, a, b, m, rfl, _⟩ := h
    rfl
  · obtain ⟨p, q, a, b, m, rfl, hp, sz, m0, m4, k⟩ := h
    refine ⟨_, (pss_cons (ps_par3 (i := 4) (j := 5) (l := 6) rfl scLinks.nd rfl rfl rfl (by decide) (by decide) (by decide) rfl rfl rfl (pa_cons (pe_listRg rfl (by rfl) B.list (prg_1 (by rfl) T.range (pv 1))) (pa_cons (pe_listRg rfl (by rfl) B.list (prg_1 (by rfl) T.range (pv 2))) (pa_cons (pe_lst pa_nil) pa_nil))) (by rfl))
    (C8.pss_cut (ps_for PassesOwn.never rfl (pi_range1 (by rfl) T.range (pa_cons (pe_callB (call_min3Nu rfl) (by rfl) M.min (by decide +kernel) (pa_cons (pv 1) (pa_cons (pv 2) (pa_cons (pv 3) pa_nil)))) pa_nil)) (pg_name (i := 7) scLinks.nd rfl (.inl rfl))
        (pss_one (ps_expr (pe_bm PySem.F.plainAttrs_list PySem.F.slot_list_append PySem.F.type_list_append mt_append (pv 6) (pa_cons (pe_tup (pa_cons (pe_bm PySem.F.plainAttrs_list PySem.F.slot_list_pop PySem.F.type_list_pop mt_popAt (pv 4) (pa_cons (pe_call D.G hr (by rfl) D.m D.kp D.b .nil pass0 (pa_cons (pv 0) (pa_cons (pe_callB call_len_seq (by rfl) T.len PySem.boot_len (pa_cons (pv 4) pa_nil)) pa_nil))) pa_nil)) (pa_cons (pe_bm PySem.F.plainAttrs_list PySem.F.slot_list_pop PySem.F.type_list_pop mt_popAt (pv 5) (pa_cons (pe_call D.G hr (by rfl) D.m D.kp D.b .nil pass0 (pa_cons (pv 0) (pa_cons (pe_callB call_len_seq (by rfl) T.len PySem.boot_len (pa_cons (pv 5) pa_nil)) pa_nil))) pa_nil)) pa_nil))) pa_nil)))))
    (pss_one (ps_ret (pv 6))))), ?_⟩
    have rg : ∀ {n : Int}, 0 ≤ n → n ≤ 40 → RgOk 0 n := fun h0 h4 => RgOk.of_le (by omega) (by omega) (by omega) (by omega)
    refine ⟨_, rfl, _, rfl, rg sz.a0 sz.a4, fun u hu => ?_⟩
    have hp1 := hp.upd (o := .lst (rgV 0 a)) (hp.ap hu) (hp.aq hu)
    have k1 : Keep H (upd H u (.lst (rgV 0 a))) p := keepUpd Keep.refl hu
    have hu1 : upd H u (.lst (rgV 0 a)) u = some (.lst (rgV 0 a)) := upd_same
    have up := hp.ap hu
    generalize upd H u (.lst (rgV 0 a)) = H1 at hp1 k1 hu1 ⊢
    refine ⟨_, rfl, _, rfl, rg sz.b0 sz.b4, fun v hv => ?_⟩
    have hp2 := hp1.upd (o := .lst (rgV 0 b)) (hp1.ap hv) (hp1.aq hv)
    have k2 : Keep H (upd H1 v (.lst (rgV 0 b))) p := keepUpd k1 (by
      cases e : H v with
      | none => rfl
      | some o => rw [k1 v o e (hp1.ap hv)] at hv; cases hv)
    have vu : v ≠ u := (ne_of_none hu1 hv).symm
    have hu2 : upd H1 v (.lst (rgV 0 b)) u = some (.lst (rgV 0 a)) := by rw [upd_ne vu.symm]; exact hu1
    have hv2 : upd H1 v (.lst (rgV 0 b)) v = some (.lst (rgV 0 b)) := upd_same
    have vp := hp1.ap hv
    have hv0 : H v = none := by
      cases e : H v with
      | none => rfl
      | some o => rw [k1 v o e vp] at hv; cases hv
    generalize upd H1 v (.lst (rgV 0 b)) = H2 at hp2 k2 hu2 hv2 ⊢
    refine ⟨Nat.zero_le _, fun l hl => ?_⟩
    have lp := hp2.ap hl
    have lq := hp2.aq hl
    have lu : l ≠ u := (ne_of_none hu2 hl).symm
    have lv : l ≠ v := (ne_of_none hv2 hl).symm
    have hl0 : H l = none := by
      cases e : H l with
      | none => rfl
      | some o => rw [k2 l o e lp] at hl; cases hl
    have uq : u ≠ q := hp.aq hu
    have vq : v ≠ q := hp1.aq hv
    have hp3 := hp2.upd (o := .lst []) lp lq
    have k3 : Keep H (upd H2 l (.lst [])) p := keepUpd k2 hl0
    have hu3 : upd H2 l (.lst []) u = some (.lst (rgV 0 a)) := by rw [upd_ne lu.symm]; exact hu2
    have hv3 : upd H2 l (.lst []) v = some (.lst (rgV 0 b)) := by rw [upd_ne lv.symm]; exact hv2
    have hl3 : upd H2 l (.lst []) l = some (.lst []) := upd_same
    generalize upd H2 l (.lst []) = H3 at hp3 k3 hu3 hv3 hl3 ⊢
    clear hp1 k1 hu1 hp2 k2 hu2 hv2 hl hv
    refine ⟨_, _, _, rfl, ?_⟩
    refine ⟨fun σ H4 => ∃ (xs : List V) (ls : List Pr), σ[6]? = some (some (.ref l)) ∧ H4 l = some (.lst xs) ∧ PL H4 xs ls ∧ Lk a b ls ∧ ((ls.length : Nat) : Int) = min (min a b) m ∧ HandAt H4 p q ∧ Keep H H4 p, ?_, ?_⟩
    · refine ⟨_, rfl, _, rfl, _, rfl, _, _, _, _, rfl, min3 a b m, _, rfl, by have := sz.a0; have := sz.b0; omega, by have := sz.a4; omega, ?_⟩
      have mn : 0 ≤ min (min a b) m := by have := sz.a0; have := sz.b0; omega
      refine for_range (n := (min (min a b) m).toNat) (fun i σ H4 => ∃ (os ts : List Int) (xs : List V) (ls : List Pr) (v7 : Option V), σ = [some (.ref p), some (.int a), some (.int b), some (.int m), some (.ref u), some (.ref v), some (.ref l), v7] ∧ H4 u = some (.lst (os.map V.int)) ∧ H4 v = some (.lst (ts.map V.int)) ∧ H4 l = some (.lst xs) ∧ PL H4 xs ls ∧ ls.length = i ∧ Rest a os (ls.map (·.1)) i ∧ Rest b ts (ls.map (·.2)) i ∧ Lk a b ls ∧ HandAt H4 p q ∧ Keep H H4 p)
        ⟨_, _, [], [], none, rfl, by rw [hu3, rgV_ints], by rw [hv3, rgV_ints], hl3, .nil, rfl, .zero sz.a0, .zero sz.b0, ⟨(fun x h => nomatch h), List.nodup_nil, List.nodup_nil⟩, hp3, k3⟩ ?_ ?_
      · rintro i σ H4 hi ⟨os, ts, xs, ls, v7, rfl, hu4, hv4, hl4, pl4, ll, r1, r2, lk, hp4, k4⟩
        have l1 := r1.len
        have l2 := r2.len
        have sa := sz.a4
        have sb := sz.b4
        refine ⟨_, rfl, .inl ⟨rfl, _, SqL.of hl4⟩, ?_⟩
        refine ⟨_, rfl, .inl ⟨rfl, _, SqL.of hu4⟩, _, rfl, _, rfl, u, _, rfl, .inl (SqL.of hu4), p, q, _, rfl, hp4, by rw [List.length_map]; omega, by rw [List.length_map]; omega, fun z H5 z0 z1 hp5 k5 => ?_⟩
        rw [List.length_map] at z1
        have lz : z.toNat < os.length := by omega
        have ex : os[z.toNat]? = some os[z.toNat] := List.getElem?_eq_getElem lz
        obtain ⟨r1', b1, o1⟩ := r1.take ex
        generalize os[z.toNat] = x1 at ex r1' b1 o1
        refine ⟨u, _, z, z.toNat, .int x1, rfl, rfl, k5 _ _ hu4 up, by omega, by omega, by rw [List.length_map]; exact seq_ix z0 z1, by rw [List.getElem?_map, ex]; rfl, ?_⟩
        have tp : ∀ {Hx Hy : Hp}, HandAt Hx p q → Keep Hx Hy p → ∀ {t : Addr} {vs : List V}, Hx t = some (.tup vs) → Hy t = some (.tup vs) := @fun Hx Hy hx kx t vs h => kx _ _ h fun e => by
          obtain ⟨cs, c1, c2, c3, hh, _⟩ := hx
          rw [e, hh] at h
          cases h
        have hu5 := k5 _ _ hu4 up
        have hv5 := k5 _ _ hv4 vp
        have hl5 := k5 _ _ hl4 lp
        have pl5 : PL H5 xs ls := pl4.keep'' (tp hp4 k5)
        have k45 := k4.trans k5
        rw [erase_map]
        -- the heap behind the first pop
        have hu6 : upd H5 u (.lst ((os.eraseIdx z.toNat).map V.int)) u = some (.lst ((os.eraseIdx z.toNat).map V.int)) := upd_same
        have hv6 : upd H5 u (.lst ((os.eraseIdx z.toNat).map V.int)) v = some (.lst (ts.map V.int)) := by rw [upd_ne vu]; exact hv5
        have hl6 : upd H5 u (.lst ((os.eraseIdx z.toNat).map V.int)) l = some (.lst xs) := by rw [upd_ne lu]; exact hl5
        have hp6 := hp5.upd (o := .lst ((os.eraseIdx z.toNat).map V.int)) up uq
        have pl6 : PL (upd H5 u (.lst ((os.eraseIdx z.toNat).map V.int))) xs ls := pl5.keep' fun {t vs} h e => by rw [e, hu5] at h; cases h
        have k6 : Keep H (upd H5 u (.lst ((os.eraseIdx z.toNat).map V.int))) p := fun c o h n => by
          rw [upd_ne (fun e : c = u => by rw [e, hu] at h; cases h)]
          exact k45 c o h n
        generalize upd H5 u (.lst ((os.eraseIdx z.toNat).map V.int)) = H6 at hu6 hv6 hl6 hp6 pl6 k6 ⊢
        clear hu5 hv5 hl5 pl5 hu4 hv4 hl4 pl4 k45
        refine ⟨_, rfl, .inl ⟨rfl, _, SqL.of hv6⟩, _, rfl, _, rfl, v, _, rfl, .inl (SqL.of hv6), p, q, _, rfl, hp6, by rw [List.length_map]; omega, by rw [List.length_map]; omega, fun y H7 y0 y1 hp7 k7 => ?_⟩
        rw [List.length_map] at y1
        have ly : y.toNat < ts.length := by omega
        have ey : ts[y.toNat]? = some ts[y.toNat] := List.getElem?_eq_getElem ly
        obtain ⟨r2', b2, o2⟩ := r2.take ey
        generalize ts[y.toNat] = x2 at ey r2' b2 o2
        have hu7 := k7 _ _ hu6 up
        have hv7 := k7 _ _ hv6 vp
        have hl7 := k7 _ _ hl6 lp
        have pl7 : PL H7 xs ls := pl6.keep'' (tp hp6 k7)
        have k67 := k6.trans k7
        refine ⟨v, _, y, y.toNat, .int x2, rfl, rfl, hv7, by omega, by omega, by rw [List.length_map]; exact seq_ix y0 y1, by rw [List.getElem?_map, ey]; rfl, ?_⟩
        rw [erase_map]
        have hv8 : upd H7 v (.lst ((ts.eraseIdx y.toNat).map V.int)) v = some (.lst ((ts.eraseIdx y.toNat).map V.int)) := upd_same
        have hu8 : upd H7 v (.lst ((ts.eraseIdx y.toNat).map V.int)) u = some (.lst ((os.eraseIdx z.toNat).map V.int)) := by rw [upd_ne vu.symm]; exact hu7
        have hl8 : upd H7 v (.lst ((ts.eraseIdx y.toNat).map V.int)) l = some (.lst xs) := by rw [upd_ne lv]; exact hl7
        have hp8 := hp7.upd (o := .lst ((ts.eraseIdx y.toNat).map V.int)) vp vq
        have pl8 : PL (upd H7 v (.lst ((ts.eraseIdx y.toNat).map V.int))) xs ls := pl7.keep' fun {t vs} h e => by rw [e, hv7] at h; cases h
        have k8 : Keep H (upd H7 v (.lst ((ts.eraseIdx y.toNat).map V.int))) p := fun c o h n => by
          rw [upd_ne (fun e : c = v => by rw [e, hv0] at h; cases h)]
          exact k67 c o h n
        generalize upd H7 v (.lst ((ts.eraseIdx y.toNat).map V.int)) = H8 at hu8 hv8 hl8 hp8 pl8 k8 ⊢
        clear hu7 hv7 hl7 pl7 hu6 hv6 hl6 pl6 k67
        refine ⟨(by show 2 ≤ sizeLine; decide), fun t ht => ?_⟩
        have tu : t ≠ u := (ne_of_none hu8 ht).symm
        have tv : t ≠ v := (ne_of_none hv8 ht).symm
        have tl : t ≠ l := (ne_of_none hl8 ht).symm
        have hl9 : upd H8 t (.tup [.int x1, .int x2]) l = some (.lst xs) := by rw [upd_ne tl.symm]; exact hl8
        have xl := pl8.len
        have t0 : H t = none := by
          cases e : H t with
          | none => rfl
          | some o => rw [k8 t o e (hp8.ap ht)] at ht; cases ht
        refine ⟨l, xs, _, rfl, rfl, hl9, small1000 (by omega), os.eraseIdx z.toNat, ts.eraseIdx y.toNat, xs ++ [.ref t], ls ++ [(x1, x2)], _, rfl, ?_, ?_, upd_same, ?_, by rw [List.length_append]; simp [ll], ?_, ?_, ?_, ?_, ?_⟩
        · rw [upd_ne lu.symm, upd_ne tu.symm]; exact hu8
        · rw [upd_ne lv.symm, upd_ne tv.symm]; exact hv8
        · refine PL.keep' (PL.app (pl8.keep (sameUpd (Same.refl _) ht)) (PL.one (q := (x1, x2)) upd_same)) fun {t' vs} h e => ?_
          rw [e, hl9] at h
          cases h
        · rw [List.map_append]; exact r1'
        · rw [List.map_append]; exact r2'
        · refine ⟨fun r hr => ?_, ?_, ?_⟩
          · rcases List.mem_append.mp hr with hr | hr
            · exact lk.lo r hr
            · rw [List.mem_singleton.mp hr]
              exact ⟨b1, b2⟩
          · rw [List.map_append]
            exact List.nodup_append.mpr ⟨lk.n1, by simp, fun x hx y hy e => by
              have : y = x1 := List.mem_singleton.mp hy
              exact o1 (by rw [← this, ← e]; exact hx)⟩
          · rw [List.map_append]
            exact List.nodup_append.mpr ⟨lk.n2, by simp, fun x hx y hy e => by
              have : y = x2 := List.mem_singleton.mp hy
              exact o2 (by rw [← this, ← e]; exact hx)⟩
        · exact (hp8.upd (hp8.ap ht) (hp8.aq ht)).upd lp lq
        · intro c o h n
          rw [upd_ne (fun e : c = l => by rw [e, hl0] at h; cases h), upd_ne (fun e : c = t => by rw [e, t0] at h; cases h)]
          exact k8 c o h n
      · rintro σ H4 ⟨os, ts, xs, ls, v7, rfl, hu4, hv4, hl4, pl4, ll, r1, r2, lk, hp4, k4⟩
        exact ⟨xs, ls, rfl, hl4, pl4, lk, by omega, hp4, k4⟩
    rintro σ H4 ⟨xs, ls, e, hl4, pl4, lk, ll, hp4, k4⟩
    exact ⟨_, e, k l xs ls H4 hl4 lp hl0 pl4 lk ll hp4 k4⟩
theorem scLWh : FnScope ["_law_thing", "_law_low", "_law_high"] ["_law_thing", "_law_low", "_law_high"] (defScope sLWhole) := ⟨rfl, rfl, rfl, by decide +kernel, rfl, by decide +kernel, by decide +kernel⟩
theorem ok_lwh {f : Addr} {fd : FuncData} (F : Fun K "_law_whole" "_law_whole" sLWhole f fd) (m : mg "_law_whole" = some (.ref f)) (T : Bl mg) (B : Bm mg) : HasF P w K mg base "_law_whole" 1 ["_law_thing", "_law_low", "_law_high"] spWhole := by
  refine ⟨f, fd, ?_, m, F.kp, F.binds fun _ _ _ _ _ _ us hl => match us, hl with | [_, _, _], _ => rfl⟩
  refine F.ok scLWh (fun vs H Q E h => ?_) (fun cdv A outer s H vs Q E hr h => ?_)
  · obtain ⟨a, b, c, d, rfl, _⟩ := h
    rfl
  · obtain ⟨x, n, lo, hi, rfl, hk, k⟩ := h
    refine ⟨_, pss_one (ps_ret (pe_and (pe_callB call_isi (by rfl) B.isinstance (by decide +kernel) (pa_cons (pv 0) (pa_cons (pe_bltn (v := .ty "int") (by rfl) T.int (by decide +kernel) rfl) pa_nil))) (pe_and (pe_not (pe_callB call_isi (by rfl) B.isinstance (by decide +kernel) (pa_cons (pv 0) (pa_cons (pe_bltn (v := .ty "bool") (by rfl) B.bool (by decide +kernel) rfl) pa_nil)))) (pe_one (pe_chain op_le op_le (pv 1) (pv 0) (pv 2)))))), ?_⟩
    refine ⟨_, rfl, x, _, _, _, _, rfl, .ty _, hk.ty, kit_ty (kit_int hk.kits), _, rfl, ?_⟩
    cases hk with
    | int i =>
      refine iteT ⟨_, rfl, .int i, _, _, _, _, rfl, .ty _, (Kd.int (H := H) i).ty, kit_ty (kit_bool (Kd.int (H := H) i).kits), _, rfl, _, rfl, ?_⟩
      refine iteT ⟨_, rfl, _, rfl, _, _, rfl, rfl, _, rfl, ?_⟩
      refine ite2 (fun h1 => ?_) (fun h1 => ?_)
      · have h1 : lo ≤ i := of_decide_eq_true h1
        refine ⟨_, rfl, _, _, rfl, rfl, ?_⟩
        have e : wholeV (.int i) lo hi = decide (i ≤ hi) := by simp [wholeV, h1]
        rw [e] at k
        exact k
      · have h1 : ¬ lo ≤ i := fun z => h1 (decide_eq_true z)
        have e : wholeV (.int i) lo hi = false := by simp [wholeV, h1]
        rw [e] at k
        exact k
    | bl b =>
      refine iteT ⟨_, rfl, .bl b, _, _, _, _, rfl, .ty _, (Kd.bl (H := H) b).ty, kit_ty (kit_bool (Kd.bl (H := H) b).kits), _, rfl, _, rfl, ?_⟩
      exact iteF k
    | non => exact iteF k
    | str z => exact iteF k
    | lst a xs h => exact iteF k
    | tup a xs h => exact iteF k
    | dct a xs h => exact iteF k
/-! labels -/
end
end Kx

set_option maxHeartbeats 4000000
namespace Kx
open PySem L2
theorem RowIs.two {H : Hp} {y : V} {r : Option (V × V)} (h : RowIs H y r) : (∃ n, Kd H y n ∧ seqV n = false ∧ r = none) ∨ ∃ (t : Addr) (xs : List V), y = .ref t ∧ (H t = some (.lst xs) ∨ H t = some (.tup xs)) ∧ (∃ n, Kd H y n ∧ seqV n = true) ∧
    ((xs.length ≠ 2 ∧ r = none) ∨ ∃ (c d : V) (tt uu : String), xs = [c, d] ∧ Thing H c tt ∧ Thing H d uu ∧ r = some (c, d)) := by
  cases h with
  | lst h hn ha => exact .inr ⟨_, _, rfl, .inl h, ⟨_, .lst _ _ h, rfl⟩, .inr ⟨_, _, _, _, rfl, hn, ha, rfl⟩⟩
  | tup h hn ha => exact .inr ⟨_, _, rfl, .inr h, ⟨_, .tup _ _ h, rfl⟩, .inr ⟨_, _, _, _, rfl, hn, ha, rfl⟩⟩
  | lstN h l => exact .inr ⟨_, _, rfl, .inl h, ⟨_, .lst _ _ h, rfl⟩, .inl ⟨l, rfl⟩⟩
  | tupN h l => exact .inr ⟨_, _, rfl, .inr h, ⟨_, .tup _ _ h, rfl⟩, .inl ⟨l, rfl⟩⟩
  | oth h l => exact .inl ⟨_, h, l, rfl⟩
theorem ix_of {K : PySem.W.Frag} {H : Hp} {t : Addr} {xs : List V} (h : H t = some (.lst xs) ∨ H t = some (.tup xs)) {j : Int} {v : V} {Q : V → Hp → Prop} (e : atI xs j = some v) (q : Q v H) : rIx K (.ref t) (.int j) H Q := by
  rcases h with h | h
  · exact .inl ⟨_, _, _, _, rfl, rfl, SqL.of h, e, q⟩
  · exact .inr (.inl ⟨_, _, _, _, rfl, rfl, SqT.of h, e, q⟩)
theorem sq_of {K : PySem.W.Frag} {H : Hp} {t : Addr} {xs : List V} (h : H t = some (.lst xs) ∨ H t = some (.tup xs)) : SqL K H t xs ∨ SqT K H t xs := h.imp SqL.of SqT.of
section
variable {P : Program} {w : World} {K : PySem.W.Frag} {mg : Str → Option Value} {base : Heap}
abbrev nFl : List Str := ["_law_first", "_law_second", "_law_links_here", "_law_ones", "_law_others", "_law_link"]
theorem scFl : FnScope nFl ["_law_first", "_law_second", "_law_links_here"] (defScope sLFault) := ⟨rfl, rfl, rfl, by decide +kernel, rfl, by decide +kernel, by decide +kernel⟩
theorem ok_lfault {f : Addr} {fd : FuncData} (F : Fun K "_law_fault" "_law_fault" sLFault f fd) (m : mg "_law_fault" = some (.ref f)) (T : Bl mg) (B : Bm mg) (W : HasF P w K mg base "_law_whole" 1 ["_law_thing", "_law_low", "_law_high"] spWhole) : HasF P w K mg base "_law_fault" 2 ["_law_first", "_law_second", "_law_links_here"] spFaultL := by
  refine ⟨f, fd, ?_, m, F.kp, F.binds fun _ _ _ _ _ _ us hl => match us, hl with | [_, _, _], _ => rfl⟩
  obtain ⟨f1, fd1, W⟩ := W
  refine F.ok scFl (fun vs H Q E h => ?_) (fun cdv A outer s H vs Q E hr h => ?_)
  · obtain ⟨x, y, l, n, m, r, rfl, _⟩ := h
    rfl
  · obtain ⟨x, y, l, n, m, r, rfl, kx, ky, hl, k⟩ := h
    refine ⟨_, (pss_cons (ps_if (pt_not (pt_val (pe_call W.G hr (by rfl) W.m W.kp W.b .nil pass0 (pa_cons (pv 0) (pa_cons pe_int (pa_cons pe_int pa_nil)))))) (pss_one (ps_ret pe_str)) pss_nil)
    (pss_cons (ps_if (pt_not (pt_val (pe_call W.G hr (by rfl) W.m W.kp W.b .nil pass0 (pa_cons (pv 1) (pa_cons pe_int (pa_cons pe_int pa_nil)))))) (pss_one (ps_ret pe_str)) pss_nil)
    (pss_cons (ps_if (pt_not (pt_val (pe_callB call_isiT (by rfl) B.isinstance (by decide +kernel) (pa_cons (pv 2) (pa_cons (pe_tup (pa_cons (pe_bltn (v := .ty "list") (by rfl) B.list (by decide +kernel) rfl) (pa_cons (pe_bltn (v := .ty "tuple") (by rfl) B.tuple (by decide +kernel) rfl) pa_nil))) pa_nil))))) (pss_one (ps_ret pe_str)) pss_nil)
    (pss_cons (ps_par (i := 3) (j := 4) rfl scFl.nd rfl rfl (by decide) rfl rfl (pa_cons (pe_lst pa_nil) (pa_cons (pe_lst pa_nil) pa_nil)) (by rfl))
    (C8.pss_cut (ps_for PassesOwn.never rfl (pi_seq (pv 2)) (pg_name (i := 5) scFl.nd rfl (Or.inl rfl))
        (pss_cons (ps_if (PW.pt (pw_or (pt_not (pt_val (pe_callB call_isiT (by rfl) B.isinstance (by decide +kernel) (pa_cons (pv 5) (pa_cons (pe_tup (pa_cons (pe_bltn (v := .ty "list") (by rfl) B.list (by decide +kernel) rfl) (pa_cons (pe_bltn (v := .ty "tuple") (by rfl) B.tuple (by decide +kernel) rfl) pa_nil))) pa_nil))))) (pw_or1 (pt_cmpR op_ne (pe_callB call_len_seq (by rfl) T.len PySem.boot_len (pa_cons (pv 5) pa_nil)) pe_int (nomark _))))) (pss_one (ps_ret pe_str)) pss_nil)
    (pss_cons (ps_if (PW.pt (pw_or (pt_not (pt_val (pe_call W.G hr (by rfl) W.m W.kp W.b .nil pass0 (pa_cons (pe_ix ix_seq (pv 5) pe_int (fun _ _ => rfl)) (pa_cons pe_int (pa_cons (pe_op op_sub (pv 0) pe_int) pa_nil)))))) (pw_or1 (pt_not (pt_val (pe_call W.G hr (by rfl) W.m W.kp W.b .nil pass0 (pa_cons (pe_ix ix_seq (pv 5) pe_int (fun _ _ => rfl)) (pa_cons pe_int (pa_cons (pe_op op_sub (pv 1) pe_int) pa_nil))))))))) (pss_one (ps_ret pe_str)) pss_nil)
    (pss_cons (ps_if (PW.pt (pw_or (pt_cmpR op_in_seq (pe_ix ix_seq (pv 5) pe_int (fun _ _ => rfl)) (pv 3) (by rfl)) (pw_or1 (pt_cmpR op_in_seq (pe_ix ix_seq (pv 5) pe_int (fun _ _ => rfl)) (pv 4) (by rfl))))) (pss_one (ps_ret pe_str)) pss_nil)
    (pss_cons (ps_expr (pe_bm PySem.F.plainAttrs_list PySem.F.slot_list_append PySem.F.type_list_append mt_append (pv 3) (pa_cons (pe_ix ix_seq (pv 5) pe_int (fun _ _ => rfl)) pa_nil)))
    (pss_one (ps_expr (pe_bm PySem.F.plainAttrs_list PySem.F.slot_list_append PySem.F.type_list_append mt_append (pv 4) (pa_cons (pe_ix ix_seq (pv 5) pe_int (fun _ _ => rfl)) pa_nil)))))))))
    (pss_one (ps_ret pe_non))))))), ?_⟩
    refine ⟨_, rfl, x, _, 0, 40, rfl, kx, _, rfl, ?_⟩
    cases w1 : wholeV x 0 40 with
    | false =>
      rw [show likeDue x y r = some (Str.ofString "first") by unfold likeDue; rw [w1]; rfl] at k
      exact iteT (k H (Same.refl _))
    | true =>
    refine iteF ⟨_, rfl, y, _, 0, 40, rfl, ky, _, rfl, ?_⟩
    cases w2 : wholeV y 0 40 with
    | false =>
      rw [show likeDue x y r = some (Str.ofString "second") by unfold likeDue; rw [w1, w2]; rfl] at k
      exact iteT (k H (Same.refl _))
    | true =>
    obtain ⟨a, rfl, a0, a4⟩ := whole_int w1
    obtain ⟨b, rfl, b0, b4⟩ := whole_int w2
    obtain ⟨nl, kd, kn⟩ := hl.kd
    refine iteF ⟨_, rfl, by decide, fun t0 ht0 => ?_⟩
    have s1 : Same H (upd H t0 (.tup [.ty "list", .ty "tuple"])) := sameUpd (Same.refl _) ht0
    refine ⟨l, t0, _, _, _, _, rfl, upd_same, .cons (.ty _) (.cons (.ty _) .nil), (kd.keep s1).ty, kit_seq kd.kits, _, rfl, ?_⟩
    have hl1 := hl.keep s1
    cases e1 : seqV nl with
    | false =>
      have er := kn e1
      subst er
      have k := k _ s1
      rw [show likeDue (.int a) (.int b) none = some (Str.ofString "links") by unfold likeDue; rw [w1, w2]; rfl] at k
      exact iteT k
    | true =>
    obtain ⟨rs, xs, lb, rfl, rfl, hlb, al, x100⟩ : ∃ (rs : List (Option (V × V))) (xs : List V) (lb : Addr), r = some rs ∧ l = .ref lb ∧ (upd H t0 (.tup [.ty "list", .ty "tuple"]) lb = some (.lst xs) ∨ upd H t0 (.tup [.ty "list", .ty "tuple"]) lb = some (.tup xs)) ∧ AllR (upd H t0 (.tup [.ty "list", .ty "tuple"])) xs rs ∧ xs.length ≤ 100 := by
      cases hl1 with
      | lst h a l => exact ⟨_, _, _, rfl, rfl, .inl h, a, l⟩
      | tup h a l => exact ⟨_, _, _, rfl, rfl, .inr h, a, l⟩
      | oth h l => rw [← (kd.keep s1).uniq h, e1] at l; cases l
    have due : likeDue (.int a) (.int b) (some rs) = scanL a b [] rs := by unfold likeDue; rw [w1, w2]; rfl
    rw [due] at k
    generalize upd H t0 (.tup [.ty "list", .ty "tuple"]) = H1 at s1 hl1 hlb al ⊢
    refine iteF ⟨Nat.zero_le _, fun u hu => ?_⟩
    have s2 : Same H1 (upd H1 u (.lst [])) := sameUpd (Same.refl _) hu
    refine ⟨Nat.zero_le _, fun v hv => ?_⟩
    have vu : v ≠ u := fun e => by rw [e, upd_same] at hv; cases hv
    have hv1 : H1 v = none := by rw [upd_ne vu] at hv; exact hv
    refine ⟨_, _, rfl, ?_⟩
    refine ⟨fun σ H2 => Same H1 H2 ∧ scanL a b [] rs = none, ?_, ?_⟩
    · refine ⟨_, rfl, lb, rfl, ?_⟩
      refine seq_for (K := K) (xs := xs) (fun i σ H2 => ∃ v5 : Option V, σ = [some (.int a), some (.int b), some (.ref lb), some (.ref u), some (.ref v), v5] ∧ Same H1 H2 ∧ H2 u = some (.lst ((((rs.take i).map prI).map (·.1)).map V.int)) ∧ H2 v = some (.lst ((((rs.take i).map prI).map (·.2)).map V.int)) ∧ scanL a b [] rs = scanL a b ((rs.take i).map prI) (rs.drop i))
        ⟨none, rfl, s2.trans (sameUpd (Same.refl _) hv), by rw [upd_ne vu.symm, upd_same]; rfl, upd_same, rfl⟩ (hlb.imp (fun h i σ H2 ⟨_, _, s, _⟩ => SqL.of (s _ _ h)) (fun h i σ H2 ⟨_, _, s, _⟩ => SqT.of (s _ _ h))) ?_ ?_
      · rintro i y σ H2 hi ⟨v5, rfl, s3, hu2, hv2, sc⟩
        have ltx : i < xs.length := (List.getElem?_eq_some_iff.mp hi).1
        have ltr : i < rs.length := by have := al.1; omega
        have hr' : rs[i]? = some rs[i] := List.getElem?_eq_getElem ltr
        have row1 := al.2 i y _ hi hr'
        have row := row1.keep s3
        generalize rs[i] = r at hr' row row1
        rw [scanL_step hr'] at sc
        have etk : (rs.take (i + 1)).map prI = (rs.take i).map prI ++ [prI r] := by rw [take_succ_of hr', List.map_append]; rfl
        generalize hsn : (rs.take i).map prI = seen at hu2 hv2 sc etk
        have sl : seen.length ≤ 100 := by rw [← hsn, List.length_map, List.length_take]; have := al.1; omega
        have bad : ∀ {wd : Str} {Hx : Hp}, lkWord a b (seen.map (·.1)) (seen.map (·.2)) r = some wd → Same H2 Hx → Q (.str wd) Hx := fun {wd Hx} e s => by
          rw [e] at sc
          rw [sc] at k
          exact k _ ((s1.trans s3).trans s)
        refine ⟨_, rfl, by decide, fun t ht => ?_⟩
        have s4 : Same H2 (upd H2 t (.tup [.ty "list", .ty "tuple"])) := sameUpd (Same.refl _) ht
        obtain ⟨n', kd', _⟩ := row.kd
        refine ⟨y, t, _, _, _, _, rfl, upd_same, .cons (.ty _) (.cons (.ty _) .nil), (kd'.keep s4).ty, kit_seq kd'.kits, _, rfl, ?_⟩
        rcases (row.keep s4).two with ⟨n2, k2, f2, rfl⟩ | ⟨yt, zs, rfl, hy, ⟨n2, k2, f2⟩, cs⟩
        · rw [(kd'.keep s4).uniq k2, f2]
          exact iteT (bad rfl s4)
        rw [(kd'.keep s4).uniq k2, f2]
        refine iteF ⟨_, rfl, yt, _, rfl, sq_of hy, rfl, _, rfl, ?_⟩
        rcases cs with ⟨l2, rfl⟩ | ⟨c, d, tt, uu, rfl, hc, hd', rfl⟩
        · rw [decide_eq_false (show ¬ V.int (zs.length : Nat) = V.int 2 from fun e => l2 (by have := V.int.inj e; omega))]
          exact iteT (bad rfl s4)
        refine iteF ?_
        generalize hH4 : upd H2 t (.tup [.ty "list", .ty "tuple"]) = H4 at s4 hy hc hd' ⊢
        have hu4 := s4 _ _ hu2
        have hv4 := s4 _ _ hv2
        refine ⟨_, rfl, ix_of hy rfl ⟨_, rfl, _, _, rfl, rfl, c, _, 0, a - 1, rfl, hc.kd, _, rfl, ?_⟩⟩
        cases wc : wholeV c 0 (a - 1) with
        | false => exact iteT (bad (lkOk_false (show (wholeV c 0 (a - 1) && _) = false by rw [wc]; rfl)) s4)
        | true =>
        refine iteF ⟨_, rfl, ix_of hy rfl ⟨_, rfl, _, _, rfl, rfl, d, _, 0, b - 1, rfl, hd'.kd, _, rfl, ?_⟩⟩
        cases wd : wholeV d 0 (b - 1) with
        | false => exact iteT (bad (lkOk_false (show (wholeV c 0 (a - 1) && wholeV d 0 (b - 1)) = false by rw [wc, wd]; rfl)) s4)
        | true =>
        refine iteF ?_
        obtain ⟨p1, p2, ep, hw⟩ := lkOk_true (show lkOk a b (some (c, d)) = true by show (wholeV c 0 (a - 1) && wholeV d 0 (b - 1)) = true; rw [wc, wd]; rfl)
        cases ep
        have ei1 : (if false then !inV (V.int p1) ((seen.map (·.1)).map V.int) else inV (V.int p1) ((seen.map (·.1)).map V.int)) = decide (p1 ∈ seen.map (·.1)) := inV_ints _ _
        have ei2 : (if false then !inV (V.int p2) ((seen.map (·.2)).map V.int) else inV (V.int p2) ((seen.map (·.2)).map V.int)) = decide (p2 ∈ seen.map (·.2)) := inV_ints _ _
        refine ⟨_, rfl, ix_of hy rfl ⟨_, rfl, u, _, rfl, .inl (SqL.of hu4), rfl, by rw [List.all_map]; exact List.all_eq_true.mpr fun _ _ => rfl, _, rfl, ?_⟩⟩
        rw [ei1]
        by_cases m1 : p1 ∈ seen.map (·.1)
        · rw [decide_eq_true m1]
          exact iteT (bad (by rw [hw, if_pos (.inl m1)]) s4)
        rw [decide_eq_false m1]
        refine iteF ⟨_, rfl, ix_of hy rfl ⟨_, rfl, v, _, rfl, .inl (SqL.of hv4), rfl, by rw [List.all_map]; exact List.all_eq_true.mpr fun _ _ => rfl, _, rfl, ?_⟩⟩
        rw [ei2]
        by_cases m2 : p2 ∈ seen.map (·.2)
        · rw [decide_eq_true m2]
          exact iteT (bad (by rw [hw, if_pos (.inr m2)]) s4)
        rw [decide_eq_false m2]
        refine iteF ?_
        rw [hw, if_neg (fun z => z.elim m1 m2)] at sc
        have nyu : yt ≠ u := by
          cases row1 with
          | lst h _ _ => exact ne_of_none h hu
          | tup h _ _ => exact ne_of_none h hu
        have nyv : yt ≠ v := by
          cases row1 with
          | lst h _ _ => exact ne_of_none h hv1
          | tup h _ _ => exact ne_of_none h hv1
        have l1 : ((seen.map (·.1)).map V.int).length < sizeLine := small1000 (by rw [List.length_map, List.length_map]; omega)
        have l2 : ((seen.map (·.2)).map V.int).length < sizeLine := small1000 (by rw [List.length_map, List.length_map]; omega)
        refine ⟨_, rfl, .inl ⟨rfl, _, SqL.of hu4⟩, _, rfl, ix_of hy rfl ⟨u, _, _, rfl, rfl, hu4, l1, ?_⟩⟩
        have hv5 : upd H4 u (.lst ((seen.map (·.1)).map V.int ++ [.int p1])) v = some (.lst ((seen.map (·.2)).map V.int)) := by rw [upd_ne vu]; exact hv4
        have hy5 : upd H4 u (.lst ((seen.map (·.1)).map V.int ++ [.int p1])) yt = some (.lst [.int p1, .int p2]) ∨ upd H4 u (.lst ((seen.map (·.1)).map V.int ++ [.int p1])) yt = some (.tup [.int p1, .int p2]) := by rw [upd_ne nyu]; exact hy
        refine ⟨_, rfl, .inl ⟨rfl, _, SqL.of hv5⟩, _, rfl, ix_of hy5 rfl ⟨v, _, _, rfl, rfl, hv5, l2, _, rfl, fun c o e => ?_, ?_, ?_, ?_⟩⟩
        · rw [upd_ne (ne_of_none e hv1), upd_ne (ne_of_none e hu)]
          exact s4 _ _ (s3 _ _ e)
        · rw [upd_ne vu.symm, upd_same, etk, List.map_append, List.map_append]
          rfl
        · rw [upd_same, etk, List.map_append, List.map_append]
          rfl
        · rw [etk]
          exact sc
      · rintro σ H2 ⟨v5, rfl, s3, hu2, hv2, sc⟩
        rw [al.1, List.drop_length] at sc
        exact ⟨s3, sc⟩
    rintro σ H2 ⟨s3, sc⟩
    rw [sc] at k
    exact k _ (s1.trans s3)
end
end Kx

set_option maxHeartbeats 4000000
namespace Kx
open PySem PySem.Spec PySem.Calls PyProof.Rows PySem.W
section
variable {prog : Program} {w : World} {A : Around} {E : Value → Shared → Prop} {s : Shared} {K : Frag} {x D : Addr} {ox : Obj}
theorem findObj_dataO {C : Addr} {od : Option Obj} {name : Str} {a g : Value} (hc : (clsIn K C).isSome = true) (ha : findIn K (.ref C) name = some (some a)) (hg : specialIn K a "__get__" = some (some g)) (ht : takesIn K a = some true) : findObj K C od name = some (.bind g a) := by
  obtain ⟨cd, hc⟩ := Option.isSome_iff_exists.mp hc
  unfold findObj
  rw [hc, Option.bind_some, ha, Option.bind_some]
  simp [hg, ht]
theorem kin_classO {od : Option Obj} {Q : Option Value → Shared → Prop} (hga : findIn K (.ref D) "__getattribute__" = some (some (.builtin "BaseException.__getattribute__"))) (hgt : findIn K (.ref D) "__getattr__" = some none) (hsub : subIn K (.ref D) (.type "BaseException") = some true)
    (hdct : hasDictIn K D = true) (ha : findIn K (.ref D) "__class__" = some (some (.builtin "object.__class__")))
    (hn : specialIn K (.builtin "object.__class__") "__get__" = some (some (.builtin "getset_descriptor.__get__"))) (htk : takesIn K (.builtin "object.__class__") = some true) (hm : mroIn K D (.type "object") = some true)
    (X : K.In s.heap) (I : InstAt s.heap x ox D od) (h : Q (some (.ref D)) { s with toks := s.toks + 1 }) : wpAny (model prog w) A (getAttr? (.ref x) "__class__") Q E s := by
  have hf : findObj K D od "__class__" = some (.bind (.builtin "getset_descriptor.__get__") (.builtin "object.__class__")) := findObj_dataO (by obtain ⟨cd, hc, _⟩ := any_some hdct; rw [hc]; rfl) ha hn htk
  obtain ⟨hp, g, d, t, os⟩ := s
  have L0 := I.type (M := model prog w)
  have L1 := looks_findIn (M := model prog w) X hga
  have L2 := looks_findIn (M := model prog w) X hgt
  have L3 := looks_find (M := model prog w) X I hf
  have sub : Looks (model prog w) hp (isInstance (.ref x) (.type "BaseException")) true := L0.andThen (looks_subIn X hsub)
  have hx0 : (false && onTheHeap (Value.builtin "BaseException.__getattribute__")) = false := rfl
  have hx2 : (Value.builtin "BaseException.__getattribute__" == Value.builtin "object.__getattribute__") = false := by decide +kernel
  have hx1 : (onTheHeap (Value.ref D) && Value.builtin "BaseException.__getattribute__" == Value.builtin "object.__getattribute__") = false := by rw [hx2]; rfl
  unfold getAttr? getAttrBy? getAttrBy
  refine wpAny_bind (wpAny_mkText (wpAny_bind (wpAny_attempt (wpAny_holding (wpAny_bind (L0.at (wpAny_bind (L1.at ?_))))))))
  show wpAny _ _ (if (onTheHeap (Value.ref D) && Value.builtin "BaseException.__getattribute__" == Value.builtin "object.__getattribute__") = true then _ else _) _ _ _
  rw [hx1, if_neg Bool.false_ne_true]
  unfold getAttrByItsOwn hookBefore
  refine wpAny_bind ?_
  rw [if_pos (show onTheHeap (Value.ref D) = true from rfl)]
  refine L2.at ?_
  refine wpAny_bind (wpAny_attempt (wpAny_holding ?_))
  unfold callGetattribute
  rw [hx0, if_neg Bool.false_ne_true]
  unfold boundAndCalled
  rw [PySem.F.excAttr_ValueError.ga.bind (.ref x)]
  refine wpAny_bind (wpAny_pure ?_)
  show wpAny _ _ (call (.builtin "BaseException.__getattribute__") [.ref x, .str "__class__" t]) _ _ _
  refine wpAny_call (codeAny_call_builtin PySem.F.excAttr_ValueError.ga.plain PySem.F.entry_bexc_ga ?_)
  refine @check_slot (model prog w) _ _ ⟨hp, g, d, t + 1, os⟩ "BaseException.__getattribute__" "BaseException" "__getattribute__" (.ref x) [.str "__class__" t] [] _ (by decide +kernel) (by decide +kernel) sub (PySem.F.args_bexc_ga (.ref x) (.str "__class__" t)) ?_
  unfold Builtin.«object.__getattribute__»
  refine wpAny_bind (wpAny_of_eq (a := ((Value.ref x : Value), [Value.str "__class__" t])) (by first | rfl | (simp only [slotArgs]; rfl)) ?_)
  refine wpAny_bind (wpAny_pure (wpAny_bind (L0.at (wpAny_bind (L3.at ?_)))))
  show wpAny _ _ (holding [Value.builtin "object.__class__"] (call (.builtin "getset_descriptor.__get__") [.builtin "object.__class__", .ref x, .ref D]) >>= ret) _ _ _
  refine wpAny_bind (wpAny_holding (wpAny_call (class_get (s := ⟨hp, g, d, t + 1, os⟩) (ox := ox) (od := od) X I hm ?_)))
  refine wpAny_pure ?_
  show wpAny _ _ (handedOut (.ref D)) _ _ _
  rw [handedOut_of (v := .ref D) rfl]
  first
    | exact wpAny_pure (wpAny_pure h)
    | exact wpAny_pure h
    | exact wpAny_pure (wpAny_bind (wpAny_pure (wpAny_pure h)))
theorem kitx_excO {od : Option Obj} (hga : findIn K (.ref D) "__getattribute__" = some (some (.builtin "BaseException.__getattribute__"))) (hgt : findIn K (.ref D) "__getattr__" = some none) (hsub : subIn K (.ref D) (.type "BaseException") = some true) (hdct : hasDictIn K D = true) (ha : findIn K (.ref D) "__class__" = some (some (.builtin "object.__class__")))
    (hn : specialIn K (.builtin "object.__class__") "__get__" = some (some (.builtin "getset_descriptor.__get__"))) (htk : takesIn K (.builtin "object.__class__") = some true) (hm : mroIn K D (.type "object") = some true) :
    KitX K (.ref x) (.ref D) (fun h => InstAt h x ox D od) where
  ty := fun _ _ _ I => I.type
  it := fun _ _ X _ => by
    obtain ⟨cdD, hcD, _⟩ := any_some hdct
    unfold clsIn at hcD
    split at hcD
    · rename_i c' d' cd' sl' ho
      intro A' Q' E' s' k q
      unfold isType loadHead
      exact wpAny_bind (wpAny_loadPart (k _ _ (X _ _ ho)) (wpAny_pure q))
    · cases hcD
  ne := fun h tp dd its n sl X htp => by
    obtain ⟨cdD, hcD, _⟩ := any_some hdct
    refine Bool.eq_false_iff.mpr fun q => ?_
    have e : D = tp := Value.ref.inj (beq_iff_eq.mp q)
    subst e
    unfold clsIn at hcD
    split at hcD
    · rename_i c' d' cd' sl' ho
      have z := (X _ _ ho).symm.trans htp
      cases z
    · cases hcD
  ca := fun X I k => kin_classO hga hgt hsub hdct ha hn htk hm X I k
end
end Kx
namespace Kx
open PySem PySem.Spec PyProof.Rows L2
/-- isinstance(e, c), e a caught error that has fields -/
def rIsEd (K : PySem.W.Frag) (a : Addr) (cls : Value) (d : Option Addr) (D : Addr) : List V → Hp → VK → Prop := fun xs H Q => cls = .ref D ∧ (d = none ∨ ∃ (dd : Addr) (fs : List (Str × V)), d = some dd ∧ H dd = some (.xd fs)) ∧ rIsE K D a xs H Q
theorem call_isEd {X : Cx} {K : PySem.W.Frag} {a D : Addr} {oe : Obj} {cls : Value} {d : Option Addr} {pn : List (Addr × Obj)} (hK : X.K = K) (C : ExcC K D) (hz : Zc cls d oe) (hf : ∃ vs, oe.data = .fields vs) : CallR (X.suite a ((a, oe) :: pn)) (.builtin "isinstance") (rIsEd K a cls d D) := by
  subst hK
  intro pins s σ H xs us Q I r h
  obtain ⟨hcl, hd, c, cv, b, rfl, hcv, e, q⟩ := h
  subst hcl
  cases r with
  | cons rx rr =>
    cases rr with
    | cons rt rr =>
      cases rr
      cases rx
      have ec := hcv _ rt
      subst ec
      obtain ⟨hget, _⟩ := I.pin (a, oe) (List.mem_append.mpr (.inl List.mem_cons_self))
      obtain ⟨vs, hv⟩ := hf
      have J : ∃ od, PySem.W.InstAt s.heap a oe D od := by
        rcases hd with hd | ⟨dd, fs, hd, he⟩
        · subst hd
          obtain ⟨oc, od, oda, osl⟩ := oe
          obtain ⟨h1, h2⟩ := hz
          dsimp only at h1 h2 hv
          subst h1 h2 hv
          exact ⟨none, hget, rfl, rfl, trivial⟩
        · subst hd
          obtain ⟨mA, hns, hr⟩ := (show ObjOk X.prog X.w H s.heap dd (.xd fs) from I.hok dd _ he)
          obtain ⟨od, ho, hl⟩ := lookIn_ns hns
          exact ⟨some od, hget, hz.1, by unfold PySem.W.notCls; rw [hv] <;> rfl, by rw [hz.2]; exact ho⟩
      obtain ⟨od, J⟩ := J
      exact PySem.W.kia_one (kitx_excO C.hg C.hk C.hs C.hd C.ha C.hn C.ht C.hm) I.kIn J e (fun z => nomatch z) fun tk => ⟨.bl b, H, I.kept (t' := tk) fun _ _ z => z, rfl, q⟩
end Kx

set_option maxHeartbeats 4000000
namespace Kx
open PySem PySem.Spec PyProof.Rows L2
section
variable {X : Cx} {CX : CXT} {k : Nat} {f C : Addr} {fd : FuncData} {ps : List Str} {sp : Sp} {x m : Str} {p pos apos : Pos} {e o : Expr} {es : List Expr} {t : TA} {ta : TE} {Ew : L2.St → XK}
/-- C(..) that may be refused, what is wished then depending on the slots -/
theorem run_makeS {pins : List (Addr × Obj)} {σ : L2.St} {H : Hp} {s : Shared} {Q : VK} {us : List Value} {vs : List V} (M : Mk X.K C f) (F : FnOk X.prog X.w X.K X.mg X.base CX k f fd ps sp) (hr : Room (k + 1) X.A) (hb : Binds X.K fd ps [])
    (hx : PassesAt CX X σ (Ew σ)) (I : Inv X pins σ H s) (r : Vals vs us)
    (h : ∀ x dx, H x = none → H dx = none → dx ≠ x → sp (.ref x :: vs) (upd (upd H dx (.own x)) x (.ins C dx [])) (fun v H2 => v = .non ∧ Q (.ref x) H2) (Ew σ)) :
    wpAny (model X.prog X.w) X.A (call (.ref C) us) (EP X pins σ Q) X.xe s := by
  have hq := h (s.heap.objs.size + 1) s.heap.objs.size (I.hok.fresh (Nat.le_succ _)) (I.hok.fresh (Nat.le_refl _)) (Nat.ne_of_lt (Nat.lt_succ_self _))
  have J := Inv.made (C := C) I
  have r2 : Vals (V.ref (s.heap.objs.size + 1) :: vs) (Value.ref (s.heap.objs.size + 1) :: us) := .cons rfl r
  have hl : (Value.ref (s.heap.objs.size + 1) :: us ++ []).length = ps.length := by
    have e := r2.length
    rw [F.len _ _ _ _ hq] at e
    rw [List.append_nil]
    exact e.symm
  have bd := hb _ (Value.ref (s.heap.objs.size + 1) :: us) J.kIn hl
  rw [List.append_nil] at bd
  refine wpAny_call (make_map (f := f) I.kIn M.makes M.init (beq_iff_eq.mp M.fn) (codeAny_mono (F.run _ X.stack _ _ ⟨Value.ref (s.heap.objs.size + 1) :: us, []⟩ (Value.ref (s.heap.objs.size + 1) :: us) _ _ (Ew σ) (hr.make C us []) (J.env0.make C us []) bd r2 hq) fun r s' got => ?_))
  rcases r with e | (_ | _ | _ | u)
  · exact hx pins _ _ e s' J got
  · exact False.elim got
  · exact False.elim got
  · exact False.elim got
  · obtain ⟨v, H', J3, rv, ev, q3⟩ := J.after got
    subst ev
    exact ⟨rv, ⟨V.ref (s.heap.objs.size + 1), H', J3, rfl, q3⟩⟩
def tMakeS (C : Addr) (sp : Sp) (Ew : L2.St → XK) (t : TA) : TE := fun σ H Q => t σ H fun vs H1 => ∀ x dx, H1 x = none → H1 dx = none → dx ≠ x → sp (.ref x :: vs) (upd (upd H1 dx (.own x)) x (.ins C dx [])) (fun v H2 => v = .non ∧ Q (.ref x) H2) (Ew σ)
theorem pe_makeS (M : Mk X.K C f) (F : FnOk X.prog X.w X.K X.mg X.base CX k f fd ps sp) (hr : Room (k + 1) X.A) (hg : Gl X x) (hm : X.mg x = some (.ref C)) (hb : Binds X.K fd ps []) (hx : ∀ σ, PassesAt CX X σ (Ew σ))
    (ha : PA X (e :: es) t) (hdb : (x == ("__debug__" : Str)) = false := by decide) (he : starEach (e :: es) X.env = (false, eval e X.env) :: starEach es X.env := by rfl) (hpl : (backTo pos (starEach es X.env)).any (·.1) = false := by rfl) :
    PE X (.Call (.Name x p) (e :: es) [] pos) (tMakeS C sp Ew t) := by
  refine ⟨fun pins s σ H Q I h => wpAny_Call_Name_kw (ld_glob I hg hm ?_ hdb)⟩
  refine PySem.W.callWith_K (h₀ := X.base) I.ok.mod.kin M.kp (thn (ha.run pos pins s σ H _ I h) fun us s1 ⟨vs, H1, J, r, q⟩ => ⟨J.kIn, ?_⟩) he hpl
  exact run_makeS M F hr hb (hx σ) J r q
/-- o.m(..) that may be refused -/
def tMethW (C : Addr) (m : Str) (sp : Sp) (Ew : L2.St → XK) (ta : TE) (t : TA) : TE := fun σ H Q => ta σ H fun x H1 => ∃ a dx fs, x = .ref a ∧ H1 a = some (.ins C dx fs) ∧ fs.lookup m = none ∧ t σ H1 fun vs H2 => sp (.ref a :: vs) H2 Q (Ew σ)
theorem pe_methW {pl : Sem Bool} (he : PE X o ta) (c : Cls X.K C) (hm : Meth X.K C m f) (F : FnOk X.prog X.w X.K X.mg X.base CX k f fd ps sp) (hr : Room k X.A) (hb : Binds X.K fd ps []) (hx : ∀ σ, PassesAt CX X σ (Ew σ)) (ha : PA X (e :: es) t)
    (hst : starEach (e :: es) X.env = (false, eval e X.env) :: starEach es X.env := by rfl) (hpl : (backTo pos (starEach es X.env)).any (·.1) = false := by rfl)
    (ht : eval (.Call (.Attribute o m apos) (e :: es) [] pos) X.env = (do
      let ov ← eval o X.env
      standAt apos.atName
      let (f, first) ← holding [ov] (getMethod ov m pl)
      callWith pos f first (backTo pos (starEach (e :: es) X.env)) (backToKw pos (keywordEach [] X.env))) := by rfl) :
    PE X (.Call (.Attribute o m apos) (e :: es) [] pos) (tMethW C m sp Ew ta t) := by
  refine ⟨fun pins s σ H Q I h => PySem.W.methodCall_KW (pl := pl) (thn (he.run pins s σ H _ I h) fun u s1 ⟨x, H1, J, rx, a, dx, fs, ex, ea, l, q⟩ => ?_) ht⟩
  subst ex
  obtain rfl : u = Value.ref a := rx
  refine getmeth_ok J ea c hm l (PySem.W.callWith_K (first := [.ref a]) (h₀ := X.base) I.ok.mod.kin hm.kp (thn (ha.run pos pins s1 σ H1 _ J q) fun us s2 ⟨vs, H2, J2, r, q2⟩ => ⟨J2.kIn, ?_⟩) hst hpl)
  exact run_fnS (us := .ref a :: us) (vs := .ref a :: vs) F hr hb (hx σ) J2 (.cons rfl r) q2
end
end Kx

set_option maxHeartbeats 4000000
namespace Kx
open PySem L2
def spTried (C : Addr) : Sp := fun vs H Q _ => ∃ (x y l : V) (n m : String) (r : Option (List (Option (V × V)))), vs = [x, y, l] ∧ Kd H x n ∧ Kd H y m ∧ RowsIs H l r ∧ match likeDue x y r with
  | some w => ∀ t H', Same H H' → H t = none → H' t = some (.tup [.str "refused", .str w, .bl true, .bl true]) → Q (.ref t) H'
  | none => ∀ (a b : Int) (rs : List (Option (V × V))) (z : Addr) H', x = .int a → y = .int b → r = some rs → Same H H' → LkAt C H' z a b (srt (rs.map prI)) → Q (.ref z) H'
def spLPart (C : Addr) : Sp := fun vs H Q _ => ∃ (x : Addr) (y : V) (n : String) (a b : Int) (ls : List Pr), vs = [.ref x, y] ∧ LkAt C H x a b ls ∧ Kd H y n ∧
  (if wholeV y 0 (a - 1) = true then ∀ t H', Same H H' → H t = none → H' t = some (.tup [.str "told", match getP ls (intOf y) with | some j => .int j | none => .non]) → Q (.ref t) H' else ∀ t H', Same H H' → H t = none → H' t = some (.tup [.str "refused", y, .bl true]) → Q (.ref t) H')
def spLThen (C : Addr) : Sp := fun vs H Q _ => ∃ (x : Addr) (y : V) (a b : Int) (ls : List Pr), vs = [.ref x, y] ∧ LkAt C H x a b ls ∧
  ((∃ (n : String), Kd H y n ∧ n ∈ ["NoneType", "list", "int"]) ∨ ∃ (y' : Addr) (c d : Int) (ls' : List Pr), y = .ref y' ∧ LkAt C H y' c d ls' ∧ c ≠ b) ∧
  ∀ t H', Same H H' → H t = none → H' t = some (.tup [.str "refused", .str "sizes", .bl true]) → Q (.ref t) H'
section
variable {P : Program} {w : World} {K : PySem.W.Frag} {mg : Str → Option Value} {base : Heap}
theorem scTried : FnScope ["_law_first", "_law_second", "_law_links_here", "e"] ["_law_first", "_law_second", "_law_links_here"] (defScope sLTried) := ⟨rfl, rfl, rfl, by decide +kernel, rfl, by decide +kernel, by decide +kernel⟩
theorem ok_tried {f C CB CS gI : Addr} {fd fdI : FuncData} (F : Fun K "_law_tried" "_law_tried" sLTried f fd) (m : mg "_law_tried" = some (.ref f)) (B : Bm mg) (mV : mg "ValueError" = none) (MK : Mk K C gI) (GI : FnOk P w K mg base (L2.CX P w) 4 gI fdI ["self", "first", "second", "links"] (spLkX C CB)) (bI : Binds K fdI ["self", "first", "second", "links"] []) (mK : mg "Likeness" = some (.ref C))
    (mB : mg "BadLikeness" = some (.ref CB)) (mS : mg "SearchError" = some (.ref CS)) (XB : XfC K CB) (EB : ExcC K CB) (n1 : PySem.W.findIn K (.ref CB) "what" = some none) (tB : PySem.W.exmOne K (.ref CB) (.ref CS) = some true) (kV : PySem.W.kitOne K (.ref CB) (.type "ValueError") = some true) :
    HasF P w K mg base "_law_tried" 6 ["_law_first", "_law_second", "_law_links_here"] (spTried C) := by
  refine ⟨f, fd, ?_, m, F.kp, F.binds fun _ _ _ _ _ _ us hl => match us, hl with | [_, _, _], _ => rfl⟩
  refine F.ok scTried (fun vs H Q E h => ?_) (fun cdv A outer s H vs Q E hr h => ?_)
  · obtain ⟨x, y, l, n, m, r, rfl, _⟩ := h
    rfl
  · obtain ⟨x, y, l, n, m, r, rfl, kx, ky, hl, k⟩ := h
    refine ⟨_, pss_one (ps_try_as (i := 3) (Wout := fun _ _ _ _ => False) rfl rfl scTried.nd rfl rfl ⟨rfl, by decide, .inl mS⟩ takes0
        (fun W pn xe tk _ => pss_one (ps_ret (pe_makeS MK GI hr (by rfl) mK bI (fun σ => passAt tk σ) (pa_cons (pv 0) (pa_cons (pv 1) (pa_cons (pv 2) pa_nil))))))
        (fun a oe cls d pn hz hf => pss_one (ps_ret (pe_tup (pa_cons pe_str (pa_cons (pe_xf XB n1 hz hf (pv 3)) (pa_cons (pe_callB (call_isEd (K := K) (D := CB) rfl EB hz hf) (by rfl) B.isinstance (by decide +kernel) (pa_cons (pv 3) (pa_cons (pe_glob (v := .ref CB) rfl mB rfl) pa_nil)))
          (pa_cons (pe_callB (call_isEd (K := K) (D := CB) rfl EB hz hf) (by rfl) B.isinstance (by decide +kernel) (pa_cons (pv 3) (pa_cons (pe_bltn (v := .ty "ValueError") (by rfl) mV (by decide +kernel) rfl) pa_nil))) pa_nil)))))))), ?_⟩
    refine ⟨_, rfl, _, rfl, _, rfl, fun p dx hp hdx ne => ?_⟩
    have s0 : Same H (upd (upd H dx (.own p)) p (.ins C dx [])) := (sameUpd (Same.refl _) hdx).trans (sameUpd (Same.refl _) (by rw [upd_ne ne.symm]; exact hp))
    have yn : ∀ a, H a = none → l ≠ .ref a := fun a ha e => by
      obtain ⟨n, kd, _⟩ := hl.kd
      subst e
      cases kd with
      | lst _ xs h => rw [h] at ha; cases ha
      | tup _ xs h => rw [h] at ha; cases ha
      | dct _ xs h => rw [h] at ha; cases ha
    refine ⟨p, dx, x, y, l, n, m, r, rfl, upd_same, kx.keep s0, ky.keep s0, hl.keep s0, yn p hp, yn dx hdx, ?_⟩
    cases e : likeDue x y r with
    | none =>
      rw [e] at k
      exact fun a b rs H' ea eb er kp ka => ⟨rfl, k a b rs p H' ea eb er (fun c o hc => kp c o (s0 c o hc) (ne_of_none hc hp)) ka⟩
    | some w' =>
      rw [e] at k
      refine fun d H' hd s1 ed => ⟨true, tB, fun _ a ha => ?_, fun q => nomatch q⟩
      refine ⟨_, rfl, rfl, rfl, d, _, .str w', rfl, ed, rfl, _, rfl, rfl, .inr ⟨d, _, rfl, ed⟩, .ref CB, .ref CB, true, rfl, (fun u e => e), kit_self, _, rfl, rfl, .inr ⟨d, _, rfl, ed⟩, .ty "ValueError", .type "ValueError", true, rfl, (fun u e => e), kV, (by show 4 ≤ sizeLine; decide), fun t ht => ?_⟩
      have s2 : Same H H' := s0.trans s1
      exact k t _ (sameUpd s2 ht) (s2.free ht) upd_same
theorem scLPart : FnScope ["_law_likeness", "_law_number", "e"] ["_law_likeness", "_law_number"] (defScope sLPartner) := ⟨rfl, rfl, rfl, by decide +kernel, rfl, by decide +kernel, by decide +kernel⟩
theorem m_part : (¬ (Str.ofString "partner") = Str.ofString "first") ∧ (¬ (Str.ofString "partner") = Str.ofString "second") ∧ ¬ (Str.ofString "partner") = Str.ofString "links" := ⟨by decide +kernel, by decide +kernel, by decide +kernel⟩
theorem ok_lpart {f C CI CS gP : Addr} {fd fdP : FuncData} (F : Fun K "_law_partner" "_law_partner" sLPartner f fd) (m : mg "_law_partner" = some (.ref f)) (B : Bm mg) (LX : LC K C) (MP : Meth K C "partner" gP) (GP : FnOk P w K mg base (L2.CX P w) 3 gP fdP ["self", "number"] (spPartner C CI)) (bP : Binds K fdP ["self", "number"] [])
    (mI : mg "BadIndex" = some (.ref CI)) (mS : mg "SearchError" = some (.ref CS)) (XI : XfC K CI) (EI : ExcC K CI) (n1 : PySem.W.findIn K (.ref CI) "index" = some none) (tI : PySem.W.exmOne K (.ref CI) (.ref CS) = some true) :
    HasF P w K mg base "_law_partner" 5 ["_law_likeness", "_law_number"] (spLPart C) := by
  refine ⟨f, fd, ?_, m, F.kp, F.binds fun _ _ _ _ _ _ us hl => match us, hl with | [_, _], _ => rfl⟩
  refine F.ok scLPart (fun vs H Q E h => ?_) (fun cdv A outer s H vs Q E hr h => ?_)
  · obtain ⟨x, y, n, a, b, ls, rfl, _⟩ := h
    rfl
  · obtain ⟨x, y, n, a, b, ls, rfl, hx, ky, k⟩ := h
    have hr3 : Room 3 _ := hr.mono (by decide)
    refine ⟨_, pss_one (ps_try_as (i := 2) (Wout := fun _ _ _ _ => False) rfl rfl scLPart.nd rfl rfl ⟨rfl, by decide, .inl mS⟩ takes0
        (fun W pn xe tk _ => pss_one (ps_ret (pe_tup (pa_cons pe_str (pa_cons (pe_methW (pv 0) LX.cl MP GP hr3 bP (fun σ => passAt tk σ) (pa_cons (pv 1) pa_nil)) pa_nil)))))
        (fun a oe cls d pn hz hf => pss_one (ps_ret (pe_tup (pa_cons pe_str (pa_cons (pe_xf XI n1 hz hf (pv 2)) (pa_cons (pe_callB (call_isEd (K := K) (D := CI) rfl EI hz hf) (by rfl) B.isinstance (by decide +kernel) (pa_cons (pv 2) (pa_cons (pe_glob (v := .ref CI) rfl mI rfl) pa_nil))) pa_nil))))))), ?_⟩
    obtain ⟨dx, L, ys, h1, h2, h3⟩ := hx.ob
    refine ⟨_, rfl, x, dx, _, rfl, h1, lFs_no _ _ _ m_part.1 m_part.2.1 m_part.2.2, _, rfl, x, y, n, a, b, ls, rfl, hx, ky, ?_⟩
    cases wy : wholeV y 0 (a - 1) with
    | true =>
      rw [wy] at k
      have k : ∀ t H', Same H H' → H t = none → H' t = some (.tup [.str "told", match getP ls (intOf y) with | some j => .int j | none => .non]) → Q (.ref t) H' := by simpa using k
      rw [if_pos rfl]
      exact fun H' s1 => ⟨(by show 2 ≤ sizeLine; decide), fun t ht => k t _ (sameUpd s1 ht) (s1.free ht) upd_same⟩
    | false =>
      rw [wy] at k
      have k : ∀ t H', Same H H' → H t = none → H' t = some (.tup [.str "refused", y, .bl true]) → Q (.ref t) H' := by simpa using k
      rw [if_neg (by decide)]
      refine fun d H' hd s1 ed => ⟨true, tI, fun _ a ha => ?_, fun q => nomatch q⟩
      refine ⟨_, rfl, rfl, rfl, d, _, y, rfl, ed, rfl, _, rfl, rfl, .inr ⟨d, _, rfl, ed⟩, .ref CI, .ref CI, true, rfl, (fun u e => e), kit_self, (by show 3 ≤ sizeLine; decide), fun t ht => ?_⟩
      exact k t _ (sameUpd s1 ht) (s1.free ht) upd_same
theorem scLThen : FnScope ["_law_one_here", "_law_other", "e"] ["_law_one_here", "_law_other"] (defScope sLThen) := ⟨rfl, rfl, rfl, by decide +kernel, rfl, by decide +kernel, by decide +kernel⟩
theorem m_then : (¬ (Str.ofString "then") = Str.ofString "first") ∧ (¬ (Str.ofString "then") = Str.ofString "second") ∧ ¬ (Str.ofString "then") = Str.ofString "links" := ⟨by decide +kernel, by decide +kernel, by decide +kernel⟩
theorem ok_lthen {f C CB CS gT : Addr} {fd fdT : FuncData} (F : Fun K "_law_then" "_law_then" sLThen f fd) (m : mg "_law_then" = some (.ref f)) (B : Bm mg) (LX : LC K C) (MT : Meth K C "then" gT) (GT : FnOk P w K mg base (L2.CX P w) 6 gT fdT ["self", "other"] (spThenX C CB)) (bT : Binds K fdT ["self", "other"] [])
    (mB : mg "BadLikeness" = some (.ref CB)) (mS : mg "SearchError" = some (.ref CS)) (XB : XfC K CB) (EB : ExcC K CB) (n1 : PySem.W.findIn K (.ref CB) "what" = some none) (tB : PySem.W.exmOne K (.ref CB) (.ref CS) = some true) :
    HasF P w K mg base "_law_then" 7 ["_law_one_here", "_law_other"] (spLThen C) := by
  refine ⟨f, fd, ?_, m, F.kp, F.binds fun _ _ _ _ _ _ us hl => match us, hl with | [_, _], _ => rfl⟩
  refine F.ok scLThen (fun vs H Q E h => ?_) (fun cdv A outer s H vs Q E hr h => ?_)
  · obtain ⟨x, y, a, b, ls, rfl, _⟩ := h
    rfl
  · obtain ⟨x, y, a, b, ls, rfl, hx, hy, k⟩ := h
    refine ⟨_, pss_one (ps_try_as (i := 2) (Wout := fun _ _ _ _ => False) rfl rfl scLThen.nd rfl rfl ⟨rfl, by decide, .inl mS⟩ takes0
        (fun W pn xe tk _ => pss_one (ps_ret (pe_methW (pv 0) LX.cl MT GT hr bT (fun σ => passAt tk σ) (pa_cons (pv 1) pa_nil))))
        (fun a oe cls d pn hz hf => pss_one (ps_ret (pe_tup (pa_cons pe_str (pa_cons (pe_xf XB n1 hz hf (pv 2)) (pa_cons (pe_callB (call_isEd (K := K) (D := CB) rfl EB hz hf) (by rfl) B.isinstance (by decide +kernel) (pa_cons (pv 2) (pa_cons (pe_glob (v := .ref CB) rfl mB rfl) pa_nil))) pa_nil))))))), ?_⟩
    obtain ⟨dx, L, ys, h1, h2, h3⟩ := hx.ob
    refine ⟨_, rfl, x, dx, _, rfl, h1, lFs_no _ _ _ m_then.1 m_then.2.1 m_then.2.2, _, rfl, x, y, a, b, ls, rfl, hx, ?_⟩
    rcases hy with ⟨n, kd, hn⟩ | ⟨y', c, d, ls', rfl, hy, ne⟩
    · refine .inl ⟨n, kd, hn, fun d H' hd s1 ed => ⟨true, tB, fun _ a ha => ?_, fun q => nomatch q⟩⟩
      refine ⟨_, rfl, rfl, rfl, d, _, .str "sizes", rfl, ed, rfl, _, rfl, rfl, .inr ⟨d, _, rfl, ed⟩, .ref CB, .ref CB, true, rfl, (fun u e => e), kit_self, (by show 3 ≤ sizeLine; decide), fun t ht => ?_⟩
      exact k t _ (sameUpd s1 ht) (s1.free ht) upd_same
    · refine .inr ⟨y', c, d, ls', rfl, hy, ?_⟩
      rw [if_neg ne]
      refine fun d H' hd s1 ed => ⟨true, tB, fun _ a ha => ?_, fun q => nomatch q⟩
      refine ⟨_, rfl, rfl, rfl, d, _, .str "sizes", rfl, ed, rfl, _, rfl, rfl, .inr ⟨d, _, rfl, ed⟩, .ref CB, .ref CB, true, rfl, (fun u e => e), kit_self, (by show 3 ≤ sizeLine; decide), fun t ht => ?_⟩
      exact k t _ (sameUpd s1 ht) (s1.free ht) upd_same
end
end Kx

set_option maxHeartbeats 8000000
namespace Kx
open PySem L2
/-- the heap but for the hand -/
def wo (p : Addr) (H : Hp) : Hp := fun b => if b = p then none else H b
theorem wo_same {H : Hp} {p : Addr} : Same (wo p H) H := fun b o e => by
  unfold wo at e
  by_cases h : b = p
  · rw [if_pos h] at e; cases e
  · rw [if_neg h] at e; exact e
theorem wo_ne {H : Hp} {p b : Addr} (h : b ≠ p) : wo p H b = H b := if_neg h
theorem wo_keep {H H' : Hp} {p : Addr} (k : Keep H H' p) : Same (wo p H) (wo p H') := fun b o e => by
  unfold wo at e ⊢
  by_cases h : b = p
  · rw [if_pos h] at e; cases e
  · rw [if_neg h] at e ⊢; exact k b o e h
theorem wo_at {H : Hp} {p b : Addr} {o : HO} (h : H b = some o) (n : b ≠ p) : wo p H b = some o := by rw [wo_ne n]; exact h
theorem wo_mono {H H' : Hp} {p : Addr} (s : Same H H') : Same (wo p H) (wo p H') := wo_keep fun b o e _ => s b o e
theorem wo_get {p b : Addr} {H : Hp} {o : HO} (h : wo p H b = some o) : H b = some o ∧ b ≠ p := ⟨wo_same _ _ h, fun e => by rw [e] at h; unfold wo at h; rw [if_pos rfl] at h; cases h⟩
theorem ix_listK {X : Cx} {K : PySem.W.Frag} (h : X.K = K) : IxR X (rIxL K) := by
  subst h
  exact ix_list
theorem PL.wo {H : Hp} {xs : List V} {ls : List Pr} {p q : Addr} (h : PL H xs ls) (hp : HandAt H p q) : PL (wo p H) xs ls := h.keep'' fun {t vs} e => wo_at e fun z => by
  obtain ⟨cs, a, b, c, hh, _⟩ := hp
  rw [z, hh] at e
  cases e
theorem LkAt.wo {C : Addr} {H : Hp} {x : Addr} {a b : Int} {ls : List Pr} {p q : Addr} (h : LkAt C H x a b ls) (hp : HandAt H p q) : LkAt C (wo p H) x a b ls := by
  obtain ⟨dx, L, ys, h1, h2, h3⟩ := h.ob
  obtain ⟨cs, e, f, g, hh, _⟩ := id hp
  exact ⟨⟨dx, L, ys, wo_at h1 (fun z => by rw [z, hh] at h1; cases h1), wo_at h2 (fun z => by rw [z, hh] at h2; cases h2), h3.wo hp⟩, h.lk, h.sz⟩
/-- a scalar -/
def Sca (x : V) : Prop := ∃ n, (∀ H, Thing H x n) ∧ seqV n = false
theorem sca_non : Sca .non := ⟨_, fun H => ⟨.non, fun z e => nomatch e⟩, rfl⟩
theorem sca_int (i : Int) : Sca (.int i) := ⟨_, fun H => ⟨.int i, fun z e => nomatch e⟩, rfl⟩
theorem sca_bl (b : Bool) : Sca (.bl b) := ⟨_, fun H => ⟨.bl b, fun z e => nomatch e⟩, rfl⟩
theorem sca_str {s : Str} (h : PyData.strOk s = true) (l : s.length ≤ 100) : Sca (.str s) := ⟨_, fun H => ⟨.str s, fun z e => by cases e; exact ⟨h, l⟩⟩, rfl⟩
theorem Sca.row {x : V} (h : Sca x) (H : Hp) : RowIs H x none := by
  obtain ⟨n, t, f⟩ := h
  exact .oth (t H).kd f
theorem row_tup {H : Hp} {t : Addr} {x y : V} (h : H t = some (.tup [x, y])) (hx : Sca x) (hy : Sca y) : RowIs H (.ref t) (some (x, y)) := by
  obtain ⟨n, f, _⟩ := hx
  obtain ⟨m, g, _⟩ := hy
  exact .tup h (f H) (g H)
theorem row_lst {H : Hp} {t : Addr} {x y : V} (h : H t = some (.lst [x, y])) (hx : Sca x) (hy : Sca y) : RowIs H (.ref t) (some (x, y)) := by
  obtain ⟨n, f, _⟩ := hx
  obtain ⟨m, g, _⟩ := hy
  exact .lst h (f H) (g H)
/-- what stands for the links -/
inductive LinksV (H : Hp) (N : Nat) : V → Prop where
  | lst {b : Addr} {xs : List V} (h : H b = some (.lst xs)) (l : xs.length ≤ N) (a : ∀ x ∈ xs, ∃ r, RowIs H x r) : LinksV H N (.ref b)
  | oth {y : V} (h : Sca y) : LinksV H N y
theorem LinksV.keep {H H' : Hp} {N : Nat} {l : V} (h : LinksV H N l) (s : Same H H') : LinksV H' N l := by
  cases h with
  | lst h l a => exact .lst (s _ _ h) l fun x hx => by obtain ⟨r, hr⟩ := a x hx; exact ⟨r, hr.keep s⟩
  | oth h => exact .oth h
theorem LinksV.up {H : Hp} {N M : Nat} {l : V} (h : LinksV H N l) (le : N ≤ M) : LinksV H M l := by
  cases h with
  | lst h l a => exact .lst h (Nat.le_trans l le) a
  | oth h => exact .oth h
theorem rows_ex {H : Hp} : ∀ {xs : List V}, (∀ x ∈ xs, ∃ r, RowIs H x r) → ∃ rs : List (Option (V × V)), AllR H xs rs
  | [], _ => ⟨[], rfl, fun i y r e _ => by cases e⟩
  | x :: xs, h => by
    obtain ⟨r, hr⟩ := h x (.head _)
    obtain ⟨rs, h1, h2⟩ := rows_ex fun y hy => h y (.tail _ hy)
    refine ⟨r :: rs, by simp [h1], fun i y t e1 e2 => ?_⟩
    cases i with
    | zero => cases e1; cases e2; exact hr
    | succ i => exact h2 i y t e1 e2
theorem LinksV.rows {H : Hp} {N : Nat} {l : V} (h : LinksV H N l) (le : N ≤ 100) : ∃ r, RowsIs H l r := by
  cases h with
  | lst h l a =>
    obtain ⟨rs, ar⟩ := rows_ex a
    exact ⟨some rs, .lst h ar (Nat.le_trans l le)⟩
  | oth h =>
    obtain ⟨n, t, f⟩ := h
    exact ⟨none, .oth (t H).kd f⟩
def spSpoilt : Sp := fun vs H Q _ => ∃ (p q b : Addr) (x y l : V) (N : Nat), vs = [.ref p, .ref b] ∧ HandAt H p q ∧ wo p H b = some (.lst [x, y, l]) ∧ Sca x ∧ Sca y ∧ LinksV (wo p H) N l ∧ N ≤ 60 ∧
  ∀ (b' : Addr) (x' y' l' : V) (H' : Hp), HandAt H' p q → Keep H H' p → wo p H' b' = some (.lst [x', y', l']) → Sca x' → Sca y' → LinksV (wo p H') (N + 1) l' → Q (.ref b') H'
theorem cut_sub {xs : List V} {lo hi : Option Int} {z : V} (h : z ∈ cutV xs lo hi) : z ∈ xs := List.mem_of_mem_drop (List.mem_of_mem_take h)
theorem cut_lenT {xs : List V} {i : Int} (h0 : 0 ≤ i) : (cutV xs none (some i)).length ≤ min i.toNat xs.length := by
  have e : i = (i.toNat : Nat) := by omega
  have e1 : HT.sIx xs.length xs.length (some i) = min i.toNat xs.length := by rw [e]; exact HT.sIx_nat _ _ _
  unfold cutV
  rw [e1, HT.sIx_none, List.length_take]
  omega
theorem cut_lenD {xs : List V} {i : Int} (h0 : 0 ≤ i) : (cutV xs (some i) none).length ≤ xs.length - min i.toNat xs.length := by
  have e : i = (i.toNat : Nat) := by omega
  have e1 : HT.sIx xs.length 0 (some i) = min i.toNat xs.length := by rw [e]; exact HT.sIx_nat _ _ _
  unfold cutV
  rw [e1, HT.sIx_none, List.length_take, List.length_drop]
  omega
section
variable {P : Program} {w : World} {K : PySem.W.Frag} {mg : Str → Option Value} {base : Heap}
abbrev nSp : List Str := ["_law_hand_here", "_law_parts", "_law_first", "_law_second", "_law_links_here", "_law_way", "_law_odd", "_law_place", "_law_good", "_law_low", "_law_new"]
theorem scSp : FnScope nSp ["_law_hand_here", "_law_parts"] (defScope sLSpoilt) := ⟨rfl, rfl, rfl, by decide +kernel, rfl, by decide +kernel, by decide +kernel⟩
theorem ok_spoilt {f : Addr} {fd : FuncData} (F : Fun K "_law_spoilt" "_law_spoilt" sLSpoilt f fd) (m : mg "_law_spoilt" = some (.ref f)) (T : Bl mg) (B : Bm mg) (D : HasF P w K mg base "_law_draw" 2 ["_law_hand_here", "_law_many"] spDraw) (O : HasF P w K mg base "_law_one" 3 ["_law_hand_here", "_law_rows"] spOne) : HasF P w K mg base "_law_spoilt" 4 ["_law_hand_here", "_law_parts"] spSpoilt := by
  refine ⟨f, fd, ?_, m, F.kp, F.binds fun _ _ _ _ _ _ us hl => match us, hl with | [_, _], _ => rfl⟩
  obtain ⟨f1, fd1, D⟩ := D; obtain ⟨f2, fd2, O⟩ := O
  refine F.ok scSp (fun vs H Q E h => ?_) (fun cdv A outer s H vs Q E hr h => ?_)
  · obtain ⟨p, q, b, x, y, l, N, rfl, _⟩ := h
    rfl
  · obtain ⟨p, q, b, x, y, l, N, rfl, hp, hb, sx, sy, hl, le, k⟩ := h
    have hr2 : Room 2 _ := hr.mono (by decide)
    refine ⟨_, (pss_cons (ps_asg (pv 1) (pg_lst rfl (pgs_cons (pg_name (i := 2) scSp.nd rfl (.inl rfl)) (pgs_cons (pg_name (i := 3) scSp.nd rfl (.inl rfl)) (pgs_cons (pg_name (i := 4) scSp.nd rfl (.inl rfl)) pgs_nil)))))
    (pss_cons (ps_set (i := 5) scSp.nd rfl (Or.inl rfl) (pe_call D.G hr2 (by rfl) D.m D.kp D.b .nil pass0 (pa_cons (pv 0) (pa_cons pe_int pa_nil))))
    (C8.pss_cut (ps_set (i := 6) scSp.nd rfl (Or.inl rfl) (pe_call O.G hr (by rfl) O.m O.kp O.b .nil pass0 (pa_cons (pv 0) (pa_cons (pe_lst (pa_cons (pe_un un_neg pe_int) (pa_cons pe_int (pa_cons pe_non (pa_cons pe_bl (pa_cons pe_str (pa_cons (pe_op op_pow pe_int pe_int) pa_nil))))))) pa_nil))))
    (pss_cons (ps_if (pt_cmpR op_eq (pv 5) pe_int (nomark _)) (pss_one (ps_ret (pe_lst (pa_cons (pv 6) (pa_cons (pv 3) (pa_cons (pv 4) pa_nil)))))) pss_nil)
    (pss_cons (ps_if (pt_cmpR op_eq (pv 5) pe_int (nomark _)) (pss_one (ps_ret (pe_lst (pa_cons (pv 2) (pa_cons (pv 6) (pa_cons (pv 4) pa_nil)))))) pss_nil)
    (pss_cons (ps_if (PW.pt (pw_or (pt_cmpR op_eq (pv 5) pe_int (nomark _)) (pw_or1 (pt_not (pt_val (pe_callB call_isi (by rfl) B.isinstance (by decide +kernel) (pa_cons (pv 4) (pa_cons (pe_bltn (v := .ty "list") (by rfl) B.list (by decide +kernel) rfl) pa_nil)))))))) (pss_one (ps_ret (pe_lst (pa_cons (pv 2) (pa_cons (pv 3) (pa_cons (pe_call O.G hr (by rfl) O.m O.kp O.b .nil pass0 (pa_cons (pv 0) (pa_cons (pe_lst (pa_cons pe_non (pa_cons pe_str (pa_cons pe_int (pa_cons pe_bl pa_nil))))) pa_nil))) pa_nil)))))) pss_nil)
    (pss_cons (ps_set (i := 7) scSp.nd rfl (Or.inl rfl) (pe_call D.G hr2 (by rfl) D.m D.kp D.b .nil pass0 (pa_cons (pv 0) (pa_cons (pe_op op_add (pe_callB call_len_seq (by rfl) T.len PySem.boot_len (pa_cons (pv 4) pa_nil)) pe_int) pa_nil))))
    (C8.pss_cut (ps_set (i := 8) scSp.nd rfl (Or.inl rfl) (pe_ifExp (pt_cmpR op_lt (pv 7) (pe_callB call_len_seq (by rfl) T.len PySem.boot_len (pa_cons (pv 4) pa_nil)) (nomark _)) (pe_ix ix_list (pv 4) (pv 7) (fun _ _ => rfl)) (pe_tup (pa_cons pe_int (pa_cons pe_int pa_nil)))))
    (pss_cons (ps_set (i := 9) scSp.nd rfl (Or.inl rfl) (pe_call D.G hr2 (by rfl) D.m D.kp D.b .nil pass0 (pa_cons (pv 0) (pa_cons pe_int pa_nil))))
    (C8.pss_cut (ps_if (pt_cmpR op_eq (pv 5) pe_int (nomark _)) (pss_one (ps_set (i := 10) scSp.nd rfl (Or.inl rfl) (pe_call O.G hr (by rfl) O.m O.kp O.b .nil pass0 (pa_cons (pv 0) (pa_cons (pe_lst (pa_cons pe_non (pa_cons pe_int (pa_cons pe_str (pa_cons (pe_tup pa_nil) (pa_cons (pe_tup (pa_cons pe_int pa_nil)) (pa_cons (pe_tup (pa_cons pe_int (pa_cons pe_int (pa_cons pe_int pa_nil)))) (pa_cons (pe_lst (pa_cons pe_bl (pa_cons pe_int pa_nil))) (pa_cons (pe_tup (pa_cons pe_int (pa_cons pe_non pa_nil))) pa_nil))))))))) pa_nil)))))
        (pss_one (ps_if (pt_cmpR op_eq (pv 5) pe_int (nomark _)) (pss_one (ps_set (i := 10) scSp.nd rfl (Or.inl rfl) (pe_tup (pa_cons (pv 2) (pa_cons (pv 9) pa_nil)))))
          (pss_one (ps_if (pt_cmpR op_eq (pv 5) pe_int (nomark _)) (pss_one (ps_set (i := 10) scSp.nd rfl (Or.inl rfl) (pe_tup (pa_cons (pv 9) (pa_cons (pv 3) pa_nil)))))
            (pss_one (ps_if (pt_cmpR op_eq (pv 5) pe_int (nomark _)) (pss_one (ps_set (i := 10) scSp.nd rfl (Or.inl rfl) (pe_call O.G hr (by rfl) O.m O.kp O.b .nil pass0 (pa_cons (pv 0) (pa_cons (pe_lst (pa_cons (pe_tup (pa_cons (pe_un un_neg pe_int) (pa_cons pe_int pa_nil))) (pa_cons (pe_tup (pa_cons pe_int (pa_cons (pe_un un_neg pe_int) pa_nil))) (pa_cons (pe_tup (pa_cons pe_int (pa_cons pe_int pa_nil))) (pa_cons (pe_tup (pa_cons pe_int (pa_cons pe_int pa_nil))) pa_nil))))) pa_nil)))))
              (pss_one (ps_set (i := 10) scSp.nd rfl (Or.inl rfl) (pv 8))))))))))
    (pss_cons (ps_if (pt_cmpR op_eq (pv 5) pe_int (nomark _)) (pss_one (ps_ret (pe_lst (pa_cons (pv 2) (pa_cons (pv 3) (pa_cons (pe_op op_cat (pe_op op_cat (pe_slice sl_list (pv 4) po_none (po_some (pv 7))) (pe_lst (pa_cons (pv 10) pa_nil))) (pe_slice sl_list (pv 4) (po_some (pv 7)) po_none)) pa_nil)))))) pss_nil)
    (pss_one (ps_ret (pe_lst (pa_cons (pv 2) (pa_cons (pv 3) (pa_cons (pe_op op_cat (pe_op op_cat (pe_slice sl_list (pv 4) po_none (po_some (pv 7))) (pe_lst (pa_cons (pv 10) pa_nil))) (pe_slice sl_list (pv 4) (po_some (pe_op op_add (pv 7) pe_int)) po_none)) pa_nil))))))))))))))))), ?_⟩
    have hb0 := (wo_get hb).1
    refine ⟨_, rfl, b, _, rfl, SqL.of hb0, rfl, _, _, rfl, _, _, rfl, _, _, rfl, rfl, ?_⟩
    refine ⟨_, rfl, p, q, 9, rfl, hp, by decide, by decide, fun u H2 u0 u1 hp2 k2 => ?_⟩
    have step : ∀ {Hx : Hp} {t : Addr} {o : HO}, HandAt Hx p q → Hx t = none → HandAt (upd Hx t o) p q ∧ Same (wo p Hx) (wo p (upd Hx t o)) ∧ wo p (upd Hx t o) t = some o ∧ Keep Hx (upd Hx t o) p := fun h ht => ⟨h.upd (h.ap ht) (h.aq ht), wo_mono (sameUpd (Same.refl _) ht), wo_at upd_same (h.ap ht), keepUpd Keep.refl ht⟩
    have fin : ∀ {t : Addr} {Hx : Hp} {x' y' l' : V}, HandAt Hx p q → Keep H Hx p → Hx t = none → Sca x' → Sca y' → LinksV (wo p Hx) (N + 1) l' → Q (.ref t) (upd Hx t (.lst [x', y', l'])) := fun hpx kx ht hx' hy' hl' =>
      k _ _ _ _ _ (hpx.upd (hpx.ap ht) (hpx.aq ht)) (kx.trans (keepUpd Keep.refl ht)) (wo_at upd_same (hpx.ap ht)) hx' hy' (hl'.keep (wo_mono (sameUpd (Same.refl _) ht)))
    refine ⟨fun σ H3 => ∃ o : V, σ = [some (.ref p), some (.ref b), some x, some y, some l, some (.int u), some o, none, none, none, none] ∧ Sca o ∧ HandAt H3 p q ∧ Keep H H3 p, ?_, ?_⟩
    · refine ⟨_, rfl, _, rfl, _, _, rfl, rfl, ⟨by decide, by decide, by decide⟩, (by show 6 ≤ sizeLine; decide), fun t ht => ?_⟩
      refine ⟨p, q, t, _, rfl, hp2.upd (hp2.ap ht) (hp2.aq ht), upd_same, hp2.ap ht, (by show 0 < 6; decide), (by show 6 ≤ 1000; decide), fun x' H5 hx hp5 k5 => ?_⟩
      refine ⟨x', rfl, ?_, hp5, (k2.trans (keepUpd Keep.refl ht)).trans k5⟩
      simp only [List.mem_cons, List.not_mem_nil, or_false] at hx
      rcases hx with e | e | e | e | e | e <;> subst e
      · exact sca_int _
      · exact sca_int _
      · exact sca_non
      · exact sca_bl _
      · exact sca_str (by decide +kernel) (by decide +kernel)
      · exact sca_int _
    rintro σ H3 ⟨o, rfl, so, hp3, k3⟩
    refine ⟨_, rfl, rfl, _, rfl, ?_⟩
    refine ite2 (fun _ => ?_) (fun _ => ?_)
    · exact ⟨_, rfl, _, rfl, _, rfl, (by show 3 ≤ sizeLine; decide), fun t ht => fin hp3 k3 ht so sy ((hl.keep (wo_keep k3)).up (by omega))⟩
    refine ⟨_, rfl, rfl, _, rfl, ?_⟩
    refine ite2 (fun _ => ?_) (fun _ => ?_)
    · exact ⟨_, rfl, _, rfl, _, rfl, (by show 3 ≤ sizeLine; decide), fun t ht => fin hp3 k3 ht sx so ((hl.keep (wo_keep k3)).up (by omega))⟩
    refine ⟨_, rfl, rfl, _, rfl, ?_⟩
    refine ite2 (fun _ => ?_) (fun _ => ?_)
    · refine ⟨_, rfl, _, rfl, _, rfl, (by show 4 ≤ sizeLine; decide), fun t ht => ?_⟩
      refine ⟨p, q, t, _, rfl, hp3.upd (hp3.ap ht) (hp3.aq ht), upd_same, hp3.ap ht, (by show 0 < 4; decide), (by show 4 ≤ 1000; decide), fun x' H5 hx hp5 k5 => ⟨(by show 3 ≤ sizeLine; decide), fun t2 ht2 => ?_⟩⟩
      refine fin hp5 ((k3.trans (keepUpd Keep.refl ht)).trans k5) ht2 sx sy (.oth ?_)
      simp only [List.mem_cons, List.not_mem_nil, or_false] at hx
      rcases hx with e | e | e | e <;> subst e
      · exact sca_non
      · exact sca_str (by decide +kernel) (by decide +kernel)
      · exact sca_int _
      · exact sca_bl _
    have hl3 := (hl.keep (wo_keep k3)).keep wo_same
    cases hl with
    | oth so' =>
      obtain ⟨nn, tt, ff⟩ := so'
      have kd := (tt H3).kd
      refine ⟨_, rfl, l, _, _, _, _, rfl, .ty _, kd.ty, kit_ty (kit_list kd.kits), _, rfl, ?_⟩
      rw [show (nn == "list") = false by unfold seqV at ff; cases e : (nn == "list") with
        | false => rfl
        | true => rw [e] at ff; cases ff]
      refine iteT ?_
      refine ⟨_, rfl, _, rfl, _, rfl, (by show 4 ≤ sizeLine; decide), fun t ht => ?_⟩
      refine ⟨p, q, t, _, rfl, hp3.upd (hp3.ap ht) (hp3.aq ht), upd_same, hp3.ap ht, (by show 0 < 4; decide), (by show 4 ≤ 1000; decide), fun x' H5 hx hp5 k5 => ⟨(by show 3 ≤ sizeLine; decide), fun t2 ht2 => ?_⟩⟩
      refine fin hp5 ((k3.trans (keepUpd Keep.refl ht)).trans k5) ht2 sx sy (.oth ?_)
      simp only [List.mem_cons, List.not_mem_nil, or_false] at hx
      rcases hx with e | e | e | e <;> subst e
      · exact sca_non
      · exact sca_str (by decide +kernel) (by decide +kernel)
      · exact sca_int _
      · exact sca_bl _
    | @lst lb xs hlb ll al =>
    have kd : Kd H3 (.ref lb) "list" := .lst lb xs (wo_get (wo_keep k3 _ _ hlb)).1
    refine ⟨_, rfl, _, _, _, _, _, rfl, .ty _, kd.ty, kit_ty (kit_list kd.kits), _, rfl, iteF ?_⟩
    have h3 := (wo_get (wo_keep k3 _ _ hlb)).1
    refine ⟨_, rfl, _, rfl, lb, _, rfl, .inl (SqL.of h3), _, _, rfl, rfl, p, q, _, rfl, hp3, by omega, by omega, fun pl H4 p0 p1 hp4 k4 => ?_⟩
    have k34 := k3.trans k4
    have h4 := (wo_get (wo_keep k34 _ _ hlb)).1
    -- good
    refine ⟨fun σ H5 => ∃ g : V, σ = [some (.ref p), some (.ref b), some x, some y, some (.ref lb), some (.int u), some o, some (.int pl), some g, none, none] ∧ (∃ r, RowIs (wo p H5) g r) ∧ HandAt H5 p q ∧ Keep H H5 p, ?_, ?_⟩
    · refine ⟨_, rfl, _, rfl, lb, _, rfl, .inl (SqL.of h4), _, _, rfl, rfl, _, rfl, ?_⟩
      refine ite2 (fun hlt => ?_) (fun _ => ?_)
      · have hlt : pl < ((xs.length : Nat) : Int) := of_decide_eq_true hlt
        have lt : pl.toNat < xs.length := by omega
        have ex : xs[pl.toNat]? = some xs[pl.toNat] := List.getElem?_eq_getElem lt
        refine ⟨_, rfl, _, rfl, lb, _, _, _, rfl, rfl, SqL.of h4, by have := atI_nat ex; rwa [Int.toNat_of_nonneg p0] at this, _, rfl, ?_, hp4, k34⟩
        obtain ⟨r, hr⟩ := al _ (List.getElem_mem lt)
        exact ⟨r, hr.keep (wo_keep k34)⟩
      · refine ⟨(by show 2 ≤ sizeLine; decide), fun t ht => ⟨_, rfl, ⟨_, row_tup (wo_at upd_same (hp4.ap ht)) (sca_int _) (sca_int _)⟩, hp4.upd (hp4.ap ht) (hp4.aq ht), k34.trans (keepUpd Keep.refl ht)⟩⟩
    rintro σ H5 ⟨g, rfl, rg, hp5, k5⟩
    refine ⟨_, rfl, p, q, 41, rfl, hp5, by decide, by decide, fun lw H6 l0 l1 hp6 k6 => ?_⟩
    have k56 := k5.trans k6
    -- new
    refine ⟨fun σ H7 => ∃ nw : V, σ = [some (.ref p), some (.ref b), some x, some y, some (.ref lb), some (.int u), some o, some (.int pl), some g, some (.int lw), some nw] ∧ (∃ r, RowIs (wo p H7) nw r) ∧ HandAt H7 p q ∧ Keep H H7 p, ?_, ?_⟩
    · refine ⟨_, rfl, rfl, _, rfl, ?_⟩
      refine ite2 (fun _ => ?_) (fun _ => ?_)
      · refine ⟨_, rfl, Nat.zero_le _, fun t1 h1 => ⟨(by show 1 ≤ sizeLine; decide), fun t2 h2 => ⟨(by show 3 ≤ sizeLine; decide), fun t3 h3 => ⟨(by show 2 ≤ sizeLine; decide), fun t4 h4' => ⟨(by show 2 ≤ sizeLine; decide), fun t5 h5 => ⟨(by show 8 ≤ sizeLine; decide), fun t6 h6 => ?_⟩⟩⟩⟩⟩⟩
        obtain ⟨q1, r1, a1, c1⟩ := step (o := .tup []) hp6 h1
        obtain ⟨q2, r2, a2, c2⟩ := step (o := .tup [.int 0]) q1 h2
        obtain ⟨q3, r3, a3, c3⟩ := step (o := .tup [.int 0, .int 0, .int 0]) q2 h3
        obtain ⟨q4, r4, a4, c4⟩ := step (o := .lst [.bl true, .int 0]) q3 h4'
        obtain ⟨q5, r5, a5, c5⟩ := step (o := .tup [.int 0, .non]) q4 h5
        obtain ⟨q6, r6, a6, c6⟩ := step (o := .lst [.non, .int 3, .str "ab", .ref t1, .ref t2, .ref t3, .ref t4, .ref t5]) q5 h6
        refine ⟨p, q, t6, _, rfl, q6, (wo_get a6).1, (wo_get a6).2, (by show 0 < 8; decide), (by show 8 ≤ 1000; decide), fun x' H8 hx hp8 k8 => ⟨_, rfl, ?_, hp8, k56.trans (c1.trans (c2.trans (c3.trans (c4.trans (c5.trans (c6.trans k8))))))⟩⟩
        have r8 := wo_keep k8
        simp only [List.mem_cons, List.not_mem_nil, or_false] at hx
        rcases hx with e | e | e | e | e | e | e | e <;> subst e
        · exact ⟨_, sca_non.row _⟩
        · exact ⟨_, (sca_int _).row _⟩
        · exact ⟨_, (sca_str (by decide +kernel) (by decide +kernel)).row _⟩
        · exact ⟨_, .tupN (r8 _ _ (r6 _ _ (r5 _ _ (r4 _ _ (r3 _ _ (r2 _ _ a1)))))) (by decide)⟩
        · exact ⟨_, .tupN (r8 _ _ (r6 _ _ (r5 _ _ (r4 _ _ (r3 _ _ a2))))) (by decide)⟩
        · exact ⟨_, .tupN (r8 _ _ (r6 _ _ (r5 _ _ (r4 _ _ a3)))) (by decide)⟩
        · exact ⟨_, row_lst (r8 _ _ (r6 _ _ (r5 _ _ a4))) (sca_bl _) (sca_int _)⟩
        · exact ⟨_, row_tup (r8 _ _ (r6 _ _ a5)) (sca_int _) sca_non⟩
      refine ⟨_, rfl, rfl, _, rfl, ?_⟩
      refine ite2 (fun _ => ?_) (fun _ => ?_)
      · exact ⟨_, rfl, _, rfl, (by show 2 ≤ sizeLine; decide), fun t ht => ⟨_, rfl, ⟨_, row_tup (wo_at upd_same (hp6.ap ht)) sx (sca_int _)⟩, hp6.upd (hp6.ap ht) (hp6.aq ht), k56.trans (keepUpd Keep.refl ht)⟩⟩
      refine ⟨_, rfl, rfl, _, rfl, ?_⟩
      refine ite2 (fun _ => ?_) (fun _ => ?_)
      · exact ⟨_, rfl, _, rfl, (by show 2 ≤ sizeLine; decide), fun t ht => ⟨_, rfl, ⟨_, row_tup (wo_at upd_same (hp6.ap ht)) (sca_int _) sy⟩, hp6.upd (hp6.ap ht) (hp6.aq ht), k56.trans (keepUpd Keep.refl ht)⟩⟩
      refine ⟨_, rfl, rfl, _, rfl, ?_⟩
      refine ite2 (fun _ => ?_) (fun _ => ?_)
      · refine ⟨_, rfl, _, rfl, (by show 2 ≤ sizeLine; decide), fun t1 h1 => ⟨_, rfl, (by show 2 ≤ sizeLine; decide), fun t2 h2 => ⟨(by show 2 ≤ sizeLine; decide), fun t3 h3 => ⟨(by show 2 ≤ sizeLine; decide), fun t4 h4' => ⟨(by show 4 ≤ sizeLine; decide), fun t6 h6 => ?_⟩⟩⟩⟩⟩
        obtain ⟨q1, r1, a1, c1⟩ := step (o := .tup [.int (-1), .int 0]) hp6 h1
        obtain ⟨q2, r2, a2, c2⟩ := step (o := .tup [.int 0, .int (-1)]) q1 h2
        obtain ⟨q3, r3, a3, c3⟩ := step (o := .tup [.int 40, .int 0]) q2 h3
        obtain ⟨q4, r4, a4, c4⟩ := step (o := .tup [.int 0, .int 40]) q3 h4'
        obtain ⟨q6, r6, a6, c6⟩ := step (o := .lst [.ref t1, .ref t2, .ref t3, .ref t4]) q4 h6
        refine ⟨p, q, t6, _, rfl, q6, (wo_get a6).1, (wo_get a6).2, (by show 0 < 4; decide), (by show 4 ≤ 1000; decide), fun x' H8 hx hp8 k8 => ⟨_, rfl, ?_, hp8, k56.trans (c1.trans (c2.trans (c3.trans (c4.trans (c6.trans k8)))))⟩⟩
        have r8 := wo_keep k8
        simp only [List.mem_cons, List.not_mem_nil, or_false] at hx
        rcases hx with e | e | e | e <;> subst e
        · exact ⟨_, row_tup (r8 _ _ (r6 _ _ (r4 _ _ (r3 _ _ (r2 _ _ a1))))) (sca_int _) (sca_int _)⟩
        · exact ⟨_, row_tup (r8 _ _ (r6 _ _ (r4 _ _ (r3 _ _ a2)))) (sca_int _) (sca_int _)⟩
        · exact ⟨_, row_tup (r8 _ _ (r6 _ _ (r4 _ _ a3))) (sca_int _) (sca_int _)⟩
        · exact ⟨_, row_tup (r8 _ _ (r6 _ _ a4)) (sca_int _) (sca_int _)⟩
      · obtain ⟨r, hr⟩ := rg
        exact ⟨_, rfl, _, rfl, ⟨r, hr.keep (wo_keep k6)⟩, hp6, k56⟩
    rintro σ H7 ⟨nw, rfl, rnw, hp7, k7⟩
    have h7 := (wo_get (wo_keep k7 _ _ hlb)).1
    refine ⟨_, rfl, rfl, _, rfl, ?_⟩
    refine ite2 (fun _ => ?_) (fun _ => ?_)
    · refine ⟨_, rfl, _, rfl, _, rfl, _, rfl, _, rfl, lb, _, rfl, SqL.of h7, fun e1 he1 => ?_⟩
      have s1 : Same H7 (upd H7 e1 (.lst (cutV xs none (some pl)))) := sameUpd (Same.refl _) he1
      refine ⟨_, rfl, (by show 1 ≤ sizeLine; decide), fun e2 he2 => ?_⟩
      have s2 := s1.trans (sameUpd (o := .lst [nw]) (Same.refl _) he2)
      have lT := cut_lenT (xs := xs) p0
      refine ⟨e1, e2, _, _, rfl, rfl, by rw [upd_ne (ne_of_none upd_same he2)]; exact upd_same, upd_same, Nat.le_of_lt (small1000 (by simp; omega)), fun e3 he3 => ?_⟩
      have s3 := s2.trans (sameUpd (o := .lst (cutV xs none (some pl) ++ [nw])) (Same.refl _) he3)
      refine ⟨_, rfl, _, rfl, _, rfl, lb, _, rfl, SqL.of (s3 _ _ h7), fun e4 he4 => ?_⟩
      have s4 := s3.trans (sameUpd (o := .lst (cutV xs (some pl) none)) (Same.refl _) he4)
      have lD := cut_lenD (xs := xs) (i := pl) (by omega)
      refine ⟨e3, e4, _, _, rfl, rfl, by rw [upd_ne (ne_of_none upd_same he4)]; exact upd_same, upd_same, Nat.le_of_lt (small1000 (by simp; omega)), fun e5 he5 => ⟨(by show 3 ≤ sizeLine; decide), fun t ht => ?_⟩⟩
      have s5 := s4.trans (sameUpd (o := .lst (cutV xs none (some pl) ++ [nw] ++ cutV xs (some pl) none)) (Same.refl _) he5)
      have hp8 := hp7.same s5
      refine fin hp8 (k7.trans fun c o h _ => s5 _ _ h) ht sx sy (.lst (wo_at upd_same (((hp7.same s4)).ap he5)) (by simp; omega) fun z hz => ?_)
      have old : ∀ z ∈ xs, ∃ r, RowIs (wo p (upd (upd (upd (upd (upd H7 e1 (.lst (cutV xs none (some pl)))) e2 (.lst [nw])) e3 (.lst (cutV xs none (some pl) ++ [nw]))) e4 (.lst (cutV xs (some pl) none))) e5 (.lst (cutV xs none (some pl) ++ [nw] ++ cutV xs (some pl) none)))) z r := fun z hz => by
        obtain ⟨r, hr⟩ := al z hz
        exact ⟨r, (hr.keep (wo_keep k7)).keep (wo_mono s5)⟩
      rcases List.mem_append.mp hz with hz | hz
      · rcases List.mem_append.mp hz with hz | hz
        · exact old z (cut_sub hz)
        · rw [List.mem_singleton.mp hz]
          obtain ⟨r, hr⟩ := rnw
          exact ⟨r, hr.keep (wo_mono s5)⟩
      · exact old z (cut_sub hz)
    · refine ⟨_, rfl, _, rfl, _, rfl, _, rfl, _, rfl, lb, _, rfl, SqL.of h7, fun e1 he1 => ?_⟩
      have s1 : Same H7 (upd H7 e1 (.lst (cutV xs none (some pl)))) := sameUpd (Same.refl _) he1
      refine ⟨_, rfl, (by show 1 ≤ sizeLine; decide), fun e2 he2 => ?_⟩
      have s2 := s1.trans (sameUpd (o := .lst [nw]) (Same.refl _) he2)
      have lT := cut_lenT (xs := xs) p0
      refine ⟨e1, e2, _, _, rfl, rfl, by rw [upd_ne (ne_of_none upd_same he2)]; exact upd_same, upd_same, Nat.le_of_lt (small1000 (by simp; omega)), fun e3 he3 => ?_⟩
      have s3 := s2.trans (sameUpd (o := .lst (cutV xs none (some pl) ++ [nw])) (Same.refl _) he3)
      refine ⟨_, rfl, _, rfl, _, _, rfl, rfl, _, rfl, lb, _, rfl, SqL.of (s3 _ _ h7), fun e4 he4 => ?_⟩
      have s4 := s3.trans (sameUpd (o := .lst (cutV xs (some (pl + 1)) none)) (Same.refl _) he4)
      have lD := cut_lenD (xs := xs) (i := (pl + 1)) (by omega)
      refine ⟨e3, e4, _, _, rfl, rfl, by rw [upd_ne (ne_of_none upd_same he4)]; exact upd_same, upd_same, Nat.le_of_lt (small1000 (by simp; omega)), fun e5 he5 => ⟨(by show 3 ≤ sizeLine; decide), fun t ht => ?_⟩⟩
      have s5 := s4.trans (sameUpd (o := .lst (cutV xs none (some pl) ++ [nw] ++ cutV xs (some (pl + 1)) none)) (Same.refl _) he5)
      have hp8 := hp7.same s5
      refine fin hp8 (k7.trans fun c o h _ => s5 _ _ h) ht sx sy (.lst (wo_at upd_same (((hp7.same s4)).ap he5)) (by simp; omega) fun z hz => ?_)
      have old : ∀ z ∈ xs, ∃ r, RowIs (wo p (upd (upd (upd (upd (upd H7 e1 (.lst (cutV xs none (some pl)))) e2 (.lst [nw])) e3 (.lst (cutV xs none (some pl) ++ [nw]))) e4 (.lst (cutV xs (some (pl + 1)) none))) e5 (.lst (cutV xs none (some pl) ++ [nw] ++ cutV xs (some (pl + 1)) none)))) z r := fun z hz => by
        obtain ⟨r, hr⟩ := al z hz
        exact ⟨r, (hr.keep (wo_keep k7)).keep (wo_mono s5)⟩
      rcases List.mem_append.mp hz with hz | hz
      · rcases List.mem_append.mp hz with hz | hz
        · exact old z (cut_sub hz)
        · rw [List.mem_singleton.mp hz]
          obtain ⟨r, hr⟩ := rnw
          exact ⟨r, hr.keep (wo_mono s5)⟩
      · exact old z (cut_sub hz)
end
end Kx

set_option maxHeartbeats 4000000
namespace Kx
open PySem PySem.Spec PyProof.Rows L2
section
variable {X : Cx} {C g : Addr} {sp : Sp} {E : XK} {CXx : CXT} {n : Nat}
/-- an instance as the library's lemmas know it -/
theorem inst_of {pins : List (Addr × Obj)} {σ : L2.St} {H : Hp} {s : Shared} {a dx : Addr} {fs : List (Str × V)} (I : Inv X pins σ H s) (h : H a = some (.ins C dx fs)) : ∃ ox od, PySem.W.InstAt s.heap a ox C od := by
  obtain ⟨mA, J, _⟩ := ins_get I.hok h
  obtain ⟨od, J, _⟩ := J.look
  exact ⟨_, _, J⟩
/-- x in o, o an instance whose class has its own __contains__ -/
def rInOwn (neg : Bool) (C : Addr) (sp : Sp) (E : XK) : R2 := fun x y H Q => ∃ a dx fs, y = .ref a ∧ H a = some (.ins C dx fs) ∧ sp [.ref a, x] H (fun z H' => ∃ b, z = .bl b ∧ Q (.bl (if neg then !b else b)) H') E
theorem op_inOwn (hs : PySem.W.findIn X.K (.ref C) "__contains__" = some (some (.ref g))) (hf : PySem.W.isFn X.K (.ref g) = true) (F : FnR X.prog X.w X.K X.mg X.base CXx n g sp) (hr : Room n X.A) (hx : Passes CXx X E) : OpR X (compareOp .In) (rInOwn false C sp E) := by
  intro pins s σ H x y v u Q I rx ry h
  obtain ⟨a, dx, fs, rfl, ha, q⟩ := h
  obtain rfl : u = Value.ref a := ry
  obtain ⟨ox, od, J⟩ := inst_of I ha
  obtain ⟨m, hF⟩ := I.fr
  refine PySem.W.in_K hF I.ok.mod.kin J hs hf (wpAny_mono (wpAny_call (run_fnR (us := [.ref a, v]) (vs := [.ref a, x]) F hr hx I (.cons rfl (.cons rx .nil)) q)) (fun w s' z => ?_) fun _ _ x => x)
  obtain ⟨z', H', I', rz, b, rfl, qz⟩ := z
  obtain rfl : w = Value.bool b := rz
  exact wpAny_truthy_bool ⟨.bl b, H', I', rfl, qz⟩
theorem op_notInOwn (hs : PySem.W.findIn X.K (.ref C) "__contains__" = some (some (.ref g))) (hf : PySem.W.isFn X.K (.ref g) = true) (F : FnR X.prog X.w X.K X.mg X.base CXx n g sp) (hr : Room n X.A) (hx : Passes CXx X E) : OpR X (compareOp .NotIn) (rInOwn true C sp E) := by
  intro pins s σ H x y v u Q I rx ry h
  obtain ⟨a, dx, fs, rfl, ha, q⟩ := h
  obtain rfl : u = Value.ref a := ry
  obtain ⟨ox, od, J⟩ := inst_of I ha
  obtain ⟨m, hF⟩ := I.fr
  refine PySem.W.notIn_K hF I.ok.mod.kin J hs hf (wpAny_mono (wpAny_call (run_fnR (us := [.ref a, v]) (vs := [.ref a, x]) F hr hx I (.cons rfl (.cons rx .nil)) q)) (fun w s' z => ?_) fun _ _ x => x)
  obtain ⟨z', H', I', rz, b, rfl, qz⟩ := z
  obtain rfl : w = Value.bool b := rz
  exact wpAny_truthy_bool ⟨.bl (!b), H', I', rfl, qz⟩
/-- len(o) by an own __len__ -/
def rLenOwn (C : Addr) (sp : Sp) (E : XK) : List V → Hp → VK → Prop := fun xs H Q => ∃ a dx fs, xs = [.ref a] ∧ H a = some (.ins C dx fs) ∧ sp [.ref a] H (fun z H' => ∃ k : Int, z = .int k ∧ 0 ≤ k ∧ k < 2 ^ 63 ∧ Q (.int k) H') E
theorem call_lenOwn (hs : PySem.W.findIn X.K (.ref C) "__len__" = some (some (.ref g))) (hf : PySem.W.isFn X.K (.ref g) = true) (F : FnR X.prog X.w X.K X.mg X.base CXx n g sp) (hr : Room (n + 1) X.A) (hx : Passes CXx X E) : CallR X (.builtin "len") (rLenOwn C sp E) := by
  intro pins s σ H xs us Q I r h
  obtain ⟨a, dx, fs, rfl, ha, q⟩ := h
  rw [Vals.ref1 r]
  obtain ⟨ox, od, J⟩ := inst_of I ha
  obtain ⟨m, hF⟩ := I.fr
  have run : codeAny (model X.prog X.w) X.A.in1 (.call (.ref g) ⟨[.ref a], []⟩) (fun r s' => match r with | .ok (.ret v) => EP X pins σ (fun z H' => ∃ k : Int, z = .int k ∧ 0 ≤ k ∧ k < 2 ^ 63 ∧ Q (.int k) H') v s' | .ok _ => False | .error e => X.xe e s') s := by
    refine codeAny_mono (F X.A.in1 X.stack s H [.ref a] [.ref a] _ E hr.in1 I.env0.in1 (.cons rfl .nil) q) fun r s' hq => ?_
    rcases r with e | (_ | _ | _ | u)
    · exact hx pins σ H s e s' I hq
    · exact hq.elim
    · exact hq.elim
    · exact hq.elim
    · exact I.after hq
  refine PySem.W.len_K hF I.ok.mod.kin J hs hf (wpAny_mono (wpAny_call run) (fun w s' z => ?_) fun _ _ x => x)
  obtain ⟨z', H', I', rz, k, rfl, k0, k1, qz⟩ := z
  obtain ⟨t, rfl⟩ := (show ∃ t, w = Value.int k t from rz)
  exact ⟨⟨k0, k1⟩, .int k, H', I'.tok _, ⟨_, rfl⟩, qz⟩
/-- o == y by an own __eq__, y any thing that is not of a class below -/
def rEqOwn (K : PySem.W.Frag) (C : Addr) (sp : Sp) (E : XK) : R2 := fun x y H Q => ∃ a dx fs, x = .ref a ∧ H a = some (.ins C dx fs) ∧ ((∃ b dy gs C', y = .ref b ∧ H b = some (.ins C' dy gs) ∧ PySem.W.notFirst K C (.ref C') = true) ∨ (∃ b ys, y = .ref b ∧ H b = some (.tup ys) ∧ PySem.W.notFirst K C (.type "tuple") = true)) ∧
  sp [.ref a, y] H (fun z H' => ∃ b, z = .bl b ∧ Q (.bl b) H') E
theorem op_eqOwn (hs : PySem.W.findIn X.K (.ref C) "__eq__" = some (some (.ref g))) (hf : PySem.W.isFn X.K (.ref g) = true) (F : FnR X.prog X.w X.K X.mg X.base CXx n g sp) (hr : Room n X.A) (hx : Passes CXx X E) : OpR X (compareOp .Eq) (rEqOwn X.K C sp E) := by
  intro pins s σ H x y v u Q I rx ry h
  obtain ⟨a, dx, fs, rfl, ha, hy, q⟩ := h
  obtain rfl : v = Value.ref a := rx
  obtain ⟨ox, od, J⟩ := inst_of I ha
  obtain ⟨m, hF⟩ := I.fr
  have go : ∀ tb, PySem.W.Looks (model X.prog X.w) s.heap (typeOf u) tb → PySem.W.notFirst X.K C tb = true → wpAny (model X.prog X.w) X.A (compareOp .Eq (.ref a) u) (EP X pins σ Q) X.xe s := fun tb hb hn => by
    refine PySem.W.cmp_K (op := .Eq) hr.units0 hF I.ok.mod.kin J hb hn hs hf (wpAny_mono (wpAny_call (run_fnR (us := [.ref a, u]) (vs := [.ref a, y]) F hr hx I (.cons rfl (.cons ry .nil)) q)) (fun w s' z => ?_) fun _ _ x => x)
    obtain ⟨z', H', I', rz, b, rfl, qz⟩ := z
    obtain rfl : w = Value.bool b := rz
    exact ⟨.bl b, H', I', rfl, qz⟩
  rcases hy with ⟨b, dy, gs, C', rfl, hb, hn⟩ | ⟨b, ys, rfl, hb, hn⟩
  · obtain rfl : u = Value.ref b := ry
    obtain ⟨ox', od', J'⟩ := inst_of I hb
    exact go _ J'.type hn
  · obtain rfl : u = Value.ref b := ry
    obtain ⟨_, _, _, o, h1, h2, _⟩ := (show ObjOk X.prog X.w H s.heap b (.tup ys) from I.hok b _ hb)
    exact go _ (PySem.W.kitAt_ty _ _ ⟨o, h1, h2⟩) hn
end
/-! != by the own __eq__ -/
section
variable {prog : Program} {w : World} {A : Around} {Er : Value → Shared → Prop} {s : Shared} {K : PySem.W.Frag} {x D f : Addr} {ox : Obj} {od : Option Obj} {b tb : Value}
theorem bound_ne {M : Model} {args : List Value} {Q : Option Value → Shared → Prop} (Y : K.In s.heap) (J : PySem.W.InstAt s.heap x ox D od) (hs : PySem.W.findIn K (.ref D) "__ne__" = some (some (.builtin "object.__ne__")))
    (h : wpAny M A (call (.builtin "object.__ne__") (.ref x :: args)) (fun v => Q (some v)) Er s) : wpAny M A (callSpecialIfBound? (.ref x) "__ne__" args) Q Er s := by
  simp only [callSpecialIfBound?, bindSpecialIfBound?]
  refine wpAny_holding (wpAny_bind (wpAny_bind (wpAny_bind (J.type.here ((PySem.W.looks_findIn Y hs).here (wpAny_bind (wpAny_askSetting (wpAny_ite ?_))))))))
  have fin : wpAny M A (call (.builtin "object.__ne__") ([.ref x] ++ args) >>= fun v => pure (some v)) Q Er s := wpAny_bind (wpAny_mono h (fun v s' z => wpAny_pure z) fun _ _ z => z)
  split
  · exact wpAny_bind (wpAny_of_eq (F.cmp_object.ne.bind _) (wpAny_pure (by exact fin)))
  · exact wpAny_tryCatch (wpAny_bind (wpAny_of_eq (F.cmp_object.ne.bind _) (wpAny_pure (by exact fin))))
/-- what the own __eq__ hands back, turned about -/
def NeBack (Q : Value → Shared → Prop) (v : Value) (s' : Shared) : Prop := match v with
  | .bool c => Q (.bool (!c)) s'
  | _ => False
theorem call_ne {Q : Value → Shared → Prop} (hu : A.units + 64 < cLine) (Y : K.In s.heap) (J : PySem.W.InstAt s.heap x ox D od) (hm : PySem.W.mroIn K D (.type "object") = some true) (he : PySem.W.findIn K (.ref D) "__eq__" = some (some (.ref f))) (hf : PySem.W.isFn K (.ref f) = true)
    (h : wpAny (model prog w) A.in1 (call (.ref f) [.ref x, b]) (NeBack Q) Er s) : wpAny (model prog w) A (call (.builtin "object.__ne__") [.ref x, b]) Q Er s := by
  refine wpAny_call (codeAny_call_builtin F.cmp_object.ne.plain F.cmpEntry_ne (PySem.W.check_slot F.cmpKind_ne F.cmpSplit_ne (J.type.andThen (PySem.W.looks_mroIn Y hm)) (F.cmpArgs_ne _ _) ?_))
  unfold Builtin.«object.__ne__»
  refine wpAny_bind (m := slotArgs "__ne__" 1 _) (wpAny_of_eq (a := (Value.ref x, [b])) rfl ?_)
  dsimp only
  refine wpAny_bind (wpAny_cRoomFor (A := A.in1) (by show A.units + 1 < cLine; omega) ?_)
  refine wpAny_bind (PySem.W.ifBound_K Y J he hf (wpAny_mono h (fun v s' hv => ?_) fun _ _ z => z))
  cases v with
  | bool c => exact wpAny_bind (wpAny_truthy_bool (wpAny_pure hv))
  | _ => exact hv.elim
theorem rich_ne {h₀ : Heap} {L : Addr} {m : Str → Option Value} {Q : Value → Shared → Prop} (hu : A.units + 64 < cLine) (F₀ : Fr h₀ L s.heap m) (X₀ : K.In h₀) (J : PySem.W.InstAt s.heap x ox D od) (hb : PySem.W.Looks (model prog w) s.heap (typeOf b) tb) (hn : PySem.W.notFirst K D tb = true)
    (hm : PySem.W.mroIn K D (.type "object") = some true) (hne : PySem.W.findIn K (.ref D) "__ne__" = some (some (.builtin "object.__ne__"))) (he : PySem.W.findIn K (.ref D) "__eq__" = some (some (.ref f))) (hf : PySem.W.isFn K (.ref f) = true)
    (h : wpAny (model prog w) A.in1 (call (.ref f) [.ref x, b]) (NeBack Q) Er s) : wpAny (model prog w) A (richCompare .NotEq (.ref x) b) Q Er s := by
  have Y := X₀.keeps F₀.keep
  have one : wpAny (model prog w) A (tryCompare (.ref x) "__ne__" b) (fun r s' => ∃ c, r = some (.bool c) ∧ Q (.bool c) s') Er s := by
    unfold tryCompare
    refine wpAny_bind (bound_ne Y J hne (call_ne hu Y J hm he hf (wpAny_mono h (fun v s' hv => ?_) fun _ _ z => z)))
    cases v with
    | bool c => exact wpAny_pure ⟨!c, rfl, hv⟩
    | _ => exact hv.elim
  unfold richCompare
  simp only [oneThing_ref]
  refine wpAny_holding (wpAny_bind (wpAny_cRoomFor (by omega) (wpAny_bind (J.type.here (wpAny_bind (hb.here ?_))))))
  have fin : ∀ (r : Option Value) (s' : Shared), (∃ c, r = some (.bool c) ∧ Q (.bool c) s') → ∃ c, r = some (.bool c) ∧ Q (.bool c) s' := fun _ _ z => z
  split
  · rename_i q
    have e : PySem.W.subIn K tb (.ref D) = some false := by
      rcases Bool.or_eq_true_iff.mp hn with e | e
      · rw [beq_iff_eq.mp e] at q; simp at q
      · exact beq_iff_eq.mp e
    refine wpAny_bind ((PySem.W.looks_subIn Y e).here ?_)
    simp only [Bool.false_eq_true, if_false]
    refine wpAny_bind (wpAny_mono one (fun r s' z => ?_) fun _ _ e => e)
    obtain ⟨v, rfl, hq⟩ := fin r s' z
    exact wpAny_pure hq
  · refine wpAny_bind (wpAny_pure ?_)
    simp only [Bool.false_eq_true, if_false]
    refine wpAny_bind (wpAny_mono one (fun r s' z => ?_) fun _ _ e => e)
    obtain ⟨v, rfl, hq⟩ := fin r s' z
    exact wpAny_pure hq
end
section
variable {X : Cx} {C g : Addr} {sp : Sp} {E : XK} {CXx : CXT} {n : Nat}
/-- o != y by an own __eq__, both of one class -/
def rNeOwn (C : Addr) (sp : Sp) (E : XK) : R2 := fun x y H Q => ∃ a dx fs b dy gs, x = .ref a ∧ H a = some (.ins C dx fs) ∧ y = .ref b ∧ H b = some (.ins C dy gs) ∧ sp [.ref a, .ref b] H (fun z H' => ∃ c, z = .bl c ∧ Q (.bl (!c)) H') E
theorem op_neOwn (hm : PySem.W.mroIn X.K C (.type "object") = some true) (hne : PySem.W.findIn X.K (.ref C) "__ne__" = some (some (.builtin "object.__ne__"))) (hs : PySem.W.findIn X.K (.ref C) "__eq__" = some (some (.ref g))) (hf : PySem.W.isFn X.K (.ref g) = true) (F : FnR X.prog X.w X.K X.mg X.base CXx n g sp) (hr : Room (n + 1) X.A) (hx : Passes CXx X E) :
    OpR X (compareOp .NotEq) (rNeOwn C sp E) := by
  intro pins s σ H x y v u Q I rx ry h
  obtain ⟨a, dx, fs, b, dy, gs, rfl, ha, rfl, hb, q⟩ := h
  obtain rfl : v = Value.ref a := rx
  obtain rfl : u = Value.ref b := ry
  obtain ⟨ox, od, J⟩ := inst_of I ha
  obtain ⟨ox', od', J'⟩ := inst_of I hb
  obtain ⟨m, hF⟩ := I.fr
  have run : codeAny (model X.prog X.w) X.A.in1 (.call (.ref g) ⟨[.ref a, .ref b], []⟩) (fun r s' => match r with | .ok (.ret v) => EP X pins σ (fun z H' => ∃ c, z = .bl c ∧ Q (.bl (!c)) H') v s' | .ok _ => False | .error e => X.xe e s') s := by
    refine codeAny_mono (F X.A.in1 X.stack s H [.ref a, .ref b] [.ref a, .ref b] _ E hr.in1 I.env0.in1 (.cons rfl (.cons rfl .nil)) q) fun r s' hq => ?_
    rcases r with e | (_ | _ | _ | u)
    · exact hx pins σ H s e s' I hq
    · exact hq.elim
    · exact hq.elim
    · exact hq.elim
    · exact I.after hq
  refine rich_ne hr.units hF I.ok.mod.kin J J'.type (by simp [PySem.W.notFirst]) hm hne hs hf (wpAny_mono (wpAny_call run) (fun w s' z => ?_) fun _ _ x => x)
  obtain ⟨z', H', I', rz, c, rfl, qz⟩ := z
  obtain rfl : w = Value.bool c := rz
  exact ⟨.bl (!c), H', I', rfl, qz⟩
end
end Kx

set_option maxHeartbeats 4000000
namespace Kx
open PySem PySem.Spec PyProof.Rows L2
/-- a def's promise that may speak of what runs around the call, and of the state at it -/
structure FnA (P : Program) (w : World) (K : PySem.W.Frag) (mg : Str → Option Value) (base : Heap) (CX : CXT) (k : Nat) (f : Addr) (fd : FuncData) (ps : List Str) (sp : Around → Shared → Sp) : Prop where
  len : ∀ A s vs H Q E, sp A s vs H Q E → vs.length = ps.length
  run : ∀ (A : Around) (outer : List Env) (s : Shared) (H : Hp) (args : Args) (us : List Value) (vs : List V) (Q : VK) (E : XK), Room k A → Env0 P w K mg base A outer s H → BindsTo s fd args (ps.zip us) → Vals vs us → sp A s vs H Q E →
    codeAny (model P w) A (.call (.ref f) args) (CR CX outer P w H s Q E) s
section
variable {P : Program} {w : World} {K : PySem.W.Frag} {mg : Str → Option Value} {base : Heap}
theorem okA {CX : CXT} {x qual : Str} {st : Stmt} {f : Addr} {fd : FuncData} {N ps : List Str} {k : Nat} {sp : Around → Shared → Sp} (F : Fun K x qual st f fd) (S : FnScope N ps (defScope st)) (len : ∀ A s vs H Q E, sp A s vs H Q E → vs.length = ps.length)
    (body : ∀ (cdv : Value) (A : Around) (outer : List Env) (s : Shared) (H : Hp) (vs : List V) (Q : VK) (E : XK), Room k (A.deeper (envOfC qual (defScope st) s.heap.objs.size f cdv)) → sp A s vs H Q E →
      ∃ t, PSs (cxOf CX P w K mg base N qual (defScope st) f cdv A outer s H E) (defBody st) t ∧ t { nx := fun _ H' => Q .non H', rt := Q } (start N vs) H) : FnA P w K mg base CX (k + 1) f fd ps sp := by
  obtain ⟨oc, od, kV, doc, pm, an, cdv, ct, osl, rfl, lk, hcd⟩ := F.ex
  refine ⟨len, fun A outer s H args us vs Q E hr e0 bind r h => ?_⟩
  have KX : K.In s.heap := e0.mod.kin.keeps fun b o e => (e0.bs b o e).1
  have noLim : s.heap.NoLimit := e0.mod.nolimit.keeps fun b o e => (e0.bs b o e).1
  have kinds : ∀ z ∈ ps.zip us, (defScope st).names.lookup z.1 = some .local ∨ ((defScope st).names.lookup z.1 = some .cell ∧ ((cellsFrom (s.heap.objs.size + 1) (defScope st).names []).lookup z.1).isSome = true) := fun ⟨n, v⟩ hz => by
    rcases S.par n (List.of_mem_zip hz).1 with q | q
    · exact .inl q
    · exact .inr ⟨q, PySem.W.cellsFrom_some _ _ _ (.inl q)⟩
  refine codeAny_call_function hr.depth (KX _ _ lk) rfl S.co S.gen rfl (PySem.W.codeRec_of KX hcd) (bind _ _ _ _ (wpAny_newFunctionEnv_cells S.kind kinds fun env he s1 z => ?_))
  subst he
  obtain ⟨t, ht, hq⟩ := body cdv A outer s H vs Q E (hr.deeper _) h
  refine ⟨noLim.keeps z.toInCall.keep, codeAny_func (wpAny_mono (ht.run [] s1 (start N vs) H _ (inv_start S hr.hd e0 (len _ _ _ _ _ _ h) r z) hq) (fun fl s' got => ?_) fun e s' got => got)⟩
  cases fl with
  | ret u => obtain ⟨v, σ', H', J, rv, q⟩ := got; exact ⟨v, H', J.os, J.bare, J.base, J.hok, rv, q⟩
  | next => obtain ⟨σ', H', J, q⟩ := got; exact ⟨V.non, H', J.os, J.bare, J.base, J.hok, rfl, q⟩
  | brk => obtain ⟨_, _, _, q⟩ := got; exact q.elim
  | cont => obtain ⟨_, _, _, q⟩ := got; exact q.elim
end
/-! iter of a tuple, and an own __iter__ that hands it back -/
/-- at it: an iterator over the tuple at t, at its beginning -/
def TitO (t it : Addr) : HO := .ext fun h => h.get? it = some { cls := .type "tuple_iterator", data := .fields #[.ref t, .int 0 0] }
theorem titO_ok {P : Program} {w : World} {H : Hp} {h : Heap} {t it : Addr} (e : h.get? it = some { cls := .type "tuple_iterator", data := .fields #[.ref t, .int 0 0] }) : ObjOk P w H h it (TitO t it) := ⟨e, ⟨_, e⟩, fun _ _ p k => k _ p⟩
section
variable {X : Cx}
def rIterT (K : PySem.W.Frag) (n : Nat) : List V → Hp → VK → Prop := fun xs H Q => ∃ (t : Addr) (zs : List V), xs = [.ref t] ∧ SqT K H t zs ∧ ∀ it, H it = none → n ≤ it → Q (.ref it) (upd H it (TitO t it))
theorem call_iterT : CallR X (.builtin "iter") (rIterT X.K X.s_0.heap.objs.size) := by
  intro pins s σ H xs us Q I r h
  obtain ⟨t, zs, rfl, hq, q⟩ := h
  rw [Vals.ref1 r]
  obtain ⟨its, rv, pl, hz⟩ := I.tuple hq
  refine Calls.call_function_entry (by decide +kernel) (by decide +kernel) PySem.W.kdk_entry_iter (PySem.W.kdk_args_iter _) ?_
  unfold Builtin.«iter»
  refine wpAny_bind (m := someArgs "iter" 1 2 _) (wpAny_of_eq (a := [Value.ref t]) (by first | rfl | kernel_rfl!) ?_)
  show wpAny _ _ (pyIter (.ref t) >>= _) _ _ _; refine wpAny_bind (wpAny_pyIter_tuple pl (wpAny_pure ⟨_, rfl, ?_⟩))
  exact ⟨.ref s.heap.objs.size, _, I.laid (t' := s.toks) (fun b u e => Heap.get?_push_of_some _ e) (Nat.le_refl _) (titO_ok (Heap.get?_push_size _ rfl)), rfl, q _ (I.hok.fresh (Nat.le_refl _)) I.sz⟩
/-- what an own __iter__ promises that hands back iter(t), t a tuple -/
def spIterT (K : PySem.W.Frag) (C : Addr) (T : List (Str × V) → Addr → List V → Prop) : Around → Shared → Sp := fun _ s vs H Q _ => ∃ (a dx : Addr) (fs : List (Str × V)), vs = [.ref a] ∧ H a = some (.ins C dx fs) ∧ ∃ t zs, T fs t zs ∧ SqT K H t zs ∧
  ∀ it, H it = none → s.heap.objs.size ≤ it → Q (.ref it) (upd H it (TitO t it))
/-- for x in o, o an instance with such an __iter__ -/
def iOwnT (K : PySem.W.Frag) (C : Addr) (T : List (Str × V) → Addr → List V → Prop) (te : TE) : TI := fun σ H R => te σ H fun x H1 => ∃ a dx fs t zs, x = .ref a ∧ H1 a = some (.ins C dx fs) ∧ T fs t zs ∧ SqT K H1 t zs ∧ R (Itt K t) H1
theorem pi_ownT {C g : Addr} {fd : FuncData} {n : Nat} {T : List (Str × V) → Addr → List V → Prop} {tg e : Expr} {te : TE} (hs : PySem.W.findIn X.K (.ref C) "__iter__" = some (some (.ref g))) (hf : PySem.W.isFn X.K (.ref g) = true) (F : FnA X.prog X.w X.K X.mg X.base CX0 n g fd ["self"] (spIterT X.K C T)) (hb : Binds X.K fd ["self"] []) (hr : Room n X.A) (he : PE X e te) :
    PI X tg e (iOwnT X.K C T te) := by
  refine ⟨fun pins s σ H R I h => thn (he.run pins s σ H _ I h) fun v s1 ⟨x, H1, I1, r1, q1⟩ => ?_⟩
  obtain ⟨a, dx, fs, t, zs, rfl, ha, hT, hq, q⟩ := q1
  obtain rfl : v = Value.ref a := r1
  obtain ⟨mA, J, _⟩ := ins_get I1.hok ha
  obtain ⟨od, J, _⟩ := J.look
  obtain ⟨m, hF⟩ := I1.fr
  refine PySem.W.owit_iter hF I1.ok.mod.kin J hs hf (wpAny_call (codeAny_mono (F.run X.A X.stack s1 H1 ⟨[.ref a], []⟩ [.ref a] [.ref a] (fun z H2 => ∃ it, z = .ref it ∧ H1 it = none ∧ s1.heap.objs.size ≤ it ∧ H2 = upd H1 it (TitO t it)) (fun _ _ _ => False) hr I1.env0
    (by have := hb s1 [.ref a] I1.kIn rfl; simpa using this) (.cons rfl .nil) ⟨a, dx, fs, rfl, ha, t, zs, hT, hq, fun it h1 h2 => ⟨it, rfl, h1, h2, rfl⟩⟩) fun r s2 got => ?_))
  rcases r with e | (_ | _ | _ | u)
  · exact got.elim
  · exact got.elim
  · exact got.elim
  · exact got.elim
  · obtain ⟨z, H2, I2, rz, it, rfl, h1, h2, rfl⟩ := I1.after got
    obtain rfl : u = Value.ref it := rz
    have at_ : s2.heap.get? it = some { cls := .type "tuple_iterator", data := .fields #[.ref t, .int 0 0] } := (I2.hok it _ upd_same).1
    have I3 : Inv X pins σ H1 s2 := by
      have z := ItX.inv_drop I2 (φ := _) upd_same
      rw [ItX.dropH_upd h1] at z
      exact z
    refine wpAny_bind (wpAny_typeOf (T := "tuple_iterator") ⟨_, at_, rfl⟩ (wpAny_of_eq PySem.F.slot_tuple_iterator_next.lookup ?_))
    exact ⟨it, [it], _, _, H1, rfl, I3, turn_tuple t it, ⟨_, at_, rfl, rfl⟩, (fun b hb => by
      have e : b = it := by simpa using hb
      rw [e]
      exact I1.fpOk h2 h1), q⟩
end
end Kx

set_option maxHeartbeats 4000000
/-! list(o), o of an own class with __len__ and an __iter__ that hands back iter(t) -/
namespace Kx
open PySem PySem.Spec PyProof.Rows L2
section
variable {X : Cx} {pins : List (Addr × Obj)} {σ : L2.St} {H : Hp} {s : Shared} {A1 : Around} {n : Nat} {C gi gl a : Addr} {fdI : FuncData} {sp : Sp}
theorem env_in (I : Inv X pins σ H s) (hf : A1.frames = X.A.frames) : Env0 X.prog X.w X.K X.mg X.base A1 X.stack s H := by
  have e := I.env0
  exact ⟨by rw [hf]; exact e.frames, e.mod, e.bs, e.bsz, e.funs, e.frf, e.hok, e.bare⟩
theorem len_hintL {Q : Bool → Shared → Prop} {E : Value → Shared → Prop} {dx : Addr} {fs : List (Str × V)} (sb : Sub X (n + 1) A1) (hs : PySem.W.findIn X.K (.ref C) "__len__" = some (some (.ref gl))) (hf : PySem.W.isFn X.K (.ref gl) = true) (F : FnR X.prog X.w X.K X.mg X.base CX0 n gl sp)
    (I : Inv X pins σ H s) (ha : H a = some (.ins C dx fs)) (q : sp [.ref a] H (fun z H' => (∃ k : Int, z = .int k ∧ 0 ≤ k ∧ k ≤ 1000) ∧ H' = H) (fun _ _ _ => False)) (h : ∀ b s', Inv X pins σ H s' → Q b s') :
    wpAny (model X.prog X.w) A1 (Builtin.List.listLengthHint (.ref a)) Q E s := by
  obtain ⟨ox, od, J⟩ := inst_of I ha
  obtain ⟨m, hF⟩ := I.fr
  unfold Builtin.List.listLengthHint
  refine wpAny_bind (wpAny_bind (J.type.here ((PySem.W.looks_findIn I.kIn hs).here ?_)))
  refine PySem.W.KFB.if_not rfl ?_
  refine PySem.W.KFB.if_so rfl ?_
  refine wpAny_bind (wpAny_rule ?_)
  refine wpAny_bind (wpAny_attempt ?_)
  refine PySem.W.len_K hF I.ok.mod.kin J hs hf (wpAny_mono (wpAny_call (codeAny_mono (F A1.in1 X.stack s H [.ref a] [.ref a] _ _ sb.in1.room (env_in I sb.in1.fr) (.cons rfl .nil) q) fun r s' hq => ?_) ) (fun w s' z => z) fun _ _ x => x)
  rcases r with e | (_ | _ | _ | u)
  · exact hq.elim
  · exact hq.elim
  · exact hq.elim
  · exact hq.elim
  · obtain ⟨z, H', I', rz, ⟨k, rfl, k0, k1⟩, rfl⟩ := I.after hq
    obtain ⟨t, rfl⟩ := (show ∃ t, u = Value.int k t from rz)
    refine ⟨⟨k0, by omega⟩, ?_⟩
    refine wpAny_bind (m := asInt? _) (wpAny_pure ?_)
    have hk : Builtin.List.listTooLong k.toNat = false := notLongL (by rw [sizeLine_eq]; omega)
    refine PySem.W.KFB.if_not hk ?_
    exact wpAny_pure (h _ _ (I'.tok _))
theorem tit_loop {t it q : Addr} {zs : List V} {Rs : Result → Shared → Prop} (hh : A1.in1.handled = none) (hz : zs.length ≤ 1000) (hdone : ∀ s', Inv X pins σ (upd H q (.lst zs)) s' → Rs (.ok (.ret .none)) s') :
    ∀ (k i : Nat) (H1 : Hp) (s : Shared), i + k = zs.length → Inv X pins σ H1 s → upd H1 q (.lst zs) = upd H q (.lst zs) → H1 q = some (.lst (zs.take i)) → H1 t = some (.tup zs) → FpOk X pins H1 it → s.heap.IsTupleIter it t i →
      codeAny (model X.prog X.w) A1 (.builtin "list.extend.loop" ⟨[.ref q, .ref it, .none], []⟩) Rs s := by
  intro k
  induction k with
  | zero =>
    intro i H1 s hi I hH hq ht fp st
    refine codeAny_builtin PySem.F.entry_extend_loop ?_
    rw [Around.under_plainId PySem.F.plain_extend_loop _]
    show wpAny _ A1.in1 (pyNext (.ref it) >>= _) _ _ s
    obtain ⟨its, rv, p, hz'⟩ := I.tuple (SqT.of ht)
    obtain ⟨f0, f1, f2, f3, f4, f5⟩ := fp
    have hl := rv.length
    refine wpAny_bind (wpAny_pyNext_tuple_end hh st (show s.heap.IsTuple t its.toArray from p) (by simp; omega) fun h' eb => ?_)
    have I1 : Inv X pins σ H1 { s with heap := h' } := I.turned (t' := s.toks) (fun b o hb e => eb b o hb e) f0 f1 f3 f4 f5
    refine wpAny_pure (hdone _ ?_)
    have e1 : zs.take i = zs := List.take_of_length_le (by omega)
    rw [e1] at hq
    have e2 : upd H1 q (.lst zs) = H1 := by
      funext b
      by_cases hb : b = q
      · rw [hb, upd_same, hq]
      · rw [upd_ne hb]
    rw [← hH, e2]
    exact I1
  | succ k ih =>
    intro i H1 s hi I hH hq ht fp st
    refine codeAny_builtin PySem.F.entry_extend_loop ?_
    rw [Around.under_plainId PySem.F.plain_extend_loop _]
    show wpAny _ A1.in1 (pyNext (.ref it) >>= _) _ _ s
    obtain ⟨its, rv, p, hz'⟩ := I.tuple (SqT.of ht)
    have hl := rv.length
    have hx : zs[i]? = some (zs[i]'(by omega)) := List.getElem?_eq_getElem (by omega)
    obtain ⟨u, hu, ru⟩ := rv.get hx
    obtain ⟨f0, f1, f2, f3, f4, f5⟩ := id fp
    refine wpAny_bind (wpAny_pyNext_tuple_item st (show s.heap.IsTuple t its.toArray from p) (x := u) (by simpa using hu) fun h' st' sb => ?_)
    have I1 : Inv X pins σ H1 { s with heap := h' } := I.turned (t' := s.toks) (fun b o hb e => (sb.2 b hb).trans e) f0 f1 f3 f4 f5
    have nq : q ≠ it := fun z => by rw [z, f0] at hq; cases hq
    have nt : t ≠ q := fun z => by rw [z, hq] at ht; cases ht
    show wpAny _ A1.in1 (updateSeq q (·.push u) >>= _) _ _ _
    obtain ⟨z, its', k', r2, hl2, e⟩ := I1.lstM hq
    have lt : (zs.take i).length ≤ 1000 := by rw [List.length_take]; omega
    have e1 : zs.take (i + 1) = zs.take i ++ [zs[i]'(by omega)] := take_succ_of hx
    refine wpAny_bind (wpAny_updateSeq e rfl (wpAny_pure ⟨plainId_quiet PySem.F.plain_extend_loop _, ?_⟩) (by rw [List.size_toArray, sizeLine_eq]; omega) (by show (its'.toArray.push u).size ≤ sizeLine + 1; rw [Array.size_push, List.size_toArray, sizeLine_eq]; omega))
    refine ih (i + 1) (upd H1 q (.lst (zs.take (i + 1)))) _ (by omega) (by
      rw [e1]
      exact I1.lset (its' := its' ++ [u]) (t' := s.toks) hq e (by simp) (r2.append (.cons ru .nil)) (by rw [List.length_append, List.length_singleton, sizeLine_eq]; omega)) (by rw [upd_upd]; exact hH) upd_same (by rw [upd_ne nt]; exact ht) ⟨by rw [upd_ne nq.symm]; exact f0, f1, f2, f3, f4, f5⟩ ?_
    exact st'.at fun o e => (Heap.get?_update_other _ _ nq).trans e
theorem own_extendT {T : List (Str × V) → Addr → List V → Prop} {spL : Sp} {Rs : Result → Shared → Prop} {t q dx : Addr} {zs : List V} {fs : List (Str × V)} (sb : Sub X (n + 1) A1.in1) (hh : A1.in1.handled = none) (hi : PySem.W.findIn X.K (.ref C) "__iter__" = some (some (.ref gi))) (hiF : PySem.W.isFn X.K (.ref gi) = true) (FI : FnA X.prog X.w X.K X.mg X.base CX0 n gi fdI ["self"] (spIterT X.K C T)) (bI : Binds X.K fdI ["self"] [])
    (hl : PySem.W.findIn X.K (.ref C) "__len__" = some (some (.ref gl))) (hlF : PySem.W.isFn X.K (.ref gl) = true) (FL : FnR X.prog X.w X.K X.mg X.base CX0 n gl spL) (I : Inv X pins σ H s) (ha : H a = some (.ins C dx fs)) (hT : T fs t zs) (ht : H t = some (.tup zs)) (hzs : zs.length ≤ 1000) (hq : H q = some (.lst []))
    (hL : ∀ H', Same H H' → spL [.ref a] H' (fun z H2 => (∃ k : Int, z = .int k ∧ 0 ≤ k ∧ k ≤ 1000) ∧ H2 = H') (fun _ _ _ => False)) (hdone : ∀ s', Inv X pins σ (upd H q (.lst zs)) s' → Rs (.ok (.ret .none)) s') :
    wpAny (model X.prog X.w) A1.in1 (Builtin.List.listExtendWith (.ref q) (.ref a) .none)
      (fun fin s' => match fin with | .done f => Rs (.ok f) s' | .again c' => c'.quiet = true ∧ codeAny (model X.prog X.w) A1 c' Rs s') (fun e s' => Rs (.error e) s') s := by
  have hne : q ≠ a := ne_of hq ha (fun z => nomatch z)
  obtain ⟨mA, J, _⟩ := ins_get I.hok ha
  obtain ⟨od, J, _⟩ := J.look
  obtain ⟨m0, hF⟩ := I.fr
  unfold Builtin.List.listExtendWith
  refine wpAny_bind (J.type.here ?_)
  have h1 : Builtin.List.listSameRef (.ref q) (.ref a) = false := by simp [Builtin.List.listSameRef, hne]
  have h2 : (Value.ref C == Value.type "list") = false := rfl
  have h3 : (Value.ref C == Value.type "tuple") = false := rfl
  simp only [h1, h2, h3, Bool.or_false, Bool.false_eq_true, if_false]
  refine wpAny_bind (PySem.W.owit_iter hF I.ok.mod.kin J hi hiF (wpAny_call (codeAny_mono (FI.run A1.in1 X.stack s H ⟨[.ref a], []⟩ [.ref a] [.ref a] (fun z H2 => ∃ it, z = .ref it ∧ H it = none ∧ s.heap.objs.size ≤ it ∧ H2 = upd H it (TitO t it)) (fun _ _ _ => False) (sb.room.mono (by omega)) (env_in I sb.fr)
    (by have := bI s [.ref a] I.kIn rfl; simpa using this) (.cons rfl .nil) ⟨a, dx, fs, rfl, ha, t, zs, hT, SqT.of ht, fun it h1 h2 => ⟨it, rfl, h1, h2, rfl⟩⟩) fun r s2 got => ?_)))
  rcases r with e | (_ | _ | _ | u)
  · exact got.elim
  · exact got.elim
  · exact got.elim
  · exact got.elim
  obtain ⟨z, H2, I2, rz, it, rfl, g1, g2, rfl⟩ := I.after got
  obtain rfl : u = Value.ref it := rz
  have at_ : s2.heap.get? it = some { cls := .type "tuple_iterator", data := .fields #[.ref t, .int 0 0] } := (I2.hok it _ upd_same).1
  refine wpAny_bind (wpAny_typeOf (T := "tuple_iterator") ⟨_, at_, rfl⟩ (wpAny_of_eq PySem.F.slot_tuple_iterator_next.lookup ?_))
  have s0 : Same H (upd H it (TitO t it)) := sameUpd (Same.refl _) g1
  refine wpAny_bind (wpAny_holding (len_hintL sb hl hlF FL I2 (s0 _ _ ha) (hL _ s0) fun b s3 I3 => ?_))
  have at3 : s3.heap.get? it = some { cls := .type "tuple_iterator", data := .fields #[.ref t, .int 0 0] } := (I3.hok it _ upd_same).1
  have fp : FpOk X pins H it := I.fpOk g2 g1
  have I4 : Inv X pins σ H s3 := by
    have z := ItX.inv_drop I3 (φ := _) upd_same
    rw [ItX.dropH_upd g1] at z
    exact z
  have hz0 : zs.take 0 = [] := rfl
  refine wpAny_ite_split (fun _ => ?_) (fun _ => wpAny_pure ⟨plainId_quiet PySem.F.plain_extend_loop _, tit_loop hh hzs hdone zs.length 0 H s3 (by omega) I4 rfl (by rw [hz0]; exact hq) ht fp ⟨_, at3, rfl, rfl⟩⟩)
  refine wpAny_bind (wpAny_rule ?_)
  refine wpAny_bind ?_
  obtain ⟨z, its, k, r3, hl3, e3⟩ := I4.lstM hq
  cases r3
  show wpAny _ _ (updateSeq q (·.push .none) >>= fun _ => updateSeq q (·.pop)) _ _ _
  refine wpAny_bind (wpAny_updateSeq e3 rfl ?_)
  have I5 := I4.lset (f := (·.push Value.none)) (its' := [Value.none]) (ys := [.non]) (t' := s3.toks) hq e3 (by simp) (.cons rfl .nil) (by rw [List.length_singleton, sizeLine_eq]; decide)
  obtain ⟨z4, its4, k4, r4, hl4, e4⟩ := I5.lstM upd_same
  obtain ⟨u4, rfl, ru4⟩ := r4.one
  refine wpAny_updateSeq e4 rfl ?_ (by show 1 ≤ sizeLine; rw [sizeLine_eq]; decide) (by show 0 ≤ sizeLine + 1; exact Nat.zero_le _)
  have nq : q ≠ it := fun z => by rw [z, g1] at hq; cases hq
  refine wpAny_pure ⟨plainId_quiet PySem.F.plain_extend_loop _, tit_loop hh hzs hdone zs.length 0 H _ (by omega) ?_ rfl (by rw [hz0]; exact hq) ht fp ?_⟩
  · have I6 := I5.lset (f := (·.pop)) (its := [u4]) (its' := []) (ys := []) (t' := s3.toks) upd_same e4 (by rfl) .nil (Nat.zero_le _)
    rw [upd_upd] at I6
    have hH : upd H q (.lst []) = H := by
      funext b
      by_cases hb : b = q
      · rw [hb, upd_same, hq]
      · rw [upd_ne hb]
    rw [hH] at I6
    exact I6
  · exact ⟨_, (Heap.get?_update_other _ _ nq).trans ((Heap.get?_update_other _ _ nq).trans at3), rfl, rfl⟩
/-- list(o) -/
def rListT (C : Addr) (T : List (Str × V) → Addr → List V → Prop) (spL : Sp) : List V → Hp → VK → Prop := fun xs H Q => ∃ (a dx : Addr) (fs : List (Str × V)) (t : Addr) (zs : List V), xs = [.ref a] ∧ H a = some (.ins C dx fs) ∧ T fs t zs ∧ H t = some (.tup zs) ∧ zs.length ≤ 1000 ∧
  (∀ H', Same H H' → spL [.ref a] H' (fun z H2 => (∃ k : Int, z = .int k ∧ 0 ≤ k ∧ k ≤ 1000) ∧ H2 = H') (fun _ _ _ => False)) ∧ ∀ q, H q = none → Q (.ref q) (upd H q (.lst zs))
theorem call_listOwnT {T : List (Str × V) → Addr → List V → Prop} {spL : Sp} (hc : X.calm = true) (hi : PySem.W.findIn X.K (.ref C) "__iter__" = some (some (.ref gi))) (hiF : PySem.W.isFn X.K (.ref gi) = true) (FI : FnA X.prog X.w X.K X.mg X.base CX0 n gi fdI ["self"] (spIterT X.K C T)) (bI : Binds X.K fdI ["self"] [])
    (hl : PySem.W.findIn X.K (.ref C) "__len__" = some (some (.ref gl))) (hlF : PySem.W.isFn X.K (.ref gl) = true) (FL : FnR X.prog X.w X.K X.mg X.base CX0 n gl spL) (hr : Room (n + 3) X.A) : CallR X (.type "list") (rListT C T spL) := by
  intro pins s σ H xs us Q I rv h
  obtain ⟨a, dx, fs, t, zs, rfl, ha, hT, ht, hzs, hL, hq⟩ := h
  obtain ⟨u, rfl, ru⟩ := rv.one
  cases ru
  have sb : Sub X (n + 1) X.A.in1.in1 := (Sub.in1 (Sub.in1 (⟨hr, rfl⟩ : Sub X (n + 3) X.A)))
  refine callType_codes (Q₁ := fun obj s₁ => obj = .ref s.heap.objs.size ∧ s₁ = { s with heap := s.heap.push { cls := .type "list", data := .seq #[] } }) PySem.F.called_list (PySem.F.typeCall_list_1 _) PySem.F.entry_list_init
    (code_list_new _ ⟨rfl, rfl⟩) fun obj s₁ h₁ => ?_
  obtain ⟨rfl, rfl⟩ := h₁
  have hS : (s.heap.push { cls := .type "list", data := .seq #[] }).get? s.heap.objs.size = some { cls := .type "list", data := .seq #[] } := Heap.get?_push_size _ rfl
  refine ⟨⟨_, hS, rfl⟩, PySem.F.args_list_init_2 _ _, ?_⟩
  have fr : H s.heap.objs.size = none := I.hok.fresh (Nat.le_refl _)
  have hq := hq _ fr
  have I1 : Inv X pins σ (upd H s.heap.objs.size (.lst [])) { s with heap := s.heap.push { cls := .type "list", data := .seq #[] } } := I.lnew (its := []) (t' := s.toks) .nil (Nat.zero_le _)
  show wpAny _ _ (do let old ← Builtin.List.listItems (.ref s.heap.objs.size); Builtin.List.listUpdate (.ref s.heap.objs.size) (fun _ => #[]); letGo old.toList.reverse; Builtin.List.listExtendWith (.ref s.heap.objs.size) (.ref a) .none) _ _ _
  refine wpAny_bind ?_
  unfold Builtin.List.listItems
  refine wpAny_bind (wpAny_seqItems hS rfl (wpAny_pure ?_))
  show wpAny _ _ (updateSeq s.heap.objs.size (fun _ => #[]) >>= fun _ => letGo (#[] : Array Value).toList.reverse >>= fun _ => Builtin.List.listExtendWith (.ref s.heap.objs.size) (.ref a) .none) _ _ _
  refine wpAny_bind (wpAny_updateSeq hS rfl ?_)
  have I2 := I1.lset (f := fun _ => #[]) (its := []) (its' := []) (ys := []) (t' := s.toks) upd_same hS rfl .nil (Nat.zero_le _)
  rw [upd_upd] at I2
  refine wpAny_bind (wpAny_letGo ?_)
  generalize s.heap.objs.size = q at *
  have nqa : a ≠ q := ne_of_none ha fr
  have nqt : t ≠ q := ne_of_none ht fr
  have ha2 : upd H q (.lst []) a = some (.ins C dx fs) := by rw [upd_ne nqa]; exact ha
  have ht2 : upd H q (.lst []) t = some (.tup zs) := by rw [upd_ne nqt]; exact ht
  have hq2 : upd H q (.lst []) q = some (.lst []) := upd_same
  have hL2 := fun H' (z : Same (upd H q (.lst [])) H') => hL H' ((sameUpd (Same.refl _) fr).trans z)
  have fin0 : upd (upd H q (.lst [])) q (.lst zs) = upd H q (.lst zs) := upd_upd
  generalize hG : upd H q (.lst []) = G at *
  have hd0 : X.A.in1.in1.handled = none := I.ok.hd hc
  exact own_extendT (A1 := X.A.in1) (Rs := wants (fun r s₂ => r = .none ∧ EP X pins σ Q (.ref q) s₂) X.xe) sb hd0 hi hiF FI bI hl hlF FL I2 ha2 hT ht2 hzs hq2 hL2 fun s' I' => ⟨rfl, .ref q, _, I', rfl, by rw [fin0]; exact hq⟩
end
end Kx

set_option maxHeartbeats 4000000
namespace Kx
open PySem L2
theorem call_isiX {X : Cx} {K : PySem.W.Frag} (h : X.K = K) : CallR X (.builtin "isinstance") (rIsi K) := by
  subst h
  exact call_isi
def spIsL (C : Addr) : Sp := fun vs H Q _ => ∃ (x l : Addr) (a b : Int) (xs : List V) (ls : List Pr), vs = [.ref x, .int a, .int b, .ref l] ∧ LkAt C H x a b (srt ls) ∧ H l = some (.lst xs) ∧ PL H xs ls ∧ ∀ H', Same H H' → Q (.bl true) H'
/-- where the links stand -/
def LinksOf (fs : List (Str × V)) (t : Addr) (_ : List V) : Prop := fs.lookup ("links" : Str) = some (.ref t)
theorem rawE {P : Program} {w : World} {K : PySem.W.Frag} {mg : Str → Option Value} {base : Heap} {g : Addr} {fd : FuncData} {sp : Sp} {ps : List Str} {k : Nat} (G : FnOk P w K mg base CX0 k g fd ps sp) (b : Binds K fd ps []) : FnR P w K mg base CX0 k g sp := (G.raw b .nil).imp fun vs H Q E h => by rw [List.append_nil]; exact h
section
variable {P : Program} {w : World} {K : PySem.W.Frag} {mg : Str → Option Value} {base : Heap}
theorem scLIter : FnScope ["self"] ["self"] (defScope sLikeness_iter) := ⟨rfl, rfl, rfl, by decide +kernel, rfl, by decide +kernel, by decide +kernel⟩
theorem ok_liter {f C : Addr} {fd : FuncData} (F : Fun K "__iter__" "Likeness.__iter__" sLikeness_iter f fd) (mI : mg "iter" = none) (LX : LC K C) : FnA P w K mg base CX0 1 f fd ["self"] (spIterT K C LinksOf) := by
  refine okA F scLIter (fun A s vs H Q E h => ?_) (fun cdv A outer s H vs Q E hr h => ?_)
  · obtain ⟨a, dx, fs, rfl, _⟩ := h
    rfl
  · obtain ⟨a, dx, fs, rfl, h1, t, zs, hT, hq, k⟩ := h
    refine ⟨_, pss_one (ps_ret (pe_callB call_iterT (by rfl) mI (by decide +kernel) (pa_cons (pe_fld (pv 0) rfl) pa_nil))), ?_⟩
    refine ⟨_, rfl, a, C, dx, fs, _, rfl, h1, LX.cl, LX.nL, hT, t, zs, rfl, hq, fun it e1 e2 => k it e1 e2⟩
abbrev nIsL : List Str := ["_law_likeness", "_law_first", "_law_second", "_law_links_here", "_law_due", "_law_is_full", "_law_link"]
theorem scIsL : FnScope nIsL ["_law_likeness", "_law_first", "_law_second", "_law_links_here"] (defScope sLIsLikeness) := ⟨rfl, rfl, rfl, by decide +kernel, rfl, by decide +kernel, by decide +kernel⟩
theorem ok_isl {f C gT gL pF gF : Addr} {fd dT dL dF : FuncData} (F : Fun K "_law_is_likeness" "_law_is_likeness" sLIsLikeness f fd) (m : mg "_law_is_likeness" = some (.ref f)) (T : Bl mg) (B : Bm mg) (M : Ml mg) (mA : mg "all" = none) (LX : LC K C) (mK : mg "Likeness" = some (.ref C))
    (MI : Meth K C "__iter__" gT) (GI : FnA P w K mg base CX0 1 gT dT ["self"] (spIterT K C LinksOf)) (bI : Binds K dT ["self"] []) (ML : Meth K C "__len__" gL) (GL : FnOk P w K mg base CX0 1 gL dL ["self"] (spLLen C)) (bL : Binds K dL ["self"] [])
    (PF : PropOf K C "is_full" pF gF) (GF : FnOk P w K mg base CX0 1 gF dF ["self"] (spFull C)) (bF : Binds K dF ["self"] [])
    (W : HasF P w K mg base "_law_is_whole" 1 ["_law_thing", "_law_due"] spLIsW) : HasF P w K mg base "_law_is_likeness" 5 ["_law_likeness", "_law_first", "_law_second", "_law_links_here"] (spIsL C) := by
  refine ⟨f, fd, ?_, m, F.kp, F.binds fun _ _ _ _ _ _ us hl => match us, hl with | [_, _, _, _], _ => rfl⟩
  obtain ⟨f1, fd1, W⟩ := W
  refine F.ok scIsL (fun vs H Q E h => ?_) (fun cdv A outer s H vs Q E hr h => ?_)
  · obtain ⟨x, l, a, b, xs, ls, rfl, _⟩ := h
    rfl
  · obtain ⟨x, l, a, b, xs, ls, rfl, hx, hl, pl, k⟩ := h
    have hr2 : Room 2 _ := hr.mono (by decide)
    have hr1 : Room 1 _ := hr.mono (by decide)
    refine ⟨_, (pss_cons (ps_if (PW.pt (pw_or (pt_not (pt_val (pe_callB call_isi (by rfl) B.isinstance (by decide +kernel) (pa_cons (pv 0) (pa_cons (pe_glob (v := .ref C) rfl mK rfl) pa_nil))))) (pw_or1 (pt_not (pt_val (pe_callB call_isi (by rfl) B.isinstance (by decide +kernel) (pa_cons (pe_fld (pv 0) rfl) (pa_cons (pe_bltn (v := .ty "tuple") (by rfl) B.tuple (by decide +kernel) rfl) pa_nil)))))))) (pss_one (ps_ret pe_bl)) pss_nil)
    (C8.pss_cut (ps_set (i := 4) scIsL.nd rfl (Or.inl rfl) (pe_callB cr_sortedPO (by rfl) M.sorted (by decide +kernel) (pa_cons (pv 3) pa_nil)))
    (C8.pss_cut (ps_if (PW.pt (pw_or (pt_cmpR (op_neD hr.units) (pe_callTy call_list_of (by rfl) B.list (by decide +kernel) (pa_cons (pe_fld (pv 0) rfl) pa_nil)) (pv 4) (nomark _)) (pw_or (pt_cmpR (op_neD hr.units) (pe_callTy (call_listOwnT (T := LinksOf) rfl MI.at_ MI.fn GI bI ML.at_ ML.fn (rawE GL bL) hr) (by rfl) B.list (by decide +kernel) (pa_cons (pv 0) pa_nil)) (pv 4) (nomark _)) (pw_or1 (pt_cmpR op_ne (pe_callB (call_lenOwn ML.at_ ML.fn (rawE GL bL) hr2 pass0) (by rfl) T.len PySem.boot_len (pa_cons (pv 0) pa_nil)) (pe_callB call_len_seq (by rfl) T.len PySem.boot_len (pa_cons (pv 4) pa_nil)) (nomark _)))))) (pss_one (ps_ret pe_bl)) pss_nil)
    (C8.pss_cut (ps_if (pt_not (pt_val (pe_callB (cr_all rfl) (by rfl) mA (by decide +kernel) (pa_cons (pe_lc (own := [("_law_link", 6)]) (g := gName 6) (tt := tYes) (by rfl) scIsL.nd (pi_tup (pe_fld (pv 0) rfl)) (blkOk_by (own := [("_law_link", 6)]) (N := nIsL) (sc := defScope sLIsLikeness) (by decide +kernel)) (fun _ _ _ _ _ => pg_name (i := 6) scIsL.nd rfl (.inl rfl)) (fun _ _ _ _ _ => pts_nil) (fun _ _ _ _ _ => (pe_callB (call_isiX (K := K) rfl) (by rfl) B.isinstance (by decide +kernel) (pa_cons (pv 6) (pa_cons (pe_bltn (v := .ty "tuple") (by rfl) B.tuple (by decide +kernel) rfl) pa_nil))))) pa_nil)))) (pss_one (ps_ret pe_bl)) pss_nil)
    (pss_cons (ps_if (PW.pt (pw_or (pt_not (pt_val (pe_call W.G hr1 (by rfl) W.m W.kp W.b .nil pass0 (pa_cons (pe_fld (pv 0) rfl) (pa_cons (pv 1) pa_nil))))) (pw_or1 (pt_not (pt_val (pe_call W.G hr1 (by rfl) W.m W.kp W.b .nil pass0 (pa_cons (pe_fld (pv 0) rfl) (pa_cons (pv 2) pa_nil)))))))) (pss_one (ps_ret pe_bl)) pss_nil)
    (C8.pss_cut (ps_set (i := 5) scIsL.nd rfl (Or.inl rfl) (pe_and (pe_cmpR op_eq (pe_callB call_len_seq (by rfl) T.len PySem.boot_len (pa_cons (pv 4) pa_nil)) (pv 1) (nomark _)) (pe_one (pe_cmpR op_eq (pe_callB call_len_seq (by rfl) T.len PySem.boot_len (pa_cons (pv 4) pa_nil)) (pv 2) (nomark _)))))
    (pss_one (ps_ret (pe_ifExp (pt_val (pv 5)) (pe_cmpR op_isBl (pe_prop (pv 0) LX.cl PF GF hr2 bF .nil pass0 (by rfl)) pe_bl (nomark _)) (pe_cmpR op_isBl (pe_prop (pv 0) LX.cl PF GF hr2 bF .nil pass0 (by rfl)) pe_bl (nomark _))))))))))), ?_⟩
    obtain ⟨dx, L, ys, h1, h2, h3⟩ := hx.ob
    have kt : PySem.W.kitOne K (.type "tuple") (.type "tuple") = some true := kit_self
    have yl := h3.len
    have few := hx.lk.few hx.sz
    refine ⟨_, rfl, _, _, _, _, _, rfl, .own C, LX.ty h1, kit_self, _, rfl, iteF ?_⟩
    refine ⟨_, rfl, x, C, dx, _, _, rfl, h1, LX.cl, LX.nL, lFs_links _ _ _, _, _, _, _, _, rfl, .ty _, .base (.tup h2), kt, _, rfl, iteF ?_⟩
    refine ⟨fun σ H1 => ∃ (p : Addr) (ws : List V), σ = [some (.ref x), some (.int a), some (.int b), some (.ref l), some (.ref p), none, none] ∧ Same H H1 ∧ H1 p = some (.lst ws) ∧ PL H1 ws (srt ls), ?_, ?_⟩
    · refine ⟨_, rfl, l, xs, PL.kOf H, rfl, SqL.of hl, pl.all, fun ws p srtd stb hp => ?_⟩
      exact ⟨p, ws, rfl, sameUpd (Same.refl _) hp, upd_same, (pl.sorted srtd stb).keep (sameUpd (Same.refl _) hp)⟩
    rintro σ H1 ⟨p, ws, rfl, s1, hp, pw⟩
    have wl := pw.len
    refine ⟨fun σ H2 => σ = [some (.ref x), some (.int a), some (.int b), some (.ref l), some (.ref p), none, none] ∧ Same H1 H2, ?_, ?_⟩
    · refine ⟨_, rfl, x, C, dx, _, _, rfl, s1 _ _ h1, LX.cl, LX.nL, lFs_links _ _ _, L, _, rfl, .inr (SqT.of (s1 _ _ h2)), fun n hn => ?_⟩
      have s2 : Same H1 (upd H1 n (.lst ys)) := sameUpd (Same.refl _) hn
      have s12 := s1.trans s2
      refine ⟨_, rfl, _, _, .lst (SqL.of upd_same) (h3.keep s12).dp, .lst (SqL.of (s2 _ _ hp)) (pw.keep s2).dp, shaped_pdL _, shaped_pdL _, _, rfl, ?_⟩
      rw [show PyData.eqv (.list ((srt ls).map pdI)) (.list ((srt ls).map pdI)) = decide (srt ls = srt ls) from eqv_pdI _ _, decide_eq_true rfl]
      refine iteF ?_
      refine ⟨_, rfl, x, dx, _, L, ys, rfl, s12 _ _ h1, lFs_links _ _ _, s12 _ _ h2, by omega, fun H' sH => ?_, fun n2 hn2 => ?_⟩
      · exact ⟨x, a, b, srt ls, rfl, (hx.keep s12).keep sH, ⟨_, rfl, by omega, by omega⟩, rfl⟩
      have s3 := s2.trans (sameUpd (o := .lst ys) (Same.refl _) hn2)
      have s13 := s1.trans s3
      refine ⟨_, rfl, _, _, .lst (SqL.of upd_same) (h3.keep s13).dp, .lst (SqL.of (s3 _ _ hp)) (pw.keep s3).dp, shaped_pdL _, shaped_pdL _, _, rfl, ?_⟩
      rw [show PyData.eqv (.list ((srt ls).map pdI)) (.list ((srt ls).map pdI)) = decide (srt ls = srt ls) from eqv_pdI _ _, decide_eq_true rfl]
      refine iteF ?_
      refine ⟨_, rfl, x, dx, _, rfl, s13 _ _ h1, x, a, b, srt ls, rfl, hx.keep s13, ((srt ls).length : Nat), rfl, by omega, by omega, ?_⟩
      refine ⟨_, rfl, p, _, rfl, .inl (SqL.of (s3 _ _ hp)), ?_⟩
      rw [wl]
      refine ⟨rfl, _, rfl, ?_⟩
      rw [show (!decide (V.int ((srt ls).length : Nat) = V.int ((srt ls).length : Nat))) = false by simp]
      exact iteF ⟨rfl, s3⟩
    rintro σ H2 ⟨rfl, s2⟩
    have s12 := s1.trans s2
    refine ⟨fun σ H3 => σ = [some (.ref x), some (.int a), some (.int b), some (.ref l), some (.ref p), none, none] ∧ Same H1 H3, ?_, ?_⟩
    · refine ⟨_, rfl, x, C, dx, _, _, rfl, s12 _ _ h1, LX.cl, LX.nL, lFs_links _ _ _, L, rfl, ⟨_, SqT.of (s12 _ _ h2)⟩, fun D hD => ?_⟩
      refine lc_tup (K := K) (a := L) (xs := ys) (fun i H3 => Same H2 H3 ∧ H3 D = some (.lst ((List.replicate i true).map V.bl))) ⟨sameUpd (Same.refl _) hD, upd_same⟩ (fun i H3 _ w => SqT.of (w.1 _ _ (s12 _ _ h2))) ?_ ?_
      · rintro i y H3 hi ⟨s3, hz⟩
        obtain ⟨t, q, rfl, hq, ht⟩ := ((h3.keep s12).keep s3).at_ hi
        have lti : i < (srt ls).length := (List.getElem?_eq_some_iff.mp hq).1
        refine ⟨rfl, ?_⟩
        refine ⟨_, rfl, _, _, _, _, _, rfl, .ty _, .base (.tup ht), kt, ?_⟩
        refine ⟨_, hz, small1000 (by simp; omega), fun c o e => ?_, ?_⟩
        · rw [upd_ne (ne_of_none e hD)]
          exact s3 c o e
        · rw [List.replicate_succ', List.map_append]
          exact upd_same
      · rintro H3 ⟨s3, hz⟩
        refine ⟨D, _, rfl, SqL.of hz, _, rfl, ?_⟩
        rw [show (List.replicate ys.length true).all id = true by simp]
        exact iteF ⟨rfl, s2.trans s3⟩
    clear s2 s12 H2
    rintro σ H2 ⟨rfl, s2⟩
    have s12 := s1.trans s2
    refine ⟨_, rfl, x, C, dx, _, _, rfl, s12 _ _ h1, LX.cl, LX.nF, lFs_first _ _ _, _, rfl, .int a, rfl, .inl ⟨a, rfl⟩, _, rfl, iteF ?_⟩
    refine ⟨_, rfl, x, C, dx, _, _, rfl, s12 _ _ h1, LX.cl, LX.nS, lFs_second _ _ _, _, rfl, .int b, rfl, .inl ⟨b, rfl⟩, _, rfl, iteF ?_⟩
    have hpw := s2 _ _ hp
    refine ⟨fun σ H3 => H3 = H2 ∧ ∃ e : Bool, σ = [some (.ref x), some (.int a), some (.int b), some (.ref l), some (.ref p), some (.bl e), none] ∧ e = decide ((a = (srt ls).length) ∧ b = (srt ls).length), ?_, ?_⟩
    · refine ⟨_, rfl, p, _, rfl, .inl (SqL.of hpw), _, rfl, rfl, _, rfl, ?_⟩
      rw [wl]
      have e1 : decide (V.int ((srt ls).length : Nat) = V.int a) = decide (a = (srt ls).length) := by simp [eq_comm]
      have e2 : decide (V.int ((srt ls).length : Nat) = V.int b) = decide (b = (srt ls).length) := by simp [eq_comm]
      rw [e1]
      by_cases ha : a = (srt ls).length
      · rw [decide_eq_true ha]
        refine iteT ⟨_, rfl, p, _, rfl, .inl (SqL.of hpw), _, rfl, rfl, ?_⟩
        rw [wl, e2]
        exact ⟨rfl, _, rfl, by simp [ha]⟩
      · rw [decide_eq_false ha]
        exact iteF ⟨rfl, _, rfl, by simp [ha]⟩
    rintro σ H3 ⟨rfl, e, rfl, he⟩
    have hx2 := hx.keep s12
    refine ⟨_, rfl, _, rfl, ?_⟩
    obtain ⟨dx3, L3, ys3, g1, _, _⟩ := hx2.ob
    cases e with
    | true =>
      refine iteT ⟨_, rfl, x, dx3, _, rfl, g1, x, a, b, srt ls, rfl, hx2, ?_⟩
      rw [← he]
      exact ⟨true, true, rfl, rfl, k _ s12⟩
    | false =>
      refine iteF ⟨_, rfl, x, dx3, _, rfl, g1, x, a, b, srt ls, rfl, hx2, ?_⟩
      rw [← he]
      exact ⟨false, false, rfl, rfl, k _ s12⟩
end
end Kx

set_option maxHeartbeats 4000000
namespace Kx
open PySem PySem.Spec PyProof.Rows L2
abbrev QT : VK := fun v _ => v = .bl true
abbrev EF : XK := fun _ _ _ => False
/-- the body of the law's def, asked at the call that the row makes (nothing is being shown by repr there) -/
def LawBody (P : Program) (w : World) (K : PySem.W.Frag) (mg : Str → Option Value) (base : Heap) (N : List Str) (x : Str) (st : Stmt) (fa : Addr) (k : Nat) : Prop :=
  ∀ (cdv : Value) (s : Shared) (H : Hp) (a : Addr) (ns : List Int), Room k (callerA.deeper (envOfC x (defScope st) s.heap.objs.size fa cdv)) → SqL K H a (ns.map V.int) → ns.length ≤ 63 →
    ∃ t, PSs (cxOf CX0 P w K mg base N x (defScope st) fa cdv callerA [] s H EF).nox (defBody st) t ∧ t { nx := fun _ H' => QT .non H', rt := QT } (start N [.ref a]) H
section
variable {P : Program} {w : World} {K : PySem.W.Frag} {mg mb : Str → Option Value} {k : Nat} {fa a : Addr} {fd : FuncData} {x y : Str} {st : Stmt} {N : List Str}
theorem law_at {base : Heap} (F : Fun K x x st fa fd) (S : FnScope N [y] (defScope st)) (hr : Room (k + 1) callerA) (B : LawBody P w K mg base N x st fa k) (bind : ∀ (s : Shared) (u : Value), BindsTo s fd ⟨[u], []⟩ [(y, u)])
    {s : Shared} {H : Hp} {ns : List Int} (e0 : Env0 P w K mg base callerA [] s H) (hS : SqL K H a (ns.map V.int)) (hn : ns.length ≤ 63) :
    codeAny (model P w) callerA (.call (.ref fa) ⟨[.ref a], []⟩) (CR CX0 [] P w H s QT EF) s := by
  obtain ⟨oc, od, kV, doc, pm, an, cdv, ct, osl, rfl, lk, hcd⟩ := F.ex
  have KX : K.In s.heap := e0.mod.kin.keeps fun b o e => (e0.bs b o e).1
  have noLim : s.heap.NoLimit := e0.mod.nolimit.keeps fun b o e => (e0.bs b o e).1
  have kinds : ∀ z ∈ [(y, Value.ref a)], (defScope st).names.lookup z.1 = some .local ∨ ((defScope st).names.lookup z.1 = some .cell ∧ ((cellsFrom (s.heap.objs.size + 1) (defScope st).names []).lookup z.1).isSome = true) := fun z hz => by
    obtain rfl : z = (y, Value.ref a) := by simpa using hz
    rcases S.par y (.head _) with q | q
    · exact .inl q
    · exact .inr ⟨q, PySem.W.cellsFrom_some _ _ _ (.inl q)⟩
  refine codeAny_call_function hr.depth (KX _ _ lk) rfl S.co S.gen rfl (PySem.W.codeRec_of KX hcd) (bind s (.ref a) _ _ _ _ (wpAny_newFunctionEnv_cells S.kind kinds fun env he s1 z => ?_))
  subst he
  obtain ⟨t, ht, hq⟩ := B cdv s H a ns (hr.deeper _) hS hn
  refine ⟨noLim.keeps z.toInCall.keep, codeAny_func (wpAny_mono (ht.nox.run [] s1 (start N [.ref a]) H _ (inv_start S hr.hd e0 rfl (.cons rfl .nil) z) hq) (fun fl s' got => ?_) fun e s' got => got)⟩
  cases fl with
  | ret u => obtain ⟨v, σ', H', J, rv, q⟩ := got; exact ⟨v, H', J.os, J.bare, J.base, J.hok, rv, q⟩
  | next => obtain ⟨σ', H', J, q⟩ := got; exact absurd q (fun z => nomatch z)
  | brk => obtain ⟨_, _, _, q⟩ := got; exact q.elim
  | cont => obtain ⟨_, _, _, q⟩ := got; exact q.elim
/-- behind the top nothing is tracked but the script -/
theorem env_at {s : Shared} {H : Hp} {vs : List Value} (KX : K.In s.heap) (main : s.heap.Ns mainGlobals mg) (blt : s.heap.Ns builtinsNs mb) (boot : ∀ x : Str, x ≠ "__name__" → mb x = bootBuiltins x) (lim : s.heap.NoLimit) (gens : s.gens = #[])
    (at_ : s.heap.get? a = some { cls := .type "list", data := .seq vs.toArray }) (ok : HOk P w H s.heap) (only : ∀ b, b ≠ a → H b = none) (mine : H a = none ∨ K.lookup a = none) : Env0 P w K mg (hidT s.heap H) callerA [] s H := by
  have keepK : K.In (hidT s.heap H) := fun b o e => hidT_get (KX b o e) (by
    by_cases z : b = a
    · subst z
      rcases mine with q | q
      · exact q
      · rw [q] at e; cases e
    · exact only b z)
  have keepN : ∀ {b : Addr} {m : Str → Option Value}, s.heap.Ns b m → (hidT s.heap H).Ns b m := by
    rintro b m ⟨o, es, ep, e, d, r⟩
    refine ⟨o, es, ep, hidT_get e (only b fun z => ?_), d, r⟩
    subst z
    rw [at_] at e
    cases e
    cases d
  obtain ⟨mc, l1, l2⟩ := lim
  exact ⟨rfl, ⟨keepK, keepN main, ⟨mb, keepN blt, boot⟩, ⟨mc, keepN l1, l2⟩⟩, fun b o e => of_hidT e, Nat.le_of_eq (hidT_size _ _), trivial, fun b hb => (nomatch hb), ok, .of_eq gens⟩
theorem law_end {s : Shared} {vs : List Value} {ns : List Int} (KX : K.In s.heap) (main : s.heap.Ns mainGlobals mg) (blt : s.heap.Ns builtinsNs mb) (boot : ∀ x : Str, x ≠ "__name__" → mb x = bootBuiltins x) (lim : s.heap.NoLimit) (gens : s.gens = #[])
    (at_ : s.heap.get? a = some { cls := .type "list", data := .seq vs.toArray }) (hints : IntsAre vs ns) (hn : ns.length ≤ 63)
    (run : ∀ (base : Heap) (H : Hp), K.In base → base.Ns mainGlobals mg → Env0 P w K mg base callerA [] s H → SqL K H a (ns.map V.int) → codeAny (model P w) callerA (.call (.ref fa) ⟨[.ref a], []⟩) (CR CX0 [] P w H s QT EF) s) :
    codeAny (model P w) callerA (.call (.ref fa) ⟨[.ref a], []⟩) (fun r s' => r = .ok (.ret (.bool true)) ∧ OldK s.heap s'.heap ∧ s'.os = s.os ∧ AllBare s'.gens) s := by
  have rv := vals_ints hints
  have fits : (ns.map V.int).length ≤ sizeLine := by rw [List.length_map]; exact Nat.le_of_lt (small1000 (by omega))
  have go : ∀ H : Hp, (∀ b, b ≠ a → H b = none) → (H a = none ∧ SqL K H a (ns.map V.int) ∨ K.lookup a = none ∧ H a = some (.frz { cls := .type "list", data := .seq vs.toArray } (.lst (ns.map V.int)))) →
      codeAny (model P w) callerA (.call (.ref fa) ⟨[.ref a], []⟩) (fun r s' => r = .ok (.ret (.bool true)) ∧ OldK s.heap s'.heap ∧ s'.os = s.os ∧ AllBare s'.gens) s := by
    intro H only mine
    have ok : HOk P w H s.heap := fun b u e => by
      by_cases z : b = a
      · subst z
        rcases mine with ⟨q, _⟩ | ⟨_, q⟩
        · rw [q] at e; cases e
        · rw [q] at e
          cases e
          exact ⟨at_, fits, vs, _, rv, at_⟩
      · rw [only b z] at e; cases e
    have e0 := env_at (P := P) (w := w) KX main blt boot lim gens at_ ok only (mine.elim (fun q => .inl q.1) fun q => .inr q.1)
    refine codeAny_mono (run _ H e0.mod.kin e0.mod.glob e0 (mine.elim (fun q => q.2) fun q => .inl (.inr ⟨_, q.2⟩))) fun r s' got => ?_
    rcases r with e | (_ | _ | _ | u)
    · exact got.elim
    · exact got.elim
    · exact got.elim
    · exact got.elim
    · obtain ⟨v, H', os, bare, un, ok', rel, q⟩ := got
      obtain rfl : v = .bl true := q
      obtain rfl : u = Value.bool true := rel
      refine ⟨rfl, OldK.of_keep fun b o e => ?_, os, bare⟩
      cases q : H b with
      | none => exact un.keep b o e q (fun z => (nomatch z)) (fun z => (nomatch z))
      | some u =>
        have z : b = a := Classical.byContradiction fun z => by rw [only b z] at q; cases q
        subst z
        rcases mine with ⟨q2, _⟩ | ⟨_, q2⟩
        · rw [q2] at q; cases q
        · rw [at_] at e
          cases e
          exact (ok' b _ (un.frzs b _ _ q2)).1
  cases hk : K.lookup a with
  | some o =>
    have e := KX a o hk
    rw [at_] at e
    cases e
    exact go (fun _ => none) (fun _ _ => rfl) (.inl ⟨rfl, .inr ⟨_, vs.toArray, _, hk, rfl, rfl, rfl, by rw [List.size_toArray, hints.length]; exact Nat.le_of_lt (small1000 (by omega)), by simpa using rv⟩⟩)
  | none => exact go (fun b => if b = a then some (.frz { cls := .type "list", data := .seq vs.toArray } (.lst (ns.map V.int))) else none) (fun b z => if_neg z) (.inr ⟨hk, if_pos rfl⟩)
end
theorem law_walk {l : PySem.W.OpenLaw} {q : Program} {loose : List Str} {XP : (Str → Option Value) → Heap → Prop} {YP : World → Heap → Prop} {d : DefRec} {K : Params → PySem.W.Frag} (hn : l.most = some 63) (hdf : d.params.defaults = []) (hY : ∀ (w : World) (h : Heap), YP w h → (K w.params).In h)
    (F : ∀ (w : World) (mg : Str → Option Value) (fa : Addr) (h : Heap), (K w.params).In h → h.Ns mainGlobals mg → mg d.name = some (.ref fa) →
      ∀ (base : Heap) (s : Shared) (H : Hp) (a : Addr) (ns : List Int), (K w.params).In base → base.Ns mainGlobals mg → Env0 l.prog w (K w.params) mg base callerA [] s H → SqL (K w.params) H a (ns.map V.int) → ns.length ≤ 63 →
        codeAny (model l.prog w) callerA (.call (.ref fa) ⟨[.ref a], []⟩) (CR CX0 [] l.prog w H s QT EF) s) : PySem.W.WalkO q loose XP YP l.row.toRowW d [] (fun f vs => PySem.call f vs) :=
  Att.attach_call hn hdf fun w s₀ s₁ mg mb fa o pm cd doc a vs ns G Y ho hd hcd hmg hobj hints hlen hg =>
    law_end (hY w _ Y) G.T.g G.T.b G.T.builtins G.T.nolimit hg hobj hints hlen fun base H kin main e0 hS => F w mg fa _ (hY w _ Y) G.T.g hmg base s₁ H a ns kin main e0 hS hlen
end Kx

set_option maxHeartbeats 4000000
namespace Kx
open PySem L2
theorem eqv_shaped {d : PyData} (h : SeqAt.shaped d = true) : PyData.eqv d d = true := by
  unfold SeqAt.shaped at h
  rw [Bool.and_eq_true] at h
  exact PySem.SeqAt.eqv_refl d h.1
theorem LkAt.go {C : Addr} {H : Hp} {x : Addr} {a b : Int} {ls : List Pr} (k : LkAt C H x a b ls) {m : Str} (h : (¬ m = Str.ofString "first") ∧ (¬ m = Str.ofString "second") ∧ ¬ m = Str.ofString "links") : ∃ dx fs, H x = some (.ins C dx fs) ∧ fs.lookup m = none := by
  obtain ⟨dx, L, ys, h1, h2, h3⟩ := k.ob
  exact ⟨dx, _, h1, lFs_no _ _ _ h.1 h.2.1 h.2.2⟩
theorem m_flip : (¬ (Str.ofString "flipped") = Str.ofString "first") ∧ (¬ (Str.ofString "flipped") = Str.ofString "second") ∧ ¬ (Str.ofString "flipped") = Str.ofString "links" := ⟨by decide +kernel, by decide +kernel, by decide +kernel⟩
theorem flp_srt {a b : Int} {l : List Pr} (h : Lk a b l) : flp (srt l) = flp l :=
  srt_ext h.srt.flpL.nd h.flpL.nd fun q => by rw [mem_flpL, mem_flpL, srt_mem]
theorem makeLR {C CB : Addr} {Hx : Hp} {a b : Int} {l : Addr} {ls : List Pr} {Q' : Addr → Hp → Prop} {E : XK} (rows : RowsIs Hx (.ref l) (some (rsI ls))) (l0 : Hx l ≠ none) (lk : Lk a b ls) (sz : Sz a b) (q' : ∀ y H', Hx y = none → Same Hx H' → LkAt C H' y a b (srt ls) → Q' y H') :
    ∀ y dx, Hx y = none → Hx dx = none → dx ≠ y → spLkX C CB (.ref y :: ([.int a, .int b, .ref l] ++ [])) (upd (upd Hx dx (.own y)) y (.ins C dx [])) (fun v H2 => v = .non ∧ Q' y H2) E := by
  intro y dx hy hdx ne
  have s0 : Same Hx (upd (upd Hx dx (.own y)) y (.ins C dx [])) := (sameUpd (Same.refl _) hdx).trans (sameUpd (Same.refl _) (by rw [upd_ne ne.symm]; exact hy))
  refine ⟨y, dx, .int a, .int b, .ref l, _, _, some (rsI ls), rfl, upd_same, .int a, .int b, rows.keep s0, (fun e => l0 (by rw [V.ref.inj e]; exact hy)), (fun e => l0 (by rw [V.ref.inj e]; exact hdx)), ?_⟩
  rw [due_good lk sz]
  intro a' b' rs H' ea eb er kp ka
  cases ea; cases eb; cases er
  rw [rsI_pr] at ka
  exact ⟨rfl, q' y H' hy (fun c o e => kp c o (s0 c o e) (ne_of_none e hy)) ka⟩
theorem PL.drop {H : Hp} {xs : List V} {ls : List Pr} (h : PL H xs ls) (n : Nat) : PL H (xs.drop n) (ls.drop n) := by
  induction h generalizing n with
  | nil => simp; exact .nil
  | cons h t ih =>
    cases n with
    | zero => exact .cons h t
    | succ n => exact ih n
theorem PL.take {H : Hp} {xs : List V} {ls : List Pr} (h : PL H xs ls) (n : Nat) : PL H (xs.take n) (ls.take n) := by
  induction h generalizing n with
  | nil => simp; exact .nil
  | cons h t ih =>
    cases n with
    | zero => exact .nil
    | succ n => exact .cons h (ih n)
theorem cutD (xs : List V) (h : Nat) : cutV xs (some (h : Int)) none = xs.drop h := by
  unfold cutV
  rw [HT.sIx_nat, HT.sIx_none, List.take_of_length_le (by rw [List.length_drop]; exact Nat.le_refl _)]
  by_cases e : h ≤ xs.length
  · rw [Nat.min_eq_left e]
  · rw [Nat.min_eq_right (by omega), List.drop_eq_nil_of_le (Nat.le_refl _), List.drop_eq_nil_of_le (by omega)]
theorem cutT (xs : List V) (h : Nat) : cutV xs none (some (h : Int)) = xs.take h := by
  unfold cutV
  rw [HT.sIx_nat, HT.sIx_none, List.drop_zero, Nat.sub_zero]
  by_cases e : h ≤ xs.length
  · rw [Nat.min_eq_left e]
  · rw [Nat.min_eq_right (by omega), List.take_of_length_le (Nat.le_refl _), List.take_of_length_le (by omega)]
theorem Lk.wide {a b a' b' : Int} {l : List Pr} (h : Lk a b l) (ha : a ≤ a') (hb : b ≤ b') : Lk a' b' l := ⟨fun q hq => by
  have := h.lo q hq
  omega, h.n1, h.n2⟩
theorem rot_perm (l : List Pr) (n : Nat) : (l.drop n ++ l.take n).Perm l := by
  have := List.perm_append_comm (l₁ := l.drop n) (l₂ := l.take n)
  rwa [List.take_append_drop] at this
theorem getP_srt {a b : Int} {l : List Pr} (h : Lk a b l) (i : Int) : getP (srt l) i = getP l i := by
  cases e : getP l i with
  | some j => exact (getP_mem h.srt).mpr (srt_mem.mpr ((getP_mem h).mp e))
  | none =>
    cases e2 : getP (srt l) i with
    | none => rfl
    | some j =>
      have := (getP_mem h).mpr (srt_mem.mp ((getP_mem h.srt).mp e2))
      rw [e] at this
      cases this
theorem getP_app {l : List Pr} {q : Pr} {i : Int} (h : ¬ q.1 ∈ l.map (·.1)) : getP (l ++ [q]) i = if i = q.1 then some q.2 else getP l i := by
  unfold getP
  rw [List.find?_append]
  by_cases e : i = q.1
  · rw [if_pos e]
    have : l.find? (fun r => decide (r.1 = i)) = none := List.find?_eq_none.mpr fun x hx z => h (List.mem_map.mpr ⟨x, hx, by rw [← e]; exact of_decide_eq_true z⟩)
    rw [this, e]
    simp
  · rw [if_neg e]
    have : ([q].find? (fun r => decide (r.1 = i))) = none := by simp [Ne.symm e]
    rw [this]
    simp
def wV (l : List Pr) (k : Nat) : V := match getP l (k : Int) with
  | some j => .int j
  | none => .non
def ways (a : Nat) (l : List Pr) : List V := (List.range a).map (wV l)
theorem ways_nil (a : Nat) : ways a [] = List.replicate a .non := by
  unfold ways
  rw [List.eq_replicate_iff]
  refine ⟨by simp, fun x hx => ?_⟩
  obtain ⟨k, _, rfl⟩ := List.mem_map.mp hx
  rfl
theorem ways_len (a : Nat) (l : List Pr) : (ways a l).length = a := by unfold ways; simp
theorem ways_set {a : Nat} {l : List Pr} {q : Pr} (h : ¬ q.1 ∈ l.map (·.1)) (h0 : 0 ≤ q.1) : (ways a l).set q.1.toNat (.int q.2) = ways a (l ++ [q]) := by
  refine List.ext_getElem? fun k => ?_
  unfold ways
  rw [List.getElem?_set]
  by_cases e : q.1.toNat = k
  · rw [if_pos e]
    by_cases lt : k < a
    · rw [if_pos (by simp; omega), List.getElem?_map, List.getElem?_range lt]
      show some (V.int q.2) = some (wV (l ++ [q]) k)
      unfold wV
      rw [getP_app h, if_pos (by omega)]
    · rw [if_neg (by simp; omega), List.getElem?_map, List.getElem?_eq_none (by simp; omega)]
      rfl
  · rw [if_neg e, List.getElem?_map, List.getElem?_map]
    by_cases lt : k < a
    · rw [List.getElem?_range lt]
      show some (wV l k) = some (wV (l ++ [q]) k)
      unfold wV
      rw [getP_app h, if_neg (by omega)]
    · rw [List.getElem?_eq_none (by simp; omega)]
      rfl
theorem ways_at {a : Nat} {l : List Pr} {k : Nat} (h : k < a) : (ways a l)[k]? = some (wV l k) := by
  unfold ways
  rw [List.getElem?_map, List.getElem?_range h]
  rfl
/-- pairs as lists, none of them in N -/
inductive LL (N : Addr → Prop) (H : Hp) : List V → List Pr → Prop where
  | nil : LL N H [] []
  | cons {t : Addr} {q : Pr} {xs : List V} {ls : List Pr} (h : H t = some (.lst [.int q.1, .int q.2])) (ne : ¬ N t) (r : LL N H xs ls) : LL N H (.ref t :: xs) (q :: ls)
theorem LL.keep {N : Addr → Prop} {H H' : Hp} {xs : List V} {ls : List Pr} (h : LL N H xs ls) (s : ∀ c o, H c = some o → ¬ N c → H' c = some o) : LL N H' xs ls := by
  induction h with
  | nil => exact .nil
  | cons h ne _ ih => exact .cons (s _ _ h ne) ne ih
theorem LL.len {N : Addr → Prop} {H : Hp} {xs : List V} {ls : List Pr} (h : LL N H xs ls) : xs.length = ls.length := by
  induction h with
  | nil => rfl
  | cons _ _ _ ih => simp [ih]
theorem LL.app {N : Addr → Prop} {H : Hp} {xs ys : List V} {ls ms : List Pr} (h : LL N H xs ls) (h' : LL N H ys ms) : LL N H (xs ++ ys) (ls ++ ms) := by
  induction h with
  | nil => exact h'
  | cons h ne _ ih => exact .cons h ne ih
theorem LL.rows {N : Addr → Prop} {H : Hp} {xs : List V} {ls : List Pr} (h : LL N H xs ls) : AllR H xs (rsI ls) := by
  refine ⟨by rw [h.len]; unfold rsI; rw [List.length_map], ?_⟩
  induction h with
  | nil => exact fun i y r e _ => by cases e
  | cons h ne _ ih =>
    intro i y r e1 e2
    cases i with
    | zero =>
      cases e1; cases e2
      exact row_lst h (sca_int _) (sca_int _)
    | succ i => exact ih i y r e1 e2
def pdL2 (q : Pr) : PyData := .list [.int q.1, .int q.2]
theorem LL.dp {N : Addr → Prop} {K : PySem.W.Frag} {H : Hp} {xs : List V} {ls : List Pr} (h : LL N H xs ls) : DpAll K H xs (ls.map pdL2) := by
  induction h with
  | nil => exact .nil
  | cons h _ _ ih => exact .cons (.lst (SqL.of h) (.cons (.int _) (.cons (.int _) .nil))) ih
theorem small_L2 : ∀ ks : List Pr, PyData.canLayAll0 (ks.map pdL2) = true ∧ PyData.depthAll (ks.map pdL2) ≤ 1
  | [] => ⟨rfl, Nat.zero_le _⟩
  | q :: ks => by
    obtain ⟨h1, h2⟩ := small_L2 ks
    refine ⟨?_, ?_⟩
    · show (PyData.canLay0 (pdL2 q) && _) = true
      rw [h1]
      simp [pdL2, PyData.canLay0, PyData.canLayAll0]
    · show max (PyData.depth (pdL2 q)) (PyData.depthAll (ks.map pdL2)) ≤ 1
      have : PyData.depth (pdL2 q) = 1 := by simp [pdL2, PyData.depth, PyData.depthAll]
      omega
theorem shaped_L2 (ks : List Pr) : SeqAt.shaped (.list (ks.map pdL2)) = true := by
  obtain ⟨h1, h2⟩ := small_L2 ks
  unfold SeqAt.shaped
  rw [Bool.and_eq_true]
  refine ⟨h1, decide_eq_true ?_⟩
  show PyData.depthAll (ks.map pdL2) + 1 ≤ 64
  omega
theorem ixN_of {z : Int} {n : Nat} (h0 : 0 ≤ z) (h1 : z < n) : ixN n z = some z.toNat := by
  unfold ixN
  rw [if_pos h0, if_pos (by omega)]
theorem sh3 {d : PyData} {s : Str} (hs : PyData.strOk s = true) (h : PyData.canLay0 d = true) (h2 : PyData.depth d = 0) : SeqAt.shaped (.tuple [.str s, d, .bool true]) = true := by
  unfold SeqAt.shaped
  rw [Bool.and_eq_true]
  refine ⟨by simp [PyData.canLay0, PyData.canLayAll0, h, hs], decide_eq_true ?_⟩
  simp [PyData.depth, PyData.depthAll, h2]
theorem sh4 {s t : Str} (hs : PyData.strOk s = true) (ht : PyData.strOk t = true) : SeqAt.shaped (.tuple [.str s, .str t, .bool true, .bool true]) = true := by
  unfold SeqAt.shaped
  rw [Bool.and_eq_true]
  refine ⟨by simp [PyData.canLay0, PyData.canLayAll0, hs, ht], decide_eq_true ?_⟩
  simp [PyData.depth, PyData.depthAll]
theorem no_before {a b : Int} {l : List Pr} (h : Lk a b l) {i : Nat} {r : Pr} (e : l[i]? = some r) : ¬ r.1 ∈ (l.take i).map (·.1) := fun m => by
  have := h.n1.sublist ((List.take_sublist (i + 1) l).map _)
  rw [take_succ_of e, List.map_append] at this
  exact (List.nodup_append.mp this).2.2 _ m _ (by simp) rfl
theorem getP_wV {a b : Int} {l : List Pr} (h : Lk a b l) (i : Nat) : (match getP (srt l) (intOf (.int (0 + (i : Int)))) with | some j => V.int j | none => V.non) = wV l i := by
  show (match getP (srt l) (0 + (i : Int)) with | some j => V.int j | none => V.non) = wV l i
  rw [Int.zero_add, getP_srt h]
  rfl
theorem wV_ok (l : List Pr) (i : Nat) : (∃ k, wV l i = .int k) ∨ wV l i = .non := by
  unfold wV
  cases getP l (i : Int) with
  | some j => exact .inl ⟨j, rfl⟩
  | none => exact .inr rfl
/-- what the law holds -/
structure HL (C : Addr) (H : Hp) (p q x l : Addr) (xs : List V) (ls : List Pr) (a b : Int) : Prop where
  hp : HandAt H p q
  hl : wo p H l = some (.lst xs)
  pl : PL (wo p H) xs ls
  kx : LkAt C (wo p H) x a b (srt ls)
theorem HL.keep {C : Addr} {H H' : Hp} {p q x l : Addr} {xs : List V} {ls : List Pr} {a b : Int} (h : HL C H p q x l xs ls a b) (k : Keep H H' p) (hp : HandAt H' p q) : HL C H' p q x l xs ls a b := by
  have s := wo_keep k
  exact ⟨hp, s _ _ h.hl, h.pl.keep s, h.kx.keep s⟩
theorem HL.same {C : Addr} {H H' : Hp} {p q x l : Addr} {xs : List V} {ls : List Pr} {a b : Int} (h : HL C H p q x l xs ls a b) (s : Same H H') : HL C H' p q x l xs ls a b :=
  h.keep (fun b o e _ => s b o e) (h.hp.same s)
/-- .. where a list is written that is not held -/
theorem HL.other {C : Addr} {H : Hp} {p q x l n : Addr} {xs vs ws : List V} {ls : List Pr} {a b : Int} (h : HL C H p q x l xs ls a b) (hn : H n = some (.lst vs)) (n1 : n ≠ p) (n2 : n ≠ q) (n3 : n ≠ l) : HL C (upd H n (.lst ws)) p q x l xs ls a b := by
  have kk : ∀ {c : Addr} {o : HO}, wo p H c = some o → (∀ ws, o ≠ .lst ws) → wo p (upd H n (.lst ws)) c = some o := fun {c o} e no => by
    obtain ⟨e1, e2⟩ := wo_get e
    exact wo_at (by rw [upd_ne (fun z => by rw [z, hn] at e1; exact no _ (Option.some.inj e1).symm)]; exact e1) e2
  obtain ⟨dx, L, ys, g1, g2, g3⟩ := h.kx.ob
  obtain ⟨e1, e2⟩ := wo_get h.hl
  exact ⟨h.hp.upd n1 n2, wo_at (by rw [upd_ne n3.symm]; exact e1) e2, (h.pl.keep'' fun e => kk e (fun _ z => nomatch z)), ⟨⟨dx, L, ys, kk g1 (fun _ z => nomatch z), kk g2 (fun _ z => nomatch z), (g3.keep'' fun e => kk e (fun _ z => nomatch z))⟩, h.kx.lk, h.kx.sz⟩⟩
theorem PL.each {H : Hp} {xs : List V} {ls : List Pr} (h : PL H xs ls) : ∀ z ∈ xs, ∃ r, RowIs H z r := by
  induction h with
  | nil => exact fun z hz => nomatch hz
  | cons h _ ih =>
    intro z hz
    rcases List.mem_cons.mp hz with e | hz
    · rw [e]
      exact ⟨_, row_tup h (sca_int _) (sca_int _)⟩
    · exact ih z hz
theorem LinksV.rows2 {H : Hp} {N : Nat} {l : V} (h : LinksV H N l) (le : N ≤ 100) : ∃ r, RowsIs H l r ∧ ∀ rs, r = some rs → ∃ (b : Addr) (zs : List V), l = .ref b ∧ H b = some (.lst zs) ∧ AllR H zs rs ∧ zs.length ≤ 100 := by
  cases h with
  | @lst b xs h l a =>
    obtain ⟨rs, ar⟩ := rows_ex a
    exact ⟨some rs, .lst h ar (by omega), fun rs' e => by cases e; exact ⟨b, xs, rfl, h, ar, by omega⟩⟩
  | oth h =>
    obtain ⟨n, t, f⟩ := h
    exact ⟨none, .oth (t H).kd f, fun rs e => nomatch e⟩
theorem lkWord_ok {a b : Int} {s t : List Int} {r : Option (V × V)} {w : Str} (h : lkWord a b s t r = some w) : PyData.strOk w = true := by
  cases r with
  | none => cases h; decide +kernel
  | some q =>
    obtain ⟨n, m⟩ := q
    have h : (if wholeV n 0 (a - 1) = true ∧ wholeV m 0 (b - 1) = true then (if intOf n ∈ s ∨ intOf m ∈ t then some (Str.ofString "double") else none) else some (Str.ofString "link")) = some w := h
    split at h
    · split at h
      · cases h; decide +kernel
      · cases h
    · cases h; decide +kernel
theorem scanL_ok {a b : Int} {w : Str} : ∀ {rs : List (Option (V × V))} {seen : List Pr}, scanL a b seen rs = some w → PyData.strOk w = true
  | [], _, h => nomatch h
  | r :: rs, seen, e => by
    have e : (match lkWord a b (seen.map (·.1)) (seen.map (·.2)) r with | some w => some w | none => scanL a b (seen ++ [prI r]) rs) = some w := e
    cases e1 : lkWord a b (seen.map (·.1)) (seen.map (·.2)) r with
    | some w' => rw [e1] at e; cases e; exact lkWord_ok e1
    | none => rw [e1] at e; exact scanL_ok e
theorem likeDue_ok {x y : V} {r : Option (List (Option (V × V)))} {w : Str} (h : likeDue x y r = some w) : PyData.strOk w = true := by
  unfold likeDue at h
  split at h
  · split at h
    · cases r with
      | none => cases h; decide +kernel
      | some rs => exact scanL_ok h
    · cases h; decide +kernel
  · cases h; decide +kernel
/-- rows that are good are pairs of numbers -/
theorem scan_ints {a b : Int} : ∀ {rs : List (Option (V × V))} {seen : List Pr}, scanL a b seen rs = none → ∀ r ∈ rs, ∃ i j : Int, r = some (.int i, .int j)
  | [], _, _, _, h => nomatch h
  | r :: rs, seen, e, r', hr' => by
    have e : (match lkWord a b (seen.map (·.1)) (seen.map (·.2)) r with | some w => some w | none => scanL a b (seen ++ [prI r]) rs) = none := e
    cases e1 : lkWord a b (seen.map (·.1)) (seen.map (·.2)) r with
    | some w => rw [e1] at e; cases e
    | none =>
      rw [e1] at e
      rcases List.mem_cons.mp hr' with z | z
      · rw [z]
        obtain ⟨i, j, e, _⟩ := lkWord_none e1
        exact ⟨i, j, e⟩
      · exact scan_ints e r' z
theorem likeDue_ints {x y : V} {rs : List (Option (V × V))} (h : likeDue x y (some rs) = none) : ∀ r ∈ rs, ∃ i j : Int, r = some (.int i, .int j) := by
  unfold likeDue at h
  split at h
  · split at h
    · exact scan_ints h
    · cases h
  · cases h
end Kx

set_option maxHeartbeats 8000000
namespace Kx
open PySem L2
theorem call_listX {X : Cx} {K : PySem.W.Frag} (h : X.K = K) : CallR X (.type "list") (fun xs H Q => ∃ p ys, xs = [.ref p] ∧ (SqL K H p ys ∨ SqT K H p ys) ∧ ∀ l, H l = none → Q (.ref l) (upd H l (.lst ys))) := by
  subst h
  exact call_list_of
theorem ix_seqK {X : Cx} {K : PySem.W.Frag} (h : X.K = K) : IxR X (rIx K) := by
  subst h
  exact ix_seq
abbrev NLaw : List Str := ["_law_script", "_law_hand_here", "_law_most", "_law_first", "_law_second", "_law_links_here", "_law_lists", "_law_likeness", "_law_ways", "_law_near", "_law_far", "_law_k", "_law_told", "_law_odd", "_law_turned", "_law_again", "_law_third", "_law_fourth", "_law_other", "_law_turn", "_law_parts", "_law_word", "_law_link"]
theorem scLaw : FnScope NLaw ["_law_script"] (defScope sLaw) := ⟨rfl, rfl, rfl, by decide +kernel, rfl, by decide +kernel, by decide +kernel⟩
/-- all that the law leans on -/
structure AllG (P : Program) (w : World) (K : PySem.W.Frag) (mg : Str → Option Value) (base : Heap) (C CB : Addr) (gI : Addr) (fdI : FuncData) (gE gP : Addr) (dE dP : FuncData) : Prop where
  hand : HasF P w K mg base "_law_hand" 1 ["_law_script"] (spHand K)
  draw : HasF P w K mg base "_law_draw" 2 ["_law_hand_here", "_law_many"] spDraw
  one : HasF P w K mg base "_law_one" 3 ["_law_hand_here", "_law_rows"] spOne
  lisw : HasF P w K mg base "_law_is_whole" 1 ["_law_thing", "_law_due"] spLIsW
  links : HasF P w K mg base "_law_links" 3 ["_law_hand_here", "_law_first", "_law_second", "_law_many"] spLLinks
  fault : HasF P w K mg base "_law_fault" 2 ["_law_first", "_law_second", "_law_links_here"] spFaultL
  spoilt : HasF P w K mg base "_law_spoilt" 4 ["_law_hand_here", "_law_parts"] spSpoilt
  tried : HasF P w K mg base "_law_tried" 6 ["_law_first", "_law_second", "_law_links_here"] (spTried C)
  part : HasF P w K mg base "_law_partner" 5 ["_law_likeness", "_law_number"] (spLPart C)
  then_ : HasF P w K mg base "_law_then" 7 ["_law_one_here", "_law_other"] (spLThen C)
  isl : HasF P w K mg base "_law_is_likeness" 5 ["_law_likeness", "_law_first", "_law_second", "_law_links_here"] (spIsL C)
  LX : LC K C
  mK : mg "Likeness" = some (.ref C)
  MK : Mk K C gI
  GI : FnOk P w K mg base (L2.CX P w) 4 gI fdI ["self", "first", "second", "links"] (spLkX C CB)
  bI : Binds K fdI ["self", "first", "second", "links"] []
  ME : Meth K C "__eq__" gE
  GE : FnOk P w K mg base CX0 1 gE dE ["self", "other"] (spLEq C)
  bE : Binds K dE ["self", "other"] []
  MP : Meth K C "flipped" gP
  GP : FnOk P w K mg base CX0 6 gP dP ["self"] (spFlip C)
  bP : Binds K dP ["self"] []
  ne : PySem.W.findIn K (.ref C) "__ne__" = some (some (.builtin "object.__ne__"))
  nt : PySem.W.notFirst K C (.type "tuple") = true
abbrev Zz (a p : Addr) (mo : Int) (f s l v6 v7 v8 v9 v10 v11 v12 v13 v14 v15 v16 v17 v18 v19 v20 v21 : Option V) : L2.St := [some (.ref a), some (.ref p), some (.int mo), f, s, l, v6, v7, v8, v9, v10, v11, v12, v13, v14, v15, v16, v17, v18, v19, v20, v21, none]
section
variable {P : Program} {w : World} {K : PySem.W.Frag} {mg : Str → Option Value} {base : Heap}
theorem body_law {fa C CB gI gE gP : Addr} {fdI dE dP : FuncData} (T : Bl mg) (B : Bm mg) (M : Ml mg) (A : AllG P w K mg base C CB gI fdI gE gP dE dP) : LawBody P w K mg base NLaw "law" sLaw fa 8 := by
  intro cdv s H a ns hr hS hn
  obtain ⟨h1, d1, Hd⟩ := A.hand; obtain ⟨h2, d2, D⟩ := A.draw; obtain ⟨h3, d3, O⟩ := A.one; obtain ⟨h4, d4, Lk'⟩ := A.links; obtain ⟨h5, d5, Iw⟩ := A.lisw; obtain ⟨h6, d6, Fa⟩ := A.fault
  obtain ⟨h7, d7, Sp'⟩ := A.spoilt; obtain ⟨h8, d8, Tr⟩ := A.tried; obtain ⟨h9, d9, Lp⟩ := A.part; obtain ⟨h10, d10, Lt⟩ := A.then_; obtain ⟨h11, d11, Il⟩ := A.isl
  have hr1 : Room 1 _ := hr.mono (by decide)
  have hr2 : Room 2 _ := hr.mono (by decide)
  have hr3 : Room 3 _ := hr.mono (by decide)
  have hr4 : Room 4 _ := hr.mono (by decide)
  have hr5 : Room 5 _ := hr.mono (by decide)
  have hr6 : Room 6 _ := hr.mono (by decide)
  have hr7 : Room 7 _ := hr.mono (by decide)
  refine ⟨_, (pss_cons (ps_set (i := 1) scLaw.nd rfl (Or.inl rfl) (pe_call Hd.G hr1 (by rfl) Hd.m Hd.kp Hd.b .nil pass0 (pa_cons (pv 0) pa_nil)))
    (pss_cons (ps_set (i := 2) scLaw.nd rfl (Or.inl rfl) (pe_call O.G hr3 (by rfl) O.m O.kp O.b .nil pass0 (pa_cons (pv 1) (pa_cons (pe_lst (pa_cons pe_int (pa_cons pe_int (pa_cons pe_int (pa_cons pe_int pa_nil))))) pa_nil))))
    (pss_cons (ps_par (i := 3) (j := 4) rfl scLaw.nd rfl rfl (by decide) rfl rfl (pa_cons (pe_call D.G hr2 (by rfl) D.m D.kp D.b .nil pass0 (pa_cons (pv 1) (pa_cons (pe_op op_add (pv 2) pe_int) pa_nil))) (pa_cons (pe_call D.G hr2 (by rfl) D.m D.kp D.b .nil pass0 (pa_cons (pv 1) (pa_cons (pe_op op_add (pv 2) pe_int) pa_nil))) pa_nil)) (by rfl))
    (C8.pss_cut (ps_set (i := 5) scLaw.nd rfl (Or.inl rfl) (pe_call Lk'.G hr3 (by rfl) Lk'.m Lk'.kp Lk'.b .nil pass0 (pa_cons (pv 1) (pa_cons (pv 3) (pa_cons (pv 4) (pa_cons (pe_call D.G hr2 (by rfl) D.m D.kp D.b .nil pass0 (pa_cons (pv 1) (pa_cons (pe_op op_add (pv 2) pe_int) pa_nil))) pa_nil))))))
    (C8.pss_cut (ps_setLc (i := 6) (own := [("_law_link", 22)]) (g := gName 22) (tt := tYes) (by rfl) scLaw.nd rfl rfl (sw_true rfl rfl rfl (by decide +kernel)) (pi_list (pv 5)) (blkOk_by (own := [("_law_link", 22)]) (N := NLaw) (sc := defScope sLaw) (by decide +kernel)) (fun _ _ _ _ _ => pg_name (i := 22) scLaw.nd rfl (.inl rfl)) (fun _ _ _ _ _ => pts_nil) (fun _ _ _ _ _ => (pe_callTy (call_listX (K := K) rfl) (by rfl) B.list (by decide +kernel) (pa_cons (pv 22) pa_nil))))
    (C8.pss_cut (ps_set (i := 7) scLaw.nd rfl (Or.inl rfl) (pe_make A.MK A.GI hr5 (by rfl) A.mK A.bI .nil passL (pa_cons (pv 3) (pa_cons (pv 4) (pa_cons (pv 6) pa_nil)))))
    (C8.pss_cut (ps_if (pt_cmpR (op_neD hr.units) (pv 6) (pe_lc (own := [("_law_link", 22)]) (g := gName 22) (tt := tYes) (by rfl) scLaw.nd (pi_list (pv 5)) (blkOk_by (own := [("_law_link", 22)]) (N := NLaw) (sc := defScope sLaw) (by decide +kernel)) (fun _ _ _ _ _ => pg_name (i := 22) scLaw.nd rfl (.inl rfl)) (fun _ _ _ _ _ => pts_nil) (fun _ _ _ _ _ => (pe_callTy (call_listX (K := K) rfl) (by rfl) B.list (by decide +kernel) (pa_cons (pv 22) pa_nil)))) (nomark _)) (pss_one ps_never) pss_nil)
    (pss_cons (ps_expr (pe_bm PySem.F.plainAttrs_list PySem.F.slot_list_append PySem.F.type_list_append mt_append (pv 6) (pa_cons (pe_lst (pa_cons pe_int (pa_cons pe_int pa_nil))) pa_nil)))
    (C8.pss_cut (ps_asg pe_int (pg_sub (pe_ix ix_list (pv 6) pe_int (fun _ _ => rfl)) pe_int set_list))
    (C8.pss_cut (ps_if (pt_not (pt_val (pe_call Il.G hr5 (by rfl) Il.m Il.kp Il.b .nil pass0 (pa_cons (pv 7) (pa_cons (pv 3) (pa_cons (pv 4) (pa_cons (pv 5) pa_nil))))))) (pss_one ps_never) pss_nil)
    (C8.pss_cut (ps_if (pt_not (pt_val (pe_call Il.G hr5 (by rfl) Il.m Il.kp Il.b .nil pass0 (pa_cons (pe_meth0 (pv 7) A.LX.cl A.MP A.GP hr6 A.bP .nil pass0) (pa_cons (pv 4) (pa_cons (pv 3) (pa_cons (pe_lc (own := [("_law_near", 9), ("_law_far", 10)]) (g := gTup K 2 (gCons (gName 9) (gCons (gName 10) gNil))) (tt := tYes) (by rfl) scLaw.nd (pi_list (pv 5)) (blkOk_by (own := [("_law_near", 9), ("_law_far", 10)]) (N := NLaw) (sc := defScope sLaw) (by decide +kernel)) (fun _ _ _ _ _ => pg_tup rfl (pgs_cons (pg_name scLaw.nd rfl (.inl rfl)) (pgs_cons (pg_name scLaw.nd rfl (.inl rfl)) pgs_nil))) (fun _ _ _ _ _ => pts_nil) (fun _ _ _ _ _ => pe_tup (pa_cons (pv 10) (pa_cons (pv 9) pa_nil)))) pa_nil))))))) (pss_one ps_never) pss_nil)
    (C8.pss_cut (ps_setLc (i := 8) (own := [("_law_k", 11)]) (g := gName 11) (tt := tYes) (by rfl) scLaw.nd rfl rfl (sw_true rfl rfl rfl (by decide +kernel)) (pi_range1 (by rfl) T.range (pa_cons (pv 3) pa_nil)) (blkOk_by (own := [("_law_k", 11)]) (N := NLaw) (sc := defScope sLaw) (by decide +kernel)) (fun _ _ _ _ _ => pg_name (i := 11) scLaw.nd rfl (.inl rfl)) (fun _ _ _ _ _ => pts_nil) (fun _ _ _ _ _ => pe_non))
    (C8.pss_cut (ps_for PassesOwn.never rfl (pi_list (pv 5)) (pg_tup rfl (pgs_cons (pg_name (i := 9) scLaw.nd rfl (.inl rfl)) (pgs_cons (pg_name (i := 10) scLaw.nd rfl (.inl rfl)) pgs_nil))) (pss_one (ps_asg (pv 10) (pg_sub (pv 8) (pv 9) set_list))))
    (C8.pss_cut (ps_for PassesOwn.never rfl (pi_range1 (by rfl) T.range (pa_cons (pv 3) pa_nil)) (pg_name (i := 11) scLaw.nd rfl (.inl rfl)) (pss_cons (ps_set (i := 12) scLaw.nd rfl (Or.inl rfl) (pe_call Lp.G hr5 (by rfl) Lp.m Lp.kp Lp.b .nil pass0 (pa_cons (pv 7) (pa_cons (pv 11) pa_nil))))
      (pss_one (ps_if (PW.pt (pw_or (pt_cmpR op_ne (pe_ix ix_seq (pv 12) pe_int (fun _ _ => rfl)) pe_str (nomark _)) (pw_or1 (pt_not (pt_val (pe_call Iw.G hr1 (by rfl) Iw.m Iw.kp Iw.b .nil pass0 (pa_cons (pe_ix ix_seq (pv 12) pe_int (fun _ _ => rfl)) (pa_cons (pe_ix ix_list (pv 8) (pv 11) (fun _ _ => rfl)) pa_nil)))))))) (pss_one ps_never) pss_nil))))
    (C8.pss_cut (ps_for PassesOwn.never rfl (pi_list (pe_lst (pa_cons (pe_un un_neg pe_int) (pa_cons (pv 3) (pa_cons pe_non (pa_cons pe_bl (pa_cons pe_str pa_nil))))))) (pg_name (i := 13) scLaw.nd rfl (.inl rfl)) (pss_one (ps_if (pt_cmpR (op_neD hr.units) (pe_call Lp.G hr5 (by rfl) Lp.m Lp.kp Lp.b .nil pass0 (pa_cons (pv 7) (pa_cons (pv 13) pa_nil))) (pe_tup (pa_cons pe_str (pa_cons (pv 13) (pa_cons pe_bl pa_nil)))) (nomark _)) (pss_one ps_never) pss_nil)))
    (C8.pss_cut (ps_set (i := 14) scLaw.nd rfl (Or.inl rfl) (pe_op op_cat (pe_slice sl_list (pv 5) (po_some (pe_op op_fdiv (pe_callB call_len_seq (by rfl) T.len PySem.boot_len (pa_cons (pv 5) pa_nil)) pe_int)) po_none) (pe_slice sl_list (pv 5) po_none (po_some (pe_op op_fdiv (pe_callB call_len_seq (by rfl) T.len PySem.boot_len (pa_cons (pv 5) pa_nil)) pe_int)))))
    (C8.pss_cut (ps_set (i := 15) scLaw.nd rfl (Or.inl rfl) (pe_make A.MK A.GI hr5 (by rfl) A.mK A.bI .nil passL (pa_cons (pv 3) (pa_cons (pv 4) (pa_cons (pe_callTy call_tuple_of (by rfl) B.tuple (by decide +kernel) (pa_cons (pv 14) pa_nil)) pa_nil)))))
    (C8.pss_cut (ps_if (PW.pt (pw_or (pt_not (pt_cmpR (op_eqOwn A.ME.at_ A.ME.fn (rawE A.GE A.bE) hr1 pass0) (pv 7) (pv 15) (nomark _))) (pw_or (pt_cmpR (op_neOwn A.LX.cm A.ne A.ME.at_ A.ME.fn (rawE A.GE A.bE) hr2 pass0) (pv 7) (pv 15) (nomark _)) (pw_or (pt_cmpR (op_eqOwn A.ME.at_ A.ME.fn (rawE A.GE A.bE) hr1 pass0) (pv 7) (pe_callTy call_tuple_of (by rfl) B.tuple (by decide +kernel) (pa_cons (pe_callB cr_sortedPO (by rfl) M.sorted (by decide +kernel) (pa_cons (pv 5) pa_nil)) pa_nil)) (nomark _)) (pw_or1 (pt_cmpR (op_eqOwn A.ME.at_ A.ME.fn (rawE A.GE A.bE) hr1 pass0) (pv 7) (pe_tup (pa_cons (pv 3) (pa_cons (pv 4) pa_nil))) (nomark _))))))) (pss_one ps_never) pss_nil)
    (C8.pss_cut (ps_if (PW.pt (pw_and (pt_cmpR op_lt (pv 3) pe_int (nomark _)) (pw_and1 (PW.pt (pw_or (pt_cmpR (op_eqOwn A.ME.at_ A.ME.fn (rawE A.GE A.bE) hr1 pass0) (pv 7) (pe_make A.MK A.GI hr5 (by rfl) A.mK A.bI .nil passL (pa_cons (pe_op op_add (pv 3) pe_int) (pa_cons (pv 4) (pa_cons (pv 5) pa_nil)))) (nomark _)) (pw_or1 (pt_not (pt_cmpR (op_neOwn A.LX.cm A.ne A.ME.at_ A.ME.fn (rawE A.GE A.bE) hr2 pass0) (pv 7) (pe_make A.MK A.GI hr5 (by rfl) A.mK A.bI .nil passL (pa_cons (pe_op op_add (pv 3) pe_int) (pa_cons (pv 4) (pa_cons (pv 5) pa_nil)))) (nomark _))))))))) (pss_one ps_never) pss_nil)
    (C8.pss_cut (ps_if (PW.pt (pw_and (pt_cmpR op_lt (pv 4) pe_int (nomark _)) (pw_and1 (pt_cmpR (op_eqOwn A.ME.at_ A.ME.fn (rawE A.GE A.bE) hr1 pass0) (pv 7) (pe_make A.MK A.GI hr5 (by rfl) A.mK A.bI .nil passL (pa_cons (pv 3) (pa_cons (pe_op op_add (pv 4) pe_int) (pa_cons (pv 5) pa_nil)))) (nomark _))))) (pss_one ps_never) pss_nil)
    (C8.pss_cut (ps_if (PW.pt (pw_and (pt_cmpR (op_neD hr.units) (pv 5) (pe_lst pa_nil) (nomark _)) (pw_and1 (pt_cmpR (op_eqOwn A.ME.at_ A.ME.fn (rawE A.GE A.bE) hr1 pass0) (pv 7) (pe_make A.MK A.GI hr5 (by rfl) A.mK A.bI .nil passL (pa_cons (pv 3) (pa_cons (pv 4) (pa_cons (pe_slice sl_list (pv 5) (po_some pe_int) po_none) pa_nil)))) (nomark _))))) (pss_one ps_never) pss_nil)
    (pss_cons (ps_par (i := 16) (j := 17) rfl scLaw.nd rfl rfl (by decide) rfl rfl (pa_cons (pe_call D.G hr2 (by rfl) D.m D.kp D.b .nil pass0 (pa_cons (pv 1) (pa_cons (pe_op op_add (pv 2) pe_int) pa_nil))) (pa_cons (pe_call D.G hr2 (by rfl) D.m D.kp D.b .nil pass0 (pa_cons (pv 1) (pa_cons (pe_op op_add (pv 2) pe_int) pa_nil))) pa_nil)) (by rfl))
    (C8.pss_cut (ps_set (i := 18) scLaw.nd rfl (Or.inl rfl) (pe_make A.MK A.GI hr5 (by rfl) A.mK A.bI .nil passL (pa_cons (pv 16) (pa_cons (pv 17) (pa_cons (pe_call Lk'.G hr3 (by rfl) Lk'.m Lk'.kp Lk'.b .nil pass0 (pa_cons (pv 1) (pa_cons (pv 16) (pa_cons (pv 17) (pa_cons (pv 2) pa_nil))))) pa_nil)))))
    (C8.pss_cut (ps_if (PW.pt (pw_and (pt_cmpR op_ne (pv 16) (pv 4) (nomark _)) (pw_and1 (pt_cmpR (op_neD hr.units) (pe_call Lt.G hr7 (by rfl) Lt.m Lt.kp Lt.b .nil pass0 (pa_cons (pv 7) (pa_cons (pv 18) pa_nil))) (pe_tup (pa_cons pe_str (pa_cons pe_str (pa_cons pe_bl pa_nil)))) (nomark _))))) (pss_one ps_never) pss_nil)
    (C8.pss_cut (ps_if (pt_cmpR (op_neD hr.units) (pe_call Lt.G hr7 (by rfl) Lt.m Lt.kp Lt.b .nil pass0 (pa_cons (pv 7) (pa_cons (pe_call O.G hr3 (by rfl) O.m O.kp O.b .nil pass0 (pa_cons (pv 1) (pa_cons (pe_lst (pa_cons pe_non (pa_cons (pv 5) (pa_cons pe_int pa_nil)))) pa_nil))) pa_nil))) (pe_tup (pa_cons pe_str (pa_cons pe_str (pa_cons pe_bl pa_nil)))) (nomark _)) (pss_one ps_never) pss_nil)
    (C8.pss_cut (ps_for PassesOwn.never rfl (pi_range1 (by rfl) T.range (pa_cons pe_int pa_nil)) (pg_name (i := 19) scLaw.nd rfl (.inl rfl)) (C8.pss_cut (ps_set (i := 20) scLaw.nd rfl (Or.inl rfl) (pe_call Sp'.G hr4 (by rfl) Sp'.m Sp'.kp Sp'.b .nil pass0 (pa_cons (pv 1) (pa_cons (pe_lst (pa_cons (pv 3) (pa_cons (pv 4) (pa_cons (pe_callTy call_list_of (by rfl) B.list (by decide +kernel) (pa_cons (pv 5) pa_nil)) pa_nil)))) pa_nil))))
    (C8.pss_cut (ps_if (pt_cmpR op_eq (pe_call D.G hr2 (by rfl) D.m D.kp D.b .nil pass0 (pa_cons (pv 1) (pa_cons pe_int pa_nil))) pe_int (nomark _)) (pss_one (ps_set (i := 20) scLaw.nd rfl (Or.inl rfl) (pe_call Sp'.G hr4 (by rfl) Sp'.m Sp'.kp Sp'.b .nil pass0 (pa_cons (pv 1) (pa_cons (pv 20) pa_nil))))) pss_nil)
    (pss_cons (ps_set (i := 21) scLaw.nd rfl (Or.inl rfl) (pe_call Fa.G hr2 (by rfl) Fa.m Fa.kp Fa.b .nil pass0 (pa_cons (pe_ix ix_list (pv 20) pe_int (fun _ _ => rfl)) (pa_cons (pe_ix ix_list (pv 20) pe_int (fun _ _ => rfl)) (pa_cons (pe_ix ix_list (pv 20) pe_int (fun _ _ => rfl)) pa_nil)))))
    (pss_cons (ps_set (i := 12) scLaw.nd rfl (Or.inl rfl) (pe_call Tr.G hr6 (by rfl) Tr.m Tr.kp Tr.b .nil pass0 (pa_cons (pe_ix ix_list (pv 20) pe_int (fun _ _ => rfl)) (pa_cons (pe_ix ix_list (pv 20) pe_int (fun _ _ => rfl)) (pa_cons (pe_ix ix_list (pv 20) pe_int (fun _ _ => rfl)) pa_nil)))))
    (pss_cons (ps_if (PW.pt (pw_and (pt_cmpR op_notN (pv 21) pe_non (nomark _)) (pw_and1 (pt_cmpR (op_neD hr.units) (pv 12) (pe_tup (pa_cons pe_str (pa_cons (pv 21) (pa_cons pe_bl (pa_cons pe_bl pa_nil))))) (nomark _))))) (pss_one ps_never) pss_nil)
    (pss_one (ps_if (PW.pt (pw_and (pt_cmpR op_isN (pv 21) pe_non (nomark _)) (pw_and1 (pt_not (pt_val (pe_call Il.G hr5 (by rfl) Il.m Il.kp Il.b .nil pass0 (pa_cons (pv 12) (pa_cons (pe_ix ix_list (pv 20) pe_int (fun _ _ => rfl)) (pa_cons (pe_ix ix_list (pv 20) pe_int (fun _ _ => rfl)) (pa_cons (pe_lc (own := [("_law_link", 22)]) (g := gName 22) (tt := tYes) (by rfl) scLaw.nd (pi_list (pe_ix ix_list (pv 20) pe_int (fun _ _ => rfl))) (blkOk_by (own := [("_law_link", 22)]) (N := NLaw) (sc := defScope sLaw) (by decide +kernel)) (fun _ _ _ _ _ => pg_name (i := 22) scLaw.nd rfl (.inl rfl)) (fun _ _ _ _ _ => pts_nil) (fun _ _ _ _ _ => pe_tup (pa_cons (pe_ix (ix_seqK (K := K) rfl) (pv 22) pe_int (fun _ _ => rfl)) (pa_cons (pe_ix (ix_seqK (K := K) rfl) (pv 22) pe_int (fun _ _ => rfl)) pa_nil)))) pa_nil)))))))))) (pss_one ps_never) pss_nil))))))))
    (pss_one (ps_ret pe_bl)))))))))))))))))))))))))))), ?_⟩
  refine ⟨_, rfl, a, ns, rfl, hS, hn, fun p q H1 hp0 hq0 nqp hp1 s1 => ?_⟩
  refine ⟨_, rfl, (by show 4 ≤ sizeLine; decide), fun t0 ht0 => ?_⟩
  refine ⟨p, q, t0, _, rfl, hp1.upd (hp1.ap ht0) (hp1.aq ht0), upd_same, hp1.ap ht0, (by show 0 < 4; decide), (by show 4 ≤ 1000; decide), fun x0 H2 hx hp2 k2 => ?_⟩
  obtain ⟨mo, rfl, mo0, mo4⟩ : ∃ mo : Int, x0 = .int mo ∧ 1 ≤ mo ∧ mo ≤ 40 := by
    simp only [List.mem_cons, List.not_mem_nil, or_false] at hx
    rcases hx with e | e | e | e <;> exact ⟨_, e, by decide, by decide⟩
  clear hx hp1 k2 s1 hp0 hq0 ht0
  refine ⟨_, rfl, _, rfl, _, _, rfl, rfl, p, q, mo + 1, rfl, hp2, by omega, by omega, fun u H3 u0 u1 hp3 k3 => ?_⟩
  refine ⟨_, rfl, _, rfl, _, _, rfl, rfl, p, q, mo + 1, rfl, hp3, by omega, by omega, fun v H4 v0 v1 hp4 k4 => ?_⟩
  have sz : Sz u v := ⟨u0, by omega, v0, by omega⟩
  refine ⟨_, _, rfl, ?_⟩
  clear hp2 hp3 k3 k4
  -- the links
  refine ⟨fun σ H5 => ∃ (l : Addr) (xs : List V) (ls : List Pr), σ = Zz a p mo (some (.int u)) (some (.int v)) (some (.ref l)) none none none none none none none none none none none none none none none none ∧ HandAt H5 p q ∧ wo p H5 l = some (.lst xs) ∧ PL (wo p H5) xs ls ∧ Lk u v ls, ?_, ?_⟩
  · refine ⟨_, rfl, _, rfl, _, rfl, _, rfl, _, rfl, _, _, rfl, rfl, p, q, mo + 2, rfl, hp4, by omega, by omega, fun z H5 z0 z1 hp5 k5 => ?_⟩
    refine ⟨p, q, u, v, z, rfl, hp5, sz, z0, by omega, fun l xs ls H6 hl nl fl pl lk le hp6 k6 => ?_⟩
    exact ⟨l, xs, ls, rfl, hp6, wo_at hl nl, pl.wo hp6, lk⟩
  clear hp4
  rintro σ H5 ⟨l, xs, ls, rfl, hp5, hl5, pl5, lk⟩
  have few := lk.few sz
  have xl := pl5.len
  have lp : l ≠ p := (wo_get hl5).2
  -- the links as lists
  refine ⟨fun σ H6 => ∃ (D' : Addr) (zs : List V), σ = Zz a p mo (some (.int u)) (some (.int v)) (some (.ref l)) (some (.ref D')) none none none none none none none none none none none none none none none ∧ Same H5 H6 ∧ H5 D' = none ∧ H6 D' = some (.lst zs) ∧ LL (fun t => t = D' ∨ t = p ∨ t = q ∨ t = l) H6 zs ls, ?_, ?_⟩
  · refine ⟨_, rfl, l, rfl, ⟨xs, SqL.of (wo_get hl5).1⟩, fun D' hD => ?_⟩
    refine lc_list (K := K) (a := l) (xs := xs) (fun i H6 => Same H5 H6 ∧ ∃ zs, H6 D' = some (.lst zs) ∧ LL (fun t => t = D' ∨ t = p ∨ t = q ∨ t = l) H6 zs (ls.take i)) ⟨sameUpd (Same.refl _) hD, [], upd_same, .nil⟩ (fun i H6 _ w => SqL.of (w.1 _ _ (wo_get hl5).1)) ?_ ?_
    · rintro i y H6 hi ⟨s6, zs, hz, lz⟩
      obtain ⟨t, r, rfl, hr', ht⟩ := ((pl5.keep wo_same).keep s6).at_ hi
      have lti : i < ls.length := (List.getElem?_eq_some_iff.mp hr').1
      refine ⟨rfl, ?_⟩
      refine ⟨_, rfl, t, _, rfl, .inr (SqT.of ht), fun n hn => ?_⟩
      have nD : n ≠ D' := (ne_of_none hz hn).symm
      have zl : zs.length ≤ i := by rw [lz.len, List.length_take]; omega
      have hp6' := hp5.same s6
      have nN : ¬ (n = D' ∨ n = p ∨ n = q ∨ n = l) := fun z => by
        rcases z with z | z | z | z
        · exact nD z
        · exact hp6'.ap hn z
        · exact hp6'.aq hn z
        · exact (ne_of_none (s6 _ _ (wo_get hl5).1) hn).symm z
      refine ⟨zs, by rw [upd_ne nD.symm]; exact hz, small1000 (by omega), fun c o e => ?_, zs ++ [.ref n], upd_same, ?_⟩
      · rw [upd_ne (ne_of_none e hD), upd_ne (ne_of_none (s6 c o e) hn)]
        exact s6 c o e
      · rw [take_succ_of hr']
        refine LL.keep (H := upd H6 n (.lst [.int r.1, .int r.2])) (LL.app (lz.keep fun c o e _ => sameUpd (Same.refl _) hn _ _ e) (.cons upd_same nN .nil)) fun c o e ne => ?_
        rw [upd_ne (fun z => ne (.inl z))]
        exact e
    · rintro H6 ⟨s6, zs, hz, lz⟩
      rw [xl, List.take_length] at lz
      exact ⟨D', zs, rfl, s6, hD, hz, lz⟩
  rintro σ H6 ⟨D', zs, rfl, s6, fD, hz6, lz6⟩
  have Dp' : D' ≠ p := hp5.ap fD
  have Dq : D' ≠ q := hp5.aq fD
  have Dl : D' ≠ l := (ne_of_none (wo_get hl5).1 fD).symm
  -- the likeness
  refine ⟨fun σ H7 => ∃ x : Addr, σ = Zz a p mo (some (.int u)) (some (.int v)) (some (.ref l)) (some (.ref D')) (some (.ref x)) none none none none none none none none none none none none none none ∧ HL C H7 p q x l xs ls u v ∧ H7 D' = some (.lst zs) ∧ LL (fun t => t = D' ∨ t = p ∨ t = q ∨ t = l) H7 zs ls, ?_, ?_⟩
  · refine ⟨_, rfl, _, rfl, _, rfl, ?_⟩
    refine makeLR (.lst hz6 lz6.rows (by rw [lz6.len]; omega)) (by rw [hz6]; exact fun z => nomatch z) lk sz fun x H7 fx s7 ka => ?_
    have s57 := s6.trans s7
    have hp7 := hp5.same s57
    exact ⟨x, rfl, ⟨hp7, wo_mono s57 _ _ hl5, pl5.keep (wo_mono s57), ka.wo hp7⟩, s7 _ _ hz6, lz6.keep fun c o e _ => s7 c o e⟩
  clear hp5 hl5 pl5 s6 fD hz6 lz6
  rintro σ H7 ⟨x, rfl, hel, hz7, lz7⟩
  -- the same again
  refine ⟨fun σ H8 => σ = Zz a p mo (some (.int u)) (some (.int v)) (some (.ref l)) (some (.ref D')) (some (.ref x)) none none none none none none none none none none none none none none ∧ HL C H8 p q x l xs ls u v ∧ H8 D' = some (.lst zs) ∧ LL (fun t => t = D' ∨ t = p ∨ t = q ∨ t = l) H8 zs ls, ?_, ?_⟩
  · have hl7 := (wo_get hel.hl).1
    refine ⟨_, rfl, _, rfl, l, rfl, ⟨xs, SqL.of hl7⟩, fun E hE => ?_⟩
    refine lc_list (K := K) (a := l) (xs := xs) (fun i H8 => Same H7 H8 ∧ ∃ ws, H8 E = some (.lst ws) ∧ LL (fun t => t = E) H8 ws (ls.take i)) ⟨sameUpd (Same.refl _) hE, [], upd_same, .nil⟩ (fun i H8 _ w => SqL.of (w.1 _ _ hl7)) ?_ ?_
    · rintro i y H8 hi ⟨s8, ws, hw, lw⟩
      obtain ⟨t, r, rfl, hr', ht⟩ := ((hel.pl.keep wo_same).keep s8).at_ hi
      have lti : i < ls.length := (List.getElem?_eq_some_iff.mp hr').1
      refine ⟨rfl, ?_⟩
      refine ⟨_, rfl, t, _, rfl, .inr (SqT.of ht), fun n hn => ?_⟩
      have nE : n ≠ E := (ne_of_none hw hn).symm
      have wl : ws.length ≤ i := by rw [lw.len, List.length_take]; omega
      refine ⟨ws, by rw [upd_ne nE.symm]; exact hw, small1000 (by omega), fun c o e => ?_, ws ++ [.ref n], upd_same, ?_⟩
      · rw [upd_ne (ne_of_none e hE), upd_ne (ne_of_none (s8 c o e) hn)]
        exact s8 c o e
      · rw [take_succ_of hr']
        refine LL.keep (H := upd H8 n (.lst [.int r.1, .int r.2])) (LL.app (lw.keep fun c o e _ => sameUpd (Same.refl _) hn _ _ e) (.cons upd_same nE .nil)) fun c o e ne => ?_
        rw [upd_ne ne]
        exact e
    · rintro H8 ⟨s8, ws, hw, lw⟩
      rw [xl, List.take_length] at lw
      refine ⟨_, _, .lst (SqL.of (s8 _ _ hz7)) (LL.dp (lz7.keep fun c o e _ => s8 c o e)), .lst (SqL.of hw) lw.dp, shaped_L2 _, shaped_L2 _, _, rfl, ?_⟩
      rw [eqv_shaped (shaped_L2 ls)]
      exact iteF ⟨rfl, hel.same s8, s8 _ _ hz7, lz7.keep fun c o e _ => s8 c o e⟩
  clear hel hz7 lz7
  rintro σ H8 ⟨rfl, hel, hz8, lz8⟩
  -- they are changed behind its back
  refine ⟨_, rfl, .inl ⟨rfl, _, SqL.of hz8⟩, ?_⟩
  refine ⟨(by show 2 ≤ sizeLine; decide), fun n hn => ?_⟩
  have nD : n ≠ D' := (ne_of_none hz8 hn).symm
  have xz := lz8.len
  refine ⟨D', zs, _, rfl, rfl, by rw [upd_ne nD.symm]; exact hz8, small1000 (by omega), ?_⟩
  have hel9 : HL C (upd (upd H8 n (.lst [.int 0, .int 0])) D' (.lst (zs ++ [.ref n]))) p q x l xs ls u v := by
    have h1 : HL C (upd H8 n (.lst [.int 0, .int 0])) p q x l xs ls u v := hel.same (sameUpd (Same.refl _) hn)
    exact h1.other (n := D') (by rw [upd_ne nD.symm]; exact hz8) Dp' Dq Dl
  obtain ⟨t1, i1, j1, g1, g2, g3, g4, g5⟩ : ∃ (t1 : Addr) (i1 j1 : Int), (zs ++ [V.ref n])[0]? = some (.ref t1) ∧ upd (upd H8 n (.lst [.int 0, .int 0])) D' (.lst (zs ++ [.ref n])) t1 = some (.lst [.int i1, .int j1]) ∧ t1 ≠ p ∧ t1 ≠ q ∧ t1 ≠ l := by
    cases lz8 with
    | nil => exact ⟨n, 0, 0, rfl, by rw [upd_ne nD]; exact upd_same, hel.hp.ap hn, hel.hp.aq hn, (ne_of_none (wo_get hel.hl).1 hn).symm⟩
    | @cons t r xs' ls' ht ne _ => exact ⟨t, r.1, r.2, rfl, by rw [upd_ne (fun z => ne (.inl z)), upd_ne (ne_of_none ht hn)]; exact ht, fun z => ne (.inr (.inl z)), fun z => ne (.inr (.inr (.inl z))), fun z => ne (.inr (.inr (.inr z)))⟩
  have hD9 : upd (upd H8 n (.lst [.int 0, .int 0])) D' (.lst (zs ++ [.ref n])) D' = some (.lst (zs ++ [.ref n])) := upd_same
  generalize upd (upd H8 n (.lst [.int 0, .int 0])) D' (.lst (zs ++ [.ref n])) = H9 at hel9 g2 hD9 ⊢
  clear hel hz8 lz8 hn
  refine ⟨fun σ H10 => σ = Zz a p mo (some (.int u)) (some (.int v)) (some (.ref l)) (some (.ref D')) (some (.ref x)) none none none none none none none none none none none none none none ∧ HL C H10 p q x l xs ls u v, ?_, ?_⟩
  · refine ⟨_, rfl, D', _, _, _, rfl, rfl, SqL.of hD9, atI_nat (j := 0) g1, ?_⟩
    exact ⟨t1, _, _, _, rfl, rfl, g2, rfl, rfl, hel9.other g2 g3 g4 g5⟩
  clear hel9 g2 hD9
  rintro σ H10 ⟨rfl, hel⟩
  -- the likeness is as it was
  refine ⟨fun σ H11 => σ = Zz a p mo (some (.int u)) (some (.int v)) (some (.ref l)) (some (.ref D')) (some (.ref x)) none none none none none none none none none none none none none none ∧ HL C H11 p q x l xs ls u v, ?_, ?_⟩
  · refine ⟨_, rfl, _, rfl, _, rfl, _, rfl, x, l, u, v, xs, ls, rfl, hel.kx.keep wo_same, (wo_get hel.hl).1, hel.pl.keep wo_same, fun H' s => ⟨_, rfl, iteF ⟨rfl, hel.same s⟩⟩⟩
  clear hel
  rintro σ H11 ⟨rfl, hel⟩
  refine ⟨fun σ H12 => σ = Zz a p mo (some (.int u)) (some (.int v)) (some (.ref l)) (some (.ref D')) (some (.ref x)) none none none none none none none none none none none none none none ∧ HL C H12 p q x l xs ls u v, ?_, ?_⟩
  · have kx1 := hel.kx.keep wo_same
    have hl1 := (wo_get hel.hl).1
    obtain ⟨d1', f1', g1, g2⟩ := kx1.go m_flip
    refine ⟨_, rfl, x, d1', f1', rfl, g1, g2, x, _, _, _, rfl, kx1, fun y Ha sa ky => ?_⟩
    rw [flp_srt lk] at ky
    refine ⟨_, rfl, _, rfl, _, rfl, l, rfl, ⟨xs, SqL.of (sa _ _ hl1)⟩, fun E hE => ?_⟩
    refine lc_list (K := K) (a := l) (xs := xs) (fun i H3 => Same Ha H3 ∧ ∃ ws, H3 E = some (.lst ws) ∧ PL H3 ws (flpL (ls.take i))) ⟨sameUpd (Same.refl _) hE, [], upd_same, .nil⟩ (fun i H3 _ w => SqL.of (w.1 _ _ (sa _ _ hl1))) ?_ ?_
    · rintro i z H3 hi ⟨s3, ws, hw, pw⟩
      obtain ⟨t, r, rfl, hr', ht⟩ := (((hel.pl.keep wo_same).keep sa).keep s3).at_ hi
      have lti : i < ls.length := (List.getElem?_eq_some_iff.mp hr').1
      refine ⟨t, _, rfl, SqT.of ht, rfl, _, _, rfl, _, _, rfl, rfl, rfl, ?_⟩
      refine ⟨_, rfl, _, rfl, (by show 2 ≤ sizeLine; decide), fun n hn => ?_⟩
      have nE : n ≠ E := (ne_of_none hw hn).symm
      have wl : ws.length ≤ i := by rw [pw.len]; unfold flpL; rw [List.length_map, List.length_take]; omega
      refine ⟨ws, by rw [upd_ne nE.symm]; exact hw, small1000 (by omega), fun c o e => ?_, ws ++ [.ref n], upd_same, ?_⟩
      · rw [upd_ne (ne_of_none e hE), upd_ne (ne_of_none (s3 c o e) hn)]
        exact s3 c o e
      · have e1 : flpL (ls.take (i + 1)) = flpL (ls.take i) ++ [(r.2, r.1)] := by rw [take_succ_of hr']; unfold flpL; rw [List.map_append]; rfl
        rw [e1]
        refine PL.keep' (PL.app (pw.keep (sameUpd (Same.refl _) hn)) (PL.one upd_same)) fun {t vs} h z => ?_
        rw [z, upd_ne nE.symm, hw] at h
        cases h
    · rintro H3 ⟨s3, ws, hw, pw⟩
      rw [xl, List.take_length] at pw
      have sb := sa.trans s3
      refine ⟨y, E, v, u, ws, flpL ls, rfl, ky.keep s3, hw, pw, fun H' s => ⟨_, rfl, iteF ⟨rfl, hel.same (sb.trans s)⟩⟩⟩
  clear hel
  rintro σ H12 ⟨rfl, hel⟩
  -- where each leads
  refine ⟨fun σ H13 => ∃ W : Addr, σ = Zz a p mo (some (.int u)) (some (.int v)) (some (.ref l)) (some (.ref D')) (some (.ref x)) (some (.ref W)) none none none none none none none none none none none none none ∧ HL C H13 p q x l xs ls u v ∧ H13 W = some (.lst (ways u.toNat [])) ∧ W ≠ p ∧ W ≠ q ∧ W ≠ l, ?_, ?_⟩
  · refine ⟨_, rfl, _, rfl, by omega, by omega, fun W hW => ?_⟩
    refine lc_range (n := u.toNat) (fun i H3 => Same H12 H3 ∧ H3 W = some (.lst (List.replicate i .non))) ⟨sameUpd (Same.refl _) hW, upd_same⟩ ?_ ?_
    · rintro i H3 hi ⟨s3, hw⟩
      refine ⟨rfl, ?_⟩
      refine ⟨_, hw, small1000 (by simp; omega), fun c o e => ?_, ?_⟩
      · rw [upd_ne (ne_of_none e hW)]
        exact s3 c o e
      · rw [List.replicate_succ']
        exact upd_same
    · rintro H3 ⟨s3, hw⟩
      exact ⟨W, rfl, hel.same s3, by rw [ways_nil]; exact hw, hel.hp.ap hW, hel.hp.aq hW, (ne_of_none (wo_get hel.hl).1 hW).symm⟩
  clear hel
  rintro σ H13 ⟨W, rfl, hel, hW, Wp, Wq, Wl⟩
  refine ⟨fun σ H14 => ∃ v9 v10 : Option V, σ = Zz a p mo (some (.int u)) (some (.int v)) (some (.ref l)) (some (.ref D')) (some (.ref x)) (some (.ref W)) v9 v10 none none none none none none none none none none none ∧ HL C H14 p q x l xs ls u v ∧ H14 W = some (.lst (ways u.toNat ls)), ?_, ?_⟩
  · refine ⟨_, rfl, l, rfl, ⟨xs, SqL.of (wo_get hel.hl).1⟩, ?_⟩
    refine for_list (K := K) (xs := xs) (fun i σ H2 => ∃ v9 v10 : Option V, σ = Zz a p mo (some (.int u)) (some (.int v)) (some (.ref l)) (some (.ref D')) (some (.ref x)) (some (.ref W)) v9 v10 none none none none none none none none none none none ∧ HL C H2 p q x l xs ls u v ∧ H2 W = some (.lst (ways u.toNat (ls.take i)))) ⟨none, none, rfl, hel, hW⟩ (fun i σ H2 _ ⟨_, _, _, h, _⟩ => SqL.of (wo_get h.hl).1) ?_ ?_
    · rintro i z σ H2 hi ⟨v9, v10, rfl, hel, hw⟩
      obtain ⟨t, r, rfl, hr', ht⟩ := (hel.pl.keep wo_same).at_ hi
      have lr := lk.lo r (List.mem_of_getElem? hr')
      refine ⟨t, _, rfl, SqT.of ht, rfl, _, _, rfl, _, _, rfl, rfl, ?_⟩
      refine ⟨_, rfl, _, rfl, _, rfl, W, _, _, _, rfl, rfl, hw, ixN_of lr.1.1 (by rw [ways_len]; omega), ?_⟩
      exact ⟨_, _, rfl, hel.other hw Wp Wq Wl, by rw [upd_same, ways_set (no_before lk hr') lr.1.1, ← take_succ_of hr']⟩
    · rintro σ H2 ⟨v9, v10, rfl, hel, hw⟩
      rw [xl, List.take_length] at hw
      exact ⟨v9, v10, rfl, hel, hw⟩
  clear hel hW
  rintro σ H14 ⟨v9, v10, rfl, hel, hW⟩
  -- the partner of each
  refine ⟨fun σ H15 => ∃ v11 v12 : Option V, σ = Zz a p mo (some (.int u)) (some (.int v)) (some (.ref l)) (some (.ref D')) (some (.ref x)) (some (.ref W)) v9 v10 v11 v12 none none none none none none none none none ∧ HL C H15 p q x l xs ls u v, ?_, ?_⟩
  · refine ⟨_, rfl, _, rfl, by omega, by omega, ?_⟩
    refine for_range (n := u.toNat) (fun i σ H2 => ∃ v11 v12 : Option V, σ = Zz a p mo (some (.int u)) (some (.int v)) (some (.ref l)) (some (.ref D')) (some (.ref x)) (some (.ref W)) v9 v10 v11 v12 none none none none none none none none none ∧ HL C H2 p q x l xs ls u v ∧ H2 W = some (.lst (ways u.toNat ls))) ⟨none, none, rfl, hel, hW⟩ ?_ ?_
    · rintro i σ H2 hi ⟨v11, v12, rfl, hel, hw⟩
      refine ⟨_, rfl, _, rfl, x, _, "int", u, v, srt ls, rfl, hel.kx.keep wo_same, .int _, ?_⟩
      rw [if_pos (show wholeV (.int (0 + (i : Int))) 0 (u - 1) = true by simp [wholeV]; omega)]
      intro t H3 s3 ft ht
      replace ht : H3 t = some (.tup [.str "told", wV ls i]) := ht.trans (congrArg (fun z => some (HO.tup [V.str "told", z])) (getP_wV lk i))
      refine ⟨_, rfl, ix_of (.inr ht) (j := 0) rfl ⟨rfl, _, rfl, ?_⟩⟩
      rw [show (!decide (V.str "told" = V.str "told")) = false by simp]
      refine iteF ?_
      have ew : atI (ways u.toNat ls) (0 + (i : Int)) = some (wV ls i) := by
        rw [Int.zero_add]
        exact atI_nat (ways_at (by omega))
      refine ⟨_, rfl, ix_of (.inr ht) (j := 1) rfl ⟨_, rfl, _, rfl, W, _, _, _, rfl, rfl, SqL.of (s3 _ _ hw), ew, wV ls i, rfl, wV_ok ls i, _, rfl, iteF ?_⟩⟩
      exact ⟨_, _, rfl, hel.same s3, s3 _ _ hw⟩
    · rintro σ H2 ⟨v11, v12, rfl, hel, hw⟩
      exact ⟨v11, v12, rfl, hel⟩
  clear hel hW
  rintro σ H15 ⟨v11, v12, rfl, hel⟩
  -- odd numbers
  refine ⟨fun σ H16 => ∃ v13 : Option V, σ = Zz a p mo (some (.int u)) (some (.int v)) (some (.ref l)) (some (.ref D')) (some (.ref x)) (some (.ref W)) v9 v10 v11 v12 v13 none none none none none none none none ∧ HL C H16 p q x l xs ls u v, ?_, ?_⟩
  · refine ⟨_, rfl, _, rfl, (by show 5 ≤ sizeLine; decide), fun E hE => ⟨E, rfl, ⟨_, SqL.of upd_same⟩, ?_⟩⟩
    refine for_list (K := K) (xs := [.int (-1), .int u, .non, .bl true, .str "0"]) (fun i σ H2 => ∃ v13 : Option V, σ = Zz a p mo (some (.int u)) (some (.int v)) (some (.ref l)) (some (.ref D')) (some (.ref x)) (some (.ref W)) v9 v10 v11 v12 v13 none none none none none none none none ∧ HL C H2 p q x l xs ls u v ∧ H2 E = some (.lst [.int (-1), .int u, .non, .bl true, .str "0"])) ⟨none, rfl, hel.same (sameUpd (Same.refl _) hE), upd_same⟩ (fun i σ H2 _ ⟨_, _, _, h⟩ => SqL.of h) ?_ ?_
    · rintro i z σ H2 hi ⟨v13, rfl, hel, hw⟩
      have odd : ∃ (n : String) (d : PyData), Kd H2 z n ∧ wholeV z 0 (u - 1) = false ∧ (∀ H3, Dp K H3 z d) ∧ SeqAt.shaped (.tuple [.str "refused", d, .bool true]) = true := by
        match i, hi with
        | 0, hi => cases hi; exact ⟨_, .int (-1), .int _, by simp [wholeV], fun _ => .int _, sh3 (by decide +kernel) (by simp [PyData.canLay0]) (by simp [PyData.depth])⟩
        | 1, hi => cases hi; exact ⟨_, .int u, .int _, by simp [wholeV]; omega, fun _ => .int _, sh3 (by decide +kernel) (by simp [PyData.canLay0]) (by simp [PyData.depth])⟩
        | 2, hi => cases hi; exact ⟨_, .none, .non, rfl, fun _ => .non, sh3 (by decide +kernel) (by simp [PyData.canLay0]) (by simp [PyData.depth])⟩
        | 3, hi => cases hi; exact ⟨_, .bool true, .bl _, rfl, fun _ => .bl _, sh3 (by decide +kernel) (by simp [PyData.canLay0]) (by simp [PyData.depth])⟩
        | 4, hi => cases hi; exact ⟨_, .str "0", .str _, rfl, fun _ => .str _, sh3 (by decide +kernel) (by simp [PyData.canLay0]; decide +kernel) (by simp [PyData.depth])⟩
        | n + 5, hi => simp at hi
      obtain ⟨n, d, kd, ow, dp, shp⟩ := odd
      refine ⟨_, rfl, _, rfl, x, z, n, u, v, srt ls, rfl, hel.kx.keep wo_same, kd, ?_⟩
      rw [if_neg (by rw [ow]; decide)]
      intro t H3 s3 ft ht
      refine ⟨_, rfl, (by show 3 ≤ sizeLine; decide), fun t2 ht2 => ?_⟩
      have s4 : Same H3 (upd H3 t2 (.tup [.str "refused", z, .bl true])) := sameUpd (Same.refl _) ht2
      refine ⟨.tuple [.str "refused", d, .bool true], .tuple [.str "refused", d, .bool true], .tup (SqT.of (s4 _ _ ht)) (.cons (.str _) (.cons (dp _) (.cons (.bl _) .nil))), .tup (SqT.of upd_same) (.cons (.str _) (.cons (dp _) (.cons (.bl _) .nil))), shp, shp, _, rfl, ?_⟩
      rw [eqv_shaped shp]
      exact iteF ⟨_, rfl, hel.same (s3.trans s4), s4 _ _ (s3 _ _ hw)⟩
    · rintro σ H2 ⟨v13, rfl, hel, hw⟩
      exact ⟨v13, rfl, hel⟩
  clear hel
  rintro σ H16 ⟨v13, rfl, hel⟩
  have hl16 := (wo_get hel.hl).1
  refine ⟨fun σ H17 => ∃ (R : Addr) (ys : List V), σ = Zz a p mo (some (.int u)) (some (.int v)) (some (.ref l)) (some (.ref D')) (some (.ref x)) (some (.ref W)) v9 v10 v11 v12 v13 (some (.ref R)) none none none none none none none ∧ HL C H17 p q x l xs ls u v ∧ H17 R = some (.lst ys) ∧ PL H17 ys (ls.drop (ls.length / 2) ++ ls.take (ls.length / 2)), ?_, ?_⟩
  · have e2 : ((xs.length : Nat) : Int) / 2 = ((ls.length / 2 : Nat) : Int) := by rw [xl]; omega
    refine ⟨_, rfl, _, rfl, l, _, rfl, .inl (SqL.of hl16), _, _, rfl, rfl, ⟨by decide, by decide⟩, _, rfl, l, _, rfl, SqL.of hl16, fun p1 hp1 => ?_⟩
    rw [e2, cutD]
    have s1 : Same H16 (upd H16 p1 (.lst (xs.drop (ls.length / 2)))) := sameUpd (Same.refl _) hp1
    refine ⟨_, rfl, _, rfl, l, _, rfl, .inl (SqL.of (s1 _ _ hl16)), _, _, rfl, rfl, ⟨by decide, by decide⟩, _, rfl, l, _, rfl, SqL.of (s1 _ _ hl16), fun p2 hp2 => ?_⟩
    rw [e2, cutT]
    have s2 := s1.trans (sameUpd (o := .lst (xs.take (ls.length / 2))) (Same.refl _) hp2)
    refine ⟨p1, p2, _, _, rfl, rfl, by rw [upd_ne (ne_of_none upd_same hp2)]; exact upd_same, upd_same, Nat.le_of_lt (small1000 (by simp; omega)), fun p3 hp3 => ?_⟩
    have s3 := s2.trans (sameUpd (o := .lst (xs.drop (ls.length / 2) ++ xs.take (ls.length / 2))) (Same.refl _) hp3)
    have pl3 := (hel.pl.keep wo_same).keep s3
    exact ⟨p3, _, rfl, hel.same s3, upd_same, (pl3.drop _).app (pl3.take _)⟩
  clear hel hl16
  rintro σ H17 ⟨R, ys, rfl, hel, hR, pR⟩
  -- made of them, turned about
  refine ⟨fun σ H18 => ∃ y : Addr, σ = Zz a p mo (some (.int u)) (some (.int v)) (some (.ref l)) (some (.ref D')) (some (.ref x)) (some (.ref W)) v9 v10 v11 v12 v13 (some (.ref R)) (some (.ref y)) none none none none none none ∧ HL C H18 p q x l xs ls u v ∧ LkAt C (wo p H18) y u v (srt ls), ?_, ?_⟩
  · refine ⟨_, rfl, _, rfl, _, rfl, R, ys, rfl, .inl ⟨SqL.of hR, fun t ht => ?_⟩⟩
    have s1 : Same H17 (upd H17 t (.tup ys)) := sameUpd (Same.refl _) ht
    refine makeLX (.inr upd_same) (pR.keep s1) (lk.perm (rot_perm ls _)) sz fun y Ha fy sa ky => ?_
    have s2 := s1.trans sa
    rw [srt_congr (rot_perm ls _)] at ky
    exact ⟨y, rfl, hel.same s2, ky.wo (hel.hp.same s2)⟩
  clear hel hR pR
  rintro σ H18 ⟨y, rfl, hel, ky⟩
  refine ⟨fun σ H19 => σ = Zz a p mo (some (.int u)) (some (.int v)) (some (.ref l)) (some (.ref D')) (some (.ref x)) (some (.ref W)) v9 v10 v11 v12 v13 (some (.ref R)) (some (.ref y)) none none none none none none ∧ HL C H19 p q x l xs ls u v, ?_, ?_⟩
  · have kx1 := hel.kx.keep wo_same
    have ky1 := ky.keep wo_same
    have hl1 := (wo_get hel.hl).1
    obtain ⟨dm, fm, h1', _⟩ := kx1.go m_flip
    obtain ⟨dn, fn, h2', _⟩ := ky1.go m_flip
    have nf : PySem.W.notFirst K C (.ref C) = true := by simp [PySem.W.notFirst]
    have same : decide (u = u ∧ v = v ∧ srt ls = srt ls) = true := decide_eq_true ⟨rfl, rfl, rfl⟩
    refine ⟨_, rfl, _, rfl, x, dm, fm, rfl, h1', .inl ⟨y, dn, fn, C, rfl, h2', nf⟩, x, .ref y, _, _, _, rfl, kx1, .inr ⟨y, _, _, _, rfl, ky1, _, rfl, _, rfl, ?_⟩⟩
    rw [same]
    refine iteF ?_
    refine ⟨_, rfl, _, rfl, x, dm, fm, y, dn, fn, rfl, h1', rfl, h2', x, .ref y, _, _, _, rfl, kx1, .inr ⟨y, _, _, _, rfl, ky1, _, rfl, _, rfl, ?_⟩⟩
    rw [same]
    refine iteF ?_
    refine ⟨_, rfl, _, rfl, l, xs, PL.kOf H18, rfl, SqL.of hl1, (hel.pl.keep wo_same).all, fun ws t1 srtd stb ht1 => ?_⟩
    have s1 : Same H18 (upd H18 t1 (.lst ws)) := sameUpd (Same.refl _) ht1
    refine ⟨t1, ws, rfl, .inl ⟨SqL.of upd_same, fun t2 ht2 => ?_⟩⟩
    have s2 := s1.trans (sameUpd (o := .tup ws) (Same.refl _) ht2)
    refine ⟨x, dm, fm, rfl, s2 _ _ h1', .inr ⟨t2, ws, rfl, upd_same, A.nt⟩, x, .ref t2, _, _, _, rfl, kx1.keep s2, .inl ⟨t2, ws, rfl, upd_same, _, rfl, _, rfl, iteF ?_⟩⟩
    refine ⟨_, rfl, _, rfl, _, rfl, (by show 2 ≤ sizeLine; decide), fun t3 ht3 => ?_⟩
    have s3 := s2.trans (sameUpd (o := .tup [.int u, .int v]) (Same.refl _) ht3)
    exact ⟨x, dm, fm, rfl, s3 _ _ h1', .inr ⟨t3, _, rfl, upd_same, A.nt⟩, x, .ref t3, _, _, _, rfl, kx1.keep s3, .inl ⟨t3, _, rfl, upd_same, _, rfl, _, rfl, iteF ⟨rfl, hel.same s3⟩⟩⟩
  clear hel ky
  rintro σ H19 ⟨rfl, hel⟩
  have nf : PySem.W.notFirst K C (.ref C) = true := by simp [PySem.W.notFirst]
  -- other sizes
  refine ⟨fun σ H20 => σ = Zz a p mo (some (.int u)) (some (.int v)) (some (.ref l)) (some (.ref D')) (some (.ref x)) (some (.ref W)) v9 v10 v11 v12 v13 (some (.ref R)) (some (.ref y)) none none none none none none ∧ HL C H20 p q x l xs ls u v, ?_, ?_⟩
  · refine ⟨_, rfl, _, _, rfl, rfl, _, rfl, ?_⟩
    refine ite2 (fun hlt => ?_) (fun _ => ⟨rfl, hel⟩)
    have hlt : u < 40 := of_decide_eq_true hlt
    have kx1 := hel.kx.keep wo_same
    have hl1 := (wo_get hel.hl).1
    have pl1 := hel.pl.keep wo_same
    obtain ⟨dm, fm, h1', _⟩ := kx1.go m_flip
    have lk' : Lk (u + 1) v ls := lk.wide (by omega) (Int.le_refl _)
    have sz' : Sz (u + 1) v := ⟨by omega, by omega, sz.b0, sz.b4⟩
    have differ : decide (u = u + 1 ∧ v = v ∧ srt ls = srt ls) = false := decide_eq_false fun z => by have := z.1; omega
    refine ⟨_, rfl, _, rfl, _, _, rfl, rfl, _, rfl, _, rfl, ?_⟩
    refine makeLX (.inl hl1) pl1 lk' sz' fun y1 Ha fy sa ky => ?_
    obtain ⟨dn, fn, h2', _⟩ := ky.go m_flip
    refine ⟨x, dm, fm, rfl, sa _ _ h1', .inl ⟨y1, dn, fn, C, rfl, h2', nf⟩, x, .ref y1, _, _, _, rfl, kx1.keep sa, .inr ⟨y1, _, _, _, rfl, ky, _, rfl, _, rfl, ?_⟩⟩
    rw [differ]
    refine iteF ?_
    refine ⟨_, rfl, _, rfl, _, _, rfl, rfl, _, rfl, _, rfl, ?_⟩
    refine makeLX (.inl (sa _ _ hl1)) (pl1.keep sa) lk' sz' fun y2 Hb fy2 sb ky2 => ?_
    obtain ⟨dn2, fn2, h3', _⟩ := ky2.go m_flip
    refine ⟨x, dm, fm, y2, dn2, fn2, rfl, sb _ _ (sa _ _ h1'), rfl, h3', x, .ref y2, _, _, _, rfl, (kx1.keep sa).keep sb, .inr ⟨y2, _, _, _, rfl, ky2, _, rfl, _, rfl, ?_⟩⟩
    rw [differ]
    exact iteF ⟨rfl, hel.same (sa.trans sb)⟩
  clear hel
  rintro σ H20 ⟨rfl, hel⟩
  refine ⟨fun σ H21 => σ = Zz a p mo (some (.int u)) (some (.int v)) (some (.ref l)) (some (.ref D')) (some (.ref x)) (some (.ref W)) v9 v10 v11 v12 v13 (some (.ref R)) (some (.ref y)) none none none none none none ∧ HL C H21 p q x l xs ls u v, ?_, ?_⟩
  · refine ⟨_, rfl, _, _, rfl, rfl, _, rfl, ?_⟩
    refine ite2 (fun hlt => ?_) (fun _ => ⟨rfl, hel⟩)
    have hlt : v < 40 := of_decide_eq_true hlt
    have kx1 := hel.kx.keep wo_same
    have hl1 := (wo_get hel.hl).1
    have pl1 := hel.pl.keep wo_same
    obtain ⟨dm, fm, h1', _⟩ := kx1.go m_flip
    have lk' : Lk u (v + 1) ls := lk.wide (Int.le_refl _) (by omega)
    have sz' : Sz u (v + 1) := ⟨sz.a0, sz.a4, by omega, by omega⟩
    have differ : decide (u = u ∧ v = v + 1 ∧ srt ls = srt ls) = false := decide_eq_false fun z => by have := z.2.1; omega
    refine ⟨_, rfl, _, rfl, _, rfl, _, _, rfl, rfl, _, rfl, ?_⟩
    refine makeLX (.inl hl1) pl1 lk' sz' fun y1 Ha fy sa ky => ?_
    obtain ⟨dn, fn, h2', _⟩ := ky.go m_flip
    refine ⟨x, dm, fm, rfl, sa _ _ h1', .inl ⟨y1, dn, fn, C, rfl, h2', nf⟩, x, .ref y1, _, _, _, rfl, kx1.keep sa, .inr ⟨y1, _, _, _, rfl, ky, _, rfl, _, rfl, ?_⟩⟩
    rw [differ]
    exact iteF ⟨rfl, hel.same sa⟩
  clear hel
  rintro σ H21 ⟨rfl, hel⟩
  -- fewer links
  refine ⟨fun σ H22 => σ = Zz a p mo (some (.int u)) (some (.int v)) (some (.ref l)) (some (.ref D')) (some (.ref x)) (some (.ref W)) v9 v10 v11 v12 v13 (some (.ref R)) (some (.ref y)) none none none none none none ∧ HL C H22 p q x l xs ls u v, ?_, ?_⟩
  · have hl1 := (wo_get hel.hl).1
    have pl1 := hel.pl.keep wo_same
    refine ⟨_, rfl, Nat.zero_le _, fun t1 ht1 => ?_⟩
    have s1 : Same H21 (upd H21 t1 (.lst [])) := sameUpd (Same.refl _) ht1
    refine ⟨_, .list (([] : List Pr).map pdI), .lst (SqL.of (s1 _ _ hl1)) (pl1.keep s1).dp, .lst (SqL.of upd_same) .nil, shaped_pdL _, shaped_pdL [], _, rfl, ?_⟩
    rw [show PyData.eqv (.list (ls.map pdI)) (.list (([] : List Pr).map pdI)) = decide (ls = []) from eqv_pdI ls []]
    by_cases em : ls = []
    · rw [decide_eq_true em]
      exact iteF ⟨rfl, hel.same s1⟩
    · rw [decide_eq_false em]
      refine iteT ?_
      have kx1 := (hel.kx.keep wo_same).keep s1
      obtain ⟨dm, fm, h1', _⟩ := kx1.go m_flip
      refine ⟨_, rfl, _, rfl, _, rfl, _, rfl, _, rfl, l, xs, rfl, SqL.of (s1 _ _ hl1), fun t2 ht2 => ?_⟩
      rw [show cutV xs (some 1) none = xs.drop 1 from cutD xs 1]
      have s2 : Same (upd H21 t1 (.lst [])) (upd (upd H21 t1 (.lst [])) t2 (.lst (xs.drop 1))) := sameUpd (Same.refl _) ht2
      have pos : 0 < ls.length := List.length_pos_iff.mpr em
      refine makeLX (.inl upd_same) (((pl1.keep s1).keep s2).drop 1) (lk.sub (List.drop_sublist 1 ls)) sz fun y1 Ha fy sa ky => ?_
      obtain ⟨dn, fn, h2', _⟩ := ky.go m_flip
      have s3 := s2.trans sa
      refine ⟨x, dm, fm, rfl, s3 _ _ h1', .inl ⟨y1, dn, fn, C, rfl, h2', nf⟩, x, .ref y1, _, _, _, rfl, kx1.keep s3, .inr ⟨y1, _, _, _, rfl, ky, _, rfl, _, rfl, ?_⟩⟩
      rw [show decide (u = u ∧ v = v ∧ srt ls = srt (ls.drop 1)) = false from decide_eq_false fun z => by
        have := congrArg List.length z.2.2
        rw [srt_len, srt_len, List.length_drop] at this
        omega]
      exact iteF ⟨rfl, hel.same (s1.trans s3)⟩
  clear hel
  rintro σ H22 ⟨rfl, hel⟩
  -- another likeness
  refine ⟨_, rfl, _, rfl, _, _, rfl, rfl, p, q, mo + 1, rfl, hel.hp, by omega, by omega, fun c H23 c0 c1 hp23 k23 => ?_⟩
  refine ⟨_, rfl, _, rfl, _, _, rfl, rfl, p, q, mo + 1, rfl, hp23, by omega, by omega, fun d H24 d0 d1 hp24 k24 => ?_⟩
  have szz : Sz c d := ⟨c0, by omega, d0, by omega⟩
  refine ⟨_, _, rfl, ?_⟩
  replace hel := hel.keep (k23.trans k24) hp24
  clear k23 k24 hp23 hp24
  refine ⟨fun σ H25 => ∃ (o : Addr) (os : List Pr), σ = Zz a p mo (some (.int u)) (some (.int v)) (some (.ref l)) (some (.ref D')) (some (.ref x)) (some (.ref W)) v9 v10 v11 v12 v13 (some (.ref R)) (some (.ref y)) (some (.int c)) (some (.int d)) (some (.ref o)) none none none ∧ HL C H25 p q x l xs ls u v ∧ LkAt C (wo p H25) o c d os, ?_, ?_⟩
  · refine ⟨_, rfl, _, rfl, _, rfl, _, rfl, _, rfl, _, rfl, p, q, c, d, mo, rfl, hel.hp, szz, by omega, by omega, fun l2 xs2 ls2 Ha hl2 nl2 fl2 pl2 lk2 le2 hpa ka => ?_⟩
    refine makeLX (.inl hl2) pl2 lk2 szz fun y1 Hb fy sb ky => ?_
    exact ⟨y1, _, rfl, (hel.keep ka hpa).same sb, ky.wo (hpa.same sb)⟩
  clear hel
  rintro σ H25 ⟨o, os, rfl, hel, ko⟩
  have shS : SeqAt.shaped (.tuple [.str "refused", .str "sizes", .bool true]) = true := sh3 (by decide +kernel) (by simp [PyData.canLay0]; decide +kernel) (by simp [PyData.depth])
  refine ⟨fun σ H26 => σ = Zz a p mo (some (.int u)) (some (.int v)) (some (.ref l)) (some (.ref D')) (some (.ref x)) (some (.ref W)) v9 v10 v11 v12 v13 (some (.ref R)) (some (.ref y)) (some (.int c)) (some (.int d)) (some (.ref o)) none none none ∧ HL C H26 p q x l xs ls u v, ?_, ?_⟩
  · refine ⟨_, rfl, _, rfl, rfl, _, rfl, ?_⟩
    by_cases e : c = v
    · rw [show (!decide (V.int c = V.int v)) = false by simp [e]]
      exact iteF ⟨rfl, hel⟩
    · rw [show (!decide (V.int c = V.int v)) = true by simp [e]]
      refine iteT ?_
      refine ⟨_, rfl, _, rfl, x, .ref o, u, v, srt ls, rfl, hel.kx.keep wo_same, .inr ⟨o, c, d, os, rfl, ko.keep wo_same, e⟩, fun t Ha sa ft ht => ?_⟩
      refine ⟨(by show 3 ≤ sizeLine; decide), fun t2 ht2 => ?_⟩
      have s2 : Same Ha (upd Ha t2 (.tup [.str "refused", .str "sizes", .bl true])) := sameUpd (Same.refl _) ht2
      refine ⟨.tuple [.str "refused", .str "sizes", .bool true], .tuple [.str "refused", .str "sizes", .bool true], .tup (SqT.of (s2 _ _ ht)) (.cons (.str _) (.cons (.str _) (.cons (.bl _) .nil))), .tup (SqT.of upd_same) (.cons (.str _) (.cons (.str _) (.cons (.bl _) .nil))), shS, shS, _, rfl, ?_⟩
      rw [eqv_shaped shS]
      exact iteF ⟨rfl, hel.same (sa.trans s2)⟩
  clear hel ko
  rintro σ H26 ⟨rfl, hel⟩
  refine ⟨fun σ H27 => σ = Zz a p mo (some (.int u)) (some (.int v)) (some (.ref l)) (some (.ref D')) (some (.ref x)) (some (.ref W)) v9 v10 v11 v12 v13 (some (.ref R)) (some (.ref y)) (some (.int c)) (some (.int d)) (some (.ref o)) none none none ∧ HL C H27 p q x l xs ls u v, ?_, ?_⟩
  · refine ⟨_, rfl, _, rfl, _, rfl, (by show 3 ≤ sizeLine; decide), fun t1 ht1 => ?_⟩
    have s1 : Same H26 (upd H26 t1 (.lst [.non, .ref l, .int 3])) := sameUpd (Same.refl _) ht1
    refine ⟨p, q, t1, _, rfl, hel.hp.same s1, upd_same, hel.hp.ap ht1, (by show 0 < 3; decide), (by show 3 ≤ 1000; decide), fun x' H5 hx hp5 k5 => ?_⟩
    have hel5 := (hel.same s1).keep k5 hp5
    have kn : ∃ n, Kd H5 x' n ∧ n ∈ ["NoneType", "list", "int"] := by
      simp only [List.mem_cons, List.not_mem_nil, or_false] at hx
      rcases hx with e | e | e <;> subst e
      · exact ⟨_, .non, by simp⟩
      · exact ⟨_, .lst _ _ (wo_get hel5.hl).1, by simp⟩
      · exact ⟨_, .int _, by simp⟩
    refine ⟨x, x', u, v, srt ls, rfl, hel5.kx.keep wo_same, .inl kn, fun t Ha sa ft ht => ?_⟩
    refine ⟨(by show 3 ≤ sizeLine; decide), fun t2 ht2 => ?_⟩
    have s2 : Same Ha (upd Ha t2 (.tup [.str "refused", .str "sizes", .bl true])) := sameUpd (Same.refl _) ht2
    refine ⟨.tuple [.str "refused", .str "sizes", .bool true], .tuple [.str "refused", .str "sizes", .bool true], .tup (SqT.of (s2 _ _ ht)) (.cons (.str _) (.cons (.str _) (.cons (.bl _) .nil))), .tup (SqT.of upd_same) (.cons (.str _) (.cons (.str _) (.cons (.bl _) .nil))), shS, shS, _, rfl, ?_⟩
    rw [eqv_shaped shS]
    exact iteF ⟨rfl, hel5.same (sa.trans s2)⟩
  clear hel
  rintro σ H27 ⟨rfl, hel⟩
  -- spoilt parts
  refine ⟨fun _ _ => True, ?_, fun σ H28 _ => rfl⟩
  refine ⟨_, rfl, by decide, by decide, ?_⟩
  refine for_range (n := 4) (fun i σ H2 => ∃ w12 w19 w20 w21 : Option V, σ = Zz a p mo (some (.int u)) (some (.int v)) (some (.ref l)) (some (.ref D')) (some (.ref x)) (some (.ref W)) v9 v10 v11 w12 v13 (some (.ref R)) (some (.ref y)) (some (.int c)) (some (.int d)) (some (.ref o)) w19 w20 w21 ∧ HL C H2 p q x l xs ls u v) ⟨v12, none, none, none, rfl, hel⟩ ?_ (fun _ _ _ => trivial)
  clear hel
  rintro i σ H2 hi ⟨w12, w19, w20, w21, rfl, hel⟩
  refine ⟨fun σ H3 => ∃ (b : Addr) (x1 y1 l1 : V), σ = Zz a p mo (some (.int u)) (some (.int v)) (some (.ref l)) (some (.ref D')) (some (.ref x)) (some (.ref W)) v9 v10 v11 w12 v13 (some (.ref R)) (some (.ref y)) (some (.int c)) (some (.int d)) (some (.ref o)) (some (.int (0 + (i : Int)))) (some (.ref b)) w21 ∧ HL C H3 p q x l xs ls u v ∧ wo p H3 b = some (.lst [x1, y1, l1]) ∧ Sca x1 ∧ Sca y1 ∧ LinksV (wo p H3) 41 l1, ?_, ?_⟩
  · have hl1 := (wo_get hel.hl).1
    refine ⟨_, rfl, _, rfl, _, rfl, _, rfl, l, xs, rfl, .inl (SqL.of hl1), fun t1 ht1 => ?_⟩
    have s1 : Same H2 (upd H2 t1 (.lst xs)) := sameUpd (Same.refl _) ht1
    refine ⟨(by show 3 ≤ sizeLine; decide), fun t2 ht2 => ?_⟩
    have s2 : Same H2 (upd (upd H2 t1 (.lst xs)) t2 (.lst [.int u, .int v, .ref t1])) := s1.trans (sameUpd (Same.refl _) ht2)
    have hel2 := hel.same s2
    refine ⟨p, q, t2, .int u, .int v, .ref t1, 40, rfl, hel2.hp, wo_at upd_same ((hel.hp.same s1).ap ht2), sca_int _, sca_int _, .lst (wo_at (by rw [upd_ne (ne_of_none upd_same ht2)]; exact upd_same) (hel.hp.ap ht1)) (by omega) hel2.pl.each, by decide, fun b' x' y' l' H' hp' k' hb sx sy hl' => ?_⟩
    exact ⟨b', x', y', l', rfl, hel2.keep k' hp', hb, sx, sy, hl'⟩
  clear hel
  rintro σ H3 ⟨b, x1, y1, l1, rfl, hel, hb, sx, sy, hl⟩
  refine ⟨fun σ H4 => ∃ (b : Addr) (x1 y1 l1 : V), σ = Zz a p mo (some (.int u)) (some (.int v)) (some (.ref l)) (some (.ref D')) (some (.ref x)) (some (.ref W)) v9 v10 v11 w12 v13 (some (.ref R)) (some (.ref y)) (some (.int c)) (some (.int d)) (some (.ref o)) (some (.int (0 + (i : Int)))) (some (.ref b)) w21 ∧ HL C H4 p q x l xs ls u v ∧ wo p H4 b = some (.lst [x1, y1, l1]) ∧ Sca x1 ∧ Sca y1 ∧ LinksV (wo p H4) 42 l1, ?_, ?_⟩
  · refine ⟨_, rfl, p, q, 3, rfl, hel.hp, by decide, by decide, fun z H4 z0 z1 hp4 k4 => ?_⟩
    have s := wo_keep k4
    refine ⟨rfl, _, rfl, ?_⟩
    refine ite2 (fun _ => ?_) (fun _ => ?_)
    · refine ⟨_, rfl, _, rfl, p, q, b, x1, y1, l1, 41, rfl, hp4, s _ _ hb, sx, sy, hl.keep s, by decide, fun b' x' y' l' H' hp' k' hb' sx' sy' hl' => ?_⟩
      exact ⟨b', x', y', l', rfl, (hel.keep k4 hp4).keep k' hp', hb', sx', sy', hl'⟩
    · exact ⟨b, x1, y1, l1, rfl, hel.keep k4 hp4, s _ _ hb, sx, sy, (hl.keep s).up (by decide)⟩
  clear hel hb sx sy hl b x1 y1 l1
  rintro σ H4 ⟨b, x1, y1, l1, rfl, hel, hb, sx, sy, hl⟩
  obtain ⟨r, hr', hrs⟩ := hl.rows2 (by decide)
  obtain ⟨n1, tn1, _⟩ := sx
  obtain ⟨n2, tn2, _⟩ := sy
  have hb4 := (wo_get hb).1
  have hr4 := hr'.keep wo_same
  refine ⟨_, rfl, b, _, _, _, rfl, rfl, SqL.of hb4, rfl, _, rfl, b, _, _, _, rfl, rfl, SqL.of hb4, rfl, _, rfl, b, _, _, _, rfl, rfl, SqL.of hb4, rfl, x1, y1, l1, n1, n2, r, rfl, (tn1 _).kd, (tn2 _).kd, hr4, fun H5 s5 => ?_⟩
  have hb5 := s5 _ _ hb4
  refine ⟨_, rfl, b, _, _, _, rfl, rfl, SqL.of hb5, rfl, _, rfl, b, _, _, _, rfl, rfl, SqL.of hb5, rfl, _, rfl, b, _, _, _, rfl, rfl, SqL.of hb5, rfl, x1, y1, l1, n1, n2, r, rfl, (tn1 _).kd, (tn2 _).kd, hr4.keep s5, ?_⟩
  cases e : likeDue x1 y1 r with
  | some w' =>
    intro t H6 s6 ft ht
    have ok4 := sh4 (s := "refused") (t := w') (by decide +kernel) (likeDue_ok e)
    refine ⟨_, rfl, rfl, _, rfl, ?_⟩
    rw [show (!decide (wordV (some w') = V.non)) = true by simp [wordV]]
    refine iteT ?_
    refine ⟨_, rfl, _, rfl, (by show 4 ≤ sizeLine; decide), fun t2 ht2 => ?_⟩
    have s7 : Same H6 (upd H6 t2 (.tup [.str "refused", .str w', .bl true, .bl true])) := sameUpd (Same.refl _) ht2
    refine ⟨.tuple [.str "refused", .str w', .bool true, .bool true], .tuple [.str "refused", .str w', .bool true, .bool true], .tup (SqT.of (s7 _ _ ht)) (.cons (.str _) (.cons (.str _) (.cons (.bl _) (.cons (.bl _) .nil)))), .tup (SqT.of upd_same) (.cons (.str _) (.cons (.str _) (.cons (.bl _) (.cons (.bl _) .nil)))), ok4, ok4, _, rfl, ?_⟩
    rw [eqv_shaped ok4]
    refine iteF ?_
    refine ⟨_, rfl, rfl, _, rfl, ?_⟩
    rw [show decide (wordV (some w') = V.non) = false by simp [wordV]]
    exact iteF ⟨_, _, _, _, rfl, hel.same ((s5.trans s6).trans s7)⟩
  | none =>
    intro a1 b1 rs z H6 ex ey er s6 kz
    subst ex; subst ey; subst er
    obtain ⟨lb, zs, rfl, hlb, ar, zl⟩ := hrs rs rfl
    have hin := likeDue_ints e
    have s56 := s5.trans s6
    have hb6 := s6 _ _ hb5
    have hlb6 := s56 _ _ (wo_get hlb).1
    have ar6 := (ar.keep wo_same).keep s56
    refine ⟨_, rfl, rfl, _, rfl, ?_⟩
    rw [show (!decide (wordV none = V.non)) = false by simp [wordV]]
    refine iteF ?_
    refine ⟨_, rfl, rfl, _, rfl, ?_⟩
    rw [show decide (wordV none = V.non) = true by simp [wordV]]
    refine iteT ?_
    refine ⟨_, rfl, _, rfl, b, _, _, _, rfl, rfl, SqL.of hb6, rfl, _, rfl, b, _, _, _, rfl, rfl, SqL.of hb6, rfl, _, rfl, b, _, _, _, rfl, rfl, SqL.of hb6, rfl, lb, rfl, ⟨zs, SqL.of hlb6⟩, fun E hE => ?_⟩
    refine lc_list (K := K) (a := lb) (xs := zs) (fun i H3 => Same H6 H3 ∧ ∃ ws, H3 E = some (.lst ws) ∧ PL H3 ws ((rs.take i).map prI)) ⟨sameUpd (Same.refl _) hE, [], upd_same, .nil⟩ (fun i H3 _ w => SqL.of (w.1 _ _ hlb6)) ?_ ?_
    · rintro i z' H3 hi ⟨s3, ws, hw, pw⟩
      have lti : i < rs.length := by
        have := (List.getElem?_eq_some_iff.mp hi).1
        have := ar6.1
        omega
      have er : rs[i]? = some rs[i] := List.getElem?_eq_getElem lti
      obtain ⟨i1, j1, e1⟩ := hin _ (List.getElem_mem lti)
      rw [e1] at er
      have row := (ar6.2 i z' _ hi er).keep s3
      rcases row.two with ⟨_, _, _, e9⟩ | ⟨t, xs', rfl, ht, _, ⟨_, e9⟩ | ⟨c', d', tt, uu, rfl, _, _, e9⟩⟩
      · cases e9
      · cases e9
      · cases e9
        refine ⟨rfl, ?_⟩
        refine ⟨_, rfl, ix_of ht (j := 0) rfl ⟨_, rfl, ix_of ht (j := 1) rfl ⟨(by show 2 ≤ sizeLine; decide), fun n hn => ?_⟩⟩⟩
        have nE : n ≠ E := (ne_of_none hw hn).symm
        have wl : ws.length ≤ i := by rw [pw.len, List.length_map, List.length_take]; omega
        have rl := ar6.1
        refine ⟨ws, by rw [upd_ne nE.symm]; exact hw, small1000 (by omega), fun c o e => ?_, ws ++ [.ref n], upd_same, ?_⟩
        · rw [upd_ne (ne_of_none e hE), upd_ne (ne_of_none (s3 c o e) hn)]
          exact s3 c o e
        · rw [take_succ_of er, List.map_append]
          refine PL.keep' (PL.app (pw.keep (sameUpd (Same.refl _) hn)) (PL.one (q := (i1, j1)) upd_same)) fun {t vs} h z => ?_
          rw [z, upd_ne nE.symm, hw] at h
          cases h
    · rintro H3 ⟨s3, ws, hw, pw⟩
      rw [ar6.1, List.take_length] at pw
      exact ⟨z, E, a1, b1, ws, rs.map prI, rfl, kz.keep s3, hw, pw, fun H' s => ⟨_, rfl, iteF ⟨_, _, _, _, rfl, hel.same ((s56.trans s3).trans s)⟩⟩⟩
end
end Kx

set_option maxHeartbeats 8000000
namespace Kx
open PySem PySem.Spec PyProof.Rows L2
theorem all_mk {l : PySem.W.OpenLaw} {w : World} {K : PySem.W.Frag} {h : Heap} {mg : Str → Option Value} {fa : Addr} {t2 : Tok} (X : K.In h) (G : h.Ns mainGlobals mg) (hfa : mg "law" = some (.ref fa))
    {f0 f1 f2 f3 f4 f5 f6 f7 f8 f9 f10 f11 f12 f13 f14 f15 f16 f17 g0 g1 g2 g3 g4 g5 g6 g7 g8 g9 C CB CI CS pF : Addr} {od0 an0 od1 an1 od2 an2 od3 an3 od4 an4 od5 an5 od6 an6 od7 an7 od8 an8 od9 an9 od10 an10 od11 an11 od12 an12 od13 an13 od14 an14 od15 an15 od16 an16 od17 an17 pd0 bn0 pd1 bn1 pd2 bn2 pd3 bn3 pd4 bn4 pd5 bn5 pd6 bn6 pd7 bn7 pd8 bn8 pd9 bn9 : Option Addr} {sl0 sl1 sl2 sl3 sl4 sl5 sl6 sl7 sl8 sl9 sl10 sl11 sl12 sl13 sl14 sl15 sl16 sl17 tl0 tl1 tl2 tl3 tl4 tl5 tl6 tl7 tl8 tl9 : Array (Option Value)} {oc0 kV0 dc0 pm0 cd0 ct0 oc1 kV1 dc1 pm1 cd1 ct1 oc2 kV2 dc2 pm2 cd2 ct2 oc3 kV3 dc3 pm3 cd3 ct3 oc4 kV4 dc4 pm4 cd4 ct4 oc5 kV5 dc5 pm5 cd5 ct5 oc6 kV6 dc6 pm6 cd6 ct6 oc7 kV7 dc7 pm7 cd7 ct7 oc8 kV8 dc8 pm8 cd8 ct8 oc9 kV9 dc9 pm9 cd9 ct9 oc10 kV10 dc10 pm10 cd10 ct10 oc11 kV11 dc11 pm11 cd11 ct11 oc12 kV12 dc12 pm12 cd12 ct12 oc13 kV13 dc13 pm13 cd13 ct13 oc14 kV14 dc14 pm14 cd14 ct14 oc15 kV15 dc15 pm15 cd15 ct15 oc16 kV16 dc16 pm16 cd16 ct16 oc17 kV17 dc17 pm17 cd17 ct17 pc0 lV0 ec0 qm0 dd0 dt0 pc1 lV1 ec1 qm1 dd1 dt1 pc2 lV2 ec2 qm2 dd2 dt2 pc3 lV3 ec3 qm3 dd3 dt3 pc4 lV4 ec4 qm4 dd4 dt4 pc5 lV5 ec5 qm5 dd5 dt5 pc6 lV6 ec6 qm6 dd6 dt6 pc7 lV7 ec7 qm7 dd7 dt7 pc8 lV8 ec8 qm8 dd8 dt8 pc9 lV9 ec9 qm9 dd9 dt9 : Value} {rest : List Value}
    (a0 : PySem.W.nsIn K mainGlobals "is_whole" = some (some (.ref f0)))
    (l0 : K.lookup f0 = some ⟨oc0, od0, .func (PySem.W.fnOf "is_whole" "is_whole" (defArgs sWhole) (defBody sWhole) (defScope sWhole) .none kV0 dc0 pm0 an0 cd0 ct0), sl0⟩)
    (c0 : PySem.W.codeIn K cd0 "is_whole" = true)
    (k0 : PySem.W.keepIn K (.ref f0) = true)
    (a1 : PySem.W.nsIn K mainGlobals "is_sequence" = some (some (.ref f1)))
    (l1 : K.lookup f1 = some ⟨oc1, od1, .func (PySem.W.fnOf "is_sequence" "is_sequence" (defArgs sSeq) (defBody sSeq) (defScope sSeq) .none kV1 dc1 pm1 an1 cd1 ct1), sl1⟩)
    (c1 : PySem.W.codeIn K cd1 "is_sequence" = true)
    (k1 : PySem.W.keepIn K (.ref f1) = true)
    (a2 : PySem.W.nsIn K mainGlobals "_check_sizes" = some (some (.ref f2)))
    (l2 : K.lookup f2 = some ⟨oc2, od2, .func (PySem.W.fnOf "_check_sizes" "_check_sizes" (defArgs sCheckSizes) (defBody sCheckSizes) (defScope sCheckSizes) .none kV2 dc2 pm2 an2 cd2 ct2), sl2⟩)
    (c2 : PySem.W.codeIn K cd2 "_check_sizes" = true)
    (k2 : PySem.W.keepIn K (.ref f2) = true)
    (a3 : PySem.W.nsIn K mainGlobals "_is_link" = some (some (.ref f3)))
    (l3 : K.lookup f3 = some ⟨oc3, od3, .func (PySem.W.fnOf "_is_link" "_is_link" (defArgs sIsLink) (defBody sIsLink) (defScope sIsLink) .none kV3 dc3 pm3 an3 cd3 ct3), sl3⟩)
    (c3 : PySem.W.codeIn K cd3 "_is_link" = true)
    (k3 : PySem.W.keepIn K (.ref f3) = true)
    (a4 : PySem.W.nsIn K mainGlobals "_law_mix" = some (some (.ref f4)))
    (l4 : K.lookup f4 = some ⟨oc4, od4, .func (PySem.W.fnOf "_law_mix" "_law_mix" (defArgs sMix) (defBody sMix) (defScope sMix) .none kV4 dc4 pm4 an4 cd4 ct4), sl4⟩)
    (c4 : PySem.W.codeIn K cd4 "_law_mix" = true)
    (k4 : PySem.W.keepIn K (.ref f4) = true)
    (a5 : PySem.W.nsIn K mainGlobals "_law_hand" = some (some (.ref f5)))
    (l5 : K.lookup f5 = some ⟨oc5, od5, .func (PySem.W.fnOf "_law_hand" "_law_hand" (defArgs sHand) (defBody sHand) (defScope sHand) .none kV5 dc5 pm5 an5 cd5 ct5), sl5⟩)
    (c5 : PySem.W.codeIn K cd5 "_law_hand" = true)
    (k5 : PySem.W.keepIn K (.ref f5) = true)
    (a6 : PySem.W.nsIn K mainGlobals "_law_draw" = some (some (.ref f6)))
    (l6 : K.lookup f6 = some ⟨oc6, od6, .func (PySem.W.fnOf "_law_draw" "_law_draw" (defArgs sDraw) (defBody sDraw) (defScope sDraw) .none kV6 dc6 pm6 an6 cd6 ct6), sl6⟩)
    (c6 : PySem.W.codeIn K cd6 "_law_draw" = true)
    (k6 : PySem.W.keepIn K (.ref f6) = true)
    (a7 : PySem.W.nsIn K mainGlobals "_law_one" = some (some (.ref f7)))
    (l7 : K.lookup f7 = some ⟨oc7, od7, .func (PySem.W.fnOf "_law_one" "_law_one" (defArgs sOne) (defBody sOne) (defScope sOne) .none kV7 dc7 pm7 an7 cd7 ct7), sl7⟩)
    (c7 : PySem.W.codeIn K cd7 "_law_one" = true)
    (k7 : PySem.W.keepIn K (.ref f7) = true)
    (a8 : PySem.W.nsIn K mainGlobals "_law_is_whole" = some (some (.ref f8)))
    (l8 : K.lookup f8 = some ⟨oc8, od8, .func (PySem.W.fnOf "_law_is_whole" "_law_is_whole" (defArgs sLIsWhole) (defBody sLIsWhole) (defScope sLIsWhole) .none kV8 dc8 pm8 an8 cd8 ct8), sl8⟩)
    (c8 : PySem.W.codeIn K cd8 "_law_is_whole" = true)
    (k8 : PySem.W.keepIn K (.ref f8) = true)
    (a9 : PySem.W.nsIn K mainGlobals "_law_links" = some (some (.ref f9)))
    (l9 : K.lookup f9 = some ⟨oc9, od9, .func (PySem.W.fnOf "_law_links" "_law_links" (defArgs sLLinks) (defBody sLLinks) (defScope sLLinks) .none kV9 dc9 pm9 an9 cd9 ct9), sl9⟩)
    (c9 : PySem.W.codeIn K cd9 "_law_links" = true)
    (k9 : PySem.W.keepIn K (.ref f9) = true)
    (a10 : PySem.W.nsIn K mainGlobals "_law_whole" = some (some (.ref f10)))
    (l10 : K.lookup f10 = some ⟨oc10, od10, .func (PySem.W.fnOf "_law_whole" "_law_whole" (defArgs sLWhole) (defBody sLWhole) (defScope sLWhole) .none kV10 dc10 pm10 an10 cd10 ct10), sl10⟩)
    (c10 : PySem.W.codeIn K cd10 "_law_whole" = true)
    (k10 : PySem.W.keepIn K (.ref f10) = true)
    (a11 : PySem.W.nsIn K mainGlobals "_law_fault" = some (some (.ref f11)))
    (l11 : K.lookup f11 = some ⟨oc11, od11, .func (PySem.W.fnOf "_law_fault" "_law_fault" (defArgs sLFault) (defBody sLFault) (defScope sLFault) .none kV11 dc11 pm11 an11 cd11 ct11), sl11⟩)
    (c11 : PySem.W.codeIn K cd11 "_law_fault" = true)
    (k11 : PySem.W.keepIn K (.ref f11) = true)
    (a12 : PySem.W.nsIn K mainGlobals "_law_spoilt" = some (some (.ref f12)))
    (l12 : K.lookup f12 = some ⟨oc12, od12, .func (PySem.W.fnOf "_law_spoilt" "_law_spoilt" (defArgs sLSpoilt) (defBody sLSpoilt) (defScope sLSpoilt) .none kV12 dc12 pm12 an12 cd12 ct12), sl12⟩)
    (c12 : PySem.W.codeIn K cd12 "_law_spoilt" = true)
    (k12 : PySem.W.keepIn K (.ref f12) = true)
    (a13 : PySem.W.nsIn K mainGlobals "_law_tried" = some (some (.ref f13)))
    (l13 : K.lookup f13 = some ⟨oc13, od13, .func (PySem.W.fnOf "_law_tried" "_law_tried" (defArgs sLTried) (defBody sLTried) (defScope sLTried) .none kV13 dc13 pm13 an13 cd13 ct13), sl13⟩)
    (c13 : PySem.W.codeIn K cd13 "_law_tried" = true)
    (k13 : PySem.W.keepIn K (.ref f13) = true)
    (a14 : PySem.W.nsIn K mainGlobals "_law_partner" = some (some (.ref f14)))
    (l14 : K.lookup f14 = some ⟨oc14, od14, .func (PySem.W.fnOf "_law_partner" "_law_partner" (defArgs sLPartner) (defBody sLPartner) (defScope sLPartner) .none kV14 dc14 pm14 an14 cd14 ct14), sl14⟩)
    (c14 : PySem.W.codeIn K cd14 "_law_partner" = true)
    (k14 : PySem.W.keepIn K (.ref f14) = true)
    (a15 : PySem.W.nsIn K mainGlobals "_law_then" = some (some (.ref f15)))
    (l15 : K.lookup f15 = some ⟨oc15, od15, .func (PySem.W.fnOf "_law_then" "_law_then" (defArgs sLThen) (defBody sLThen) (defScope sLThen) .none kV15 dc15 pm15 an15 cd15 ct15), sl15⟩)
    (c15 : PySem.W.codeIn K cd15 "_law_then" = true)
    (k15 : PySem.W.keepIn K (.ref f15) = true)
    (a16 : PySem.W.nsIn K mainGlobals "_law_is_likeness" = some (some (.ref f16)))
    (l16 : K.lookup f16 = some ⟨oc16, od16, .func (PySem.W.fnOf "_law_is_likeness" "_law_is_likeness" (defArgs sLIsLikeness) (defBody sLIsLikeness) (defScope sLIsLikeness) .none kV16 dc16 pm16 an16 cd16 ct16), sl16⟩)
    (c16 : PySem.W.codeIn K cd16 "_law_is_likeness" = true)
    (k16 : PySem.W.keepIn K (.ref f16) = true)
    (a17 : PySem.W.nsIn K mainGlobals "law" = some (some (.ref f17)))
    (l17 : K.lookup f17 = some ⟨oc17, od17, .func (PySem.W.fnOf "law" "law" (defArgs sLaw) (defBody sLaw) (defScope sLaw) .none kV17 dc17 pm17 an17 cd17 ct17), sl17⟩)
    (c17 : PySem.W.codeIn K cd17 "law" = true)
    (k17 : PySem.W.keepIn K (.ref f17) = true)
    (mC : PySem.W.nsIn K mainGlobals "Likeness" = some (some (.ref C)))
    (mCB : PySem.W.nsIn K mainGlobals "BadLikeness" = some (some (.ref CB)))
    (mCI : PySem.W.nsIn K mainGlobals "BadIndex" = some (some (.ref CI)))
    (mCS : PySem.W.nsIn K mainGlobals "SearchError" = some (some (.ref CS)))
    (M0 : PySem.W.findIn K (.ref CB) "__init__" = some (some (.ref g0)))
    (L0 : K.lookup g0 = some ⟨pc0, pd0, .func (PySem.W.fnOf "__init__" "BadLikeness.__init__" (defArgs sBadLikeness_init) (defBody sBadLikeness_init) (defScope sBadLikeness_init) .none lV0 ec0 qm0 bn0 dd0 dt0), tl0⟩)
    (D0 : PySem.W.codeIn K dd0 "BadLikeness.__init__" = true)
    (N0 : PySem.W.keepIn K (.ref g0) = true)
    (T0 : PySem.W.typeIn K (.ref g0) = some (.type "function"))
    (M1 : PySem.W.findIn K (.ref CI) "__init__" = some (some (.ref g1)))
    (L1 : K.lookup g1 = some ⟨pc1, pd1, .func (PySem.W.fnOf "__init__" "BadIndex.__init__" (defArgs sBadIndex_init) (defBody sBadIndex_init) (defScope sBadIndex_init) .none lV1 ec1 qm1 bn1 dd1 dt1), tl1⟩)
    (D1 : PySem.W.codeIn K dd1 "BadIndex.__init__" = true)
    (N1 : PySem.W.keepIn K (.ref g1) = true)
    (T1 : PySem.W.typeIn K (.ref g1) = some (.type "function"))
    (M2 : PySem.W.findIn K (.ref C) "__init__" = some (some (.ref g2)))
    (L2 : K.lookup g2 = some ⟨pc2, pd2, .func (PySem.W.fnOf "__init__" "Likeness.__init__" (defArgs sLikeness_init) (defBody sLikeness_init) (defScope sLikeness_init) .none lV2 ec2 qm2 bn2 dd2 dt2), tl2⟩)
    (D2 : PySem.W.codeIn K dd2 "Likeness.__init__" = true)
    (N2 : PySem.W.keepIn K (.ref g2) = true)
    (T2 : PySem.W.typeIn K (.ref g2) = some (.type "function"))
    (M3 : PySem.W.findIn K (.ref C) "__eq__" = some (some (.ref g3)))
    (L3 : K.lookup g3 = some ⟨pc3, pd3, .func (PySem.W.fnOf "__eq__" "Likeness.__eq__" (defArgs sLikeness_eq) (defBody sLikeness_eq) (defScope sLikeness_eq) .none lV3 ec3 qm3 bn3 dd3 dt3), tl3⟩)
    (D3 : PySem.W.codeIn K dd3 "Likeness.__eq__" = true)
    (N3 : PySem.W.keepIn K (.ref g3) = true)
    (T3 : PySem.W.typeIn K (.ref g3) = some (.type "function"))
    (M4 : PySem.W.findIn K (.ref C) "__len__" = some (some (.ref g4)))
    (L4 : K.lookup g4 = some ⟨pc4, pd4, .func (PySem.W.fnOf "__len__" "Likeness.__len__" (defArgs sLikeness_len) (defBody sLikeness_len) (defScope sLikeness_len) .none lV4 ec4 qm4 bn4 dd4 dt4), tl4⟩)
    (D4 : PySem.W.codeIn K dd4 "Likeness.__len__" = true)
    (N4 : PySem.W.keepIn K (.ref g4) = true)
    (T4 : PySem.W.typeIn K (.ref g4) = some (.type "function"))
    (M5 : PySem.W.findIn K (.ref C) "__iter__" = some (some (.ref g5)))
    (L5 : K.lookup g5 = some ⟨pc5, pd5, .func (PySem.W.fnOf "__iter__" "Likeness.__iter__" (defArgs sLikeness_iter) (defBody sLikeness_iter) (defScope sLikeness_iter) .none lV5 ec5 qm5 bn5 dd5 dt5), tl5⟩)
    (D5 : PySem.W.codeIn K dd5 "Likeness.__iter__" = true)
    (N5 : PySem.W.keepIn K (.ref g5) = true)
    (T5 : PySem.W.typeIn K (.ref g5) = some (.type "function"))
    (M6 : PySem.W.findIn K (.ref C) "partner" = some (some (.ref g6)))
    (L6 : K.lookup g6 = some ⟨pc6, pd6, .func (PySem.W.fnOf "partner" "Likeness.partner" (defArgs sLikeness_partner) (defBody sLikeness_partner) (defScope sLikeness_partner) .none lV6 ec6 qm6 bn6 dd6 dt6), tl6⟩)
    (D6 : PySem.W.codeIn K dd6 "Likeness.partner" = true)
    (N6 : PySem.W.keepIn K (.ref g6) = true)
    (T6 : PySem.W.typeIn K (.ref g6) = some (.type "function"))
    (M7 : PySem.W.findIn K (.ref C) "flipped" = some (some (.ref g7)))
    (L7 : K.lookup g7 = some ⟨pc7, pd7, .func (PySem.W.fnOf "flipped" "Likeness.flipped" (defArgs sLikeness_flipped) (defBody sLikeness_flipped) (defScope sLikeness_flipped) .none lV7 ec7 qm7 bn7 dd7 dt7), tl7⟩)
    (D7 : PySem.W.codeIn K dd7 "Likeness.flipped" = true)
    (N7 : PySem.W.keepIn K (.ref g7) = true)
    (T7 : PySem.W.typeIn K (.ref g7) = some (.type "function"))
    (M8 : PySem.W.findIn K (.ref C) "then" = some (some (.ref g8)))
    (L8 : K.lookup g8 = some ⟨pc8, pd8, .func (PySem.W.fnOf "then" "Likeness.then" (defArgs sLikeness_then) (defBody sLikeness_then) (defScope sLikeness_then) .none lV8 ec8 qm8 bn8 dd8 dt8), tl8⟩)
    (D8 : PySem.W.codeIn K dd8 "Likeness.then" = true)
    (N8 : PySem.W.keepIn K (.ref g8) = true)
    (T8 : PySem.W.typeIn K (.ref g8) = some (.type "function"))
    (P1 : PySem.W.findIn K (.ref C) "is_full" = some (some (.ref pF)))
    (P2 : PySem.W.specialIn K (.ref pF) "__get__" = some (some (.builtin "property.__get__")))
    (P3 : PySem.W.takesIn K (.ref pF) = some true)
    (P4 : PySem.W.recIn K pF "property" = some (.ref g9 :: rest))
    (L9 : K.lookup g9 = some ⟨pc9, pd9, .func (PySem.W.fnOf "is_full" "Likeness.is_full" (defArgs sLikeness_is_full) (defBody sLikeness_is_full) (defScope sLikeness_is_full) .none lV9 ec9 qm9 bn9 dd9 dt9), tl9⟩)
    (D9 : PySem.W.codeIn K dd9 "Likeness.is_full" = true)
    (N9 : PySem.W.keepIn K (.ref g9) = true)
    (u1 : PySem.W.plainGet K C Str.empty = true)
    (u2 : PySem.W.hasDictIn K C = true)
    (u3 : PySem.W.plainOver K C = true)
    (u4 : PySem.W.findIn K (.ref C) "__setattr__" = some (some (.builtin "object.__setattr__")))
    (u5 : PySem.W.findIn K (.ref C) "first" = some none)
    (u6 : PySem.W.findIn K (.ref C) "second" = some none)
    (u7 : PySem.W.findIn K (.ref C) "links" = some none)
    (u8 : PySem.W.findIn K (.ref C) "__class__" = some (some (.builtin "object.__class__")))
    (u9 : PySem.W.specialIn K (.builtin "object.__class__") "__get__" = some (some (.builtin "getset_descriptor.__get__")))
    (u10 : PySem.W.takesIn K (.builtin "object.__class__") = some true)
    (u11 : PySem.W.mroIn K C (.type "object") = some true)
    (u12 : PySem.W.kitOne K (.type "tuple") (.ref C) = some false)
    (u13 : PySem.W.makesIn K C = true)
    (u14 : PySem.W.keepIn K (.ref C) = true)
    (u15 : PySem.W.findIn K (.ref C) "__ne__" = some (some (.builtin "object.__ne__")))
    (u16 : PySem.W.notFirst K C (.type "tuple") = true)
    (u17 : PySem.W.findIn K (.ref CB) "what" = some none)
    (u18 : PySem.W.findIn K (.ref CI) "index" = some none)
    (u20 : PySem.W.exmOne K (.ref CB) (.ref CS) = some true)
    (u21 : PySem.W.kitOne K (.ref CB) (.type "ValueError") = some true)
    (u22 : PySem.W.exmOne K (.ref CI) (.ref CS) = some true)
    (u23 : PySem.W.kitOne K (.type "NoneType") (.ref C) = some false)
    (u24 : PySem.W.kitOne K (.type "list") (.ref C) = some false)
    (u25 : PySem.W.kitOne K (.type "int") (.ref C) = some false)
    (y2 : PySem.W.nsIn K mainGlobals "MOST_PERSONS" = some (some (.int 40 t2)))
    (o1CB : ∃ nm q N bs bm sn sub ab col dd k0 k1 k2 k3 k5, K.lookup CB = some (excClassObj nm q CB N bs bm true sn sub ab col dd k0 k1 k2 k3 k5 "ValueError.__new__") ∧ PySem.HandSPX.refsVE bm = true)
    (o2CB : PySem.W.findIn K (.ref CB) "__setattr__" = some (some (.builtin "object.__setattr__")))
    (o3CB : PySem.W.subIn K (.ref CB) (.type "BaseException") = some true)
    (o4CB : PySem.W.typeIn K (.ref CB) = some (.type "type"))
    (o5CB : PySem.W.keepIn K (.ref CB) = true)
    (o6CB : PySem.W.findIn K (.ref CB) "__getattribute__" = some (some (.builtin "BaseException.__getattribute__")))
    (o7CB : PySem.W.findIn K (.ref CB) "__getattr__" = some none)
    (o8CB : PySem.W.hasDictIn K CB = true)
    (o9CB : PySem.W.findIn K (.ref CB) "__class__" = some (some (.builtin "object.__class__")))
    (oACB : PySem.W.mroIn K CB (.type "object") = some true)
    (o1CI : ∃ nm q N bs bm sn sub ab col dd k0 k1 k2 k3 k5, K.lookup CI = some (excClassObj nm q CI N bs bm true sn sub ab col dd k0 k1 k2 k3 k5 "ValueError.__new__") ∧ PySem.HandSPX.refsVE bm = true)
    (o2CI : PySem.W.findIn K (.ref CI) "__setattr__" = some (some (.builtin "object.__setattr__")))
    (o3CI : PySem.W.subIn K (.ref CI) (.type "BaseException") = some true)
    (o4CI : PySem.W.typeIn K (.ref CI) = some (.type "type"))
    (o5CI : PySem.W.keepIn K (.ref CI) = true)
    (o6CI : PySem.W.findIn K (.ref CI) "__getattribute__" = some (some (.builtin "BaseException.__getattribute__")))
    (o7CI : PySem.W.findIn K (.ref CI) "__getattr__" = some none)
    (o8CI : PySem.W.hasDictIn K CI = true)
    (o9CI : PySem.W.findIn K (.ref CI) "__class__" = some (some (.builtin "object.__class__")))
    (oACI : PySem.W.mroIn K CI (.type "object") = some true)
    (z_int : PySem.W.nsIn K mainGlobals "int" = some none)
    (z_abs : PySem.W.nsIn K mainGlobals "abs" = some none)
    (z_len : PySem.W.nsIn K mainGlobals "len" = some none)
    (z_enumerate : PySem.W.nsIn K mainGlobals "enumerate" = some none)
    (z_range : PySem.W.nsIn K mainGlobals "range" = some none)
    (z_isinstance : PySem.W.nsIn K mainGlobals "isinstance" = some none)
    (z_str : PySem.W.nsIn K mainGlobals "str" = some none)
    (z_bool : PySem.W.nsIn K mainGlobals "bool" = some none)
    (z_list : PySem.W.nsIn K mainGlobals "list" = some none)
    (z_tuple : PySem.W.nsIn K mainGlobals "tuple" = some none)
    (z_sorted : PySem.W.nsIn K mainGlobals "sorted" = some none)
    (z_min : PySem.W.nsIn K mainGlobals "min" = some none)
    (z_all : PySem.W.nsIn K mainGlobals "all" = some none)
    (z_iter : PySem.W.nsIn K mainGlobals "iter" = some none)
    (z_ValueError : PySem.W.nsIn K mainGlobals "ValueError" = some none) :
    ∀ (base : Heap) (s : Shared) (H : Hp) (a : Addr) (ns : List Int), K.In base → base.Ns mainGlobals mg → Env0 l.prog w K mg base callerA [] s H → SqL K H a (ns.map V.int) → ns.length ≤ 63 →
      codeAny (model l.prog w) callerA (.call (.ref fa) ⟨[.ref a], []⟩) (CR CX0 [] l.prog w H s QT EF) s := by
  have e := hfa.symm.trans (PySem.W.mg_of X G a17)
  cases e
  intro base s H a ns _ _ e0 hS hn
  have T : Bl mg := ⟨(PySem.W.mg_none_of X G z_int), (PySem.W.mg_none_of X G z_abs), (PySem.W.mg_none_of X G z_len), (PySem.W.mg_none_of X G z_enumerate), (PySem.W.mg_none_of X G z_range)⟩
  have B : Bm mg := ⟨(PySem.W.mg_none_of X G z_isinstance), (PySem.W.mg_none_of X G z_str), (PySem.W.mg_none_of X G z_bool), (PySem.W.mg_none_of X G z_list), (PySem.W.mg_none_of X G z_tuple)⟩
  have M : Ml mg := ⟨⟨_, PySem.W.mg_of X G y2⟩, (PySem.W.mg_none_of X G z_sorted)⟩
  have Mi : Mn mg := ⟨(PySem.W.mg_none_of X G z_min)⟩
  have LX : LC K C := ⟨⟨u1, u2, u3, u4⟩, u5, u6, u7, u8, u9, u10, u11⟩
  have XCB : XfC K CB := ⟨o6CB, o7CB, o3CB, o8CB⟩
  have OCB : OexC K CB := ⟨o1CB, o2CB, o3CB, o4CB, o5CB⟩
  have ECB : ExcC K CB := ⟨o6CB, o7CB, o3CB, o8CB, o9CB, u9, u10, oACB⟩
  have XCI : XfC K CI := ⟨o6CI, o7CI, o3CI, o8CI⟩
  have OCI : OexC K CI := ⟨o1CI, o2CI, o3CI, o4CI, o5CI⟩
  have ECI : ExcC K CI := ⟨o6CI, o7CI, o3CI, o8CI, o9CI, u9, u10, oACI⟩
  have mix := ok_mix (P := l.prog) (w := w) (base := base) (fun_mk (st := sMix) l4 c4 k4) (PySem.W.mg_of X G a4) T
  have draw := ok_draw (P := l.prog) (w := w) (base := base) (fun_mk (st := sDraw) l6 c6 k6) (PySem.W.mg_of X G a6) T mix
  have hand := ok_hand (P := l.prog) (w := w) (base := base) (fun_mk (st := sHand) l5 c5 k5) (PySem.W.mg_of X G a5) T
  have one := ok_one (P := l.prog) (w := w) (base := base) (fun_mk (st := sOne) l7 c7 k7) (PySem.W.mg_of X G a7) T draw
  have whole := ok_whole (P := l.prog) (w := w) (base := base) (fun_mk (st := sWhole) l0 c0 k0) (PySem.W.mg_of X G a0) T B
  have seq := ok_seq (P := l.prog) (w := w) (base := base) (fun_mk (st := sSeq) l1 c1 k1) (PySem.W.mg_of X G a1) B
  have EB : ErC l.prog w K mg base "BadLikeness" ["self", "what"] CB g0 _ (spInit1 K CB "what") := ⟨OCB, M0, T0, PySem.W.mg_of X G mCB, (fun_mk (st := sBadLikeness_init) L0 D0 N0).binds fun _ _ _ _ _ _ us hl => match us, hl with | [_, _], _ => rfl, ok_BadL (fun_mk (st := sBadLikeness_init) L0 D0 N0), XCB⟩
  have EI : ErC l.prog w K mg base "BadIndex" ["self", "index"] CI g1 _ (spInit1 K CI "index") := ⟨OCI, M1, T1, PySem.W.mg_of X G mCI, (fun_mk (st := sBadIndex_init) L1 D1 N1).binds fun _ _ _ _ _ _ us hl => match us, hl with | [_, _], _ => rfl, ok_BadI (fun_mk (st := sBadIndex_init) L1 D1 N1), XCI⟩
  have sizes := ok_sizesX (P := l.prog) (w := w) (base := base) (fun_mk (st := sCheckSizes) l2 c2 k2) (PySem.W.mg_of X G a2) M whole EB u17
  have islink := ok_islinkX (P := l.prog) (w := w) (base := base) (fun_mk (st := sIsLink) l3 c3 k3) (PySem.W.mg_of X G a3) T seq whole
  have lisw := ok_lisw (P := l.prog) (w := w) (base := base) (fun_mk (st := sLIsWhole) l8 c8 k8) (PySem.W.mg_of X G a8) T B
  have links := ok_links (P := l.prog) (w := w) (base := base) (fun_mk (st := sLLinks) l9 c9 k9) (PySem.W.mg_of X G a9) T B Mi draw
  have lwh := ok_lwh (P := l.prog) (w := w) (base := base) (fun_mk (st := sLWhole) l10 c10 k10) (PySem.W.mg_of X G a10) T B
  have fault := ok_lfault (P := l.prog) (w := w) (base := base) (fun_mk (st := sLFault) l11 c11 k11) (PySem.W.mg_of X G a11) T B lwh
  have spoilt := ok_spoilt (P := l.prog) (w := w) (base := base) (fun_mk (st := sLSpoilt) l12 c12 k12) (PySem.W.mg_of X G a12) T B draw one
  have mK := PySem.W.mg_of X G mC
  have mB := PySem.W.mg_of X G mCB
  have mI := PySem.W.mg_of X G mCI
  have mS := PySem.W.mg_of X G mCS
  have MK : Mk K C g2 := ⟨u13, M2, (by unfold PySem.W.isFn; rw [T2]; rfl), u14⟩
  have GI := ok_linitX (P := l.prog) (w := w) (mg := mg) (base := base) (fun_mk (st := sLikeness_init) L2 D2 N2) T B M LX sizes seq islink EB u17
  have bI := (fun_mk (st := sLikeness_init) L2 D2 N2).binds (ps := ["self", "first", "second", "links"]) (fun _ _ _ _ _ _ us hl => match us, hl with | [_, _, _, _], _ => rfl)
  have GE := ok_leq (P := l.prog) (w := w) (mg := mg) (base := base) (fun_mk (st := sLikeness_eq) L3 D3 N3) B LX mK u12
  have bE := (fun_mk (st := sLikeness_eq) L3 D3 N3).binds (ps := ["self", "other"]) (fun _ _ _ _ _ _ us hl => match us, hl with | [_, _], _ => rfl)
  have GF := ok_full (P := l.prog) (w := w) (mg := mg) (base := base) (fun_mk (st := sLikeness_is_full) L9 D9 N9) T LX
  have bF := (fun_mk (st := sLikeness_is_full) L9 D9 N9).binds (ps := ["self"]) (fun _ _ _ _ _ _ us hl => match us, hl with | [_], _ => rfl)
  have GL := ok_llen (P := l.prog) (w := w) (mg := mg) (base := base) (fun_mk (st := sLikeness_len) L4 D4 N4) T LX
  have bL := (fun_mk (st := sLikeness_len) L4 D4 N4).binds (ps := ["self"]) (fun _ _ _ _ _ _ us hl => match us, hl with | [_], _ => rfl)
  have GR := ok_liter (P := l.prog) (w := w) (mg := mg) (base := base) (fun_mk (st := sLikeness_iter) L5 D5 N5) (PySem.W.mg_none_of X G z_iter) LX
  have bR := (fun_mk (st := sLikeness_iter) L5 D5 N5).binds (ps := ["self"]) (fun _ _ _ _ _ _ us hl => match us, hl with | [_], _ => rfl)
  have GP := ok_partner (P := l.prog) (w := w) (mg := mg) (base := base) (fun_mk (st := sLikeness_partner) L6 D6 N6) LX whole EI u18
  have bP := (fun_mk (st := sLikeness_partner) L6 D6 N6).binds (ps := ["self", "number"]) (fun _ _ _ _ _ _ us hl => match us, hl with | [_, _], _ => rfl)
  have GW := ok_flip (P := l.prog) (w := w) (mg := mg) (base := base) (fun_mk (st := sLikeness_flipped) L7 D7 N7) LX mK MK GI bI
  have bW := (fun_mk (st := sLikeness_flipped) L7 D7 N7).binds (ps := ["self"]) (fun _ _ _ _ _ _ us hl => match us, hl with | [_], _ => rfl)
  have nk : ∀ n ∈ ["NoneType", "list", "int"], PySem.W.kitOne K (.type n) (.ref C) = some false := fun n hn => by
    simp only [List.mem_cons, List.not_mem_nil, or_false] at hn
    rcases hn with e | e | e <;> subst e
    · exact u23
    · exact u24
    · exact u25
  have GT := ok_thenX (P := l.prog) (w := w) (mg := mg) (base := base) (fun_mk (st := sLikeness_then) L8 D8 N8) B LX mK MK GI bI EB u17 nk
  have bT := (fun_mk (st := sLikeness_then) L8 D8 N8).binds (ps := ["self", "other"]) (fun _ _ _ _ _ _ us hl => match us, hl with | [_, _], _ => rfl)
  have tried := ok_tried (P := l.prog) (w := w) (base := base) (fun_mk (st := sLTried) l13 c13 k13) (PySem.W.mg_of X G a13) B (PySem.W.mg_none_of X G z_ValueError) MK GI bI mK mB mS XCB ECB u17 u20 u21
  have part := ok_lpart (P := l.prog) (w := w) (base := base) (fun_mk (st := sLPartner) l14 c14 k14) (PySem.W.mg_of X G a14) B LX ⟨M6, (by unfold PySem.W.isFn; rw [T6]; rfl), N6⟩ GP bP mI mS XCI ECI u18 u22
  have then_ := ok_lthen (P := l.prog) (w := w) (base := base) (fun_mk (st := sLThen) l15 c15 k15) (PySem.W.mg_of X G a15) B LX ⟨M8, (by unfold PySem.W.isFn; rw [T8]; rfl), N8⟩ GT bT mB mS XCB ECB u17 u20
  have isl := ok_isl (P := l.prog) (w := w) (base := base) (fun_mk (st := sLIsLikeness) l16 c16 k16) (PySem.W.mg_of X G a16) T B M (PySem.W.mg_none_of X G z_all) LX mK ⟨M5, (by unfold PySem.W.isFn; rw [T5]; rfl), N5⟩ GR bR ⟨M4, (by unfold PySem.W.isFn; rw [T4]; rfl), N4⟩ GL bL ⟨P1, P2, P3, _, P4⟩ GF bF lisw
  have A : AllG l.prog w K mg base C CB g2 _ g3 g7 _ _ := ⟨hand, draw, one, lisw, links, fault, spoilt, tried, part, then_, isl, LX, mK, MK, GI, bI, ⟨M3, (by unfold PySem.W.isFn; rw [T3]; rfl), N3⟩, GE, bE, ⟨M7, (by unfold PySem.W.isFn; rw [T7]; rfl), N7⟩, GW, bW, u15, u16⟩
  exact law_at (fun_mk (st := sLaw) l17 c17 k17) scLaw ⟨rfl, by decide, by decide⟩ (body_law T B M A) (fun s v => .of_eq rfl) e0 hS hn
end Kx

set_option maxHeartbeats 8000000
namespace Kx

end Kx
open PySem PySem.W PyProof.Rows
set_option maxRecDepth 100000 in
set_option maxHeartbeats 0 in
theorem PySem.Challenge.cw_searchback_k23_likenesses_made_and_refus_holds : PySem.Challenge.rw_searchback_k23_likenesses_made_and_refus.Holds := by
  w_on; o_law; k_head; (case hw => w_witness2)
  k_fill
  refine Kx.law_walk (l := PySem.Challenge.rw_searchback_k23_likenesses_made_and_refus) rfl rfl (fun w h Y => PySem.W.kIn_of Y) ?F
  case F =>
    intro w mg fa h KX G hmg
    refine' Kx.all_mk KX G hmg ?a0 ?l0 ?c0 ?k0 ?a1 ?l1 ?c1 ?k1 ?a2 ?l2 ?c2 ?k2 ?a3 ?l3 ?c3 ?k3 ?a4 ?l4 ?c4 ?k4 ?a5 ?l5 ?c5 ?k5 ?a6 ?l6 ?c6 ?k6 ?a7 ?l7 ?c7 ?k7 ?a8 ?l8 ?c8 ?k8 ?a9 ?l9 ?c9 ?k9 ?a10 ?l10 ?c10 ?k10 ?a11 ?l11 ?c11 ?k11 ?a12 ?l12 ?c12 ?k12 ?a13 ?l13 ?c13 ?k13 ?a14 ?l14 ?c14 ?k14 ?a15 ?l15 ?c15 ?k15 ?a16 ?l16 ?c16 ?k16 ?a17 ?l17 ?c17 ?k17 ?mC ?mCB ?mCI ?mCS ?M0 ?L0 ?D0 ?N0 ?T0 ?M1 ?L1 ?D1 ?N1 ?T1 ?M2 ?L2 ?D2 ?N2 ?T2 ?M3 ?L3 ?D3 ?N3 ?T3 ?M4 ?L4 ?D4 ?N4 ?T4 ?M5 ?L5 ?D5 ?N5 ?T5 ?M6 ?L6 ?D6 ?N6 ?T6 ?M7 ?L7 ?D7 ?N7 ?T7 ?M8 ?L8 ?D8 ?N8 ?T8 ?P1 ?P2 ?P3 ?P4 ?L9 ?D9 ?N9 ?u1 ?u2 ?u3 ?u4 ?u5 ?u6 ?u7 ?u8 ?u9 ?u10 ?u11 ?u12 ?u13 ?u14 ?u15 ?u16 ?u17 ?u18 ?u20 ?u21 ?u22 ?u23 ?u24 ?u25 ?y2 ?o1CB ?o2CB ?o3CB ?o4CB ?o5CB ?o6CB ?o7CB ?o8CB ?o9CB ?oACB ?o1CI ?o2CI ?o3CI ?o4CI ?o5CI ?o6CI ?o7CI ?o8CI ?o9CI ?oACI ?z_int ?z_abs ?z_len ?z_enumerate ?z_range ?z_isinstance ?z_str ?z_bool ?z_list ?z_tuple ?z_sorted ?z_min ?z_all ?z_iter ?z_ValueError
    (case a0 => first | k_is | exact rfl | kernel_rfl | decide +kernel)
    (case l0 => first | k_is | exact rfl | kernel_rfl | decide +kernel)
    (case c0 => first | k_is | exact rfl | kernel_rfl | decide +kernel)
    (case k0 => first | k_is | exact rfl | kernel_rfl | decide +kernel)
    (case a1 => first | k_is | exact rfl | kernel_rfl | decide +kernel)
    (case l1 => first | k_is | exact rfl | kernel_rfl | decide +kernel)
    (case c1 => first | k_is | exact rfl | kernel_rfl | decide +kernel)
    (case k1 => first | k_is | exact rfl | kernel_rfl | decide +kernel)
    (case a2 => first | k_is | exact rfl | kernel_rfl | decide +kernel)
    (case l2 => first | k_is | exact rfl | kernel_rfl | decide +kernel)
    (case c2 => first | k_is | exact rfl | kernel_rfl | decide +kernel)
    (case k2 => first | k_is | exact rfl | kernel_rfl | decide +kernel)
    (case a3 => first | k_is | exact rfl | kernel_rfl | decide +kernel)
    (case l3 => first | k_is | exact rfl | kernel_rfl | decide +kernel)
    (case c3 => first | k_is | exact rfl | kernel_rfl | decide +kernel)
    (case k3 => first | k_is | exact rfl | kernel_rfl | decide +kernel)
    (case a4 => first | k_is | exact rfl | kernel_rfl | decide +kernel)
    (case l4 => first | k_is | exact rfl | kernel_rfl | decide +kernel)
    (case c4 => first | k_is | exact rfl | kernel_rfl | decide +kernel)
    (case k4 => first | k_is | exact rfl | kernel_rfl | decide +kernel)
    (case a5 => first | k_is | exact rfl | kernel_rfl | decide +kernel)
    (case l5 => first | k_is | exact rfl | kernel_rfl | decide +kernel)
    (case c5 => first | k_is | exact rfl | kernel_rfl | decide +kernel)
    (case k5 => first | k_is | exact rfl | kernel_rfl | decide +kernel)
    (case a6 => first | k_is | exact rfl | kernel_rfl | decide +kernel)
    (case l6 => first | k_is | exact rfl | kernel_rfl | decide +kernel)
    (case c6 => first | k_is | exact rfl | kernel_rfl | decide +kernel)
    (case k6 => first | k_is | exact rfl | kernel_rfl | decide +kernel)
    (case a7 => first | k_is | exact rfl | kernel_rfl | decide +kernel)
    (case l7 => first | k_is | exact rfl | kernel_rfl | decide +kernel)
    (case c7 => first | k_is | exact rfl | kernel_rfl | decide +kernel)
    (case k7 => first | k_is | exact rfl | kernel_rfl | decide +kernel)
    (case a8 => first | k_is | exact rfl | kernel_rfl | decide +kernel)
    (case l8 => first | k_is | exact rfl | kernel_rfl | decide +kernel)
    (case c8 => first | k_is | exact rfl | kernel_rfl | decide +kernel)
    (case k8 => first | k_is | exact rfl | kernel_rfl | decide +kernel)
    (case a9 => first | k_is | exact rfl | kernel_rfl | decide +kernel)
    (case l9 => first | k_is | exact rfl | kernel_rfl | decide +kernel)
    (case c9 => first | k_is | exact rfl | kernel_rfl | decide +kernel)
    (case k9 => first | k_is | exact rfl | kernel_rfl | decide +kernel)
    (case a10 => first | k_is | exact rfl | kernel_rfl | decide +kernel)
    (case l10 => first | k_is | exact rfl | kernel_rfl | decide +kernel)
    (case c10 => first | k_is | exact rfl | kernel_rfl | decide +kernel)
    (case k10 => first | k_is | exact rfl | kernel_rfl | decide +kernel)
    (case a11 => first | k_is | exact rfl | kernel_rfl | decide +kernel)
    (case l11 => first | k_is | exact rfl | kernel_rfl | decide +kernel)
    (case c11 => first | k_is | exact rfl | kernel_rfl | decide +kernel)
    (case k11 => first | k_is | exact rfl | kernel_rfl | decide +kernel)
    (case a12 => first | k_is | exact rfl | kernel_rfl | decide +kernel)
    (case l12 => first | k_is | exact rfl | kernel_rfl | decide +kernel)
    (case c12 => first | k_is | exact rfl | kernel_rfl | decide +kernel)
    (case k12 => first | k_is | exact rfl | kernel_rfl | decide +kernel)
    (case a13 => first | k_is | exact rfl | kernel_rfl | decide +kernel)
    (case l13 => first | k_is | exact rfl | kernel_rfl | decide +kernel)
    (case c13 => first | k_is | exact rfl | kernel_rfl | decide +kernel)
    (case k13 => first | k_is | exact rfl | kernel_rfl | decide +kernel)
    (case a14 => first | k_is | exact rfl | kernel_rfl | decide +kernel)
    (case l14 => first | k_is | exact rfl | kernel_rfl | decide +kernel)
    (case c14 => first | k_is | exact rfl | kernel_rfl | decide +kernel)
    (case k14 => first | k_is | exact rfl | kernel_rfl | decide +kernel)
    (case a15 => first | k_is | exact rfl | kernel_rfl | decide +kernel)
    (case l15 => first | k_is | exact rfl | kernel_rfl | decide +kernel)
    (case c15 => first | k_is | exact rfl | kernel_rfl | decide +kernel)
    (case k15 => first | k_is | exact rfl | kernel_rfl | decide +kernel)
    (case a16 => first | k_is | exact rfl | kernel_rfl | decide +kernel)
    (case l16 => first | k_is | exact rfl | kernel_rfl | decide +kernel)
    (case c16 => first | k_is | exact rfl | kernel_rfl | decide +kernel)
    (case k16 => first | k_is | exact rfl | kernel_rfl | decide +kernel)
    (case a17 => first | k_is | exact rfl | kernel_rfl | decide +kernel)
    (case l17 => first | k_is | exact rfl | kernel_rfl | decide +kernel)
    (case c17 => first | k_is | exact rfl | kernel_rfl | decide +kernel)
    (case k17 => first | k_is | exact rfl | kernel_rfl | decide +kernel)
    (case mC => first | k_is | exact rfl | kernel_rfl | decide +kernel)
    (case mCB => first | k_is | exact rfl | kernel_rfl | decide +kernel)
    (case mCI => first | k_is | exact rfl | kernel_rfl | decide +kernel)
    (case mCS => first | k_is | exact rfl | kernel_rfl | decide +kernel)
    (case M0 => first | k_is | exact rfl | kernel_rfl | decide +kernel)
    (case L0 => first | k_is | exact rfl | kernel_rfl | decide +kernel)
    (case D0 => first | k_is | exact rfl | kernel_rfl | decide +kernel)
    (case N0 => first | k_is | exact rfl | kernel_rfl | decide +kernel)
    (case T0 => first | k_is | exact rfl | kernel_rfl | decide +kernel)
    (case M1 => first | k_is | exact rfl | kernel_rfl | decide +kernel)
    (case L1 => first | k_is | exact rfl | kernel_rfl | decide +kernel)
    (case D1 => first | k_is | exact rfl | kernel_rfl | decide +kernel)
    (case N1 => first | k_is | exact rfl | kernel_rfl | decide +kernel)
    (case T1 => first | k_is | exact rfl | kernel_rfl | decide +kernel)
    (case M2 => first | k_is | exact rfl | kernel_rfl | decide +kernel)
    (case L2 => first | k_is | exact rfl | kernel_rfl | decide +kernel)
    (case D2 => first | k_is | exact rfl | kernel_rfl | decide +kernel)
    (case N2 => first | k_is | exact rfl | kernel_rfl | decide +kernel)
    (case T2 => first | k_is | exact rfl | kernel_rfl | decide +kernel)
    (case M3 => first | k_is | exact rfl | kernel_rfl | decide +kernel)
    (case L3 => first | k_is | exact rfl | kernel_rfl | decide +kernel)
    (case D3 => first | k_is | exact rfl | kernel_rfl | decide +kernel)
    (case N3 => first | k_is | exact rfl | kernel_rfl | decide +kernel)
    (case T3 => first | k_is | exact rfl | kernel_rfl | decide +kernel)
    (case M4 => first | k_is | exact rfl | kernel_rfl | decide +kernel)
    (case L4 => first | k_is | exact rfl | kernel_rfl | decide +kernel)
    (case D4 => first | k_is | exact rfl | kernel_rfl | decide +kernel)
    (case N4 => first | k_is | exact rfl | kernel_rfl | decide +kernel)
    (case T4 => first | k_is | exact rfl | kernel_rfl | decide +kernel)
    (case M5 => first | k_is | exact rfl | kernel_rfl | decide +kernel)
    (case L5 => first | k_is | exact rfl | kernel_rfl | decide +kernel)
    (case D5 => first | k_is | exact rfl | kernel_rfl | decide +kernel)
    (case N5 => first | k_is | exact rfl | kernel_rfl | decide +kernel)
    (case T5 => first | k_is | exact rfl | kernel_rfl | decide +kernel)
    (case M6 => first | k_is | exact rfl | kernel_rfl | decide +kernel)
    (case L6 => first | k_is | exact rfl | kernel_rfl | decide +kernel)
    (case D6 => first | k_is | exact rfl | kernel_rfl | decide +kernel)
    (case N6 => first | k_is | exact rfl | kernel_rfl | decide +kernel)
    (case T6 => first | k_is | exact rfl | kernel_rfl | decide +kernel)
    (case M7 => first | k_is | exact rfl | kernel_rfl | decide +kernel)
    (case L7 => first | k_is | exact rfl | kernel_rfl | decide +kernel)
    (case D7 => first | k_is | exact rfl | kernel_rfl | decide +kernel)
    (case N7 => first | k_is | exact rfl | kernel_rfl | decide +kernel)
    (case T7 => first | k_is | exact rfl | kernel_rfl | decide +kernel)
    (case M8 => first | k_is | exact rfl | kernel_rfl | decide +kernel)
    (case L8 => first | k_is | exact rfl | kernel_rfl | decide +kernel)
    (case D8 => first | k_is | exact rfl | kernel_rfl | decide +kernel)
    (case N8 => first | k_is | exact rfl | kernel_rfl | decide +kernel)
    (case T8 => first | k_is | exact rfl | kernel_rfl | decide +kernel)
    (case P1 => first | k_is | exact rfl | kernel_rfl | decide +kernel)
    (case P2 => first | k_is | exact rfl | kernel_rfl | decide +kernel)
    (case P3 => first | k_is | exact rfl | kernel_rfl | decide +kernel)
    (case P4 => first | k_is | exact rfl | kernel_rfl | decide +kernel)
    (case L9 => first | k_is | exact rfl | kernel_rfl | decide +kernel)
    (case D9 => first | k_is | exact rfl | kernel_rfl | decide +kernel)
    (case N9 => first | k_is | exact rfl | kernel_rfl | decide +kernel)
    (case u1 => first | k_is | exact rfl | kernel_rfl | decide +kernel)
    (case u2 => first | k_is | exact rfl | kernel_rfl | decide +kernel)
    (case u3 => first | k_is | exact rfl | kernel_rfl | decide +kernel)
    (case u4 => first | k_is | exact rfl | kernel_rfl | decide +kernel)
    (case u5 => first | k_is | exact rfl | kernel_rfl | decide +kernel)
    (case u6 => first | k_is | exact rfl | kernel_rfl | decide +kernel)
    (case u7 => first | k_is | exact rfl | kernel_rfl | decide +kernel)
    (case u8 => first | k_is | exact rfl | kernel_rfl | decide +kernel)
    (case u9 => first | k_is | exact rfl | kernel_rfl | decide +kernel)
    (case u10 => first | k_is | exact rfl | kernel_rfl | decide +kernel)
    (case u11 => first | k_is | exact rfl | kernel_rfl | decide +kernel)
    (case u12 => first | exact rfl | kernel_rfl | decide +kernel)
    (case u13 => first | k_is | exact rfl | kernel_rfl | decide +kernel)
    (case u14 => first | k_is | exact rfl | kernel_rfl | decide +kernel)
    (case u15 => first | k_is | exact rfl | kernel_rfl | decide +kernel)
    (case u16 => first | k_is | exact rfl | kernel_rfl | decide +kernel)
    (case u17 => first | k_is | exact rfl | kernel_rfl | decide +kernel)
    (case u18 => first | k_is | exact rfl | kernel_rfl | decide +kernel)
    (case u20 => first | exact rfl | kernel_rfl | decide +kernel)
    (case u21 => first | exact rfl | kernel_rfl | decide +kernel)
    (case u22 => first | exact rfl | kernel_rfl | decide +kernel)
    (case u23 => first | exact rfl | kernel_rfl | decide +kernel)
    (case u24 => first | exact rfl | kernel_rfl | decide +kernel)
    (case u25 => first | exact rfl | kernel_rfl | decide +kernel)
    (case y2 => first | k_is | exact rfl | kernel_rfl | decide +kernel)
    (case o1CB => exact ⟨_, _, _, _, _, _, _, _, _, _, _, _, _, _, _, rfl, rfl⟩)
    (case o2CB => first | k_is | exact rfl | kernel_rfl | decide +kernel)
    (case o3CB => first | k_is | exact rfl | kernel_rfl | decide +kernel)
    (case o4CB => first | k_is | exact rfl | kernel_rfl | decide +kernel)
    (case o5CB => first | k_is | exact rfl | kernel_rfl | decide +kernel)
    (case o6CB => first | k_is | exact rfl | kernel_rfl | decide +kernel)
    (case o7CB => first | k_is | exact rfl | kernel_rfl | decide +kernel)
    (case o8CB => first | k_is | exact rfl | kernel_rfl | decide +kernel)
    (case o9CB => first | k_is | exact rfl | kernel_rfl | decide +kernel)
    (case oACB => first | k_is | exact rfl | kernel_rfl | decide +kernel)
    (case o1CI => exact ⟨_, _, _, _, _, _, _, _, _, _, _, _, _, _, _, rfl, rfl⟩)
    (case o2CI => first | k_is | exact rfl | kernel_rfl | decide +kernel)
    (case o3CI => first | k_is | exact rfl | kernel_rfl | decide +kernel)
    (case o4CI => first | k_is | exact rfl | kernel_rfl | decide +kernel)
    (case o5CI => first | k_is | exact rfl | kernel_rfl | decide +kernel)
    (case o6CI => first | k_is | exact rfl | kernel_rfl | decide +kernel)
    (case o7CI => first | k_is | exact rfl | kernel_rfl | decide +kernel)
    (case o8CI => first | k_is | exact rfl | kernel_rfl | decide +kernel)
    (case o9CI => first | k_is | exact rfl | kernel_rfl | decide +kernel)
    (case oACI => first | k_is | exact rfl | kernel_rfl | decide +kernel)
    (case z_int => first | k_is | exact rfl | kernel_rfl | decide +kernel)
    (case z_abs => first | k_is | exact rfl | kernel_rfl | decide +kernel)
    (case z_len => first | k_is | exact rfl | kernel_rfl | decide +kernel)
    (case z_enumerate => first | k_is | exact rfl | kernel_rfl | decide +kernel)
    (case z_range => first | k_is | exact rfl | kernel_rfl | decide +kernel)
    (case z_isinstance => first | k_is | exact rfl | kernel_rfl | decide +kernel)
    (case z_str => first | k_is | exact rfl | kernel_rfl | decide +kernel)
    (case z_bool => first | k_is | exact rfl | kernel_rfl | decide +kernel)
    (case z_list => first | k_is | exact rfl | kernel_rfl | decide +kernel)
    (case z_tuple => first | k_is | exact rfl | kernel_rfl | decide +kernel)
    (case z_sorted => first | k_is | exact rfl | kernel_rfl | decide +kernel)
    (case z_min => first | k_is | exact rfl | kernel_rfl | decide +kernel)
    (case z_all => first | k_is | exact rfl | kernel_rfl | decide +kernel)
    (case z_iter => first | k_is | exact rfl | kernel_rfl | decide +kernel)
    (case z_ValueError => first | k_is | exact rfl | kernel_rfl | decide +kernel)

