import PyProof.Rows.All
import Wide.All
import OpenK.AllK
import Wide.FinOn
import HandS.ForMost
import HandS.Wide
import HandS.Codes
import HandS.IsInst
import HandS.StrMore
import HandS.Style
import HandS.SetKeys
import HandS.Strs
import PySem.Challenge.RW_searchback_k02_whole_labels_in_order
set_option Elab.async false
set_option maxRecDepth 100000
set_option maxHeartbeats 4000000
namespace Kx
open PySem L2
def top (i : Nat) : Stmt := PySem.Challenge.pw_searchback_k02_whole_labels_in_order.main.body.getD i (.Pass ⟨0, 0, 0, 0⟩)
abbrev sMix : Stmt := top 9
abbrev sHand : Stmt := top 10
abbrev sDraw : Stmt := top 11
abbrev sOne : Stmt := top 12
abbrev sWord : Stmt := top 13
structure Bl (mg : Str → Option Value) : Prop where
  int : mg "int" = none
  abs : mg "abs" = none
  len : mg "len" = none
  enumerate : mg "enumerate" = none
  range : mg "range" = none
def spMix : Sp := fun vs H Q _ => ∃ a b : Int, vs = [.int a, .int b] ∧ ∀ z : Int, Q (.int z) H
section
variable {P : Program} {w : World} {K : PySem.W.Frag} {mg : Str → Option Value} {base : Heap}
structure Has (P : Program) (w : World) (K : PySem.W.Frag) (mg : Str → Option Value) (base : Heap) (x : Str) (k : Nat) (ps : List Str) (sp : Sp) (f : Addr) (fd : FuncData) : Prop where
  G : FnOk P w K mg base CX0 k f fd ps sp
  m : mg x = some (.ref f)
  kp : PySem.W.keepIn K (.ref f) = true
  b : Binds K fd ps []
def HasF (P : Program) (w : World) (K : PySem.W.Frag) (mg : Str → Option Value) (base : Heap) (x : Str) (k : Nat) (ps : List Str) (sp : Sp) : Prop := ∃ f fd, Has P w K mg base x k ps sp f fd
theorem scMix : FnScope ["_law_number", "_law_turn", "_law_once", "_law_twice"] ["_law_number", "_law_turn"] (defScope sMix) := ⟨rfl, rfl, rfl, by decide +kernel, rfl, by decide +kernel, by decide +kernel⟩
theorem small31 {z : Int} {m : Int} (h : 0 < m) (h' : m ≤ 2147483648) : CMul (z % m) (z % m) := by
  have h1 := Int.emod_nonneg z (show m ≠ 0 by omega)
  have h2 := Int.emod_lt_of_pos z h
  exact .inl ⟨by omega, by omega⟩
theorem ok_mix {f : Addr} {fd : FuncData} (F : Fun K "_law_mix" "_law_mix" sMix f fd) (m : mg "_law_mix" = some (.ref f)) (T : Bl mg) : HasF P w K mg base "_law_mix" 1 ["_law_number", "_law_turn"] spMix := by
  refine ⟨f, fd, ?_, m, F.kp, F.binds fun _ _ _ _ _ _ us hl => match us, hl with | [_, _], _ => rfl⟩
  refine F.ok scMix (fun vs H Q E h => ?_) (fun cdv A outer s H vs Q E hr h => ?_)
  · obtain ⟨a, b, rfl, _⟩ := h
    rfl
  · obtain ⟨a, b, rfl, k⟩ := h
    refine ⟨_, pss_cons (ps_set (i := 2) scMix.nd rfl (Or.inl rfl) (pe_op op_mod (pe_callTy call_int1 (by rfl) T.int (by decide +kernel) (pa_cons (pe_op op_add (pe_op op_add (pe_op op_mul (pv 0) pe_int) (pe_op op_mul (pv 1) pe_int)) pe_int) pa_nil)) pe_int))
      (pss_cons (ps_set (i := 3) scMix.nd rfl (Or.inl rfl) (pe_op op_mod (pe_callTy call_int1 (by rfl) T.int (by decide +kernel) (pa_cons (pe_op op_add (pe_op op_add (pe_op op_mul (pv 2) (pv 2)) (pe_op op_mul (pe_op op_fdiv (pv 2) pe_int) pe_int)) (pe_op op_mul (pv 1) pe_int)) pa_nil)) pe_int))
      (pss_one (ps_ret (pe_op op_fdiv (pe_op op_mod (pe_callTy call_int1 (by rfl) T.int (by decide +kernel) (pa_cons (pe_op op_add (pe_op op_fdiv (pe_op op_mul (pv 3) (pv 3)) pe_int) (pv 2)) pa_nil)) pe_int) pe_int)))), ?_⟩
    refine ⟨_, rfl, _, _, rfl, rfl, .inr ⟨by decide, by decide⟩, _, rfl, _, _, rfl, rfl, .inr ⟨by decide, by decide⟩, _, _, rfl, rfl, _, _, rfl, rfl, .inl ⟨_, rfl, _, _, rfl, rfl, (by show (0 : Int) < _; decide), ?_⟩⟩
    refine ⟨_, rfl, _, rfl, _, _, rfl, rfl, small31 (by decide) (by decide), _, rfl, _, _, rfl, rfl, ⟨by decide, by decide⟩, _, _, rfl, rfl, .inr ⟨by decide, by decide⟩, _, _, rfl, rfl, _, rfl, _, _, rfl, rfl, .inr ⟨by decide, by decide⟩, _, _, rfl, rfl, .inl ⟨_, rfl, _, _, rfl, rfl, (by show (0 : Int) < _; decide), ?_⟩⟩
    refine ⟨_, rfl, _, rfl, _, _, rfl, rfl, small31 (by decide) (by decide), _, _, rfl, rfl, ⟨by decide, by decide⟩, _, rfl, _, _, rfl, rfl, .inl ⟨_, rfl, _, _, rfl, rfl, (by show (0 : Int) < _; decide), _, _, rfl, rfl, ⟨by decide, by decide⟩, ?_⟩⟩
    exact k _

/-- the hand at p: what is left of the script, and three counters -/
def HandAt (H : Hp) (p q : Addr) : Prop := ∃ (cs : List Int) (a : Nat) (b c : Int), H p = some (.lst [.ref q, .int a, .int b, .int c]) ∧ H q = some (.lst (cs.map V.int))
/-- all but p is as it was -/
def Keep (H H' : Hp) (p : Addr) : Prop := ∀ b o, H b = some o → b ≠ p → H' b = some o
theorem Keep.refl {H : Hp} {p : Addr} : Keep H H p := fun _ _ h _ => h
theorem Keep.trans {H H1 H2 : Hp} {p : Addr} (a : Keep H H1 p) (b : Keep H1 H2 p) : Keep H H2 p := fun c o h e => b c o (a c o h e) e
theorem Keep.upd {H H1 : Hp} {p : Addr} {o : HO} (a : Keep H H1 p) : Keep H (upd H1 p o) p := fun c u h e => by rw [upd_ne e]; exact a c u h e
theorem HandAt.ne {H : Hp} {p q : Addr} {xs ys : List V} (h : H p = some (.lst (.ref q :: xs))) {cs : List Int} (h' : H q = some (.lst (cs.map V.int))) : q ≠ p := by
  intro e
  subst e
  rw [h] at h'
  cases cs with
  | nil => exact nomatch h'
  | cons c cs => exact nomatch h'
def spDraw : Sp := fun vs H Q _ => ∃ (p q : Addr) (m : Int), vs = [.ref p, .int m] ∧ HandAt H p q ∧ 0 < m ∧ m.natAbs < 2 ^ 200 ∧
  ∀ (z : Int) (H' : Hp), 0 ≤ z → z < m → HandAt H' p q → Keep H H' p → Q (.int z) H'
theorem scDraw : FnScope ["_law_hand_here", "_law_many", "_law_cell", "_law_rest"] ["_law_hand_here", "_law_many"] (defScope sDraw) := ⟨rfl, rfl, rfl, by decide +kernel, rfl, by decide +kernel, by decide +kernel⟩
theorem ok_draw {f : Addr} {fd : FuncData} (F : Fun K "_law_draw" "_law_draw" sDraw f fd) (m : mg "_law_draw" = some (.ref f)) (T : Bl mg) (M : HasF P w K mg base "_law_mix" 1 ["_law_number", "_law_turn"] spMix) : HasF P w K mg base "_law_draw" 2 ["_law_hand_here", "_law_many"] spDraw := by
  refine ⟨f, fd, ?_, m, F.kp, F.binds fun _ _ _ _ _ _ us hl => match us, hl with | [_, _], _ => rfl⟩
  obtain ⟨f1, fd1, M⟩ := M
  refine F.ok scDraw (fun vs H Q E h => ?_) (fun cdv A outer s H vs Q E hr h => ?_)
  · obtain ⟨a, b, c, rfl, _⟩ := h
    rfl
  · obtain ⟨p, q, m, rfl, ⟨cs, a, b, c, hp, hq⟩, m0, m1, k⟩ := h
    have nqp : q ≠ p := HandAt.ne (ys := []) hp hq
    refine ⟨_, C8.pss_cut (ps_if (PW.pt (pw_and (pt_cmpR op_eq (pe_ix ix_list (pv 0) pe_int (fun _ _ => rfl)) pe_int (nomark _)) (pw_and1 (pt_cmpR op_lt (pe_ix ix_list (pv 0) pe_int (fun _ _ => rfl)) (pe_callB call_len_seq (by rfl) T.len PySem.boot_len (pa_cons (pe_ix ix_list (pv 0) pe_int (fun _ _ => rfl)) pa_nil)) (nomark _)))))
        (pss_cons (ps_set (i := 2) scDraw.nd rfl (Or.inl rfl) (pe_ix ix_list (pe_ix ix_list (pv 0) pe_int (fun _ _ => rfl)) (pe_ix ix_list (pv 0) pe_int (fun _ _ => rfl)) (fun _ _ => rfl)))
        (pss_cons (ps_asg (pe_op op_add (pe_ix ix_list (pv 0) pe_int (fun _ _ => rfl)) pe_int) (pg_sub (pv 0) pe_int set_list))
        (pss_cons (ps_if (pt_cmpR op_lt (pv 2) (pe_op op_pow pe_int pe_int) (nomark _)) (pss_one (ps_ret (pe_op op_mod (pe_callTy call_int1 (by rfl) T.int (by decide +kernel) (pa_cons (pe_call M.G hr (by rfl) M.m M.kp M.b .nil pass0 (pa_cons (pe_op op_mod (pe_callTy call_int1 (by rfl) T.int (by decide +kernel) (pa_cons (pv 2) pa_nil)) pe_int) (pa_cons (pe_ix ix_list (pv 0) pe_int (fun _ _ => rfl)) pa_nil))) pa_nil)) (pv 1)))) pss_nil)
        (pss_one (ps_asg (pv 2) (pg_sub (pv 0) pe_int set_list)))))) pss_nil)
      (pss_cons (ps_if (pt_cmpR op_gt (pe_ix ix_list (pv 0) pe_int (fun _ _ => rfl)) pe_int (nomark _))
        (pss_cons (ps_set (i := 3) scDraw.nd rfl (Or.inl rfl) (pe_ix ix_list (pv 0) pe_int (fun _ _ => rfl)))
        (pss_cons (ps_asg (pe_op op_fdivW (pv 3) (pv 1)) (pg_sub (pv 0) pe_int set_list))
        (pss_one (ps_ret (pe_op op_mod (pe_callTy call_int1 (by rfl) T.int (by decide +kernel) (pa_cons (pv 3) pa_nil)) (pv 1)))))) pss_nil)
      (pss_cons (ps_asg (pe_op op_mod (pe_callTy call_int1 (by rfl) T.int (by decide +kernel) (pa_cons (pe_op op_add (pe_ix ix_list (pv 0) pe_int (fun _ _ => rfl)) pe_int) pa_nil)) pe_int) (pg_sub (pv 0) pe_int set_list))
      (pss_one (ps_ret (pe_op op_mod (pe_callTy call_int1 (by rfl) T.int (by decide +kernel) (pa_cons (pe_call M.G hr (by rfl) M.m M.kp M.b .nil pass0 (pa_cons (pe_ix ix_list (pv 0) pe_int (fun _ _ => rfl)) (pa_cons (pe_ix ix_list (pv 0) pe_int (fun _ _ => rfl)) pa_nil))) pa_nil)) (pv 1)))))), ?_⟩
    refine ⟨fun σ H1 => ∃ (x y : Option V) (a : Nat) (b c : Int), σ = [some (.ref p), some (.int m), x, y] ∧ H1 p = some (.lst [.ref q, .int a, .int b, .int c]) ∧ H1 q = some (.lst (cs.map V.int)) ∧ Keep H H1 p, ?_, ?_⟩
    · refine ⟨_, rfl, p, _, _, _, rfl, rfl, SqL.of hp, by rfl, rfl, _, rfl, ?_⟩
      refine ite2 (fun _ => ?_) (fun _ => ?_)
      · refine ⟨_, rfl, p, _, _, _, rfl, rfl, SqL.of hp, by rfl, _, rfl, p, _, _, _, rfl, rfl, SqL.of hp, by rfl, q, _, rfl, .inl (SqL.of hq), _, _, rfl, rfl, _, rfl, ?_⟩
        refine ite2 (fun h1 => ?_) (fun _ => ?_)
        · have h1 : (a : Int) < ((cs.map V.int).length : Nat) := of_decide_eq_true h1
          rw [List.length_map] at h1
          have h2 : a < cs.length := by omega
          have h3 : (cs.map V.int)[a]? = some (V.int cs[a]) := by rw [List.getElem?_map, List.getElem?_eq_getElem h2]; rfl
          have hq' : ∀ o, (upd H p o) q = some (.lst (cs.map V.int)) := fun o => by rw [upd_ne nqp]; exact hq
          refine ⟨_, rfl, p, _, _, _, rfl, rfl, SqL.of hp, by rfl, _, rfl, p, _, _, _, rfl, rfl, SqL.of hp, by rfl, q, _, _, _, rfl, rfl, SqL.of hq, atI_nat h3, ?_⟩
          refine ⟨_, rfl, p, _, _, _, rfl, rfl, SqL.of hp, by rfl, _, _, rfl, rfl, _, rfl, p, _, _, _, rfl, rfl, hp, by rfl, ?_⟩
          refine ⟨_, rfl, _, _, rfl, rfl, ⟨by decide, by decide, by decide⟩, _, _, rfl, rfl, _, rfl, ?_⟩
          refine ite2 (fun _ => ?_) (fun _ => ?_)
          · refine ⟨_, rfl, .inl ⟨_, rfl, _, _, rfl, rfl, (by show (0 : Int) < _; decide), _, rfl, p, _, _, _, rfl, rfl, SqL.of upd_same, by rfl, _, _, rfl, fun z => .inl ⟨_, rfl, _, rfl, _, _, rfl, rfl, m0, ?_⟩⟩⟩
            exact k _ _ (Int.emod_nonneg _ (by omega)) (Int.emod_lt_of_pos _ m0) ⟨cs, a + 1, b, c, upd_same, hq' _⟩ Keep.refl.upd
          · refine ⟨_, rfl, _, rfl, p, _, _, _, rfl, rfl, upd_same, by rfl, ?_⟩
            refine ⟨_, _, a + 1, cs[a], c, rfl, upd_same, ?_, Keep.refl.upd.upd⟩
            rw [upd_upd]
            exact hq' _
        · exact ⟨_, _, a, b, c, rfl, hp, hq, Keep.refl⟩
      · exact ⟨_, _, a, b, c, rfl, hp, hq, Keep.refl⟩
    · rintro σ H1 ⟨x, y, a, b, c, rfl, hp, hq, kp⟩
      have hq' : ∀ o, (upd H1 p o) q = some (.lst (cs.map V.int)) := fun o => by rw [upd_ne nqp]; exact hq
      refine ⟨_, rfl, p, _, _, _, rfl, rfl, SqL.of hp, by rfl, _, _, rfl, rfl, _, rfl, ?_⟩
      refine ite2 (fun _ => ?_) (fun _ => ?_)
      · refine ⟨_, rfl, p, _, _, _, rfl, rfl, SqL.of hp, by rfl, _, rfl, _, rfl, _, _, rfl, rfl, wide_div m0 m1 (by decide) (by decide), _, rfl, p, _, _, _, rfl, rfl, hp, by rfl, ?_⟩
        refine ⟨_, rfl, .inl ⟨_, rfl, _, rfl, _, _, rfl, rfl, m0, ?_⟩⟩
        exact k _ _ (Int.emod_nonneg _ (by omega)) (Int.emod_lt_of_pos _ m0) ⟨cs, a, _, c, upd_same, hq' _⟩ kp.upd
      · refine ⟨_, rfl, p, _, _, _, rfl, rfl, SqL.of hp, by rfl, _, _, rfl, rfl, .inl ⟨_, rfl, _, _, rfl, rfl, (by show (0 : Int) < _; decide), _, rfl, p, _, _, _, rfl, rfl, hp, by rfl, ?_⟩⟩
        refine ⟨_, rfl, p, _, _, _, rfl, rfl, SqL.of upd_same, by rfl, _, rfl, p, _, _, _, rfl, rfl, SqL.of upd_same, by rfl, _, _, rfl, fun z => .inl ⟨_, rfl, _, rfl, _, _, rfl, rfl, m0, ?_⟩⟩
        exact k _ _ (Int.emod_nonneg _ (by omega)) (Int.emod_lt_of_pos _ m0) ⟨cs, a, _, _, upd_same, hq' _⟩ kp.upd
end
end Kx

set_option maxHeartbeats 4000000
namespace Kx
open PySem L2
/-- over enumerate(list), the list standing still -/
theorem for_enum {K : PySem.W.Frag} {a : Addr} {xs : List V} {g : TG} {tb : TS} {D : Ends} {σ : St} {H : Hp} (W : Nat → St → Hp → Prop) (start : W 0 σ H) (still : ∀ i σ H, W i σ H → SqL K H a xs)
    (turn : ∀ i x σ H T, xs[i]? = some x → W i σ H → H T = none → g (.ref T) σ (upd H T (.tup [.int (i : Nat), x])) fun σ2 H2 => tb { D with nx := W (i + 1), ct := W (i + 1), bk := D.nx } σ2 H2) (after : ∀ σ H, W xs.length σ H → D.nx σ H) :
    ∃ U : Nat → Nat → St → Hp → Prop, (∃ m, U 0 m σ H) ∧ ∀ i m σ H, U i m σ H → ((Ite K a).stop i H ∧ D.nx σ H) ∨ ((Ite K a).go i H ∧ ∃ N : St → Hp → Prop, (∀ σ' H', N σ' H' → ∃ m', m' < m ∧ U (i + 1) m' σ' H') ∧
      ∀ x H', (Ite K a).yld i H x H' → g x σ H' fun σ2 H2 => tb { D with nx := N, ct := N, bk := D.nx } σ2 H2) := by
  refine ⟨fun i m σ H => m + i = xs.length ∧ W i σ H, ⟨xs.length, by omega, start⟩, fun i m σ H u => ?_⟩
  obtain ⟨e, u⟩ := u
  cases m with
  | zero =>
    have e : i = xs.length := by omega
    subst e
    exact .inl ⟨⟨xs, still _ _ _ u, Nat.le_refl _⟩, after _ _ u⟩
  | succ m =>
    have lt : i < xs.length := by omega
    refine .inr ⟨⟨xs, xs[i], still _ _ _ u, List.getElem?_eq_getElem lt⟩, W (i + 1), fun σ' H' u' => ⟨m, Nat.lt_succ_self _, by omega, u'⟩, fun x H' y => ?_⟩
    obtain ⟨T, z, rfl, free, rfl, same⟩ := y
    exact turn i z σ H T (same xs (still _ _ _ u)) u free
def spHand (K : PySem.W.Frag) : Sp := fun vs H Q _ => ∃ (a : Addr) (ns : List Int), vs = [.ref a] ∧ SqL K H a (ns.map V.int) ∧ ns.length ≤ 63 ∧ ∀ (p q : Addr) (H' : Hp), H p = none → H q = none → q ≠ p → HandAt H' p q → Same H H' → Q (.ref p) H'
section
variable {P : Program} {w : World} {K : PySem.W.Frag} {mg : Str → Option Value} {base : Heap}
theorem sameUpd {H H1 : Hp} {p : Addr} {o : HO} (s : Same H H1) (h : H1 p = none) : Same H (upd H1 p o) := fun b u e => by
  have e1 := s b u e
  rw [upd_ne (ne_of_none e1 h)]
  exact e1
theorem item_int {ns : List Int} {i : Nat} {y : V} (h : (ns.map V.int)[i]? = some y) : ∃ z, y = V.int z ∧ ns[i]? = some z := by
  rw [List.getElem?_map] at h
  cases e : ns[i]? with
  | none => rw [e] at h; cases h
  | some z => rw [e] at h; exact ⟨z, (Option.some.inj h).symm, rfl⟩
theorem scHand : FnScope ["_law_script", "_law_total", "_law_k", "_law_cell"] ["_law_script"] (defScope sHand) := ⟨rfl, rfl, rfl, by decide +kernel, rfl, by decide +kernel, by decide +kernel⟩
theorem ok_hand {f : Addr} {fd : FuncData} (F : Fun K "_law_hand" "_law_hand" sHand f fd) (m : mg "_law_hand" = some (.ref f)) (T : Bl mg) : HasF P w K mg base "_law_hand" 1 ["_law_script"] (spHand K) := by
  refine ⟨f, fd, ?_, m, F.kp, F.binds fun _ _ _ _ _ _ us hl => match us, hl with | [_], _ => rfl⟩
  refine F.ok scHand (fun vs H Q E h => ?_) (fun cdv A outer s H vs Q E hr h => ?_)
  · obtain ⟨a, b, rfl, _⟩ := h
    rfl
  · obtain ⟨a, ns, rfl, hS, hl, k⟩ := h
    refine ⟨_, pss_cons (ps_set (i := 1) scHand.nd rfl (Or.inl rfl) pe_int)
      (pss_cons (ps_for PassesOwn.never rfl (pi_enum (by rfl) T.enumerate (pa_cons (pv 0) pa_nil)) (pg_tup rfl (pgs_cons (pg_name (i := 2) scHand.nd rfl (.inl rfl)) (pgs_cons (pg_name (i := 3) scHand.nd rfl (.inl rfl)) pgs_nil)))
        (pss_one (ps_set (i := 1) scHand.nd rfl (Or.inl rfl) (pe_op op_mod (pe_callTy call_int1 (by rfl) T.int (by decide +kernel) (pa_cons (pe_op op_add (pe_op op_mul (pv 1) pe_int) (pe_op op_mul (pe_callTy call_int1 (by rfl) T.int (by decide +kernel) (pa_cons (pv 3) pa_nil)) (pe_op op_add (pv 2) pe_int))) pa_nil)) pe_int))))
      (pss_one (ps_ret (pe_lst (pa_cons (pe_lc (own := [("_law_cell", 3)]) (g := gName 3) (tt := tYes) (by rfl) scHand.nd (pi_list (pv 0)) (blkOk_by (own := [("_law_cell", 3)]) (N := ["_law_script", "_law_total", "_law_k", "_law_cell"]) (sc := defScope sHand) (by decide +kernel))
          (fun _ _ _ _ _ => pg_name (i := 3) scHand.nd rfl (Or.inl rfl)) (fun _ _ _ _ _ => pts_nil) (fun _ _ _ _ _ => (pe_callB call_abs (by rfl) T.abs (by decide +kernel) (pa_cons (pe_callTy call_int1 (by rfl) T.int (by decide +kernel) (pa_cons (pv 3) pa_nil)) pa_nil))))
        (pa_cons pe_int (pa_cons pe_int (pa_cons (pv 1) pa_nil)))))))), ?_⟩
    refine ⟨_, rfl, a, _, rfl, hS, for_enum (K := K) (a := a) (xs := ns.map V.int) (fun i σ H2 => ∃ (t : Int) (x y : Option V), σ = [some (.ref a), some (.int t), x, y] ∧ Same H H2 ∧ True) ⟨_, _, _, rfl, Same.refl _, trivial⟩ (fun i σ H2 ⟨_, _, _, _, s2, _⟩ => s2.seq hS) ?_ ?_⟩
    · rintro i x σ H2 T hi ⟨t, c, d, rfl, s2, _⟩ free
      obtain ⟨z, rfl, hz⟩ := item_int hi
      have hlt : i < ns.length := (List.getElem?_eq_some_iff.mp hz).1
      refine ⟨T, _, rfl, SqT.of upd_same, rfl, _, _, rfl, _, _, rfl, rfl, ?_⟩
      refine ⟨_, rfl, _, _, rfl, rfl, .inr ⟨by decide, by decide⟩, _, rfl, .inl ⟨_, rfl, _, rfl, _, _, rfl, rfl, _, _, rfl, rfl, .inr ⟨by omega, by omega⟩, _, _, rfl, rfl, .inl ⟨_, rfl, _, _, rfl, rfl, (by show (0 : Int) < _; decide), ?_⟩⟩⟩
      exact ⟨_, _, _, rfl, sameUpd s2 free, trivial⟩
    · rintro σ H2 ⟨t, c, d, rfl, s2, _⟩
      have q : ∀ (b : Int) (l : List Int), (l ++ [b]).map V.int = l.map V.int ++ [V.int b] := fun b l => by rw [List.map_append]; rfl
      refine ⟨_, rfl, a, rfl, ⟨_, s2.seq hS⟩, fun D hD => lc_list (K := K) (a := a) (xs := ns.map V.int) (fun i H3 => Same H H3 ∧ ∃ cs : List Int, cs.length = i ∧ H3 D = some (.lst (cs.map V.int))) ⟨sameUpd s2 hD, [], rfl, upd_same⟩ (fun i H3 _ w => w.1.seq hS) ?_ ?_⟩
      · rintro i y H3 hi ⟨s3, cs, hc, hd⟩
        obtain ⟨z, rfl, hz⟩ := item_int hi
        have hlt : i < ns.length := (List.getElem?_eq_some_iff.mp hz).1
        refine ⟨rfl, ?_⟩
        refine ⟨_, rfl, .inl ⟨_, rfl, _, rfl, cs.map V.int, hd, small1000 (by rw [List.length_map]; omega), ?_⟩⟩
        have e : H D = none := s2.free hD
        refine ⟨fun b u e' => ?_, cs ++ [_], by rw [List.length_append, hc]; rfl, by rw [q]; exact upd_same⟩
        rw [upd_ne (ne_of_none e' e)]
        exact s3 b u e'
      · rintro H3 ⟨s3, cs, hc, hd⟩
        refine ⟨_, rfl, (by show 4 ≤ sizeLine; decide), fun p hp => ?_⟩
        have np : p ≠ D := fun e => by rw [e, hd] at hp; cases hp
        exact k p D _ (s3.free hp) (s2.free hD) np.symm ⟨cs, 0, 0, _, upd_same, by rw [upd_ne np.symm]; exact hd⟩ (sameUpd s3 hp)
end
end Kx

set_option maxHeartbeats 4000000
namespace Kx
open PySem L2
/-- every sign a letter from a to z -/
def Low (z : Str) : Prop := ∀ c ∈ z.cps.toList, 97 ≤ c ∧ c ≤ 122
theorem abc_at : ∀ n : Fin 26, (Str.ofString "abcdefghijklmnopqrstuvwxyz").cps.toList[n.1]? = some (97 + n.1) := by decide +kernel
theorem abc_ix {z : Int} (h : 0 ≤ z) (h' : z < 26) : atI (Str.ofString "abcdefghijklmnopqrstuvwxyz").cps.toList z = some (97 + z.toNat) := by
  obtain ⟨n, rfl⟩ : ∃ n : Nat, z = n := ⟨z.toNat, by omega⟩
  exact atI_nat (abc_at ⟨n, by omega⟩)
theorem len_app (a b : Str) : (a ++ b).length = a.length + b.length := Array.size_append
theorem cps_app (a b : Str) : (a ++ b).cps.toList = a.cps.toList ++ b.cps.toList := Array.toList_append
theorem Low.app {a b : Str} (h : Low a) (h' : Low b) : Low (a ++ b) := fun c hc => by
  rw [cps_app] at hc
  rcases List.mem_append.mp hc with e | e
  · exact h c e
  · exact h' c e
theorem Low.one {n : Nat} (h : n < 26) : Low ⟨#[97 + n]⟩ := fun c hc => by
  have e : c = 97 + n := by simpa using hc
  omega
theorem Low.nil : Low (Str.ofString "") := fun c hc => by
  have e : (Str.ofString "").cps.toList = [] := by decide +kernel
  rw [e] at hc
  cases hc
def spOne : Sp := fun vs H Q _ => ∃ (p q r : Addr) (xs : List V), vs = [.ref p, .ref r] ∧ HandAt H p q ∧ H r = some (.lst xs) ∧ r ≠ p ∧ 0 < xs.length ∧ xs.length ≤ 1000 ∧
  ∀ (x : V) (H' : Hp), x ∈ xs → HandAt H' p q → Keep H H' p → Q x H'
def spWord : Sp := fun vs H Q _ => ∃ (p q : Addr) (m : Int), vs = [.ref p, .int m] ∧ HandAt H p q ∧ 0 < m ∧ m ≤ 10 ∧
  ∀ (z : Str) (H' : Hp), 0 < z.length → z.length ≤ m.toNat → Low z → HandAt H' p q → Keep H H' p → Q (.str z) H'
section
variable {P : Program} {w : World} {K : PySem.W.Frag} {mg : Str → Option Value} {base : Heap}
theorem scOne : FnScope ["_law_hand_here", "_law_rows"] ["_law_hand_here", "_law_rows"] (defScope sOne) := ⟨rfl, rfl, rfl, by decide +kernel, rfl, by decide +kernel, by decide +kernel⟩
theorem ok_one {f : Addr} {fd : FuncData} (F : Fun K "_law_one" "_law_one" sOne f fd) (m : mg "_law_one" = some (.ref f)) (T : Bl mg) (D : HasF P w K mg base "_law_draw" 2 ["_law_hand_here", "_law_many"] spDraw) : HasF P w K mg base "_law_one" 3 ["_law_hand_here", "_law_rows"] spOne := by
  refine ⟨f, fd, ?_, m, F.kp, F.binds fun _ _ _ _ _ _ us hl => match us, hl with | [_, _], _ => rfl⟩
  obtain ⟨f1, fd1, D⟩ := D
  refine F.ok scOne (fun vs H Q E h => ?_) (fun cdv A outer s H vs Q E hr h => ?_)
  · obtain ⟨a, b, c, d, rfl, _⟩ := h
    rfl
  · obtain ⟨p, q, r, xs, rfl, hp, hx, ne, h0, h9, k⟩ := h
    refine ⟨_, pss_one (ps_ret (pe_ix ix_list (pv 1) (pe_call D.G hr (by rfl) D.m D.kp D.b .nil pass0 (pa_cons (pv 0) (pa_cons (pe_callB call_len_seq (by rfl) T.len PySem.boot_len (pa_cons (pv 1) pa_nil)) pa_nil))) (fun _ _ => rfl))), ?_⟩
    have hz : xs.length < 2 ^ 200 := Nat.lt_of_le_of_lt h9 (by decide)
    refine ⟨_, rfl, _, rfl, _, rfl, r, _, rfl, .inl (SqL.of hx), p, q, _, rfl, hp, by omega, by rw [Int.natAbs_natCast]; exact hz, fun z H1 z0 z1 hp1 k1 => ?_⟩
    obtain ⟨n, rfl⟩ : ∃ n : Nat, z = n := ⟨z.toNat, by omega⟩
    have lt : n < xs.length := by omega
    exact ⟨r, xs, n, _, rfl, rfl, SqL.of (k1 r _ hx ne), atI_nat (List.getElem?_eq_getElem lt), k _ _ (List.getElem_mem lt) hp1 k1⟩
theorem scWord : FnScope ["_law_hand_here", "_law_most", "_law_word_here", "_law_k"] ["_law_hand_here", "_law_most"] (defScope sWord) := ⟨rfl, rfl, rfl, by decide +kernel, rfl, by decide +kernel, by decide +kernel⟩
theorem ok_word {f : Addr} {fd : FuncData} (F : Fun K "_law_word" "_law_word" sWord f fd) (m : mg "_law_word" = some (.ref f)) (T : Bl mg) (D : HasF P w K mg base "_law_draw" 2 ["_law_hand_here", "_law_many"] spDraw) : HasF P w K mg base "_law_word" 3 ["_law_hand_here", "_law_most"] spWord := by
  refine ⟨f, fd, ?_, m, F.kp, F.binds fun _ _ _ _ _ _ us hl => match us, hl with | [_, _], _ => rfl⟩
  obtain ⟨f1, fd1, D⟩ := D
  refine F.ok scWord (fun vs H Q E h => ?_) (fun cdv A outer s H vs Q E hr h => ?_)
  · obtain ⟨a, b, c, rfl, _⟩ := h
    rfl
  · obtain ⟨p, q, m, rfl, hp, m0, m1, k⟩ := h
    refine ⟨_, pss_cons (ps_set (i := 2) scWord.nd rfl (Or.inl rfl) pe_str)
      (pss_cons (ps_for PassesOwn.never rfl (pi_range1 (by rfl) T.range (pa_cons (pe_op op_add pe_int (pe_call D.G hr (by rfl) D.m D.kp D.b .nil pass0 (pa_cons (pv 0) (pa_cons (pv 1) pa_nil)))) pa_nil)) (pg_name (i := 3) scWord.nd rfl (.inl rfl))
        (pss_one (ps_set (i := 2) scWord.nd rfl (Or.inl rfl) (pe_op op_add_str (pv 2) (pe_ix ix_str pe_str (pe_call D.G hr (by rfl) D.m D.kp D.b .nil pass0 (pa_cons (pv 0) (pa_cons pe_int pa_nil))) (fun _ _ => rfl))))))
      (pss_one (ps_ret (pv 2)))), ?_⟩
    refine ⟨_, rfl, _, rfl, p, q, m, rfl, hp, m0, by omega, fun z H1 z0 z1 hp1 k1 => ?_⟩
    refine ⟨_, _, rfl, rfl, _, rfl, by omega, by omega, for_range (n := (1 + z).toNat) (fun i σ H2 => ∃ (t : Str) (x : Option V), σ = [some (.ref p), some (.int m), some (.str t), x] ∧ t.length = i ∧ Low t ∧ HandAt H2 p q ∧ Keep H H2 p)
      ⟨_, _, rfl, rfl, Low.nil, hp1, k1⟩ ?_ ?_⟩
    · rintro i σ H2 hi ⟨t, x, rfl, ht, lt, hp2, k2⟩
      refine ⟨_, rfl, _, rfl, p, q, 26, rfl, hp2, by decide, by decide, fun y H3 y0 y1 hp3 k3 => ?_⟩
      refine ⟨_, y, _, rfl, rfl, by decide, abc_ix y0 y1, _, _, rfl, rfl, ?_, ?_⟩
      · show t.length + 1 ≤ sizeLine
        exact small1000 (by omega)
      · exact ⟨_, _, rfl, by rw [len_app, ht]; rfl, lt.app (Low.one (by omega)), hp3, k2.trans k3⟩
    · rintro σ H2 ⟨t, x, rfl, ht, lt, hp2, k2⟩
      exact ⟨_, rfl, k t H2 (by omega) (by omega) lt hp2 k2⟩
end
end Kx

set_option maxHeartbeats 4000000
namespace Kx
open PySem L2
abbrev sWhole : Stmt := top 3
abbrev sLabel : Stmt := top 4
abbrev sSeq : Stmt := top 5
abbrev sAt : Stmt := top 6
abbrev sFresh : Stmt := top 7
/-- the kinds of things that are asked -/
inductive Kd (H : Hp) : V → String → Prop where
  | non : Kd H .non "NoneType"
  | bl (b : Bool) : Kd H (.bl b) "bool"
  | int (i : Int) : Kd H (.int i) "int"
  | str (z : Str) : Kd H (.str z) "str"
  | lst (a : Addr) (xs : List V) (h : H a = some (.lst xs)) : Kd H (.ref a) "list"
  | tup (a : Addr) (xs : List V) (h : H a = some (.tup xs)) : Kd H (.ref a) "tuple"
  | dct (a : Addr) (xs : List (Key × V)) (h : H a = some (.dK xs)) : Kd H (.ref a) "dict"
theorem Kd.ty {K : PySem.W.Frag} {H : Hp} {x : V} {n : String} (k : Kd H x n) : TyX K H x (.type n) := by
  cases k with
  | non => exact .base .non
  | bl b => exact .base (.bl _)
  | int i => exact .base (.int _)
  | str z => exact .base (.str _)
  | lst a xs h => exact .base (.lst h)
  | tup a xs h => exact .base (.tup h)
  | dct a xs h => exact .base (.dK h)
theorem Kd.kits {H : Hp} {x : V} {n : String} (k : Kd H x n) : n ∈ ["NoneType", "bool", "int", "str", "list", "tuple", "dict"] := by cases k <;> decide
structure Bm (mg : Str → Option Value) : Prop where
  isinstance : mg "isinstance" = none
  str : mg "str" = none
  bool : mg "bool" = none
  list : mg "list" = none
  tuple : mg "tuple" = none
  divmod : mg "divmod" = none
  letters : ∃ t, mg "LETTERS" = some (.str "abcdefghijklmnopqrstuvwxyz" t)
  longest : ∃ t, mg "LONGEST_LABEL" = some (.int 6 t)
theorem kit_int {n : String} (h : n ∈ ["NoneType", "bool", "int", "str", "list", "tuple", "dict"]) : kitB n "int" = some (n == "int" || n == "bool") := by
  simp only [List.mem_cons, List.not_mem_nil, or_false] at h
  rcases h with h | h | h | h | h | h | h <;> (subst h; decide +kernel)
theorem kit_bool {n : String} (h : n ∈ ["NoneType", "bool", "int", "str", "list", "tuple", "dict"]) : kitB n "bool" = some (n == "bool") := by
  simp only [List.mem_cons, List.not_mem_nil, or_false] at h
  rcases h with h | h | h | h | h | h | h <;> (subst h; decide +kernel)
theorem kit_str {n : String} (h : n ∈ ["NoneType", "bool", "int", "str", "list", "tuple", "dict"]) : kitB n "str" = some (n == "str") := by
  simp only [List.mem_cons, List.not_mem_nil, or_false] at h
  rcases h with h | h | h | h | h | h | h <;> (subst h; decide +kernel)
theorem kit_list {n : String} (h : n ∈ ["NoneType", "bool", "int", "str", "list", "tuple", "dict"]) : kitB n "list" = some (n == "list") := by
  simp only [List.mem_cons, List.not_mem_nil, or_false] at h
  rcases h with h | h | h | h | h | h | h <;> (subst h; decide +kernel)
theorem kit_tuple {n : String} (h : n ∈ ["NoneType", "bool", "int", "str", "list", "tuple", "dict"]) : kitB n "tuple" = some (n == "tuple") := by
  simp only [List.mem_cons, List.not_mem_nil, or_false] at h
  rcases h with h | h | h | h | h | h | h <;> (subst h; decide +kernel)
/-- a whole number from lo to hi -/
def wholeV (x : V) (lo hi : Int) : Bool := match x with
  | .int i => decide (lo ≤ i) && decide (i ≤ hi)
  | _ => false
def spWhole : Sp := fun vs H Q _ => ∃ (x : V) (n : String) (lo hi : Int), vs = [x, .int lo, .int hi] ∧ Kd H x n ∧ Q (.bl (wholeV x lo hi)) H
section
variable {P : Program} {w : World} {K : PySem.W.Frag} {mg : Str → Option Value} {base : Heap}
theorem scWhole : FnScope ["thing", "low", "high"] ["thing", "low", "high"] (defScope sWhole) := ⟨rfl, rfl, rfl, by decide +kernel, rfl, by decide +kernel, by decide +kernel⟩
theorem ok_whole {f : Addr} {fd : FuncData} (F : Fun K "is_whole" "is_whole" sWhole f fd) (m : mg "is_whole" = some (.ref f)) (T : Bl mg) (B : Bm mg) : HasF P w K mg base "is_whole" 1 ["thing", "low", "high"] spWhole := by
  refine ⟨f, fd, ?_, m, F.kp, F.binds fun _ _ _ _ _ _ us hl => match us, hl with | [_, _, _], _ => rfl⟩
  refine F.ok scWhole (fun vs H Q E h => ?_) (fun cdv A outer s H vs Q E hr h => ?_)
  · obtain ⟨a, b, c, d, rfl, _⟩ := h
    rfl
  · obtain ⟨x, n, lo, hi, rfl, hk, k⟩ := h
    refine ⟨_, pss_one (ps_ret (pe_and (pe_callB call_isi (by rfl) B.isinstance (by decide +kernel) (pa_cons (pv 0) (pa_cons (pe_bltn (v := .ty "int") (by rfl) T.int (by decide +kernel) rfl) pa_nil))) (pe_and (pe_not (pe_callB call_isi (by rfl) B.isinstance (by decide +kernel) (pa_cons (pv 0) (pa_cons (pe_bltn (v := .ty "bool") (by rfl) B.bool (by decide +kernel) rfl) pa_nil)))) (pe_one (pe_chain op_le op_le (pv 1) (pv 0) (pv 2)))))), ?_⟩
    refine ⟨_, rfl, x, _, _, _, _, rfl, .ty _, hk.ty, kit_ty (kit_int hk.kits), _, rfl, ?_⟩
    cases hk with
    | int i =>
      refine iteT ⟨_, rfl, .int i, _, _, _, _, rfl, .ty _, (Kd.int (H := H) i).ty, kit_ty (kit_bool (Kd.int (H := H) i).kits), _, rfl, _, rfl, ?_⟩
      refine iteT ⟨_, rfl, _, rfl, _, _, rfl, rfl, _, rfl, ?_⟩
      refine ite2 (fun h1 => ?_) (fun h1 => ?_)
      · have h1 : lo ≤ i := of_decide_eq_true h1
        refine ⟨_, rfl, _, _, rfl, rfl, ?_⟩
        have e : wholeV (.int i) lo hi = decide (i ≤ hi) := by simp [wholeV, h1]
        rw [e] at k
        exact k
      · have h1 : ¬ lo ≤ i := fun z => h1 (decide_eq_true z)
        have e : wholeV (.int i) lo hi = false := by simp [wholeV, h1]
        rw [e] at k
        exact k
    | bl b =>
      refine iteT ⟨_, rfl, .bl b, _, _, _, _, rfl, .ty _, (Kd.bl (H := H) b).ty, kit_ty (kit_bool (Kd.bl (H := H) b).kits), _, rfl, _, rfl, ?_⟩
      exact iteF k
    | non => exact iteF k
    | str z => exact iteF k
    | lst a xs h => exact iteF k
    | tup a xs h => exact iteF k
    | dct a xs h => exact iteF k
/-! labels -/
def isLow (c : Nat) : Bool := decide (97 ≤ c) && decide (c ≤ 122)
def isLab (z : Str) : Bool := decide (1 ≤ z.length) && (decide (z.length ≤ 6) && z.cps.toList.all isLow)
def labV (x : V) : Bool := match x with
  | .str z => isLab z
  | _ => false
theorem low_alpha : ∀ n : Fin 128, isLow n.1 = (Unicode.isAlpha n.1 && !(Unicode.isUpper n.1 || Unicode.isTitle n.1)) := by decide +kernel
theorem low_lower : ∀ n : Fin 128, isLow n.1 = true → Unicode.isLower n.1 = true := by decide +kernel
theorem low_small {c : Nat} (h : isLow c = true) : c < 128 := by
  simp only [isLow, Bool.and_eq_true, decide_eq_true_eq] at h
  omega
theorem three (z : Str) (h : 1 ≤ z.length) : (PySem.Txt.isascii z && (PySem.Txt.isalpha z && PySem.Txt.islower z)) = z.cps.toList.all isLow := by
  have hl : z.cps.toList.length = z.length := by simp [Str.length]
  unfold PySem.Txt.isascii PySem.Txt.isalpha PySem.Txt.islower
  rw [← Array.all_toList, ← Array.all_toList, ← Array.any_toList, ← Array.any_toList]
  generalize z.cps.toList = l at hl
  cases e : l.all isLow with
  | true =>
    rw [List.all_eq_true] at e
    have a1 : l.all (fun c => decide (c < 128)) = true := List.all_eq_true.mpr fun c hc => decide_eq_true (low_small (e c hc))
    have a2 : l.all Unicode.isAlpha = true := List.all_eq_true.mpr fun c hc => by
      have q := low_alpha ⟨c, low_small (e c hc)⟩
      rw [show isLow c = true from e c hc] at q
      exact (Bool.and_eq_true_iff.mp q.symm).1
    have a3 : l.any Unicode.isLower = true := by
      cases l with
      | nil => simp only [List.length_nil] at hl; omega
      | cons c l => exact List.any_eq_true.mpr ⟨c, List.mem_cons_self, low_lower ⟨c, low_small (e c List.mem_cons_self)⟩ (e c List.mem_cons_self)⟩
    have a4 : (l.any fun c => Unicode.isUpper c || Unicode.isTitle c) = false := List.any_eq_false.mpr fun c hc => by
      have q := low_alpha ⟨c, low_small (e c hc)⟩
      rw [show isLow c = true from e c hc] at q
      have q2 := (Bool.and_eq_true_iff.mp q.symm).2
      intro z
      rw [z] at q2
      cases q2
    rw [a1, a2, a3, a4]
    have h' : decide (z.length > 0) = true := decide_eq_true (by omega)
    rw [h']
    rfl
  | false =>
    obtain ⟨c, hc, hn⟩ := List.all_eq_false.mp e
    cases a1 : l.all (fun c => decide (c < 128)) with
    | false => rfl
    | true =>
      cases a2 : l.all Unicode.isAlpha with
      | false => simp
      | true =>
        have b1 : c < 128 := of_decide_eq_true (List.all_eq_true.mp a1 c hc)
        have b2 : Unicode.isAlpha c = true := List.all_eq_true.mp a2 c hc
        have q := low_alpha ⟨c, b1⟩
        simp only [b2, Bool.true_and] at q
        have q1 : isLow c = false := by
          cases z : isLow c
          · rfl
          · exact absurd z hn
        rw [q1] at q
        have a4 : (l.any fun c => Unicode.isUpper c || Unicode.isTitle c) = true := List.any_eq_true.mpr ⟨c, hc, by
          cases z : (Unicode.isUpper c || Unicode.isTitle c)
          · rw [z] at q; cases q
          · rfl⟩
        rw [a4]
        simp
def spLabel : Sp := fun vs H Q _ => ∃ (x : V) (n : String), vs = [x] ∧ Kd H x n ∧ (∀ z, x = .str z → z.length ≤ sizeLine) ∧ Q (.bl (labV x)) H
theorem scLabel : FnScope ["thing"] ["thing"] (defScope sLabel) := ⟨rfl, rfl, rfl, by decide +kernel, rfl, by decide +kernel, by decide +kernel⟩
theorem ok_label {f : Addr} {fd : FuncData} (F : Fun K "is_label" "is_label" sLabel f fd) (m : mg "is_label" = some (.ref f)) (T : Bl mg) (B : Bm mg) : HasF P w K mg base "is_label" 1 ["thing"] spLabel := by
  refine ⟨f, fd, ?_, m, F.kp, F.binds fun _ _ _ _ _ _ us hl => match us, hl with | [_], _ => rfl⟩
  obtain ⟨tL, mL⟩ := B.longest
  refine F.ok scLabel (fun vs H Q E h => ?_) (fun cdv A outer s H vs Q E hr h => ?_)
  · obtain ⟨a, b, rfl, _⟩ := h
    rfl
  · obtain ⟨x, n, rfl, hk, hz, k⟩ := h
    refine ⟨_, pss_cons (ps_if (PW.pt (pw_or (pt_not (pt_val (pe_callB call_isi (by rfl) B.isinstance (by decide +kernel) (pa_cons (pv 0) (pa_cons (pe_bltn (v := .ty "str") (by rfl) B.str (by decide +kernel) rfl) pa_nil))))) (pw_or1 (pt_not (pt_chain op_le op_le pe_int (pe_callB call_len_str (by rfl) T.len PySem.boot_len (pa_cons (pv 0) pa_nil)) (pe_glob (v := .int 6) rfl mL ⟨_, rfl⟩)))))) (pss_one (ps_ret pe_bl)) pss_nil)
      (pss_one (ps_ret (pe_and (pe_m0 PySem.F.slot_str_isascii PySem.F.type_str_isascii mt_isascii (pv 0)) (pe_and (pe_m0 PySem.F.slot_str_isalpha PySem.F.type_str_isalpha mt_isalpha (pv 0)) (pe_one (pe_m0 PySem.F.slot_str_islower PySem.F.type_str_islower mt_islower (pv 0))))))), ?_⟩
    refine ⟨_, rfl, x, _, _, _, _, rfl, .ty _, hk.ty, kit_ty (kit_str hk.kits), _, rfl, ?_⟩
    cases hk with
    | str z =>
      have hz := hz z rfl
      refine iteF ?_
      refine ⟨_, rfl, z, rfl, hz, _, _, rfl, rfl, _, rfl, ?_⟩
      refine ite2 (fun h1 => ?_) (fun h1 => ?_)
      · have h1 : (1 : Int) ≤ (z.length : Nat) := of_decide_eq_true h1
        have h1' : 1 ≤ z.length := by omega
        refine ⟨_, _, rfl, rfl, _, rfl, ?_⟩
        refine ite2 (fun h2 => ?_) (fun h2 => ?_)
        · have h2 : ¬ (z.length : Int) ≤ 6 := fun e => by rw [decide_eq_true e] at h2; cases h2
          have e : labV (.str z) = false := by
            show isLab z = false
            unfold isLab
            rw [decide_eq_false (show ¬ z.length ≤ 6 by omega), Bool.false_and, Bool.and_false]
          rw [e] at k
          exact k
        · have h2 : (z.length : Int) ≤ 6 := Classical.byContradiction fun e => h2 (by rw [decide_eq_false e]; rfl)
          have e : labV (.str z) = (PySem.Txt.isascii z && (PySem.Txt.isalpha z && PySem.Txt.islower z)) := by
            rw [three z h1']
            show isLab z = _
            unfold isLab
            rw [decide_eq_true h1', decide_eq_true (show z.length ≤ 6 by omega), Bool.true_and, Bool.true_and]
          rw [e] at k
          refine ⟨_, rfl, ⟨_, rfl⟩, _, rfl, rfl, trivial, _, rfl, ?_⟩
          cases e1 : PySem.Txt.isascii z with
          | false => rw [e1] at k; exact iteF k
          | true =>
            rw [e1, Bool.true_and] at k
            refine iteT ⟨_, rfl, ⟨_, rfl⟩, _, rfl, rfl, trivial, _, rfl, ?_⟩
            cases e2 : PySem.Txt.isalpha z with
            | false => rw [e2] at k; exact iteF k
            | true =>
              rw [e2, Bool.true_and] at k
              exact iteT ⟨_, rfl, ⟨_, rfl⟩, _, rfl, rfl, trivial, k⟩
      · have h1 : ¬ (1 : Int) ≤ (z.length : Nat) := fun e => h1 (decide_eq_true e)
        have e : labV (.str z) = false := by
          show isLab z = false
          unfold isLab
          rw [decide_eq_false (show ¬ 1 ≤ z.length by omega), Bool.false_and]
        rw [e] at k
        exact ⟨_, rfl, iteT k⟩
    | int i => exact iteT k
    | bl b => exact iteT k
    | non => exact iteT k
    | lst a xs h => exact iteT k
    | tup a xs h => exact iteT k
    | dct a xs h => exact iteT k
def seqV (n : String) : Bool := n == "list" || n == "tuple"
def spSeq : Sp := fun vs H Q _ => ∃ (x : V) (n : String), vs = [x] ∧ Kd H x n ∧ ∀ H', Same H H' → Q (.bl (seqV n)) H'
theorem scSeq : FnScope ["thing"] ["thing"] (defScope sSeq) := ⟨rfl, rfl, rfl, by decide +kernel, rfl, by decide +kernel, by decide +kernel⟩
theorem kit_seq {K : PySem.W.Frag} {n : String} (h : n ∈ ["NoneType", "bool", "int", "str", "list", "tuple", "dict"]) : PySem.W.kitAny K (.type n) [.type "list", .type "tuple"] = some (seqV n) := by
  refine kitAny_cons (kit_ty (kit_list h)) (fun e => kitAny_cons (kit_ty (kit_tuple h)) (fun e2 => ?_) (fun e2 => ?_)) (fun e => ?_)
  · unfold seqV; rw [e, e2]; exact kitAny_nil
  · unfold seqV; rw [e, e2]; rfl
  · unfold seqV; rw [e]; rfl
theorem Kd.keep {H H' : Hp} {x : V} {n : String} (k : Kd H x n) (s : Same H H') : Kd H' x n := by
  cases k with
  | non => exact .non
  | bl b => exact .bl b
  | int i => exact .int i
  | str z => exact .str z
  | lst a xs h => exact .lst a xs (s _ _ h)
  | tup a xs h => exact .tup a xs (s _ _ h)
  | dct a xs h => exact .dct a xs (s _ _ h)
theorem ok_seq {f : Addr} {fd : FuncData} (F : Fun K "is_sequence" "is_sequence" sSeq f fd) (m : mg "is_sequence" = some (.ref f)) (B : Bm mg) : HasF P w K mg base "is_sequence" 1 ["thing"] spSeq := by
  refine ⟨f, fd, ?_, m, F.kp, F.binds fun _ _ _ _ _ _ us hl => match us, hl with | [_], _ => rfl⟩
  refine F.ok scSeq (fun vs H Q E h => ?_) (fun cdv A outer s H vs Q E hr h => ?_)
  · obtain ⟨a, b, rfl, _⟩ := h
    rfl
  · obtain ⟨x, n, rfl, hk, k⟩ := h
    refine ⟨_, pss_one (ps_ret (pe_callB call_isiT (by rfl) B.isinstance (by decide +kernel) (pa_cons (pv 0) (pa_cons (pe_tup (pa_cons (pe_bltn (v := .ty "list") (by rfl) B.list (by decide +kernel) rfl) (pa_cons (pe_bltn (v := .ty "tuple") (by rfl) B.tuple (by decide +kernel) rfl) pa_nil))) pa_nil)))), ?_⟩
    refine ⟨_, rfl, by decide, fun t ht => ?_⟩
    exact ⟨x, t, _, _, _, _, rfl, upd_same, .cons (.ty _) (.cons (.ty _) .nil), (hk.keep (sameUpd (Same.refl _) ht)).ty, kit_seq hk.kits, k _ (sameUpd (Same.refl _) ht)⟩
end
end Kx

set_option maxHeartbeats 4000000
namespace Kx
open PySem L2
/-- the letters of the label with number n less 1, the last one first -/
def lab : Nat → List Nat
  | 0 => []
  | n + 1 => (97 + n % 26) :: lab (n / 26)
termination_by n => n
decreasing_by omega
theorem lab_zero : lab 0 = [] := by rw [lab]
theorem lab_succ (n : Nat) : lab (n + 1) = (97 + n % 26) :: lab (n / 26) := by rw [lab]
theorem lab_len : ∀ (m k : Nat), k < 26 ^ m → (lab k).length ≤ m
  | m, 0, _ => by rw [lab_zero]; exact Nat.zero_le _
  | 0, k + 1, h => by omega
  | m + 1, k + 1, h => by
    rw [lab_succ, List.length_cons]
    have h1 : k / 26 < 26 ^ m := by rw [Nat.pow_succ] at h; omega
    have := lab_len m (k / 26) h1
    omega
theorem lab_low : ∀ (k : Nat), ∀ c ∈ lab k, 97 ≤ c ∧ c ≤ 122
  | 0 => fun c hc => by rw [lab_zero] at hc; cases hc
  | k + 1 => fun c hc => by
    rw [lab_succ] at hc
    rcases List.mem_cons.mp hc with e | e
    · omega
    · exact lab_low (k / 26) c e
termination_by k => k
decreasing_by omega
def labN (n : Nat) : Str := SX.S (lab (n + 1)).reverse
def cV (c : Nat) : V := .str (SX.S [c])
theorem join_one : ∀ l : List Nat, TL.joinL [] (l.map fun c => [c]) = l
  | [] => rfl
  | [c] => rfl
  | c :: d :: l => by
    show [c] ++ ([] ++ TL.joinL [] ((d :: l).map fun c => [c])) = c :: d :: l
    rw [join_one (d :: l)]
    rfl
theorem map_cV (l : List Nat) : l.map cV = (l.map fun c => SX.S [c]).map V.str := by rw [List.map_map]; rfl
theorem join_cV (l : List Nat) : PySem.Txt.join (Str.ofString "") (l.map fun c => SX.S [c]) = SX.S l := by
  have e : Str.ofString "" = SX.S [] := by decide +kernel
  have e2 : (l.map fun c => SX.S [c]) = (l.map fun c => [c]).map SX.S := by rw [List.map_map]; rfl
  rw [e, e2, SX.join_S, join_one]
theorem sum_one (l : List Nat) : ((l.map fun c => SX.S [c]).map (·.length)).sum = l.length := by
  induction l with
  | nil => rfl
  | cons c l ih => rw [List.map_cons, List.map_cons, List.sum_cons, ih, List.length_cons, SX.S_len]; simp only [List.length_cons, List.length_nil]; omega
def spAt : Sp := fun vs H Q _ => ∃ n : Nat, vs = [.int n] ∧ n ≤ 1000000000 ∧ ∀ H', Same H H' → Q (.str (labN n)) H'
def slotI (i : Nat) (σ : St) : Nat := match σ[i]? with
  | some (some (.int l)) => l.toNat
  | _ => 0
section
variable {P : Program} {w : World} {K : PySem.W.Frag} {mg : Str → Option Value} {base : Heap}
theorem scAt : FnScope ["index", "letters", "left", "letter"] ["index"] (defScope sAt) := ⟨rfl, rfl, rfl, by decide +kernel, rfl, by decide +kernel, by decide +kernel⟩
theorem ok_at {f : Addr} {fd : FuncData} (F : Fun K "label_at" "label_at" sAt f fd) (m : mg "label_at" = some (.ref f)) (T : Bl mg) (B : Bm mg) : HasF P w K mg base "label_at" 1 ["index"] spAt := by
  refine ⟨f, fd, ?_, m, F.kp, F.binds fun _ _ _ _ _ _ us hl => match us, hl with | [_], _ => rfl⟩
  obtain ⟨tL, mL⟩ := B.letters
  refine F.ok scAt (fun vs H Q E h => ?_) (fun cdv A outer s H vs Q E hr h => ?_)
  · obtain ⟨a, rfl, _⟩ := h
    rfl
  · obtain ⟨n, rfl, hn, k⟩ := h
    refine ⟨_, pss_cons (ps_set (i := 1) scAt.nd rfl (Or.inl rfl) (pe_lst pa_nil)) (pss_cons (ps_set (i := 2) scAt.nd rfl (Or.inl rfl) (pe_op op_add (pv 0) pe_int))
      (pss_cons (ps_while PassesOwn.never (pt_cmpR op_gt (pv 2) pe_int (nomark _))
        (pss_cons (ps_asg (pe_callB call_divmod (by rfl) B.divmod (by decide +kernel) (pa_cons (pe_op op_sub (pv 2) pe_int) (pa_cons (pe_callB call_len_str (by rfl) T.len PySem.boot_len (pa_cons (pe_glob (v := .str "abcdefghijklmnopqrstuvwxyz") rfl mL ⟨_, rfl⟩) pa_nil)) pa_nil))) (pg_tup rfl (pgs_cons (pg_name (i := 2) scAt.nd rfl (.inl rfl)) (pgs_cons (pg_name (i := 3) scAt.nd rfl (.inl rfl)) pgs_nil))))
        (pss_one (ps_expr (pe_bm PySem.F.plainAttrs_list PySem.F.slot_list_append PySem.F.type_list_append mt_append (pv 1) (pa_cons (pe_ix ix_str (pe_glob (v := .str "abcdefghijklmnopqrstuvwxyz") rfl mL ⟨_, rfl⟩) (pv 3) (fun _ _ => rfl)) pa_nil))))))
      (pss_one (ps_ret (pe_join pe_str (pe_revL (pv 1))))))), ?_⟩
    refine ⟨by decide, fun p hp => ?_⟩
    refine ⟨_, rfl, _, _, rfl, rfl, ?_⟩
    have hlab : ∀ (acc : List Nat) l, acc ++ lab l = lab (n + 1) → acc.length ≤ 7 := fun acc l e => by
      have h1 := lab_len 7 (n + 1) (by omega)
      rw [← e, List.length_append] at h1
      omega
    refine while_by (fun σ H2 => ∃ (l : Nat) (acc : List Nat) (x : Option V), σ = [some (.int n), some (.ref p), some (.int l), x] ∧ acc ++ lab l = lab (n + 1) ∧ H2 p = some (.lst (acc.map cV)) ∧ Same H H2) (fun σ _ => slotI 2 σ)
      ⟨n + 1, [], none, rfl, rfl, upd_same, sameUpd (Same.refl _) hp⟩ ?_ ?_
    · rintro σ H2 ⟨l, acc, x, rfl, e, hp2, s2⟩
      refine ⟨_, rfl, _, _, rfl, rfl, _, rfl, ?_⟩
      refine ite2 (fun h1 => ?_) (fun h1 => ?_)
      · have h1 : (l : Int) > 0 := of_decide_eq_true h1
        obtain ⟨l, rfl⟩ : ∃ l' : Nat, l = l' + 1 := ⟨l - 1, by omega⟩
        have hL : ((Str.ofString "abcdefghijklmnopqrstuvwxyz").length : Int) = 26 := by decide +kernel
        have e1 : (((l + 1 : Nat) : Int) - 1) / ((Str.ofString "abcdefghijklmnopqrstuvwxyz").length : Nat) = ((l / 26 : Nat) : Int) := by rw [hL]; omega
        have e2 : (((l + 1 : Nat) : Int) - 1) % ((Str.ofString "abcdefghijklmnopqrstuvwxyz").length : Nat) = ((l % 26 : Nat) : Int) := by rw [hL]; omega
        refine ⟨_, rfl, _, _, rfl, rfl, _, rfl, by decide +kernel, _, _, rfl, ⟨by decide +kernel, by decide +kernel⟩, fun t ht => ?_⟩
        have ntp : p ≠ t := ne_of_none hp2 ht
        have hp3 : ∀ o, (upd H2 t o) p = some (.lst (acc.map cV)) := fun o => by rw [upd_ne ntp]; exact hp2
        rw [e1, e2]
        refine ⟨t, _, rfl, SqT.of upd_same, rfl, _, _, rfl, _, _, rfl, rfl, ?_⟩
        have e' : (acc ++ [97 + l % 26]) ++ lab (l / 26) = lab (n + 1) := by rw [← e, lab_succ, List.append_assoc]; rfl
        have hlen := hlab _ _ e'
        rw [List.length_append] at hlen
        refine ⟨_, rfl, .inl ⟨rfl, _, SqL.of (hp3 _)⟩, _, rfl, _, _, _, rfl, rfl, by decide +kernel, abc_ix (by omega) (by omega), p, _, _, rfl, rfl, hp3 _, small1000 (by rw [List.length_map]; omega), ?_⟩
        refine ⟨⟨l / 26, acc ++ [97 + l % 26], _, rfl, e', ?_, ?_⟩, ?_⟩
        · rw [upd_same, List.map_append]
          rfl
        · intro b u e3
          have n1 : b ≠ p := ne_of_none e3 hp
          rw [upd_ne n1]
          exact sameUpd s2 ht b u e3
        · show ((l / 26 : Nat) : Int).toNat < ((l + 1 : Nat) : Int).toNat
          omega
      · have h1 : ¬ (l : Int) > 0 := fun e => h1 (decide_eq_true e)
        have e0 : l = 0 := by omega
        subst e0
        rw [lab_zero, List.append_nil] at e
        subst e
        have h7 := lab_len 7 (n + 1) (by omega)
        refine ⟨⟨_, rfl⟩, _, rfl, p, _, rfl, SqL.of hp2, fun q hq => ⟨_, q, (lab (n + 1)).reverse.map fun c => SX.S [c], rfl, rfl, .inl (SqL.of ?_), ?_, ?_⟩⟩
        · rw [upd_same, ← List.map_reverse, map_cV]
        · rw [sum_one, List.length_map, List.length_reverse]
          have z : (Str.ofString "").length = 0 := by decide +kernel
          rw [z]
          omega
        · have j := join_cV (lab (n + 1)).reverse
          have kk : ∀ o, Q (V.str (labN n)) (upd H2 q o) := fun o => k _ (sameUpd s2 hq)
          have eL : labN n = PySem.Txt.join (Str.ofString "") ((lab (n + 1)).reverse.map fun c => SX.S [c]) := j.symm
          rw [eL] at kk
          exact kk _
    · rintro σ H1 Q1 Q2 imp ⟨v, e1, i, j, e2, e3, b, e4, q⟩
      exact ⟨v, e1, i, j, e2, e3, b, e4, imp _ _ q⟩
end
end Kx

set_option maxHeartbeats 4000000
namespace Kx
open PySem L2
abbrev sLAt : Stmt := top 16
/-- all labels of up to so many letters -/
def tot : Nat → Nat
  | 0 => 0
  | j + 1 => tot j + 26 ^ (j + 1)
theorem tot_succ : ∀ j, tot (j + 1) = 26 * (tot j + 1)
  | 0 => rfl
  | j + 1 => by
    have ih := tot_succ j
    show tot (j + 1) + 26 ^ (j + 2) = 26 * (tot (j + 1) + 1)
    have e : 26 ^ (j + 2) = 26 * 26 ^ (j + 1) := by rw [Nat.pow_succ 26 (j + 1), Nat.mul_comm]
    have e2 : tot (j + 1) = tot j + 26 ^ (j + 1) := rfl
    omega
def dig : Nat → Nat → List Nat
  | 0, _ => []
  | m + 1, r => (97 + r % 26) :: dig m (r / 26)
theorem dig_len : ∀ m r, (dig m r).length = m
  | 0, _ => rfl
  | m + 1, r => by show (dig m (r / 26)).length + 1 = m + 1; rw [dig_len m]
theorem lab_dig : ∀ j r, r < 26 ^ (j + 1) → lab (tot j + r + 1) = dig (j + 1) r
  | 0, r, h => by
    have h' : r < 26 := h
    rw [show tot 0 + r + 1 = r + 1 by simp [tot], lab_succ, show r / 26 = 0 by omega, lab_zero]
    rfl
  | j + 1, r, h => by
    have e := tot_succ j
    have h2 : r / 26 < 26 ^ (j + 1) := by rw [Nat.pow_succ] at h; omega
    rw [lab_succ, show (tot (j + 1) + r) / 26 = tot j + r / 26 + 1 by omega, lab_dig j (r / 26) h2, show (tot (j + 1) + r) % 26 = r % 26 by omega]
    rfl
section
variable {P : Program} {w : World} {K : PySem.W.Frag} {mg : Str → Option Value} {base : Heap}
theorem scLAt : FnScope ["_law_index_here", "_law_size", "_law_many", "_law_word_here", "_law_k"] ["_law_index_here"] (defScope sLAt) := ⟨rfl, rfl, rfl, by decide +kernel, rfl, by decide +kernel, by decide +kernel⟩
theorem ok_lat {f : Addr} {fd : FuncData} (F : Fun K "_law_label_at" "_law_label_at" sLAt f fd) (m : mg "_law_label_at" = some (.ref f)) (T : Bl mg) : HasF P w K mg base "_law_label_at" 1 ["_law_index_here"] spAt := by
  refine ⟨f, fd, ?_, m, F.kp, F.binds fun _ _ _ _ _ _ us hl => match us, hl with | [_], _ => rfl⟩
  refine F.ok scLAt (fun vs H Q E h => ?_) (fun cdv A outer s H vs Q E hr h => ?_)
  · obtain ⟨a, rfl, _⟩ := h
    rfl
  · obtain ⟨n, rfl, hn, k⟩ := h
    refine ⟨_, pss_cons (ps_set (i := 1) scLAt.nd rfl (Or.inl rfl) pe_int) (pss_cons (ps_set (i := 2) scLAt.nd rfl (Or.inl rfl) pe_int)
      (pss_cons (ps_while PassesOwn.never (pt_cmpR op_ge (pv 0) (pv 1) (nomark _))
        (pss_cons (ps_set (i := 0) scLAt.nd rfl (Or.inl rfl) (pe_op op_sub (pv 0) (pv 1))) (pss_cons (ps_set (i := 1) scLAt.nd rfl (Or.inl rfl) (pe_op op_mul (pv 1) pe_int)) (pss_one (ps_set (i := 2) scLAt.nd rfl (Or.inl rfl) (pe_op op_add (pv 2) pe_int))))))
      (pss_cons (ps_set (i := 3) scLAt.nd rfl (Or.inl rfl) pe_str)
      (pss_cons (ps_for PassesOwn.never rfl (pi_range1 (by rfl) T.range (pa_cons (pv 2) pa_nil)) (pg_name (i := 4) scLAt.nd rfl (.inl rfl))
        (pss_cons (ps_set (i := 3) scLAt.nd rfl (Or.inl rfl) (pe_op op_add_str (pe_ix ix_str pe_str (pe_op op_mod (pe_callTy call_int1 (by rfl) T.int (by decide +kernel) (pa_cons (pv 0) pa_nil)) pe_int) (fun _ _ => rfl)) (pv 3)))
        (pss_one (ps_set (i := 0) scLAt.nd rfl (Or.inl rfl) (pe_op op_fdiv (pv 0) pe_int)))))
      (pss_one (ps_ret (pv 3))))))), ?_⟩
    refine while_by (fun σ H2 => ∃ j r : Nat, σ = [some (.int r), some (.int ((26 ^ (j + 1) : Nat) : Int)), some (.int ((j + 1 : Nat) : Int)), none, none] ∧ n = tot j + r ∧ Same H H2) (fun σ _ => slotI 0 σ)
      ⟨0, n, rfl, by simp [tot], Same.refl _⟩ ?_ ?_
    · rintro σ H2 ⟨j, r, rfl, e, s2⟩
      refine ⟨_, rfl, _, rfl, _, _, rfl, rfl, _, rfl, ?_⟩
      refine ite2 (fun h1 => ?_) (fun h1 => ?_)
      · have h1 : (r : Int) ≥ ((26 ^ (j + 1) : Nat) : Int) := of_decide_eq_true h1
        have h1' : 26 ^ (j + 1) ≤ r := by omega
        have hp : 0 < 26 ^ (j + 1) := Nat.pow_pos (by decide)
        have e1 : (r : Int) - ((26 ^ (j + 1) : Nat) : Int) = ((r - 26 ^ (j + 1) : Nat) : Int) := by omega
        have e2 : ((26 ^ (j + 1) : Nat) : Int) * 26 = ((26 ^ (j + 2) : Nat) : Int) := by rw [Nat.pow_succ 26 (j + 1)]; omega
        refine ⟨_, rfl, _, rfl, _, _, rfl, rfl, _, rfl, _, _, rfl, rfl, .inr ⟨by decide, by decide⟩, _, rfl, _, _, rfl, rfl, ?_⟩
        refine ⟨⟨j + 1, r - 26 ^ (j + 1), ?_, ?_, s2⟩, ?_⟩
        · show [some (V.int _), some (V.int _), some (V.int _), none, none] = _
          rw [e1, e2]
          rfl
        · show n = tot j + 26 ^ (j + 1) + (r - 26 ^ (j + 1))
          omega
        · show ((r : Int) - ((26 ^ (j + 1) : Nat) : Int)).toNat < (r : Int).toNat
          rw [e1]
          omega
      · have h1 : ¬ (r : Int) ≥ ((26 ^ (j + 1) : Nat) : Int) := fun z => h1 (decide_eq_true z)
        have h1' : r < 26 ^ (j + 1) := by omega
        have hd := lab_dig j r h1'
        have h7 := lab_len 7 (n + 1) (by omega)
        rw [e, hd, dig_len] at h7
        refine ⟨_, rfl, _, rfl, by omega, by omega, for_range (n := j + 1) (fun i σ H3 => ∃ (q : Nat) (z : List Nat) (x : Option V), σ = [some (.int q), some (.int ((26 ^ (j + 1) : Nat) : Int)), some (.int ((j + 1 : Nat) : Int)), some (.str (SX.S z)), x] ∧
          (dig (j + 1 - i) q).reverse ++ z = (dig (j + 1) r).reverse ∧ z.length = i ∧ Same H H3) ⟨r, [], none, rfl, List.append_nil _, rfl, s2⟩ ?_ ?_⟩
        · rintro i σ H3 hi ⟨q, z, x, rfl, e3, hz, s3⟩
          obtain ⟨y, hy⟩ : ∃ y, j + 1 - i = y + 1 := ⟨j - i, by omega⟩
          rw [hy] at e3
          have e4 : (q : Int) % 26 = ((q % 26 : Nat) : Int) := by omega
          have e5 : (q : Int) / 26 = ((q / 26 : Nat) : Int) := by omega
          refine ⟨_, rfl, .inl ⟨_, rfl, _, _, rfl, rfl, (by show (0 : Int) < _; decide), _, _, _, rfl, rfl, by decide +kernel, abc_ix (by omega) (by omega), _, rfl, _, _, rfl, rfl, ?_, _, rfl, _, _, rfl, rfl, ⟨by decide, by decide⟩, ?_⟩⟩
          · show 1 + (SX.S z).length ≤ sizeLine
            rw [SX.S_len]
            exact Nat.le_of_lt (small1000 (by omega))
          · refine ⟨q / 26, (97 + q % 26) :: z, some (.int (0 + (i : Int))), ?_, ?_, by rw [List.length_cons, hz], s3⟩
            · show [some (V.int _), _, _, some (V.str (SX.S [_] ++ SX.S z)), _] = _
              rw [e5, SX.S_cat, e4]
              rfl
            · rw [show j + 1 - (i + 1) = y by omega, ← e3]
              show _ = ((97 + q % 26) :: dig y (q / 26)).reverse ++ z
              rw [List.reverse_cons, List.append_assoc]
              rfl
        · rintro σ H3 ⟨q, z, x, rfl, e3, hz, s3⟩
          rw [Nat.sub_self] at e3
          have e4 : z = (dig (j + 1) r).reverse := e3
          refine ⟨_, rfl, ?_⟩
          have kk := k H3 s3
          unfold labN at kk
          rw [e, hd, ← e4] at kk
          exact kk
    · rintro σ H1 Q1 Q2 imp ⟨v, e0, v2, e1, i, j, e2, e3, b, e4, q⟩
      exact ⟨v, e0, v2, e1, i, j, e2, e3, b, e4, imp _ _ q⟩
end
end Kx

set_option maxHeartbeats 8000000
namespace Kx
open PySem PyProof.Rows L2
/-- which keys a list of texts has -/
def has (xs : List Str) (k : Key) : Bool := xs.any fun x => decide (k = Sum.inr x)
theorem has_in (xs : List Str) (z : Str) : has xs (Sum.inr z) = decide (z ∈ xs) := by
  induction xs with
  | nil => rfl
  | cons x xs ih =>
    show (decide ((Sum.inr z : Key) = Sum.inr x) || has xs (Sum.inr z)) = decide (z ∈ x :: xs)
    rw [ih, key_rr]
    by_cases e : z = x <;> simp [e]
theorem has_take {xs : List Str} {i : Nat} {x : Str} (h : xs[i]? = some x) (k : Key) : (has (xs.take i) k || decide (k = Sum.inr x)) = has (xs.take (i + 1)) k := by
  unfold has
  rw [List.take_add_one, h, List.any_append]
  simp
section
variable {prog : Program} {w : World} {A : Around} {E : Value → Shared → Prop}
theorem add_text {S : Addr} {f : Key → Bool} {m : Nat} {x : Str} {t : Tok} {s : Shared} {Q : Bool → Shared → Prop} (hS : s.heap.SetOf (mixKind prog w) S f m) (room : m + 1 < scanBound)
    (next : ∀ h' b, Heap.SameBut S s.heap h' → (∃ m', m' ≤ m + 1 ∧ h'.SetOf (mixKind prog w) S (fun k => f k || decide (k = Sum.inr x)) m') → Q b { s with heap := h', toks := s.toks + 1 }) : wpAny (model prog w) A (setAdd S (.str x t)) Q E s := by
  unfold setAdd
  refine wpAny_holding (wpAny_bind ((mixKind prog w).pyHash (k := Sum.inr x) (keyIs_str x t) (wpAny_setAddHashed_of (knd := mixKind prog w) (s := { s with toks := s.toks + 1 }) (keyIs_str x t) rfl hS room fun h' sb new => next h' _ sb ⟨_, ?_, new⟩)))
  cases f (Sum.inr x)
  · exact Nat.le_refl _
  · exact Nat.le_succ _
variable {R : Result → Shared → Prop} {I : Addr} {fp wr : List Addr} {G : Array GenState → Array GenState → Prop} {n : Nat} {P : Nat → Value → Prop} {St : Nat → Shared → Prop}
theorem fill_texts (W : WalksS prog w A.in1 I fp wr G n P St) (S : Addr) (out : S ∉ fp) (xs : List Str) (size : xs.length = n) (room : n + 1 < scanBound) (text : ∀ i v, P i v → ∃ x t, xs[i]? = some x ∧ v = .str x t) :
    ∀ (left i : Nat) (s : Shared), i + left = n → St i s → (∃ m, m ≤ i ∧ s.heap.SetOf (mixKind prog w) S (has (xs.take i)) m) →
      (∀ s' m, Moved (S :: wr) G s s' → s'.heap.SetOf (mixKind prog w) S (has xs) m → R (.ok (.ret .none)) s') → codeAny (model prog w) A (.builtin "set.update.loop" ⟨[.ref S, .ref I], []⟩) R s := by
  have apart : S ∉ wr := fun z => out (W.sub _ z)
  have into : ∀ b ∈ wr, b ∈ S :: wr := fun _ z => .tail _ z
  have stay : ∀ {s s' : Shared} {f : Key → Bool} {m : Nat}, Moved wr G s s' → s.heap.SetOf (mixKind prog w) S f m → s'.heap.SetOf (mixKind prog w) S f m := fun mv h => setOf_at h fun o q => mv.heap S o apart q
  intro left
  induction left with
  | zero =>
    intro i s e st ⟨m, _, hS⟩ done
    obtain rfl : i = n := by omega
    refine codeAny_builtin F.entry_set_update_loop ?_
    rw [Around.under_plainId F.plain_set_update_loop _]
    show wpAny _ A.in1 (pyNext (.ref I) >>= _) _ _ s; refine wpAny_bind (W.done s _ _ st fun s' mv => ?_)
    show wpAny _ A.in1 (ret Value.none) _ _ s'; refine wpAny_pure (done s' m (mv.mono into) ?_)
    have z := stay mv hS
    rw [← size, List.take_length] at z
    exact z
  | succ left ih =>
    intro i s e st ⟨m, hm, hS⟩ done
    refine codeAny_builtin F.entry_set_update_loop ?_
    rw [Around.under_plainId F.plain_set_update_loop _]
    show wpAny _ A.in1 (pyNext (.ref I) >>= _) _ _ s; refine wpAny_bind (W.item i s _ _ (by omega) st fun v s' hP st' mv => ?_)
    obtain ⟨x, t, hx, rfl⟩ := text i v hP
    show wpAny _ A.in1 (holding [Value.str x t] (setAdd S (.str x t)) >>= _) _ _ s'; refine wpAny_bind (wpAny_holding (add_text (stay mv hS) (by omega) fun h' b sb new => ?_))
    obtain ⟨m', hm', new⟩ := new
    have ef : (fun k => has (xs.take i) k || decide (k = Sum.inr x)) = has (xs.take (i + 1)) := funext (has_take hx)
    rw [ef] at new
    refine wpAny_pure ⟨plainId_quiet F.plain_set_update_loop _, ih (i + 1) _ (by omega) (W.frame _ s' _ _ st' (Nat.le_succ _) fun b hb o q => ?_) ⟨m', by omega, new⟩ fun s'' m2 mv2 fin => done s'' m2 ?_ fin⟩
    · have ne : b ≠ S := fun z => out (z ▸ hb)
      rw [sb.2 b ne]
      exact q
    · refine Moved.trans W.gtrans ((mv.mono into).then_heap (Nat.le_succ _) fun b o hb q => ?_) mv2
      have ne : b ≠ S := fun z => hb (z ▸ .head _)
      rw [sb.2 b ne]
      exact q
end
end Kx

set_option maxHeartbeats 8000000
namespace Kx
open PySem PyProof.Rows L2
/-- a new set -/
abbrev emptySet (led : Bool) : Obj := { cls := .type "set", dict := none, data := .set #[] 0 (.fresh 0 0 led) }
section
variable {prog : Program} {w : World} {A : Around} {E : Value → Shared → Prop}

theorem set_list {l : Addr} {items : Array Value} {xs : List Str} {s : Shared} {Q : Value → Shared → Prop} (calm : A.handled = none) (at_ : s.heap.IsList l items) (texts : StrsAre items.toList xs) (few : xs.length ≤ 1000)
    (next : ∀ h' tk m, h'.SetOf (mixKind prog w) s.heap.objs.size (has xs) m → (∀ b o, b < s.heap.objs.size → s.heap.get? b = some o → h'.get? b = some o) → Q (.ref s.heap.objs.size) { s with heap := h', toks := tk }) :
    wpAny (model prog w) A (call (.type "set") [.ref l]) Q E s := by
  have f1 := PySem.F.called_set.mro; have f2 := PySem.F.called_set.made; have f3 := PySem.F.called_set.sub; have f4 := PySem.F.called_set.notType
  have f5 := PySem.F.called_set.canCreate; have f6 := PySem.F.typeCall_set_1 (.ref l); have f7 := PySem.F.called_set.init.lookup; have f8 := PySem.F.called_set.init.bind (.ref s.heap.objs.size)
  obtain ⟨_, _, f1⟩ := f1
  refine wpAny_call (codeAny_of_tree ?_); show wpAny _ _ (callAny (.type "set") _) _ _ _
  refine wpAny_pure ⟨Code.quiet_builtin _ (by decide +kernel), codeAny_builtin PySem.F.entry_type_call ?_⟩; rw [Around.under_plain (weight_type_call_type "set" [.ref l] []) rfl]
  repeat (any_goals (first | assumption | wp_step))
  refine codeAny_mono (code_set_new_1 (.ref l) (E := E) (Q₁ := fun v t => ∃ led : Bool, v = .ref s.heap.objs.size ∧ t = { s with heap := s.heap.push (emptySet led) }) fun led => ⟨led, rfl, rfl⟩) fun r s1 got => ?_
  cases r with
  | error e => exact got
  | ok fl =>
    cases fl with
    | next => exact got.elim
    | brk => exact got.elim
    | cont => exact got.elim
    | ret v =>
      obtain ⟨led, rfl, rfl⟩ := got
      have at0 : (s.heap.push (emptySet led)).get? s.heap.objs.size = some (emptySet led) := Heap.get?_push_size _ rfl
      have ty0 : Shared.TypeIs { s with heap := s.heap.push (emptySet led) } (.ref s.heap.objs.size) "set" := ⟨_, at0, rfl⟩
      repeat (any_goals (first | assumption | wp_step))
      refine codeAny_mono (codeAny_call_builtin (R := wants (fun r t => r = .none ∧ ∃ h' tk m, t = { s with heap := h', toks := tk } ∧ h'.SetOf (mixKind prog w) s.heap.objs.size (has xs) m ∧ ∀ b o, b < s.heap.objs.size → s.heap.get? b = some o → h'.get? b = some o) E)
        PySem.F.called_set.init.plain PySem.F.entry_set_init (check_set_init_1 ty0 ?_)) fun r s2 got => ?_
      · obtain ⟨⟨ocls, od, odata, osl⟩, hol, hcl, nl, hdl⟩ := at_
        simp only at hcl hdl; subst hcl; subst hdl
        have hol' : (s.heap.push (emptySet led)).get? l = some { cls := .type "list", dict := od, data := .seq items nl, slots := osl } := Heap.get?_push_of_some _ hol
        have g1 := PySem.F.sub_list_set; have g2 := PySem.F.sub_list_frozenset; have g3 : (Value.type "list" == Value.type "dict") = false := by decide
        have at1 : (s.heap.push (emptySet led)).IsList l items := ⟨_, hol', rfl, nl, rfl⟩
        unfold emptySet at hol'
        unfold Builtin.«set.__init__» noKeywords Builtin.Frozenset.updateFrom emptySet
        generalize keepI : pyIter = it_
        wp_walk
        subst keepI
        refine wpAny_pyIter_list at1 (wpAny_bind (wpAny_runValue ?_))
        have lt : l < s.heap.objs.size := Heap.lt_size hol
        have size : xs.length = items.size := by rw [← StrsAre.len_eq texts, Array.length_toList]
        have room : (s.heap.push (emptySet led)).objs.size = s.heap.objs.size + 1 := Heap.size_push _ _
        have W := (Walks.list (prog := prog) (w := w) (A := A.in1.in1.in1) (by simp [calm]) (s.heap.push (emptySet led)).objs.size l (by rw [room]; exact Nat.ne_of_lt (Nat.lt_succ_of_lt lt)) items).toS
        refine fill_texts W s.heap.objs.size (by rw [room]; simp only [List.mem_cons, List.not_mem_nil, or_false, not_or]; exact ⟨Nat.ne_of_lt (Nat.lt_succ_self _), Nat.ne_of_gt lt⟩) xs size (by unfold scanBound; omega) (fun i v hv => ?_) items.size 0 _ (Nat.zero_add _) ⟨⟨_, Heap.get?_push_size _ rfl, rfl, rfl⟩, at1.push _⟩ ⟨0, Nat.le_refl _, ?_⟩ fun s' m mv fin => ?_
        · obtain ⟨t, e⟩ := SS.strs_at texts i v (by rw [Array.getElem?_toList]; exact hv)
          have lt2 : i < xs.length := by rw [size]; exact (Array.getElem?_eq_some_iff.mp hv).1
          exact ⟨_, t, by rw [List.getD_eq_getElem?_getD, List.getElem?_eq_getElem lt2]; rfl, e⟩
        · exact ⟨_, #[], 0, _, Heap.get?_push_of_some _ at0, ⟨rfl, rfl, rfl⟩, rfl, fun e he => by simp at he, fun k => by rw [List.take_zero]; simp [has], by unfold scanBound; decide, rfl, rfl⟩
        · obtain ⟨h', g', d', tk', os'⟩ := s'
          obtain rfl := mv.gens; obtain rfl := mv.drawn; obtain rfl := mv.os
          refine wpAny_pure (wpAny_pure ⟨rfl, h', tk', m, rfl, fin, fun b o hb e => ?_⟩)
          refine mv.heap b o ?_ (Heap.get?_push_of_some _ (Heap.get?_push_of_some _ e))
          rw [room]; simp only [List.mem_cons, List.not_mem_nil, or_false, not_or]; exact ⟨Nat.ne_of_lt hb, Nat.ne_of_lt (Nat.lt_succ_of_lt hb)⟩
      · cases r with
        | error e => exact got
        | ok fl =>
          cases fl with
          | next => exact got.elim
          | brk => exact got.elim
          | cont => exact got.elim
          | ret v =>
            obtain ⟨rfl, h', tk, m, rfl, fin, kp⟩ := got
            repeat (any_goals (first | assumption | wp_step))
            exact next h' tk m fin kp

theorem set_tuple {l : Addr} {items : Array Value} {xs : List Str} {s : Shared} {Q : Value → Shared → Prop} (calm : A.handled = none) (at_ : s.heap.IsTuple l items) (texts : StrsAre items.toList xs) (few : xs.length ≤ 1000)
    (next : ∀ h' tk m, h'.SetOf (mixKind prog w) s.heap.objs.size (has xs) m → (∀ b o, b < s.heap.objs.size → s.heap.get? b = some o → h'.get? b = some o) → Q (.ref s.heap.objs.size) { s with heap := h', toks := tk }) :
    wpAny (model prog w) A (call (.type "set") [.ref l]) Q E s := by
  have f1 := PySem.F.called_set.mro; have f2 := PySem.F.called_set.made; have f3 := PySem.F.called_set.sub; have f4 := PySem.F.called_set.notType
  have f5 := PySem.F.called_set.canCreate; have f6 := PySem.F.typeCall_set_1 (.ref l); have f7 := PySem.F.called_set.init.lookup; have f8 := PySem.F.called_set.init.bind (.ref s.heap.objs.size)
  obtain ⟨_, _, f1⟩ := f1
  refine wpAny_call (codeAny_of_tree ?_); show wpAny _ _ (callAny (.type "set") _) _ _ _
  refine wpAny_pure ⟨Code.quiet_builtin _ (by decide +kernel), codeAny_builtin PySem.F.entry_type_call ?_⟩; rw [Around.under_plain (weight_type_call_type "set" [.ref l] []) rfl]
  repeat (any_goals (first | assumption | wp_step))
  refine codeAny_mono (code_set_new_1 (.ref l) (E := E) (Q₁ := fun v t => ∃ led : Bool, v = .ref s.heap.objs.size ∧ t = { s with heap := s.heap.push (emptySet led) }) fun led => ⟨led, rfl, rfl⟩) fun r s1 got => ?_
  cases r with
  | error e => exact got
  | ok fl =>
    cases fl with
    | next => exact got.elim
    | brk => exact got.elim
    | cont => exact got.elim
    | ret v =>
      obtain ⟨led, rfl, rfl⟩ := got
      have at0 : (s.heap.push (emptySet led)).get? s.heap.objs.size = some (emptySet led) := Heap.get?_push_size _ rfl
      have ty0 : Shared.TypeIs { s with heap := s.heap.push (emptySet led) } (.ref s.heap.objs.size) "set" := ⟨_, at0, rfl⟩
      repeat (any_goals (first | assumption | wp_step))
      refine codeAny_mono (codeAny_call_builtin (R := wants (fun r t => r = .none ∧ ∃ h' tk m, t = { s with heap := h', toks := tk } ∧ h'.SetOf (mixKind prog w) s.heap.objs.size (has xs) m ∧ ∀ b o, b < s.heap.objs.size → s.heap.get? b = some o → h'.get? b = some o) E)
        PySem.F.called_set.init.plain PySem.F.entry_set_init (check_set_init_1 ty0 ?_)) fun r s2 got => ?_
      · obtain ⟨⟨ocls, od, odata, osl⟩, hol, hcl, nl, hdl⟩ := at_
        simp only at hcl hdl; subst hcl; subst hdl
        have hol' : (s.heap.push (emptySet led)).get? l = some { cls := .type "tuple", dict := od, data := .seq items nl, slots := osl } := Heap.get?_push_of_some _ hol
        have g1 := PySem.F.sub_tuple_set; have g2 := PySem.F.sub_tuple_frozenset; have g3 : (Value.type "tuple" == Value.type "dict") = false := by decide
        have at1 : (s.heap.push (emptySet led)).IsTuple l items := ⟨_, hol', rfl, nl, rfl⟩
        unfold emptySet at hol'
        unfold Builtin.«set.__init__» noKeywords Builtin.Frozenset.updateFrom emptySet
        generalize keepI : pyIter = it_
        wp_walk
        subst keepI
        refine wpAny_pyIter_tuple at1 (wpAny_bind (wpAny_runValue ?_))
        have lt : l < s.heap.objs.size := Heap.lt_size hol
        have size : xs.length = items.size := by rw [← StrsAre.len_eq texts, Array.length_toList]
        have room : (s.heap.push (emptySet led)).objs.size = s.heap.objs.size + 1 := Heap.size_push _ _
        have W := (Walks.tuple (prog := prog) (w := w) (A := A.in1.in1.in1) (by simp [calm]) (s.heap.push (emptySet led)).objs.size l (by rw [room]; exact Nat.ne_of_lt (Nat.lt_succ_of_lt lt)) items).toS
        refine fill_texts W s.heap.objs.size (by rw [room]; simp only [List.mem_cons, List.not_mem_nil, or_false, not_or]; exact ⟨Nat.ne_of_lt (Nat.lt_succ_self _), Nat.ne_of_gt lt⟩) xs size (by unfold scanBound; omega) (fun i v hv => ?_) items.size 0 _ (Nat.zero_add _) ⟨⟨_, Heap.get?_push_size _ rfl, rfl, rfl⟩, at1.push _⟩ ⟨0, Nat.le_refl _, ?_⟩ fun s' m mv fin => ?_
        · obtain ⟨t, e⟩ := SS.strs_at texts i v (by rw [Array.getElem?_toList]; exact hv)
          have lt2 : i < xs.length := by rw [size]; exact (Array.getElem?_eq_some_iff.mp hv).1
          exact ⟨_, t, by rw [List.getD_eq_getElem?_getD, List.getElem?_eq_getElem lt2]; rfl, e⟩
        · exact ⟨_, #[], 0, _, Heap.get?_push_of_some _ at0, ⟨rfl, rfl, rfl⟩, rfl, fun e he => by simp at he, fun k => by rw [List.take_zero]; simp [has], by unfold scanBound; decide, rfl, rfl⟩
        · obtain ⟨h', g', d', tk', os'⟩ := s'
          obtain rfl := mv.gens; obtain rfl := mv.drawn; obtain rfl := mv.os
          refine wpAny_pure (wpAny_pure ⟨rfl, h', tk', m, rfl, fin, fun b o hb e => ?_⟩)
          refine mv.heap b o ?_ (Heap.get?_push_of_some _ (Heap.get?_push_of_some _ e))
          rw [room]; simp only [List.mem_cons, List.not_mem_nil, or_false, not_or]; exact ⟨Nat.ne_of_lt hb, Nat.ne_of_lt (Nat.lt_succ_of_lt hb)⟩
      · cases r with
        | error e => exact got
        | ok fl =>
          cases fl with
          | next => exact got.elim
          | brk => exact got.elim
          | cont => exact got.elim
          | ret v =>
            obtain ⟨rfl, h', tk, m, rfl, fin, kp⟩ := got
            repeat (any_goals (first | assumption | wp_step))
            exact next h' tk m fin kp

end
end Kx

set_option maxHeartbeats 4000000
namespace Kx
open PySem PySem.Spec PyProof.Rows L2
section
variable {X : Cx}
/-- set(xs), xs a list or a tuple of texts -/
def rSetT (K : PySem.W.Frag) (P : Program) (w : World) : List V → Hp → VK → Prop := fun xs H Q => ∃ (l : Addr) (ys : List Str), xs = [.ref l] ∧ (SqL K H l (ys.map V.str) ∨ SqT K H l (ys.map V.str)) ∧ ys.length ≤ 1000 ∧
  ∀ p m, H p = none → Q (.ref p) (upd H p (SetK P w p (has ys) m))
theorem strs_of : ∀ {ys : List Str} {us : List Value}, Vals (ys.map V.str) us → StrsAre us ys
  | [], _, .nil => .nil
  | y :: ys, _, .cons ⟨k, e⟩ t => by subst e; exact .cons y k (strs_of t)
theorem cr_setT (hc : X.A.handled = none) : CallR X (.type "set") (rSetT X.K X.prog X.w) := by
  intro pins s σ H xs us Q I r h
  obtain ⟨l, ys, rfl, hq, few, q⟩ := h
  rw [Vals.ref1 r]
  have fin : ∀ (h' : Heap) (tk m : Nat), h'.SetOf (mixKind X.prog X.w) s.heap.objs.size (has ys) m → (∀ b o, b < s.heap.objs.size → s.heap.get? b = some o → h'.get? b = some o) → EP X pins σ Q (.ref s.heap.objs.size) { s with heap := h', toks := tk } := fun h' tk m new kp =>
    ⟨.ref s.heap.objs.size, upd H s.heap.objs.size (SetK X.prog X.w s.heap.objs.size (has ys) m), I.laid (t' := tk) (fun b o e => kp b o (Heap.lt_size e) e) (Nat.le_refl _) (setK_new new), rfl, q _ m (I.hok.fresh (Nat.le_refl _))⟩
  rcases hq with hq | hq
  · obtain ⟨its, rv, pl, _⟩ := I.list hq
    exact set_list hc pl.isList (by simpa using strs_of rv) few fin
  · obtain ⟨its, rv, pl, _⟩ := I.tuple hq
    exact set_tuple hc pl (by simpa using strs_of rv) few fin
/-- repr of lists and tuples of plain things -/
def rRepr (K : PySem.W.Frag) : List V → Hp → VK → Prop := fun xs H Q => ∃ (a : Addr) (d : PyData), xs = [.ref a] ∧ Dp K H (.ref a) d ∧ d.showable = true ∧ d.hasDict = false ∧ d.depth ≤ 20 ∧ d.shown.length ≤ sizeLine ∧ Q (.str d.shown) H
theorem call_repr (hg : X.A.guards = some []) (hu : X.A.units + 64 < cLine) : CallR X (.builtin "repr") (rRepr X.K) := by
  intro pins s σ H xs us Q I r h
  obtain ⟨a, d, rfl, hd, h1, h2, h3, h4, q⟩ := h
  rw [Vals.ref1 r]
  obtain ⟨as, rd⟩ := Dp.reads I d (.ref a) (.ref a) hd rfl
  exact repr_of_reads' rd h1 (PyData.noDict_hsm h2) hg (by omega) (fun _ _ e => e) (fun h' u tk kp => ⟨.str d.shown, H, I.kept kp, ⟨u, rfl⟩, q⟩) h4
end
/-! which labels are fresh -/
theorem lab_inj : ∀ a b, lab a = lab b → a = b
  | 0, 0, _ => rfl
  | 0, b + 1, h => by rw [lab_zero, lab_succ] at h; cases h
  | a + 1, 0, h => by rw [lab_zero, lab_succ] at h; cases h
  | a + 1, b + 1, h => by
    rw [lab_succ, lab_succ] at h
    obtain ⟨h1, h2⟩ := List.cons.inj h
    have := lab_inj (a / 26) (b / 26) h2
    omega
termination_by a => a
decreasing_by omega
theorem labN_inj {a b : Nat} (h : labN a = labN b) : a = b := by
  have e := SX.S_inj h
  have e2 : lab (a + 1) = lab (b + 1) := by have z := congrArg List.reverse e; rwa [List.reverse_reverse, List.reverse_reverse] at z
  have := lab_inj _ _ e2
  omega
theorem sub_len {α : Type} [DecidableEq α] : ∀ {l t : List α}, l.Nodup → (∀ x ∈ l, x ∈ t) → l.length ≤ t.length
  | [], _, _, _ => Nat.zero_le _
  | a :: l, t, nd, h => by
    have ha : a ∈ t := h a (.head _)
    rw [List.nodup_cons] at nd
    have ih := sub_len (l := l) (t := t.erase a) nd.2 fun x hx => (List.mem_erase_of_ne (fun e : x = a => nd.1 (by rw [← e]; exact hx))).mpr (h x (.tail _ hx))
    rw [List.length_erase_of_mem ha] at ih
    have := List.length_pos_of_mem ha
    rw [List.length_cons]
    omega
def fr (ys : List Str) (n : Nat) : List Str := ((List.range n).filter fun j => !decide (labN j ∈ ys)).map labN
theorem fr_succ (ys : List Str) (n : Nat) : fr ys (n + 1) = fr ys n ++ (if labN n ∈ ys then [] else [labN n]) := by
  unfold fr
  rw [List.range_succ, List.filter_append, List.map_append]
  congr 1
  by_cases e : labN n ∈ ys <;> simp [e]
theorem fr_take (ys : List Str) : ∀ n m, n ≤ m → ∃ r, fr ys m = fr ys n ++ r
  | n, 0, h => ⟨[], by rw [Nat.le_zero.mp h, List.append_nil]⟩
  | n, m + 1, h => by
    rcases Nat.lt_or_eq_of_le h with h' | h'
    · obtain ⟨r, e⟩ := fr_take ys n m (by omega)
      exact ⟨r ++ _, by rw [fr_succ, e, List.append_assoc]⟩
    · exact ⟨[], by rw [h', List.append_nil]⟩
def blk (ys : List Str) (n : Nat) : List Str := ((List.range n).filter fun j => decide (labN j ∈ ys)).map labN
theorem fr_blk (ys : List Str) : ∀ n, (fr ys n).length + (blk ys n).length = n
  | 0 => rfl
  | n + 1 => by
    have ih := fr_blk ys n
    have e : blk ys (n + 1) = blk ys n ++ (if labN n ∈ ys then [labN n] else []) := by
      unfold blk
      rw [List.range_succ, List.filter_append, List.map_append]
      congr 1
      by_cases e : labN n ∈ ys <;> simp [e]
    rw [fr_succ, e, List.length_append, List.length_append]
    by_cases z : labN n ∈ ys
    · rw [if_pos z, if_pos z]
      simp only [List.length_nil, List.length_cons]
      omega
    · rw [if_neg z, if_neg z]
      simp only [List.length_nil, List.length_cons]
      omega
theorem blk_nd (ys : List Str) (n : Nat) : (blk ys n).Nodup := by
  unfold blk
  exact List.pairwise_map.mpr ((List.Pairwise.filter _ List.nodup_range).imp fun h e => h (labN_inj e))
theorem fr_len (ys : List Str) (n : Nat) : n ≤ (fr ys n).length + ys.length := by
  have h1 := fr_blk ys n
  have h2 : (blk ys n).length ≤ ys.length := sub_len (blk_nd ys n) fun x hx => by
    unfold blk at hx
    obtain ⟨j, hj, rfl⟩ := List.mem_map.mp hx
    exact of_decide_eq_true (List.mem_filter.mp hj).2
  omega
theorem fr_le (ys : List Str) (n : Nat) : (fr ys n).length ≤ n := by have := fr_blk ys n; omega
/-- the first so many -/
def fresh (ys : List Str) (m : Nat) : List Str := (fr ys (m + ys.length)).take m
theorem fresh_of {ys : List Str} {n m : Nat} (h : (fr ys n).length = m) : fr ys n = fresh ys m := by
  have h1 := fr_len ys n
  obtain ⟨r, e⟩ := fr_take ys n (m + ys.length) (by omega)
  unfold fresh
  rw [e, ← h, List.take_left]
end Kx

set_option maxHeartbeats 4000000
namespace Kx
open PySem L2
/-- a list or tuple of texts -/
def TxtAt (H : Hp) (l : Addr) (ys : List Str) : Prop := H l = some (.lst (ys.map V.str)) ∨ H l = some (.tup (ys.map V.str))
def spFresh : Sp := fun vs H Q _ => ∃ (l : Addr) (ys : List Str) (m : Nat), vs = [.ref l, .int m] ∧ TxtAt H l ys ∧ ys.length ≤ 20 ∧ m ≤ 1000 ∧ ∀ p H', H p = none → H' p = some (.tup ((fresh ys m).map V.str)) → Same H H' → Q (.ref p) H'
section
variable {P : Program} {w : World} {K : PySem.W.Frag} {mg : Str → Option Value} {base : Heap}
theorem scFresh : FnScope ["taken", "many", "barred", "found", "index", "label"] ["taken", "many"] (defScope sFresh) := ⟨rfl, rfl, rfl, by decide +kernel, rfl, by decide +kernel, by decide +kernel⟩
theorem ok_fresh {f : Addr} {fd : FuncData} (F : Fun K "fresh_labels" "fresh_labels" sFresh f fd) (m : mg "fresh_labels" = some (.ref f)) (T : Bl mg) (B : Bm mg) (mset : mg "set" = none) (G : HasF P w K mg base "label_at" 1 ["index"] spAt) : HasF P w K mg base "fresh_labels" 2 ["taken", "many"] spFresh := by
  refine ⟨f, fd, ?_, m, F.kp, F.binds fun _ _ _ _ _ _ us hl => match us, hl with | [_, _], _ => rfl⟩
  obtain ⟨f1, fd1, G⟩ := G
  refine F.ok scFresh (fun vs H Q E h => ?_) (fun cdv A outer s H vs Q E hr h => ?_)
  · obtain ⟨a, b, c, rfl, _⟩ := h
    rfl
  · obtain ⟨l, ys, m, rfl, hl, few, many, k⟩ := h
    refine ⟨_, pss_cons (ps_set (i := 2) scFresh.nd rfl (Or.inl rfl) (pe_callTy (cr_setT hr.hd) (by rfl) mset (by decide +kernel) (pa_cons (pv 0) pa_nil))) (pss_cons (ps_set (i := 3) scFresh.nd rfl (Or.inl rfl) (pe_lst pa_nil)) (pss_cons (ps_set (i := 4) scFresh.nd rfl (Or.inl rfl) pe_int)
      (pss_cons (ps_while PassesOwn.never (pt_cmpR op_lt (pe_callB call_len_seq (by rfl) T.len PySem.boot_len (pa_cons (pv 3) pa_nil)) (pv 1) (nomark _))
        (pss_cons (ps_set (i := 5) scFresh.nd rfl (Or.inl rfl) (pe_call G.G hr (by rfl) G.m G.kp G.b .nil pass0 (pa_cons (pv 4) pa_nil)))
        (pss_cons (ps_if (pt_cmpR or_snotinK (pv 5) (pv 2) (by rfl)) (pss_one (ps_expr (pe_bm PySem.F.plainAttrs_list PySem.F.slot_list_append PySem.F.type_list_append mt_append (pv 3) (pa_cons (pv 5) pa_nil)))) pss_nil)
        (pss_one (ps_aug (i := 4) scFresh.nd rfl (.inl rfl) pe_int ip_add)))))
      (pss_one (ps_ret (pe_callTy call_tuple_of (by rfl) B.tuple (by decide +kernel) (pa_cons (pv 3) pa_nil))))))), ?_⟩
    refine ⟨_, rfl, l, ys, rfl, hl.elim (fun z => .inl (SqL.of z)) (fun z => .inr (SqT.of z)), by omega, fun p n hp => ⟨by decide, fun q hq => ?_⟩⟩
    have npq : p ≠ q := fun e => by rw [← e, upd_same] at hq; cases hq
    have hq0 : H q = none := by rw [upd_ne npq.symm] at hq; exact hq
    refine while_by (fun σ H2 => ∃ (i : Nat) (x : Option V), σ = [some (.ref l), some (.int m), some (.ref p), some (.ref q), some (.int i), x] ∧ H2 p = some (SetK P w p (has ys) n) ∧ H2 q = some (.lst ((fr ys i).map V.str)) ∧ (fr ys i).length ≤ m ∧ Same H H2) (fun σ _ => m + ys.length - slotI 4 σ)
      ⟨0, none, rfl, by rw [upd_ne npq, upd_same]; rfl, upd_same, Nat.zero_le _, sameUpd (sameUpd (Same.refl _) hp) hq⟩ ?_ ?_
    · rintro σ H2 ⟨i, x, rfl, hp2, hq2, hm, s2⟩
      refine ⟨_, rfl, q, _, rfl, .inl (SqL.of hq2), _, rfl, _, _, rfl, rfl, _, rfl, ?_⟩
      refine ite2 (fun h1 => ?_) (fun h1 => ?_)
      · have h1 : (((fr ys i).map V.str).length : Int) < (m : Nat) := of_decide_eq_true h1
        rw [List.length_map] at h1
        have h2 : (fr ys i).length < m := by omega
        have h3 := fr_len ys i
        refine ⟨_, rfl, i, rfl, by omega, fun H3 s3 => ?_⟩
        refine ⟨_, rfl, _, rfl, Sum.inr (labN i), p, _, _, rfl, rfl, s3 _ _ hp2, _, rfl, ?_⟩
        have ef := fr_succ ys i
        have mu : m + ys.length - (((i : Int) + 1).toNat) < m + ys.length - ((i : Int).toNat) := by omega
        have e1 : (i : Int) + 1 = ((i + 1 : Nat) : Int) := by omega
        show if (!has ys (Sum.inr (labN i))) = true then _ else _
        rw [has_in]
        by_cases z : labN i ∈ ys
        · rw [decide_eq_true z]
          rw [if_pos z, List.append_nil] at ef
          refine iteF ⟨_, rfl, _, _, rfl, rfl, ⟨i + 1, some (.str (labN i)), ?_, s3 _ _ hp2, ?_, ?_, s2.trans s3⟩, mu⟩
          · rfl
          · rw [ef]; exact s3 _ _ hq2
          · rw [ef]; exact hm
        · rw [decide_eq_false z]
          rw [if_neg z] at ef
          refine iteT ⟨_, rfl, .inl ⟨rfl, _, SqL.of (s3 _ _ hq2)⟩, _, rfl, q, _, _, rfl, rfl, s3 _ _ hq2, small1000 (by rw [List.length_map]; omega), ?_⟩
          refine ⟨_, rfl, _, _, rfl, rfl, ⟨i + 1, some (.str (labN i)), ?_, ?_, ?_, ?_, ?_⟩, mu⟩
          · rfl
          · rw [upd_ne npq]; exact s3 _ _ hp2
          · rw [upd_same, ef, List.map_append]; rfl
          · rw [ef, List.length_append]; exact h2
          · intro b u e
            rw [upd_ne (ne_of_none e hq0)]
            exact s3 b u (s2 b u e)
      · have h1 : ¬ (((fr ys i).map V.str).length : Int) < (m : Nat) := fun e => h1 (decide_eq_true e)
        rw [List.length_map] at h1
        refine ⟨_, rfl, q, _, rfl, .inl ⟨SqL.of hq2, fun r hr2 => ?_⟩⟩
        refine k r _ (s2.free hr2) ?_ (sameUpd s2 hr2)
        rw [upd_same, fresh_of (show (fr ys i).length = m by omega)]
    · rintro σ H1 Q1 Q2 imp ⟨v, e1, a, b, e2, e3, v2, e5, i, j, e6, e7, c, e8, q⟩
      exact ⟨v, e1, a, b, e2, e3, v2, e5, i, j, e6, e7, c, e8, imp _ _ q⟩
end
end Kx

set_option maxHeartbeats 4000000
namespace Kx
open PySem L2
abbrev sLLabel : Stmt := top 14
abbrev sOdd : Stmt := top 15
abbrev sIndex : Stmt := top 17
abbrev sTaken : Stmt := top 18
abbrev sLaw : Stmt := top 19
def spIndex : Sp := fun vs H Q _ => ∃ p q : Addr, vs = [.ref p] ∧ HandAt H p q ∧ ∀ (n : Nat) (H' : Hp), n ≤ 321272405 → HandAt H' p q → Keep H H' p → Q (.int n) H'
theorem tot6 : tot 6 = 321272406 := by decide
theorem tot_mono {i j : Nat} (h : i ≤ j) : tot i ≤ tot j := by
  induction j with
  | zero => rw [Nat.le_zero.mp h]; exact Nat.le_refl _
  | succ j ih =>
    rcases Nat.lt_or_eq_of_le h with h' | h'
    · have := ih (by omega)
      exact Nat.le_trans this (Nat.le_add_right _ _)
    · rw [h']; exact Nat.le_refl _
theorem tot_pos {j : Nat} (h : 0 < j) : 0 < tot j := by
  have h1 := tot_mono (i := 1) (j := j) h
  have h2 : tot 1 = 26 := by decide
  omega
abbrev QK (Q : VK) (z : Int) (H : Hp) : Prop := Q (.int z) H
section
variable {P : Program} {w : World} {K : PySem.W.Frag} {mg : Str → Option Value} {base : Heap}
theorem scIndex : FnScope ["_law_hand_here", "_law_many", "_law_size", "_law_k"] ["_law_hand_here"] (defScope sIndex) := ⟨rfl, rfl, rfl, by decide +kernel, rfl, by decide +kernel, by decide +kernel⟩
theorem ok_index {f : Addr} {fd : FuncData} (F : Fun K "_law_index" "_law_index" sIndex f fd) (m : mg "_law_index" = some (.ref f)) (T : Bl mg) (D : HasF P w K mg base "_law_draw" 2 ["_law_hand_here", "_law_many"] spDraw) : HasF P w K mg base "_law_index" 3 ["_law_hand_here"] spIndex := by
  refine ⟨f, fd, ?_, m, F.kp, F.binds fun _ _ _ _ _ _ us hl => match us, hl with | [_], _ => rfl⟩
  obtain ⟨f1, fd1, D⟩ := D
  refine F.ok scIndex (fun vs H Q E h => ?_) (fun cdv A outer s H vs Q E hr h => ?_)
  · obtain ⟨a, b, rfl, _⟩ := h
    rfl
  · obtain ⟨p, q, rfl, hp, k⟩ := h
    refine ⟨_, pss_cons (ps_set (i := 1) scIndex.nd rfl (Or.inl rfl) pe_int) (pss_cons (ps_set (i := 2) scIndex.nd rfl (Or.inl rfl) pe_int)
      (pss_cons (ps_for PassesOwn.never rfl (pi_range1 (by rfl) T.range (pa_cons (pe_op op_add pe_int (pe_call D.G hr (by rfl) D.m D.kp D.b .nil pass0 (pa_cons (pv 0) (pa_cons pe_int pa_nil)))) pa_nil)) (pg_name (i := 3) scIndex.nd rfl (.inl rfl))
        (pss_cons (ps_set (i := 2) scIndex.nd rfl (Or.inl rfl) (pe_op op_mul (pv 2) pe_int)) (pss_one (ps_set (i := 1) scIndex.nd rfl (Or.inl rfl) (pe_op op_add (pv 1) (pv 2))))))
      (pss_cons (ps_if (pt_cmpR op_eq (pe_call D.G hr (by rfl) D.m D.kp D.b .nil pass0 (pa_cons (pv 0) (pa_cons pe_int pa_nil))) pe_int (nomark _)) (pss_one (ps_ret (pe_op op_sub (pv 1) pe_int))) pss_nil)
      (pss_one (ps_ret (pe_call D.G hr (by rfl) D.m D.kp D.b .nil pass0 (pa_cons (pv 0) (pa_cons (pv 1) pa_nil)))))))), ?_⟩
    refine ⟨_, rfl, p, q, 6, rfl, hp, by decide, by decide, fun z H1 z0 z1 hp1 k1 => ?_⟩
    refine ⟨_, _, rfl, rfl, _, rfl, by omega, by omega, for_range (n := (1 + z).toNat) (fun i σ H2 => ∃ x : Option V, σ = [some (.ref p), some (.int (tot i : Nat)), some (.int ((26 ^ i : Nat) : Int)), x] ∧ HandAt H2 p q ∧ Keep H H2 p)
      ⟨_, rfl, hp1, k1⟩ ?_ ?_⟩
    · rintro i σ H2 hi ⟨x, rfl, hp2, k2⟩
      have e1 : ((26 ^ i : Nat) : Int) * 26 = ((26 ^ (i + 1) : Nat) : Int) := by rw [Nat.pow_succ]; omega
      have e2 : ((tot i : Nat) : Int) + ((26 ^ (i + 1) : Nat) : Int) = ((tot (i + 1) : Nat) : Int) := by
        show _ = ((tot i + 26 ^ (i + 1) : Nat) : Int)
        omega
      refine ⟨_, rfl, _, _, rfl, rfl, .inr ⟨by decide, by decide⟩, _, rfl, _, rfl, _, _, rfl, rfl, some (.int (0 + (i : Int))), ?_, hp2, k2⟩
      · show [_, some (V.int (_ + _ * _)), some (V.int (_ * _)), _] = _
        rw [e1, e2]
    · rintro σ H2 ⟨x, rfl, hp2, k2⟩
      have h6 := tot_mono (i := (1 + z).toNat) (j := 6) (by omega)
      have h0 := tot_pos (j := (1 + z).toNat) (by omega)
      rw [tot6] at h6
      generalize tot (1 + z).toNat = t at h6 h0
      refine ⟨_, rfl, p, q, 4, rfl, hp2, by decide, by decide, fun y H3 y0 y1 hp3 k3 => ?_⟩
      refine ⟨rfl, _, rfl, ?_⟩
      refine ite2 (fun _ => ?_) (fun _ => ?_)
      · refine ⟨_, rfl, _, _, rfl, rfl, ?_⟩
        have e : (t : Int) - 1 = ((t - 1 : Nat) : Int) := by omega
        show QK Q ((t : Int) - 1) H3
        rw [e]
        exact k _ _ (by omega) hp3 (k2.trans k3)
      · refine ⟨_, rfl, _, rfl, p, q, t, rfl, hp3, by omega, ?_, fun y H4 y0 y1 hp4 k4 => ?_⟩
        · rw [Int.natAbs_natCast]
          exact Nat.lt_of_le_of_lt h6 (by decide)
        · obtain ⟨n, rfl⟩ : ∃ n : Nat, y = n := ⟨y.toNat, by omega⟩
          exact k n _ (by omega) hp4 ((k2.trans k3).trans k4)
end
end Kx

set_option maxHeartbeats 4000000
namespace Kx
open PySem L2
theorem keepUpd {H H1 : Hp} {p a : Addr} {o : HO} (k : Keep H H1 p) (h : H a = none) : Keep H (upd H1 a o) p := fun b u e ne => by
  rw [upd_ne (ne_of_none e h)]
  exact k b u e ne
theorem HandAt.upd {H : Hp} {p q a : Addr} {o : HO} (h : HandAt H p q) (n1 : a ≠ p) (n2 : a ≠ q) : HandAt (upd H a o) p q := by
  obtain ⟨cs, x, b, c, h1, h2⟩ := h
  exact ⟨cs, x, b, c, by rw [upd_ne n1.symm]; exact h1, by rw [upd_ne n2.symm]; exact h2⟩
theorem HandAt.ap {H : Hp} {p q a : Addr} (h : HandAt H p q) (ha : H a = none) : a ≠ p := by
  obtain ⟨cs, x, b, c, h1, h2⟩ := h
  exact (ne_of_none h1 ha).symm
theorem HandAt.aq {H : Hp} {p q a : Addr} (h : HandAt H p q) (ha : H a = none) : a ≠ q := by
  obtain ⟨cs, x, b, c, h1, h2⟩ := h
  exact (ne_of_none h2 ha).symm
theorem HandAt.same {H H' : Hp} {p q : Addr} (h : HandAt H p q) (s : Same H H') : HandAt H' p q := by
  obtain ⟨cs, x, b, c, h1, h2⟩ := h
  exact ⟨cs, x, b, c, s _ _ h1, s _ _ h2⟩
theorem Same.keep {H H' : Hp} {p : Addr} (s : Same H H') : Keep H H' p := fun b o e _ => s b o e
/-- texts as data -/
def dS (ys : List Str) : List PyData := ys.map PyData.str
theorem dp_strs {K : PySem.W.Frag} {H : Hp} : ∀ ys : List Str, DpAll K H (ys.map V.str) (dS ys)
  | [] => .nil
  | y :: ys => .cons (.str y) (dp_strs ys)
def Ok (ys : List Str) : Prop := ∀ y ∈ ys, PyData.strOk y = true
theorem low_ok {z : Str} (h : Low z) : PyData.strOk z = true := by
  unfold PyData.strOk
  rw [← Array.all_toList]
  exact List.all_eq_true.mpr fun c hc => decide_eq_true (by have := h c hc; omega)
theorem labN_low (n : Nat) : Low (labN n) := fun c hc => by
  have hc : c ∈ (lab (n + 1)).reverse := by simpa [labN] using hc
  exact lab_low _ c (List.mem_reverse.mp hc)
theorem lay_strs {ys : List Str} (h : Ok ys) : PyData.canLayAll0 (dS ys) = true := by
  unfold dS
  rw [PyProof.Rows.canLayAll_strs']
  exact List.all_eq_true.mpr h
theorem deep_strs : ∀ ys : List Str, PyData.depthAll (dS ys) ≤ 1
  | [] => Nat.zero_le _
  | y :: ys => by
    have ih := deep_strs ys
    show max (PyData.depth (.str y)) (PyData.depthAll (dS ys)) ≤ 1
    have e : PyData.depth (.str y) = 0 := rfl
    omega
theorem shaped_list {ys : List Str} (ok : Ok ys) : SeqAt.shaped (.list (dS ys)) = true := by
  have h := lay_strs ok
  have h2 := deep_strs ys
  have h3 : PyData.depth (.list (dS ys)) ≤ 64 := by
    show PyData.depthAll (dS ys) + 1 ≤ 64
    omega
  unfold SeqAt.shaped
  rw [decide_eq_true h3, Bool.and_true]
  exact h
def spTaken : Sp := fun vs H Q _ => ∃ p q : Addr, vs = [.ref p] ∧ HandAt H p q ∧ ∀ (a : Addr) (ys : List Str) (H' : Hp), H a = none → H' a = some (.lst (ys.map V.str)) → ys.length ≤ 12 → Ok ys → HandAt H' p q → Keep H H' p → Q (.ref a) H'
section
variable {P : Program} {w : World} {K : PySem.W.Frag} {mg : Str → Option Value} {base : Heap}
theorem scTaken : FnScope ["_law_hand_here", "_law_taken_here", "_law_k", "_law_way"] ["_law_hand_here"] (defScope sTaken) := ⟨rfl, rfl, rfl, by decide +kernel, rfl, by decide +kernel, by decide +kernel⟩
theorem ok_taken {f : Addr} {fd : FuncData} (F : Fun K "_law_taken" "_law_taken" sTaken f fd) (m : mg "_law_taken" = some (.ref f)) (T : Bl mg) (B : Bm mg) (D : HasF P w K mg base "_law_draw" 2 ["_law_hand_here", "_law_many"] spDraw)
    (W : HasF P w K mg base "_law_word" 3 ["_law_hand_here", "_law_most"] spWord) (O : HasF P w K mg base "_law_one" 3 ["_law_hand_here", "_law_rows"] spOne) (G : HasF P w K mg base "_law_label_at" 1 ["_law_index_here"] spAt) : HasF P w K mg base "_law_taken" 4 ["_law_hand_here"] spTaken := by
  refine ⟨f, fd, ?_, m, F.kp, F.binds fun _ _ _ _ _ _ us hl => match us, hl with | [_], _ => rfl⟩
  obtain ⟨f1, fd1, D⟩ := D; obtain ⟨f2, fd2, W⟩ := W; obtain ⟨f3, fd3, O⟩ := O; obtain ⟨f4, fd4, G⟩ := G
  refine F.ok scTaken (fun vs H Q E h => ?_) (fun cdv A outer s H vs Q E hr h => ?_)
  · obtain ⟨a, b, rfl, _⟩ := h
    rfl
  · obtain ⟨p, q, rfl, hp, k⟩ := h
    have hr1 := hr.mono (j := 1) (by decide)
    have hr2 := hr.mono (j := 2) (by decide)
    refine ⟨_, pss_cons (ps_set (i := 1) scTaken.nd rfl (Or.inl rfl) (pe_lst pa_nil))
      (pss_cons (ps_for PassesOwn.never rfl (pi_range1 (by rfl) T.range (pa_cons (pe_call D.G hr2 (by rfl) D.m D.kp D.b .nil pass0 (pa_cons (pv 0) (pa_cons pe_int pa_nil))) pa_nil)) (pg_name (i := 2) scTaken.nd rfl (.inl rfl))
        (pss_cons (ps_set (i := 3) scTaken.nd rfl (Or.inl rfl) (pe_call D.G hr2 (by rfl) D.m D.kp D.b .nil pass0 (pa_cons (pv 0) (pa_cons pe_int pa_nil))))
        (pss_one (ps_if (pt_cmpR op_eq (pv 3) pe_int (nomark _)) (pss_one (ps_expr (pe_bm PySem.F.plainAttrs_list PySem.F.slot_list_append PySem.F.type_list_append mt_append (pv 1) (pa_cons (pe_call W.G hr (by rfl) W.m W.kp W.b .nil pass0 (pa_cons (pv 0) (pa_cons pe_int pa_nil))) pa_nil))))
          (pss_one (ps_if (PW.pt (pw_and (pt_cmpR op_eq (pv 3) pe_int (nomark _)) (pw_and1 (pt_cmpR (op_neD (hr.units)) (pv 1) (pe_lst pa_nil) (nomark _)))))
            (pss_one (ps_expr (pe_bm PySem.F.plainAttrs_list PySem.F.slot_list_append PySem.F.type_list_append mt_append (pv 1) (pa_cons (pe_call O.G hr (by rfl) O.m O.kp O.b .nil pass0 (pa_cons (pv 0) (pa_cons (pe_callTy call_list_of (by rfl) B.list (by decide +kernel) (pa_cons (pv 1) pa_nil)) pa_nil))) pa_nil))))
            (pss_one (ps_expr (pe_bm PySem.F.plainAttrs_list PySem.F.slot_list_append PySem.F.type_list_append mt_append (pv 1) (pa_cons (pe_call G.G hr1 (by rfl) G.m G.kp G.b .nil pass0 (pa_cons (pe_call D.G hr2 (by rfl) D.m D.kp D.b .nil pass0 (pa_cons (pv 0) (pa_cons pe_int pa_nil))) pa_nil)) pa_nil))))))))))
      (pss_one (ps_ret (pv 1)))), ?_⟩
    refine ⟨by decide, fun a ha => ?_⟩
    have nap := hp.ap ha
    have naq := hp.aq ha
    refine ⟨_, rfl, p, q, 13, rfl, hp.upd nap naq, by decide, by decide, fun z H1 z0 z1 hp1 k1 => ?_⟩
    have k1' : Keep H H1 p := fun b u e ne => k1 b u (by rw [upd_ne (ne_of_none e ha)]; exact e) ne
    refine ⟨_, rfl, by omega, by omega, for_range (n := z.toNat) (fun i σ H2 => ∃ (ys : List Str) (x y : Option V), σ = [some (.ref p), some (.ref a), x, y] ∧ ys.length = i ∧ Ok ys ∧ H2 a = some (.lst (ys.map V.str)) ∧ HandAt H2 p q ∧ Keep H H2 p)
      ⟨[], _, _, rfl, rfl, (fun y hy => nomatch hy), k1 a _ upd_same nap, hp1, k1'⟩ ?_ ?_⟩
    · rintro i σ H2 hi ⟨ys, x, y, rfl, hy, ok, ha2, hp2, k2⟩
      have fin : ∀ (t : Str) (H3 : Hp) (x y : Option V), PyData.strOk t = true → HandAt H3 p q → Keep H H3 p → ∃ (zs : List Str) (x' y' : Option V), ([some (.ref p), some (.ref a), x, y] : St) = [some (.ref p), some (.ref a), x', y'] ∧ zs.length = i + 1 ∧ Ok zs ∧
          (upd H3 a (.lst (ys.map V.str ++ [V.str t]))) a = some (.lst (zs.map V.str)) ∧ HandAt (upd H3 a (.lst (ys.map V.str ++ [V.str t]))) p q ∧ Keep H (upd H3 a (.lst (ys.map V.str ++ [V.str t]))) p := fun t H3 x y ht h3 k3 =>
        ⟨ys ++ [t], x, y, rfl, by rw [List.length_append, hy]; rfl, (fun u hu => (List.mem_append.mp hu).elim (ok u) fun e => by rw [List.mem_singleton.mp e]; exact ht), by rw [upd_same, List.map_append]; rfl, h3.upd nap naq, keepUpd k3 ha⟩
      have room : (ys.map V.str).length < sizeLine := small1000 (by rw [List.length_map]; omega)
      refine ⟨_, rfl, p, q, 4, rfl, hp2, by decide, by decide, fun v H3 v0 v1 hp3 k3 => ?_⟩
      have ha3 := k3 a _ ha2 nap
      refine ⟨_, rfl, rfl, _, rfl, ?_⟩
      refine ite2 (fun _ => ?_) (fun _ => ?_)
      · refine ⟨_, rfl, .inl ⟨rfl, _, SqL.of ha3⟩, _, rfl, p, q, 6, rfl, hp3, by decide, by decide, fun t H4 _ _ low hp4 k4 => ?_⟩
        exact ⟨a, _, _, rfl, rfl, k4 a _ ha3 nap, room, fin t H4 _ _ (low_ok low) hp4 ((k2.trans k3).trans k4)⟩
      · refine ⟨_, rfl, rfl, _, rfl, ?_⟩
        refine ite2 (fun _ => ?_) (fun _ => ?_)
        · refine ⟨_, rfl, by decide, fun e he => ?_⟩
          have nea : a ≠ e := ne_of_none ha3 he
          have he0 : H e = none := by
            cases z : H e with
            | none => rfl
            | some o => exact absurd he (by rw [(k2.trans k3) e o z (hp3.ap he)]; exact fun z => nomatch z)
          have hpe : ∀ o, HandAt (upd H3 e o) p q := fun o => hp3.upd (hp3.ap he) (hp3.aq he)
          have hae : ∀ o, (upd H3 e o) a = some (.lst (ys.map V.str)) := fun o => by rw [upd_ne nea]; exact ha3
          have kee : ∀ o, Keep H (upd H3 e o) p := fun o => keepUpd (k2.trans k3) he0
          refine ⟨_, .list [], .lst (SqL.of (hae _)) (dp_strs ys), .lst (SqL.of upd_same) .nil, shaped_list ok, by decide, _, rfl, ?_⟩
          refine ite2 (fun h1 => ?_) (fun _ => ?_)
          · have ne : ys ≠ [] := fun z => by subst z; exact absurd h1 (by decide)
            have pos : 0 < (ys.map V.str).length := by rw [List.length_map]; exact List.length_pos_iff.mpr ne
            refine ⟨_, rfl, .inl ⟨rfl, _, SqL.of (hae _)⟩, _, rfl, _, rfl, a, _, rfl, .inl (SqL.of (hae _)), fun b hb => ?_⟩
            have hpb := (hpe (.lst [])).upd (o := .lst (ys.map V.str)) ((hpe _).ap hb) ((hpe _).aq hb)
            have nab : a ≠ b := ne_of_none (hae _) hb
            have hb0 : H b = none := by
              cases z : H b with
              | none => rfl
              | some o => exact absurd hb (by rw [kee _ b o z ((hpe _).ap hb)]; exact fun z => nomatch z)
            refine ⟨p, q, b, _, rfl, hpb, upd_same, (hpe _).ap hb, pos, by rw [List.length_map]; omega, fun v H4 hv hp4 k4 => ?_⟩
            obtain ⟨t, ht, rfl⟩ := List.mem_map.mp hv
            exact ⟨a, _, _, rfl, rfl, k4 a _ (by rw [upd_ne nab]; exact hae _) nap, room, fin t H4 _ _ (ok t ht) hp4 ((keepUpd (kee _) hb0).trans k4)⟩
          · refine ⟨_, rfl, .inl ⟨rfl, _, SqL.of (hae _)⟩, _, rfl, p, q, 30, rfl, hpe _, by decide, by decide, fun y H4 y0 y1 hp4 k4 => ?_⟩
            obtain ⟨n, rfl⟩ : ∃ n : Nat, y = n := ⟨y.toNat, by omega⟩
            refine ⟨n, rfl, by omega, fun H5 s5 => ?_⟩
            exact ⟨a, _, _, rfl, rfl, s5 _ _ (k4 a _ (hae _) nap), room, fin _ H5 _ _ (low_ok (labN_low n)) (hp4.same s5) (((kee _).trans k4).trans (Same.keep s5))⟩
        · refine ⟨_, rfl, .inl ⟨rfl, _, SqL.of ha3⟩, _, rfl, p, q, 30, rfl, hp3, by decide, by decide, fun y H4 y0 y1 hp4 k4 => ?_⟩
          obtain ⟨n, rfl⟩ : ∃ n : Nat, y = n := ⟨y.toNat, by omega⟩
          refine ⟨n, rfl, by omega, fun H5 s5 => ?_⟩
          exact ⟨a, _, _, rfl, rfl, s5 _ _ (k4 a _ ha3 nap), room, fin _ H5 _ _ (low_ok (labN_low n)) (hp4.same s5) (((k2.trans k3).trans k4).trans (Same.keep s5))⟩
    · rintro σ H2 ⟨ys, x, y, rfl, hy, ok, ha2, hp2, k2⟩
      exact ⟨_, rfl, k a ys H2 ha ha2 (by omega) ok hp2 k2⟩
end
end Kx

set_option maxHeartbeats 4000000
namespace Kx
open PySem L2
/-- a comprehension over a text's signs -/
theorem lc_str {z : Str} {g : TG} {tt : TT} {te : TE} {vs : List Nat} {σ : St} {H1 : Hp} {D : Addr} {Qd : Hp → Prop} (W : Nat → Hp → Prop) (start : W 0 (upd H1 D (.lst [])))
    (turn : ∀ i c H, z.cps[i]? = some c → W i H → g (.str ⟨#[c]⟩) (wipe σ vs) H fun σ2 H2 => wipe σ2 vs = wipe σ vs ∧ tt σ2 H2 fun b H3 =>
      if b = true then te σ2 H3 fun y H4 => ∃ acc, H4 D = some (.lst acc) ∧ acc.length < sizeLine ∧ W (i + 1) (upd H4 D (.lst (acc ++ [y]))) else W (i + 1) H3) (after : ∀ H, W z.cps.size H → Qd H) :
    ∃ U : Nat → Nat → Hp → Prop, (∃ m, U 0 m (upd H1 D (.lst []))) ∧ ∀ i m H, U i m H → ((Its z).stop i H ∧ Qd H) ∨ ((Its z).go i H ∧ ∃ Nx : Hp → Prop, (∀ H', Nx H' → ∃ m', m' < m ∧ U (i + 1) m' H') ∧
      ∀ x H', (Its z).yld i H x H' → g x (wipe σ vs) H' fun σ2 H2 => wipe σ2 vs = wipe σ vs ∧ tt σ2 H2 fun b H3 => if b = true then te σ2 H3 fun y H4 => ∃ acc, H4 D = some (.lst acc) ∧ acc.length < sizeLine ∧ Nx (upd H4 D (.lst (acc ++ [y]))) else Nx H3) := by
  refine ⟨fun i m H => m + i = z.cps.size ∧ W i H, ⟨z.cps.size, by omega, start⟩, fun i m H u => ?_⟩
  obtain ⟨e, u⟩ := u
  cases m with
  | zero =>
    obtain rfl : i = z.cps.size := by omega
    exact .inl ⟨Nat.le_refl _, after _ u⟩
  | succ m =>
    have lt : i < z.cps.size := by omega
    refine .inr ⟨lt, W (i + 1), fun H' u' => ⟨m, Nat.lt_succ_self _, by omega, u'⟩, fun x H' y => ?_⟩
    obtain ⟨rfl, c, hc, rfl⟩ := y
    exact turn i c _ hc u
def spLLab : Sp := fun vs H Q _ => ∃ (x : V) (n : String), vs = [x] ∧ Kd H x n ∧ (∀ z, x = .str z → PyData.strOk z = true ∧ z.length ≤ 100) ∧ ∀ H', Same H H' → Q (.bl (labV x)) H'
theorem eqv_nil : ∀ ys : List Str, PyData.eqv (.list (dS ys)) (.list []) = ys.isEmpty
  | [] => rfl
  | y :: ys => rfl
/-- the signs that are no letters from a to z -/
def bad (l : List Nat) : List Nat := l.filter fun c => !isLow c
theorem bad_nil (l : List Nat) : (bad l).isEmpty = l.all isLow := by
  unfold bad
  induction l with
  | nil => rfl
  | cons c l ih =>
    rw [List.filter_cons, List.all_cons, ← ih]
    cases isLow c <;> rfl
theorem abc_in : ∀ c, decide (c ∈ (Str.ofString "abcdefghijklmnopqrstuvwxyz").cps.toList) = isLow c := fun c => by
  have e : (Str.ofString "abcdefghijklmnopqrstuvwxyz").cps.toList = (List.range 26).map (97 + ·) := by decide +kernel
  rw [e]
  unfold isLow
  by_cases h : c ∈ (List.range 26).map (97 + ·)
  · obtain ⟨j, hj, rfl⟩ := List.mem_map.mp h
    have := List.mem_range.mp hj
    rw [decide_eq_true h, decide_eq_true (show 97 ≤ 97 + j by omega), decide_eq_true (show 97 + j ≤ 122 by omega)]
    rfl
  · rw [decide_eq_false h]
    by_cases h1 : 97 ≤ c
    · have h2 : ¬ c ≤ 122 := fun h2 => h (List.mem_map.mpr ⟨c - 97, List.mem_range.mpr (by omega), by omega⟩)
      rw [decide_eq_false h2, Bool.and_false]
    · rw [decide_eq_false h1, Bool.false_and]
section
variable {P : Program} {w : World} {K : PySem.W.Frag} {mg : Str → Option Value} {base : Heap}
theorem scLLabel : FnScope ["_law_thing", "_law_letter"] ["_law_thing"] (defScope sLLabel) := ⟨rfl, rfl, rfl, by decide +kernel, rfl, by decide +kernel, by decide +kernel⟩
theorem ok_llab {f : Addr} {fd : FuncData} (F : Fun K "_law_label" "_law_label" sLLabel f fd) (m : mg "_law_label" = some (.ref f)) (T : Bl mg) (B : Bm mg) : HasF P w K mg base "_law_label" 1 ["_law_thing"] spLLab := by
  refine ⟨f, fd, ?_, m, F.kp, F.binds fun _ _ _ _ _ _ us hl => match us, hl with | [_], _ => rfl⟩
  refine F.ok scLLabel (fun vs H Q E h => ?_) (fun cdv A outer s H vs Q E hr h => ?_)
  · obtain ⟨a, b, rfl, _⟩ := h
    rfl
  · obtain ⟨x, n, rfl, hk, hz, k⟩ := h
    refine ⟨_, pss_cons (ps_if (PW.pt (pw_or (pt_not (pt_val (pe_callB call_isi (by rfl) B.isinstance (by decide +kernel) (pa_cons (pv 0) (pa_cons (pe_bltn (v := .ty "str") (by rfl) B.str (by decide +kernel) rfl) pa_nil))))) (pw_or1 (pt_not (pt_chain op_le op_le pe_int (pe_callB call_len_str (by rfl) T.len PySem.boot_len (pa_cons (pv 0) pa_nil)) pe_int))))) (pss_one (ps_ret pe_bl)) pss_nil)
      (pss_one (ps_ret (pe_cmpR (op_eqD hr.units) (pe_lc (own := [("_law_letter", 1)]) (g := gName 1) (by rfl) scLLabel.nd (pi_str (pv 0)) (blkOk_by (own := [("_law_letter", 1)]) (N := ["_law_thing", "_law_letter"]) (sc := defScope sLLabel) (by decide +kernel))
          (fun _ _ _ _ _ => pg_name (i := 1) scLLabel.nd rfl (Or.inl rfl)) (fun _ _ _ _ _ => pts_one (pt_cmpR op_notIn_sign (pv 1) pe_str (by rfl))) (fun _ _ _ _ _ => pv 1)) (pe_lst pa_nil) (nomark _)))), ?_⟩
    refine ⟨_, rfl, x, _, _, _, _, rfl, .ty _, hk.ty, kit_ty (kit_str hk.kits), _, rfl, ?_⟩
    cases hk with
    | str z =>
      obtain ⟨hok, hz⟩ := hz z rfl
      refine iteF ?_
      refine ⟨_, rfl, z, rfl, Nat.le_of_lt (small1000 (by omega)), _, _, rfl, rfl, _, rfl, ?_⟩
      refine ite2 (fun h1 => ?_) (fun h1 => ?_)
      · have h1 : (1 : Int) ≤ (z.length : Nat) := of_decide_eq_true h1
        have h1' : 1 ≤ z.length := by omega
        refine ⟨_, _, rfl, rfl, _, rfl, ?_⟩
        refine ite2 (fun h2 => ?_) (fun h2 => ?_)
        · have h2 : ¬ (z.length : Int) ≤ 6 := fun e => by rw [decide_eq_true e] at h2; cases h2
          have e : labV (.str z) = false := by
            show isLab z = false
            unfold isLab
            rw [decide_eq_false (show ¬ z.length ≤ 6 by omega), Bool.false_and, Bool.and_false]
          rw [e] at k
          exact k H (Same.refl _)
        · have h2 : (z.length : Int) ≤ 6 := Classical.byContradiction fun e => h2 (by rw [decide_eq_false e]; rfl)
          have e : labV (.str z) = z.cps.toList.all isLow := by
            show isLab z = _
            unfold isLab
            rw [decide_eq_true h1', decide_eq_true (show z.length ≤ 6 by omega), Bool.true_and, Bool.true_and]
          rw [e] at k
          have tk : ∀ i c, z.cps[i]? = some c → bad (z.cps.toList.take (i + 1)) = bad (z.cps.toList.take i) ++ (if isLow c then [] else [c]) := fun i c hc => by
            unfold bad
            rw [List.take_add_one, Array.getElem?_toList, hc, List.filter_append]
            cases q : isLow c <;> simp [q]
          have sz : z.cps.toList.take z.cps.size = z.cps.toList := by rw [List.take_of_length_le (by simp)]
          refine ⟨_, rfl, z, rfl, fun D hD => lc_str (z := z) (fun i H3 => Same H H3 ∧ H3 D = some (.lst ((bad (z.cps.toList.take i)).map cV))) ⟨sameUpd (Same.refl _) hD, upd_same⟩ ?_ ?_⟩
          · rintro i c H3 hc ⟨s3, hd⟩
            have hi : i < z.cps.size := (Array.getElem?_eq_some_iff.mp hc).1
            have hz2 : z.cps.size = z.length := rfl
            have t := tk i c hc
            refine ⟨rfl, _, rfl, c, _, rfl, rfl, _, rfl, ?_⟩
            rw [abc_in]
            cases q : isLow c with
            | true =>
              rw [q] at t
              refine (if_neg (by decide)).mpr ⟨s3, ?_⟩
              rw [t]
              exact hd.trans (by simp)
            | false =>
              rw [q] at t
              refine (if_pos (by decide)).mpr ⟨_, rfl, _, hd, small1000 ?_, ?_, ?_⟩
              · rw [List.length_map]
                have l1 : (bad (z.cps.toList.take i)).length ≤ (z.cps.toList.take i).length := List.length_filter_le _ _
                rw [List.length_take] at l1
                omega
              · intro b u e
                rw [upd_ne (ne_of_none e hD)]
                exact s3 b u e
              · rw [upd_same, t]
                simp [cV]
          · rintro H3 ⟨s3, hd⟩
            rw [sz] at hd
            refine ⟨by decide, fun p hp => ?_⟩
            have npd : D ≠ p := ne_of_none hd hp
            have ok : Ok ((bad z.cps.toList).map fun c => SX.S [c]) := fun y hy => by
              obtain ⟨c, hc, rfl⟩ := List.mem_map.mp hy
              have hc2 : c ∈ z.cps.toList := (List.mem_filter.mp hc).1
              unfold PyData.strOk at hok ⊢
              rw [← Array.all_toList] at hok
              have := List.all_eq_true.mp hok c hc2
              simpa using this
            refine ⟨.list (dS ((bad z.cps.toList).map fun c => SX.S [c])), .list [], .lst (SqL.of (xs := ((bad z.cps.toList).map fun c => SX.S [c]).map V.str) (by rw [upd_ne npd, ← map_cV]; exact hd)) (dp_strs _), .lst (SqL.of upd_same) .nil, shaped_list ok, by decide, ?_⟩
            rw [eqv_nil]
            have e2 : ((bad z.cps.toList).map fun c => SX.S [c]).isEmpty = z.cps.toList.all isLow := by rw [List.isEmpty_map, bad_nil]
            rw [e2]
            exact k _ (sameUpd s3 hp)
      · have h1 : ¬ (1 : Int) ≤ (z.length : Nat) := fun e => h1 (decide_eq_true e)
        have e : labV (.str z) = false := by
          show isLab z = false
          unfold isLab
          rw [decide_eq_false (show ¬ 1 ≤ z.length by omega), Bool.false_and]
        rw [e] at k
        exact ⟨_, rfl, iteT (k H (Same.refl _))⟩
    | int i => exact iteT (k H (Same.refl _))
    | bl b => exact iteT (k H (Same.refl _))
    | non => exact iteT (k H (Same.refl _))
    | lst a xs h => exact iteT (k H (Same.refl _))
    | tup a xs h => exact iteT (k H (Same.refl _))
    | dct a xs h => exact iteT (k H (Same.refl _))
end
end Kx

set_option maxHeartbeats 4000000
namespace Kx
open PySem L2
def Fine (z : Str) : Prop := PyData.strOk z = true ∧ z.length ≤ 100
def spOdd : Sp := fun vs H Q _ => ∃ p q : Addr, vs = [.ref p] ∧ HandAt H p q ∧ ∀ (x : V) (n : String) (H' : Hp), Kd H' x n → (∀ z, x = .str z → Fine z) → HandAt H' p q → Keep H H' p → Q x H'
theorem fine_up {z : Str} (h : Low z) (l : z.length ≤ 20) : Fine (PySem.Txt.upper z) := by
  have a : ∀ c ∈ z.cps.toList, c < 128 := fun c hc => by have := h c hc; omega
  rw [PyProof.Rows.upper_ascii a]
  refine ⟨?_, ?_⟩
  · unfold PyData.strOk
    rw [← Array.all_toList, Array.toList_map, List.all_map]
    refine List.all_eq_true.mpr fun c hc => decide_eq_true ?_
    have h1 := h c hc
    show PyProof.Rows.up1 c < 0x110000
    unfold PyProof.Rows.up1
    split <;> omega
  · show (z.cps.map _).size ≤ 100
    rw [Array.size_map]
    have e : z.cps.size = z.length := rfl
    omega
theorem none2 {H : Hp} {a b : Addr} {o : HO} (h : upd H a o b = none) : H b = none ∧ b ≠ a := by
  have n : b ≠ a := fun e => by rw [e, upd_same] at h; cases h
  rw [upd_ne n] at h
  exact ⟨h, n⟩
theorem fine_low {z : Str} (h : Low z) (l : z.length ≤ 20) : Fine z := ⟨low_ok h, by omega⟩
theorem fine_app {a b : Str} (h : Fine a) (l : a.length ≤ 20) (hb : PyData.strOk b = true) (lb : b.length ≤ 20) : Fine (a ++ b) := by
  refine ⟨?_, by rw [len_app]; omega⟩
  have h1 := h.1
  unfold PyData.strOk at h1 hb ⊢
  rw [← Array.all_toList] at h1 hb ⊢
  rw [cps_app, List.all_append, h1, hb]
  rfl
section
variable {P : Program} {w : World} {K : PySem.W.Frag} {mg : Str → Option Value} {base : Heap}
theorem scOdd : FnScope ["_law_hand_here", "_law_word_here"] ["_law_hand_here"] (defScope sOdd) := ⟨rfl, rfl, rfl, by decide +kernel, rfl, by decide +kernel, by decide +kernel⟩
theorem ok_odd {f : Addr} {fd : FuncData} (F : Fun K "_law_odd" "_law_odd" sOdd f fd) (m : mg "_law_odd" = some (.ref f)) (W : HasF P w K mg base "_law_word" 3 ["_law_hand_here", "_law_most"] spWord) (O : HasF P w K mg base "_law_one" 3 ["_law_hand_here", "_law_rows"] spOne) : HasF P w K mg base "_law_odd" 4 ["_law_hand_here"] spOdd := by
  refine ⟨f, fd, ?_, m, F.kp, F.binds fun _ _ _ _ _ _ us hl => match us, hl with | [_], _ => rfl⟩
  obtain ⟨f2, fd2, W⟩ := W; obtain ⟨f3, fd3, O⟩ := O
  refine F.ok scOdd (fun vs H Q E h => ?_) (fun cdv A outer s H vs Q E hr h => ?_)
  · obtain ⟨a, b, rfl, _⟩ := h
    rfl
  · obtain ⟨p, q, rfl, hp, k⟩ := h
    refine ⟨_, pss_cons (ps_set (i := 1) scOdd.nd rfl (Or.inl rfl) (pe_call W.G hr (by rfl) W.m W.kp W.b .nil pass0 (pa_cons (pv 0) (pa_cons pe_int pa_nil))))
      (pss_one (ps_ret (pe_call O.G hr (by rfl) O.m O.kp O.b .nil pass0 (pa_cons (pv 0) (pa_cons (pe_lst (pa_cons pe_non (pa_cons pe_int (pa_cons pe_bl (pa_cons pe_str (pa_cons (pe_upper (pv 1)) (pa_cons (pe_op op_add_str (pv 1) pe_str) (pa_cons (pe_op op_add_str (pv 1) pe_str) (pa_cons (pe_tup (pa_cons (pv 1) pa_nil)) (pa_cons (pe_lst (pa_cons (pv 1) pa_nil)) (pa_cons (pe_un un_neg pe_int) (pa_cons (pe_op op_add_str (pv 1) pe_str) (pa_cons (pv 1) (pa_cons (pe_disp (pps_cons (pv 1) (pv 1) pps_nil) (by rfl) (by rfl) (fun z => by cases z) (by decide)) pa_nil)))))))))))))) pa_nil))))), ?_⟩
    refine ⟨_, rfl, p, q, 5, rfl, hp, by decide, by decide, fun z H1 z0 z1 low hp1 k1 => ?_⟩
    have z1 : z.length ≤ 5 := z1
    have add : ∀ t : Str, t.length ≤ 20 → z.length + t.length ≤ sizeLine := fun t ht => Nat.le_of_lt (small1000 (by omega))
    refine ⟨_, rfl, _, rfl, ⟨_, rfl⟩, _, rfl, rfl, by omega, _, rfl, _, _, rfl, rfl, add _ (by decide +kernel), _, rfl, _, _, rfl, rfl, add _ (by decide +kernel), _, rfl, (by show 1 ≤ sizeLine; decide), fun t ht => ?_⟩
    refine ⟨_, rfl, (by show 1 ≤ sizeLine; decide), fun l hl => ?_⟩
    refine ⟨_, rfl, _, rfl, _, _, rfl, rfl, add _ (by decide +kernel), _, rfl, fun d hd => ?_⟩
    refine ⟨_, rfl, _, rfl, upd_same, [(Sum.inr z, .str z)], rfl, (by show 1 ≤ 15; decide), (by show 13 ≤ sizeLine; decide), fun r hr => ?_⟩
    rw [upd_upd] at hr ⊢
    obtain ⟨hl0, lt⟩ := none2 hl
    obtain ⟨hd1, dl⟩ := none2 hd
    obtain ⟨hd0, dt⟩ := none2 hd1
    obtain ⟨hr2, rd⟩ := none2 hr
    obtain ⟨hr1, rl⟩ := none2 hr2
    obtain ⟨hr0, rt⟩ := none2 hr1
    have back : ∀ a, H1 a = none → H a = none := fun a h => by
      cases e : H a with
      | none => rfl
      | some o => exact absurd h (by rw [k1 a o e (hp1.ap h)]; exact fun z => nomatch z)
    refine ⟨p, q, r, _, rfl, (((hp1.upd (hp1.ap ht) (hp1.aq ht)).upd (hp1.ap hl0) (hp1.aq hl0)).upd (hp1.ap hd0) (hp1.aq hd0)).upd (hp1.ap hr0) (hp1.aq hr0), upd_same, hp1.ap hr0, (by show 0 < 13; decide), (by show 13 ≤ 1000; decide), fun x H5 hx hp5 k5 => ?_⟩
    have kk : Keep H H5 p := (keepUpd (keepUpd (keepUpd (keepUpd k1 (back t ht)) (back l hl0)) (back d hd0)) (back r hr0)).trans k5
    have at_t : H5 t = some (.tup [.str z]) := k5 t _ (by rw [upd_ne rt.symm, upd_ne dt.symm, upd_ne lt.symm, upd_same]) (hp1.ap ht)
    have at_l : H5 l = some (.lst [.str z]) := k5 l _ (by rw [upd_ne rl.symm, upd_ne dl.symm, upd_same]) (hp1.ap hl0)
    have at_d : H5 d = some (.dK (mergeK [] [(Sum.inr z, .str z)])) := k5 d _ (by rw [upd_ne rd.symm, upd_same]) (hp1.ap hd0)
    have fz : Fine z := fine_low low (by omega)
    have nt : ∀ (a : Addr) (y : Str), (.ref a : V) = .str y → Fine y := fun a y e => nomatch e
    have st : ∀ (u : Str), Fine u → ∀ y, (.str u : V) = .str y → Fine y := fun u h y e => by cases e; exact h
    simp only [List.mem_cons, List.not_mem_nil, or_false] at hx
    rcases hx with e | e | e | e | e | e | e | e | e | e | e | e | e <;> subst e
    · exact k _ _ _ .non (fun y e => nomatch e) hp5 kk
    · exact k _ _ _ (.int _) (fun y e => nomatch e) hp5 kk
    · exact k _ _ _ (.bl _) (fun y e => nomatch e) hp5 kk
    · exact k _ _ _ (.str _) (st _ ⟨by decide +kernel, by decide +kernel⟩) hp5 kk
    · exact k _ _ _ (.str _) (st _ (fine_up low (by omega))) hp5 kk
    · exact k _ _ _ (.str _) (st _ (fine_app fz (by omega) (by decide +kernel) (by decide +kernel))) hp5 kk
    · exact k _ _ _ (.str _) (st _ (fine_app fz (by omega) (by decide +kernel) (by decide +kernel))) hp5 kk
    · exact k _ _ _ (.tup _ _ at_t) (nt t) hp5 kk
    · exact k _ _ _ (.lst _ _ at_l) (nt l) hp5 kk
    · exact k _ _ _ (.int _) (fun y e => nomatch e) hp5 kk
    · exact k _ _ _ (.str _) (st _ (fine_app fz (by omega) (by decide +kernel) (by decide +kernel))) hp5 kk
    · exact k _ _ _ (.str _) (st _ fz) hp5 kk
    · exact k _ _ _ (.dct _ _ at_d) (nt d) hp5 kk
end
end Kx

set_option maxHeartbeats 4000000
namespace Kx
open PySem PySem.Spec PyProof.Rows L2
abbrev QT : VK := fun v _ => v = .bl true
abbrev EF : XK := fun _ _ _ => False
/-- the body of the law's def, asked at the call that the row makes (nothing is being shown by repr there) -/
def LawBody (P : Program) (w : World) (K : PySem.W.Frag) (mg : Str → Option Value) (base : Heap) (N : List Str) (x : Str) (st : Stmt) (fa : Addr) (k : Nat) : Prop :=
  ∀ (cdv : Value) (s : Shared) (H : Hp) (a : Addr) (ns : List Int), Room k (callerA.deeper (envOfC x (defScope st) s.heap.objs.size fa cdv)) → SqL K H a (ns.map V.int) → ns.length ≤ 63 →
    ∃ t, PSs (cxOf CX0 P w K mg base N x (defScope st) fa cdv callerA [] s H EF).nox (defBody st) t ∧ t { nx := fun _ H' => QT .non H', rt := QT } (start N [.ref a]) H
section
variable {P : Program} {w : World} {K : PySem.W.Frag} {mg mb : Str → Option Value} {k : Nat} {fa a : Addr} {fd : FuncData} {x y : Str} {st : Stmt} {N : List Str}
theorem law_at {base : Heap} (F : Fun K x x st fa fd) (S : FnScope N [y] (defScope st)) (hr : Room (k + 1) callerA) (B : LawBody P w K mg base N x st fa k) (bind : ∀ (s : Shared) (u : Value), BindsTo s fd ⟨[u], []⟩ [(y, u)])
    {s : Shared} {H : Hp} {ns : List Int} (e0 : Env0 P w K mg base callerA [] s H) (hS : SqL K H a (ns.map V.int)) (hn : ns.length ≤ 63) :
    codeAny (model P w) callerA (.call (.ref fa) ⟨[.ref a], []⟩) (CR CX0 [] P w H s QT EF) s := by
  obtain ⟨oc, od, kV, doc, pm, an, cdv, ct, osl, rfl, lk, hcd⟩ := F.ex
  have KX : K.In s.heap := e0.mod.kin.keeps fun b o e => (e0.bs b o e).1
  have noLim : s.heap.NoLimit := e0.mod.nolimit.keeps fun b o e => (e0.bs b o e).1
  have kinds : ∀ z ∈ [(y, Value.ref a)], (defScope st).names.lookup z.1 = some .local ∨ ((defScope st).names.lookup z.1 = some .cell ∧ ((cellsFrom (s.heap.objs.size + 1) (defScope st).names []).lookup z.1).isSome = true) := fun z hz => by
    obtain rfl : z = (y, Value.ref a) := by simpa using hz
    rcases S.par y (.head _) with q | q
    · exact .inl q
    · exact .inr ⟨q, PySem.W.cellsFrom_some _ _ _ (.inl q)⟩
  refine codeAny_call_function hr.depth (KX _ _ lk) rfl S.co S.gen rfl (PySem.W.codeRec_of KX hcd) (bind s (.ref a) _ _ _ _ (wpAny_newFunctionEnv_cells S.kind kinds fun env he s1 z => ?_))
  subst he
  obtain ⟨t, ht, hq⟩ := B cdv s H a ns (hr.deeper _) hS hn
  refine ⟨noLim.keeps z.toInCall.keep, codeAny_func (wpAny_mono (ht.nox.run [] s1 (start N [.ref a]) H _ (inv_start S hr.hd e0 rfl (.cons rfl .nil) z) hq) (fun fl s' got => ?_) fun e s' got => got)⟩
  cases fl with
  | ret u => obtain ⟨v, σ', H', J, rv, q⟩ := got; exact ⟨v, H', J.os, J.bare, J.base, J.hok, rv, q⟩
  | next => obtain ⟨σ', H', J, q⟩ := got; exact absurd q (fun z => nomatch z)
  | brk => obtain ⟨_, _, _, q⟩ := got; exact q.elim
  | cont => obtain ⟨_, _, _, q⟩ := got; exact q.elim
/-- behind the top nothing is tracked but the script -/
theorem env_at {s : Shared} {H : Hp} {vs : List Value} (KX : K.In s.heap) (main : s.heap.Ns mainGlobals mg) (blt : s.heap.Ns builtinsNs mb) (boot : ∀ x : Str, x ≠ "__name__" → mb x = bootBuiltins x) (lim : s.heap.NoLimit) (gens : s.gens = #[])
    (at_ : s.heap.get? a = some { cls := .type "list", data := .seq vs.toArray }) (ok : HOk P w H s.heap) (only : ∀ b, b ≠ a → H b = none) (mine : H a = none ∨ K.lookup a = none) : Env0 P w K mg (hidT s.heap H) callerA [] s H := by
  have keepK : K.In (hidT s.heap H) := fun b o e => hidT_get (KX b o e) (by
    by_cases z : b = a
    · subst z
      rcases mine with q | q
      · exact q
      · rw [q] at e; cases e
    · exact only b z)
  have keepN : ∀ {b : Addr} {m : Str → Option Value}, s.heap.Ns b m → (hidT s.heap H).Ns b m := by
    rintro b m ⟨o, es, ep, e, d, r⟩
    refine ⟨o, es, ep, hidT_get e (only b fun z => ?_), d, r⟩
    subst z
    rw [at_] at e
    cases e
    cases d
  obtain ⟨mc, l1, l2⟩ := lim
  exact ⟨rfl, ⟨keepK, keepN main, ⟨mb, keepN blt, boot⟩, ⟨mc, keepN l1, l2⟩⟩, fun b o e => of_hidT e, Nat.le_of_eq (hidT_size _ _), trivial, fun b hb => (nomatch hb), ok, .of_eq gens⟩
theorem law_end {s : Shared} {vs : List Value} {ns : List Int} (KX : K.In s.heap) (main : s.heap.Ns mainGlobals mg) (blt : s.heap.Ns builtinsNs mb) (boot : ∀ x : Str, x ≠ "__name__" → mb x = bootBuiltins x) (lim : s.heap.NoLimit) (gens : s.gens = #[])
    (at_ : s.heap.get? a = some { cls := .type "list", data := .seq vs.toArray }) (hints : IntsAre vs ns) (hn : ns.length ≤ 63)
    (run : ∀ (base : Heap) (H : Hp), K.In base → base.Ns mainGlobals mg → Env0 P w K mg base callerA [] s H → SqL K H a (ns.map V.int) → codeAny (model P w) callerA (.call (.ref fa) ⟨[.ref a], []⟩) (CR CX0 [] P w H s QT EF) s) :
    codeAny (model P w) callerA (.call (.ref fa) ⟨[.ref a], []⟩) (fun r s' => r = .ok (.ret (.bool true)) ∧ OldK s.heap s'.heap ∧ s'.os = s.os ∧ AllBare s'.gens) s := by
  have rv := vals_ints hints
  have fits : (ns.map V.int).length ≤ sizeLine := by rw [List.length_map]; exact Nat.le_of_lt (small1000 (by omega))
  have go : ∀ H : Hp, (∀ b, b ≠ a → H b = none) → (H a = none ∧ SqL K H a (ns.map V.int) ∨ K.lookup a = none ∧ H a = some (.frz { cls := .type "list", data := .seq vs.toArray } (.lst (ns.map V.int)))) →
      codeAny (model P w) callerA (.call (.ref fa) ⟨[.ref a], []⟩) (fun r s' => r = .ok (.ret (.bool true)) ∧ OldK s.heap s'.heap ∧ s'.os = s.os ∧ AllBare s'.gens) s := by
    intro H only mine
    have ok : HOk P w H s.heap := fun b u e => by
      by_cases z : b = a
      · subst z
        rcases mine with ⟨q, _⟩ | ⟨_, q⟩
        · rw [q] at e; cases e
        · rw [q] at e
          cases e
          exact ⟨at_, fits, vs, _, rv, at_⟩
      · rw [only b z] at e; cases e
    have e0 := env_at (P := P) (w := w) KX main blt boot lim gens at_ ok only (mine.elim (fun q => .inl q.1) fun q => .inr q.1)
    refine codeAny_mono (run _ H e0.mod.kin e0.mod.glob e0 (mine.elim (fun q => q.2) fun q => .inl (.inr ⟨_, q.2⟩))) fun r s' got => ?_
    rcases r with e | (_ | _ | _ | u)
    · exact got.elim
    · exact got.elim
    · exact got.elim
    · exact got.elim
    · obtain ⟨v, H', os, bare, un, ok', rel, q⟩ := got
      obtain rfl : v = .bl true := q
      obtain rfl : u = Value.bool true := rel
      refine ⟨rfl, OldK.of_keep fun b o e => ?_, os, bare⟩
      cases q : H b with
      | none => exact un.keep b o e q (fun z => (nomatch z)) (fun z => (nomatch z))
      | some u =>
        have z : b = a := Classical.byContradiction fun z => by rw [only b z] at q; cases q
        subst z
        rcases mine with ⟨q2, _⟩ | ⟨_, q2⟩
        · rw [q2] at q; cases q
        · rw [at_] at e
          cases e
          exact (ok' b _ (un.frzs b _ _ q2)).1
  cases hk : K.lookup a with
  | some o =>
    have e := KX a o hk
    rw [at_] at e
    cases e
    exact go (fun _ => none) (fun _ _ => rfl) (.inl ⟨rfl, .inr ⟨_, vs.toArray, _, hk, rfl, rfl, rfl, by rw [List.size_toArray, hints.length]; exact Nat.le_of_lt (small1000 (by omega)), by simpa using rv⟩⟩)
  | none => exact go (fun b => if b = a then some (.frz { cls := .type "list", data := .seq vs.toArray } (.lst (ns.map V.int))) else none) (fun b z => if_neg z) (.inr ⟨hk, if_pos rfl⟩)
end
theorem law_walk {l : PySem.W.OpenLaw} {q : Program} {loose : List Str} {XP : (Str → Option Value) → Heap → Prop} {YP : World → Heap → Prop} {d : DefRec} {K : Params → PySem.W.Frag} (hn : l.most = some 63) (hdf : d.params.defaults = []) (hY : ∀ (w : World) (h : Heap), YP w h → (K w.params).In h)
    (F : ∀ (w : World) (mg : Str → Option Value) (fa : Addr) (h : Heap), (K w.params).In h → h.Ns mainGlobals mg → mg d.name = some (.ref fa) →
      ∀ (base : Heap) (s : Shared) (H : Hp) (a : Addr) (ns : List Int), (K w.params).In base → base.Ns mainGlobals mg → Env0 l.prog w (K w.params) mg base callerA [] s H → SqL (K w.params) H a (ns.map V.int) → ns.length ≤ 63 →
        codeAny (model l.prog w) callerA (.call (.ref fa) ⟨[.ref a], []⟩) (CR CX0 [] l.prog w H s QT EF) s) : PySem.W.WalkO q loose XP YP l.row.toRowW d [] (fun f vs => PySem.call f vs) :=
  Att.attach_call hn hdf fun w s₀ s₁ mg mb fa o pm cd doc a vs ns G Y ho hd hcd hmg hobj hints hlen hg =>
    law_end (hY w _ Y) G.T.g G.T.b G.T.builtins G.T.nolimit hg hobj hints hlen fun base H kin main e0 hS => F w mg fa _ (hY w _ Y) G.T.g hmg base s₁ H a ns kin main e0 hS hlen
end Kx

set_option maxHeartbeats 4000000
namespace Kx
open PySem L2
theorem lab_tot : ∀ (m k : Nat), k ≤ tot m → (lab k).length ≤ m
  | m, 0, _ => by rw [lab_zero]; exact Nat.zero_le _
  | 0, k + 1, h => by exact absurd h (Nat.not_succ_le_zero k)
  | m + 1, k + 1, h => by
    have e := tot_succ m
    have ih := lab_tot m (k / 26) (by omega)
    rw [lab_succ, List.length_cons]
    omega
theorem labN_lab {n : Nat} (h : n ≤ 321272405) : labV (.str (labN n)) = true := by
  have h6 := lab_tot 6 (n + 1) (by rw [tot6]; omega)
  have e : (labN n).length = (lab (n + 1)).length := by unfold labN; rw [SX.S_len, List.length_reverse]
  have h1 : 1 ≤ (lab (n + 1)).length := by rw [lab_succ, List.length_cons]; omega
  show isLab (labN n) = true
  unfold isLab
  rw [e, decide_eq_true h1, decide_eq_true h6, Bool.true_and, Bool.true_and]
  refine List.all_eq_true.mpr fun c hc => ?_
  have := labN_low n c hc
  unfold isLow
  rw [decide_eq_true this.1, decide_eq_true this.2]
  rfl
theorem inV_strs (z : Str) : ∀ ys : List Str, inV (.str z) (ys.map V.str) = decide (z ∈ ys)
  | [] => rfl
  | y :: ys => by
    have ih := inV_strs z ys
    show (eqV (.str y) (.str z) || inV (.str z) (ys.map V.str)) = _
    rw [ih]
    by_cases e : z = y
    · subst e
      simp [eqV]
    · have e' : ¬ y = z := fun q => e q.symm
      simp [eqV, e, e']
theorem flat_strs (ys : List Str) : (ys.map V.str).all flatV = true := by
  rw [List.all_map]
  exact List.all_eq_true.mpr fun _ _ => rfl
theorem shaped_tup {ys : List Str} (ok : Ok ys) : SeqAt.shaped (.tuple (dS ys)) = true := shaped_list ok
theorem eqv_list {ys : List Str} (ok : Ok ys) : PyData.eqv (.list (dS ys)) (.list (dS ys)) = true := SeqAt.eqv_refl _ (lay_strs ok)
theorem eqv_tup {ys : List Str} (ok : Ok ys) : PyData.eqv (.tuple (dS ys)) (.tuple (dS ys)) = true := SeqAt.eqv_refl _ (lay_strs ok)
theorem fresh_ok (ys : List Str) (m : Nat) : Ok (fresh ys m) := fun y hy => by
  have h := List.mem_of_mem_take hy
  unfold fr at h
  obtain ⟨j, _, rfl⟩ := List.mem_map.mp h
  exact low_ok (labN_low j)
def d2 (a b : Bool) : PyData := .tuple [.bool a, .bool b]
theorem d2_len (a b : Bool) : (d2 a b).shown.length ≤ sizeLine := by cases a <;> cases b <;> decide +kernel
theorem d2_ok (a b : Bool) : (d2 a b).showable = true ∧ (d2 a b).hasDict = false ∧ (d2 a b).depth ≤ 20 := by cases a <;> cases b <;> decide +kernel
/-- the due ones at a turn -/
theorem due_more {ys : List Str} {m i : Nat} (h : ((fr ys i).take m).length < m) (n : ¬ labN i ∈ ys) : (fr ys (i + 1)).take m = (fr ys i).take m ++ [labN i] := by
  rw [List.length_take] at h
  have l : (fr ys i).length < m := by omega
  rw [fr_succ, if_neg n, List.take_of_length_le (Nat.le_of_lt l), List.take_of_length_le (by rw [List.length_append]; exact l)]
theorem due_in {ys : List Str} {m i : Nat} (n : labN i ∈ ys) : (fr ys (i + 1)).take m = (fr ys i).take m := by rw [fr_succ, if_pos n, List.append_nil]
theorem due_full {ys : List Str} {m i : Nat} (h : ¬ ((fr ys i).take m).length < m) : (fr ys (i + 1)).take m = (fr ys i).take m := by
  rw [List.length_take] at h
  rw [fr_succ, List.take_append_of_le_length (by omega)]
end Kx

set_option maxHeartbeats 8000000
namespace Kx
open PySem L2
abbrev NL : List Str := ["_law_script", "_law_hand_here", "_law_index_here", "_law_word_here", "_law_taken_here", "_law_many", "_law_due", "_law_at", "_law_kept", "_law_told", "_law_k", "_law_odd_here", "_law_low", "_law_high", "_law_inside", "_law_thing"]
theorem scLaw : FnScope NL ["_law_script"] (defScope sLaw) := ⟨rfl, rfl, rfl, by decide +kernel, rfl, by decide +kernel, by decide +kernel⟩
structure Rp (mg : Str → Option Value) : Prop where
  repr : mg "repr" = none
section
variable {P : Program} {w : World} {K : PySem.W.Frag} {mg : Str → Option Value} {base : Heap}
structure All (P : Program) (w : World) (K : PySem.W.Frag) (mg : Str → Option Value) (base : Heap) : Prop where
  hand : HasF P w K mg base "_law_hand" 1 ["_law_script"] (spHand K)
  draw : HasF P w K mg base "_law_draw" 2 ["_law_hand_here", "_law_many"] spDraw
  odd : HasF P w K mg base "_law_odd" 4 ["_law_hand_here"] spOdd
  llab : HasF P w K mg base "_law_label" 1 ["_law_thing"] spLLab
  lat : HasF P w K mg base "_law_label_at" 1 ["_law_index_here"] spAt
  index : HasF P w K mg base "_law_index" 3 ["_law_hand_here"] spIndex
  taken : HasF P w K mg base "_law_taken" 4 ["_law_hand_here"] spTaken
  pat : HasF P w K mg base "label_at" 1 ["index"] spAt
  fresh : HasF P w K mg base "fresh_labels" 2 ["taken", "many"] spFresh
  label : HasF P w K mg base "is_label" 1 ["thing"] spLabel
  seq : HasF P w K mg base "is_sequence" 1 ["thing"] spSeq
  whole : HasF P w K mg base "is_whole" 1 ["thing", "low", "high"] spWhole
abbrev S3 (a p : Addr) (n : Nat) : St := [some (.ref a), some (.ref p), some (.int n), some (.str (labN n)), none, none, none, none, none, none, none, none, none, none, none, none]
abbrev S5 (a p : Addr) (n : Nat) (t : Addr) (m : Nat) : St := [some (.ref a), some (.ref p), some (.int n), some (.str (labN n)), some (.ref t), some (.int m), none, none, none, none, none, none, none, none, none, none]
abbrev S10 (a p : Addr) (n : Nat) (t : Addr) (m : Nat) (d : Addr) (x : Option V) : St := [some (.ref a), some (.ref p), some (.int n), some (.str (labN n)), some (.ref t), some (.int m), some (.ref d), x, none, none, none, none, none, none, none, none]
abbrev S12 (a p : Addr) (n : Nat) (t : Addr) (m : Nat) (d : Addr) (x : Option V) (c r : Addr) : St := [some (.ref a), some (.ref p), some (.int n), some (.str (labN n)), some (.ref t), some (.int m), some (.ref d), x, some (.ref c), some (.ref r), none, none, none, none, none, none]
abbrev S14 (a p : Addr) (n : Nat) (t : Addr) (m : Nat) (d : Addr) (x : Option V) (c r : Addr) (k o lo hi mid th : Option V) : St := [some (.ref a), some (.ref p), some (.int n), some (.str (labN n)), some (.ref t), some (.int m), some (.ref d), x, some (.ref c), some (.ref r), k, o, lo, hi, mid, th]
theorem body_law {fa : Addr} (T : Bl mg) (B : Bm mg) (R : Rp mg) (A : All P w K mg base) : LawBody P w K mg base NL "law" sLaw fa 4 := by
  intro cdv s H a ns hr hS hn
  obtain ⟨fH, fdH, Hand⟩ := A.hand; obtain ⟨fD, fdD, D⟩ := A.draw; obtain ⟨fO, fdO, O⟩ := A.odd; obtain ⟨fLL, fdLL, LL⟩ := A.llab; obtain ⟨fLA, fdLA, LA⟩ := A.lat; obtain ⟨fI, fdI, I⟩ := A.index
  obtain ⟨fT, fdT, Tk⟩ := A.taken; obtain ⟨fPA, fdPA, PA_⟩ := A.pat; obtain ⟨fF, fdF, Fr⟩ := A.fresh; obtain ⟨fLb, fdLb, Lb⟩ := A.label; obtain ⟨fS, fdS, Sq⟩ := A.seq; obtain ⟨fW, fdW, W⟩ := A.whole
  have hr1 := hr.mono (j := 1) (by decide)
  have hr2 := hr.mono (j := 2) (by decide)
  have hr3 := hr.mono (j := 3) (by decide)
  refine ⟨_, (pss_cons (ps_set (i := 1) scLaw.nd rfl (Or.inl rfl) (pe_call Hand.G hr1 (by rfl) Hand.m Hand.kp Hand.b .nil pass0 (pa_cons (pv 0) pa_nil)))
    (pss_cons (ps_set (i := 2) scLaw.nd rfl (Or.inl rfl) (pe_call I.G hr3 (by rfl) I.m I.kp I.b .nil pass0 (pa_cons (pv 1) pa_nil)))
    (pss_cons (ps_set (i := 3) scLaw.nd rfl (Or.inl rfl) (pe_call PA_.G hr1 (by rfl) PA_.m PA_.kp PA_.b .nil pass0 (pa_cons (pv 2) pa_nil)))
    (pss_cons (ps_if (PW.pt (pw_or (pt_not (pt_val (pe_callB call_isi (by rfl) B.isinstance (by decide +kernel) (pa_cons (pv 3) (pa_cons (pe_bltn (v := .ty "str") (by rfl) B.str (by decide +kernel) rfl) pa_nil))))) (pw_or (pt_cmpR op_ne (pv 3) (pe_call LA.G hr1 (by rfl) LA.m LA.kp LA.b .nil pass0 (pa_cons (pv 2) pa_nil)) (nomark _)) (pw_or1 (pt_cmpR op_notBl (pe_call Lb.G hr1 (by rfl) Lb.m Lb.kp Lb.b .nil pass0 (pa_cons (pv 3) pa_nil)) pe_bl (nomark _)))))) (pss_one (ps_ret pe_bl)) pss_nil)
    (C8.pss_cut (ps_if (PW.pt (pw_and (pt_cmpR op_lt (pv 2) pe_int (nomark _)) (pw_and1 (pt_cmpR op_ne (pe_call PA_.G hr1 (by rfl) PA_.m PA_.kp PA_.b .nil pass0 (pa_cons (pe_op op_add (pv 2) pe_int) pa_nil)) (pe_call LA.G hr1 (by rfl) LA.m LA.kp LA.b .nil pass0 (pa_cons (pe_op op_add (pv 2) pe_int) pa_nil)) (nomark _))))) (pss_one (ps_ret pe_bl)) pss_nil)
    (C8.pss_cut (ps_if (PW.pt (pw_and (pt_cmpR op_gt (pv 2) pe_int (nomark _)) (pw_and1 (pt_cmpR op_ne (pe_call PA_.G hr1 (by rfl) PA_.m PA_.kp PA_.b .nil pass0 (pa_cons (pe_op op_sub (pv 2) pe_int) pa_nil)) (pe_call LA.G hr1 (by rfl) LA.m LA.kp LA.b .nil pass0 (pa_cons (pe_op op_sub (pv 2) pe_int) pa_nil)) (nomark _))))) (pss_one (ps_ret pe_bl)) pss_nil)
    (pss_cons (ps_set (i := 4) scLaw.nd rfl (Or.inl rfl) (pe_call Tk.G hr (by rfl) Tk.m Tk.kp Tk.b .nil pass0 (pa_cons (pv 1) pa_nil)))
    (C8.pss_cut (ps_set (i := 5) scLaw.nd rfl (Or.inl rfl) (pe_ifExp (pt_cmpR op_eq (pe_call D.G hr2 (by rfl) D.m D.kp D.b .nil pass0 (pa_cons (pv 1) (pa_cons pe_int pa_nil))) pe_int (nomark _)) pe_int (pe_call D.G hr2 (by rfl) D.m D.kp D.b .nil pass0 (pa_cons (pv 1) (pa_cons pe_int pa_nil)))))
    (pss_cons (ps_set (i := 6) scLaw.nd rfl (Or.inl rfl) (pe_lst pa_nil))
    (pss_cons (ps_for PassesOwn.never rfl (pi_range1 (by rfl) T.range (pa_cons (pe_op op_add (pv 5) (pe_callB call_len_seq (by rfl) T.len PySem.boot_len (pa_cons (pv 4) pa_nil))) pa_nil)) (pg_name (i := 7) scLaw.nd rfl (.inl rfl))
      (pss_one (ps_if (PW.pt (pw_and (pt_cmpR op_lt (pe_callB call_len_seq (by rfl) T.len PySem.boot_len (pa_cons (pv 6) pa_nil)) (pv 5) (nomark _)) (pw_and1 (pt_cmpR op_notIn_seq (pe_call LA.G hr1 (by rfl) LA.m LA.kp LA.b .nil pass0 (pa_cons (pv 7) pa_nil)) (pv 4) rfl)))) (pss_one (ps_expr (pe_bm PySem.F.plainAttrs_list PySem.F.slot_list_append PySem.F.type_list_append mt_append (pv 6) (pa_cons (pe_call LA.G hr1 (by rfl) LA.m LA.kp LA.b .nil pass0 (pa_cons (pv 7) pa_nil)) pa_nil)))) pss_nil)))
    (pss_cons (ps_set (i := 8) scLaw.nd rfl (Or.inl rfl) (pe_callTy call_list_of (by rfl) B.list (by decide +kernel) (pa_cons (pv 4) pa_nil)))
    (C8.pss_cut (ps_set (i := 9) scLaw.nd rfl (Or.inl rfl) (pe_call Fr.G hr2 (by rfl) Fr.m Fr.kp Fr.b .nil pass0 (pa_cons (pe_ifExp (pt_cmpR op_eq (pe_call D.G hr2 (by rfl) D.m D.kp D.b .nil pass0 (pa_cons (pv 1) (pa_cons pe_int pa_nil))) pe_int (nomark _)) (pe_callTy call_tuple_of (by rfl) B.tuple (by decide +kernel) (pa_cons (pv 4) pa_nil)) (pv 4)) (pa_cons (pv 5) pa_nil))))
    (pss_cons (ps_if (PW.pt (pw_or (pt_not (pt_val (pe_callB call_isi (by rfl) B.isinstance (by decide +kernel) (pa_cons (pv 9) (pa_cons (pe_bltn (v := .ty "tuple") (by rfl) B.tuple (by decide +kernel) rfl) pa_nil))))) (pw_or (pt_cmpR (op_neD hr.units) (pv 9) (pe_callTy call_tuple_of (by rfl) B.tuple (by decide +kernel) (pa_cons (pv 6) pa_nil)) (nomark _)) (pw_or1 (pt_cmpR (op_neD hr.units) (pv 4) (pv 8) (nomark _)))))) (pss_one (ps_ret pe_bl)) pss_nil)
    (pss_cons (ps_for PassesOwn.never rfl (pi_range1 (by rfl) T.range (pa_cons pe_int pa_nil)) (pg_name (i := 10) scLaw.nd rfl (.inl rfl))
      (pss_cons (ps_set (i := 11) scLaw.nd rfl (Or.inl rfl) (pe_call O.G hr (by rfl) O.m O.kp O.b .nil pass0 (pa_cons (pv 1) pa_nil)))
      (pss_one (ps_if (pt_cmpR op_ne (pe_callB (call_repr rfl hr.units) (by rfl) R.repr (by decide +kernel) (pa_cons (pe_tup (pa_cons (pe_call Lb.G hr1 (by rfl) Lb.m Lb.kp Lb.b .nil pass0 (pa_cons (pv 11) pa_nil)) (pa_cons (pe_call Sq.G hr1 (by rfl) Sq.m Sq.kp Sq.b .nil pass0 (pa_cons (pv 11) pa_nil)) pa_nil))) pa_nil)) (pe_callB (call_repr rfl hr.units) (by rfl) R.repr (by decide +kernel) (pa_cons (pe_tup (pa_cons (pe_call LL.G hr1 (by rfl) LL.m LL.kp LL.b .nil pass0 (pa_cons (pv 11) pa_nil)) (pa_cons (pe_callB call_isiT (by rfl) B.isinstance (by decide +kernel) (pa_cons (pv 11) (pa_cons (pe_tup (pa_cons (pe_bltn (v := .ty "list") (by rfl) B.list (by decide +kernel) rfl) (pa_cons (pe_bltn (v := .ty "tuple") (by rfl) B.tuple (by decide +kernel) rfl) pa_nil))) pa_nil))) pa_nil))) pa_nil)) (nomark _)) (pss_one (ps_ret pe_bl)) pss_nil))))
    (pss_cons (ps_set (i := 12) scLaw.nd rfl (Or.inl rfl) (pe_op op_sub (pe_call D.G hr2 (by rfl) D.m D.kp D.b .nil pass0 (pa_cons (pv 1) (pa_cons (pe_op op_pow pe_int pe_int) pa_nil))) pe_int))
    (pss_cons (ps_set (i := 13) scLaw.nd rfl (Or.inl rfl) (pe_op op_add (pv 12) (pe_call D.G hr2 (by rfl) D.m D.kp D.b .nil pass0 (pa_cons (pv 1) (pa_cons (pe_op op_pow pe_int pe_int) pa_nil)))))
    (C8.pss_cut (ps_set (i := 14) scLaw.nd rfl (Or.inl rfl) (pe_op op_add (pv 12) (pe_call D.G hr2 (by rfl) D.m D.kp D.b .nil pass0 (pa_cons (pv 1) (pa_cons (pe_op op_add (pe_op op_sub (pv 13) (pv 12)) pe_int) pa_nil)))))
    (pss_cons (ps_for PassesOwn.never rfl (pi_list (pe_lst (pa_cons (pv 12) (pa_cons (pv 13) (pa_cons (pv 14) pa_nil))))) (pg_name (i := 15) scLaw.nd rfl (.inl rfl))
      (pss_one (ps_if (pt_cmpR op_notBl (pe_call W.G hr1 (by rfl) W.m W.kp W.b .nil pass0 (pa_cons (pv 15) (pa_cons (pv 12) (pa_cons (pv 13) pa_nil)))) pe_bl (nomark _)) (pss_one (ps_ret pe_bl)) pss_nil)))
    (pss_cons (ps_for PassesOwn.never rfl (pi_list (pe_lst (pa_cons (pe_op op_sub (pv 12) pe_int) (pa_cons (pe_op op_add (pv 13) pe_int) (pa_cons pe_non (pa_cons (pe_callTy call_str_int (by rfl) B.str (by decide +kernel) (pa_cons (pv 14) pa_nil)) (pa_cons (pe_lst (pa_cons (pv 14) pa_nil)) (pa_cons (pe_tup (pa_cons (pv 14) pa_nil)) pa_nil)))))))) (pg_name (i := 15) scLaw.nd rfl (.inl rfl))
      (pss_one (ps_if (pt_cmpR op_notBl (pe_call W.G hr1 (by rfl) W.m W.kp W.b .nil pass0 (pa_cons (pv 15) (pa_cons (pv 12) (pa_cons (pv 13) pa_nil)))) pe_bl (nomark _)) (pss_one (ps_ret pe_bl)) pss_nil)))
    (pss_one (ps_ret (pe_and (pe_cmpR op_isBl (pe_call W.G hr1 (by rfl) W.m W.kp W.b .nil pass0 (pa_cons pe_bl (pa_cons pe_int (pa_cons pe_int pa_nil)))) pe_bl (nomark _)) (pe_and (pe_cmpR op_isBl (pe_call W.G hr1 (by rfl) W.m W.kp W.b .nil pass0 (pa_cons pe_bl (pa_cons pe_int (pa_cons pe_int pa_nil)))) pe_bl (nomark _))
      (pe_and (pe_cmpR op_isBl (pe_call W.G hr1 (by rfl) W.m W.kp W.b .nil pass0 (pa_cons pe_int (pa_cons pe_int (pa_cons pe_int pa_nil)))) pe_bl (nomark _)) (pe_one (pe_cmpR op_isBl (pe_call W.G hr1 (by rfl) W.m W.kp W.b .nil pass0 (pa_cons (pv 12) (pa_cons (pv 12) (pa_cons (pv 12) pa_nil)))) pe_bl (nomark _))))))))))))))))))))))))))), ?_⟩
  refine ⟨_, rfl, a, ns, rfl, hS, hn, fun p q H1 _ _ nqp hp1 s1 => ?_⟩
  refine ⟨_, rfl, p, q, rfl, hp1, fun n H2 hn2 hp2 _ => ?_⟩
  refine ⟨_, rfl, n, rfl, by omega, fun H3 s3 => ?_⟩
  have hp3 := hp2.same s3
  refine ⟨_, rfl, .str (labN n), _, _, _, _, rfl, .ty _, (Kd.str (H := H3) (labN n)).ty, kit_ty (kit_str (Kd.str (H := H3) (labN n)).kits), _, rfl, ?_⟩
  refine iteF ?_
  refine ⟨_, rfl, _, rfl, n, rfl, by omega, fun H4 s4 => ?_⟩
  have hp4 := hp3.same s4
  refine ⟨rfl, _, rfl, ?_⟩
  refine iteNS rfl ?_
  refine ⟨_, rfl, .str (labN n), _, rfl, .str _, (fun z e => ?_), true, true, ?_, rfl, _, rfl, ?_⟩
  · cases e
    have h6 := lab_tot 6 (n + 1) (by rw [tot6]; omega)
    have e2 : (labN n).length = (lab (n + 1)).length := by unfold labN; rw [SX.S_len, List.length_reverse]
    exact Nat.le_of_lt (small1000 (by omega))
  · rw [labN_lab hn2]
  refine iteNS rfl ?_
  -- the next one
  refine ⟨fun σ H' => σ = S3 a p n ∧ HandAt H' p q, ?_, ?_⟩
  · obtain ⟨b, hb⟩ : ∃ b, decide ((n : Int) < 321272405) = b := ⟨_, rfl⟩
    refine ⟨_, rfl, _, _, rfl, rfl, b, congrArg V.bl hb, ?_⟩
    cases b with
    | false => exact iteF ⟨rfl, hp4⟩
    | true =>
    refine iteT ?_
    refine ⟨_, rfl, _, _, rfl, rfl, n + 1, rfl, by omega, fun H5 s5 => ?_⟩
    refine ⟨_, rfl, _, _, rfl, rfl, n + 1, rfl, by omega, fun H6 s6 => ?_⟩
    refine ⟨rfl, _, rfl, ?_⟩
    exact iteNS rfl ⟨rfl, (hp4.same s5).same s6⟩
  rintro σ H5 ⟨rfl, hp5⟩
  refine ⟨fun σ H' => σ = S3 a p n ∧ HandAt H' p q, ?_, ?_⟩
  · obtain ⟨b, hb⟩ : ∃ b, decide (0 < (n : Int)) = b := ⟨_, rfl⟩
    refine ⟨_, rfl, _, _, rfl, rfl, b, congrArg V.bl hb, ?_⟩
    cases b with
    | false => exact iteF ⟨rfl, hp5⟩
    | true =>
    refine iteT ?_
    have h1 : 0 < (n : Int) := of_decide_eq_true hb
    have e1 : (n : Int) - 1 = ((n - 1 : Nat) : Int) := by omega
    refine ⟨_, rfl, _, _, rfl, rfl, n - 1, congrArg (fun z => [V.int z]) e1, by omega, fun H6 s6 => ?_⟩
    refine ⟨_, rfl, _, _, rfl, rfl, n - 1, congrArg (fun z => [V.int z]) e1, by omega, fun H7 s7 => ?_⟩
    refine ⟨rfl, _, rfl, ?_⟩
    exact iteNS rfl ⟨rfl, (hp5.same s6).same s7⟩
  rintro σ H6 ⟨rfl, hp6⟩
  refine ⟨_, rfl, p, q, rfl, hp6, fun t ys H7 ht6 ht7 hys ok hp7 _ => ?_⟩
  have ntp := hp6.ap ht6
  have ntq := hp6.aq ht6
  refine ⟨fun σ H' => ∃ m : Nat, m ≤ 1000 ∧ σ = S5 a p n t m ∧ HandAt H' p q ∧ H' t = some (.lst (ys.map V.str)), ?_, ?_⟩
  · refine ⟨_, rfl, p, q, 32, rfl, hp7, by decide, by decide, fun z H8 z0 z1 hp8 k8 => ?_⟩
    refine ⟨rfl, _, rfl, ?_⟩
    refine ite2 (fun _ => ?_) (fun _ => ?_)
    · exact ⟨1000, by decide, rfl, hp8, k8 t _ ht7 ntp⟩
    · refine ⟨_, rfl, p, q, 41, rfl, hp8, by decide, by decide, fun y H9 y0 y1 hp9 k9 => ?_⟩
      obtain ⟨m, rfl⟩ : ∃ m : Nat, y = m := ⟨y.toNat, by omega⟩
      exact ⟨m, by omega, rfl, hp9, k9 t _ (k8 t _ ht7 ntp) ntp⟩
  rintro σ H8 ⟨m, hm, rfl, hp8, ht8⟩
  -- the due ones
  refine ⟨by decide, fun d hd => ?_⟩
  have ndp := hp8.ap hd
  have ndq := hp8.aq hd
  have ntd : t ≠ d := ne_of_none ht8 hd
  refine ⟨_, rfl, _, rfl, t, _, rfl, .inl (SqL.of (by rw [upd_ne ntd]; exact ht8)), _, _, rfl, rfl, _, rfl, by rw [List.length_map]; omega, by rw [List.length_map]; omega, ?_⟩
  have hlen : ((m : Int) + ((ys.map V.str).length : Nat)).toNat = m + ys.length := by rw [List.length_map]; omega
  refine for_range (n := ((m : Int) + ((ys.map V.str).length : Nat)).toNat) (fun i σ H' => ∃ x, σ = S10 a p n t m d x ∧ HandAt H' p q ∧ H' t = some (.lst (ys.map V.str)) ∧ H' d = some (.lst (((fr ys i).take m).map V.str)))
    ⟨none, rfl, hp8.upd ndp ndq, by rw [upd_ne ntd]; exact ht8, upd_same.trans (by simp [fr])⟩ ?_ ?_
  · rintro i σ H9 hi ⟨x, rfl, hp9, ht9, hd9⟩
    rw [hlen] at hi
    have ei : (0 : Int) + (i : Int) = (i : Int) := Int.zero_add _
    have size : ((fr ys i).take m).length ≤ m := by rw [List.length_take]; omega
    obtain ⟨b, hb⟩ : ∃ b, decide (((((fr ys i).take m).map V.str).length : Int) < (m : Nat)) = b := ⟨_, rfl⟩
    refine ⟨_, rfl, d, _, rfl, .inl (SqL.of hd9), _, rfl, _, _, rfl, rfl, b, congrArg V.bl hb, ?_⟩
    rw [List.length_map] at hb
    cases b with
    | false =>
      have hb := of_decide_eq_false hb
      exact iteF ⟨_, rfl, hp9, ht9, by rw [due_full (by omega)]; exact hd9⟩
    | true =>
      have hb := of_decide_eq_true hb
      obtain ⟨b2, hb2⟩ : ∃ b2, (!inV (V.str (labN i)) (ys.map V.str)) = b2 := ⟨_, rfl⟩
      refine iteT ⟨_, rfl, i, congrArg (fun z => [V.int z]) ei, by omega, fun H10 s10 => ?_⟩
      refine ⟨_, rfl, t, _, rfl, .inl (SqL.of (s10 _ _ ht9)), rfl, flat_strs ys, b2, congrArg V.bl hb2, ?_⟩
      rw [inV_strs] at hb2
      cases b2 with
      | false =>
        have z : labN i ∈ ys := by
          by_cases z : labN i ∈ ys
          · exact z
          · rw [decide_eq_false z] at hb2; cases hb2
        exact iteF ⟨_, rfl, hp9.same s10, s10 _ _ ht9, by rw [due_in z]; exact s10 _ _ hd9⟩
      | true =>
        have z : ¬ labN i ∈ ys := fun z => by rw [decide_eq_true z] at hb2; cases hb2
        refine iteT ⟨_, rfl, .inl ⟨rfl, _, SqL.of (s10 _ _ hd9)⟩, _, rfl, i, congrArg (fun z => [V.int z]) ei, by omega, fun H11 s11 => ?_⟩
        refine ⟨d, _, _, rfl, rfl, s11 _ _ (s10 _ _ hd9), small1000 (by rw [List.length_map]; omega), ?_⟩
        exact ⟨_, rfl, ((hp9.same s10).same s11).upd ndp ndq, by rw [upd_ne ntd]; exact s11 _ _ (s10 _ _ ht9), by rw [upd_same, due_more (by omega) z, List.map_append]; rfl⟩
  rintro σ H9 ⟨x, rfl, hp9, ht9, hd9⟩
  rw [hlen] at hd9
  have hd9 : H9 d = some (.lst ((fresh ys m).map V.str)) := hd9
  -- what was taken is kept; the fresh ones are told
  refine ⟨_, rfl, t, _, rfl, .inl (SqL.of ht9), fun c hc => ?_⟩
  have ncp := hp9.ap hc
  have ncq := hp9.aq hc
  have ntc : t ≠ c := ne_of_none ht9 hc
  have ndc : d ≠ c := ne_of_none hd9 hc
  have hp10 := hp9.upd (o := .lst (ys.map V.str)) ncp ncq
  have ht10 : (upd H9 c (.lst (ys.map V.str))) t = some (.lst (ys.map V.str)) := by rw [upd_ne ntc]; exact ht9
  have hd10 : (upd H9 c (.lst (ys.map V.str))) d = some (.lst ((fresh ys m).map V.str)) := by rw [upd_ne ndc]; exact hd9
  have hc10 : (upd H9 c (.lst (ys.map V.str))) c = some (.lst (ys.map V.str)) := upd_same
  generalize upd H9 c (.lst (ys.map V.str)) = H10 at hp10 ht10 hd10 hc10 ⊢
  refine ⟨fun σ H' => ∃ r : Addr, σ = S12 a p n t m d x c r ∧ HandAt H' p q ∧ H' t = some (.lst (ys.map V.str)) ∧ H' d = some (.lst ((fresh ys m).map V.str)) ∧ H' c = some (.lst (ys.map V.str)) ∧ H' r = some (.tup ((fresh ys m).map V.str)), ?_, ?_⟩
  · refine ⟨_, rfl, p, q, 2, rfl, hp10, by decide, by decide, fun z H11 z0 z1 hp11 k11 => ?_⟩
    have ht11 := k11 t _ ht10 ntp
    have hd11 := k11 d _ hd10 ndp
    have hc11 := k11 c _ hc10 ncp
    refine ⟨rfl, _, rfl, ?_⟩
    refine ite2 (fun _ => ?_) (fun _ => ?_)
    · refine ⟨_, rfl, t, _, rfl, .inl ⟨SqL.of ht11, fun u hu => ?_⟩⟩
      refine ⟨_, rfl, u, ys, m, rfl, .inr upd_same, by omega, hm, fun r H12 hr0 hr12 s12 => ?_⟩
      have s := (sameUpd (Same.refl H11) (o := .tup (ys.map V.str)) hu).trans s12
      exact ⟨r, rfl, hp11.same s, s _ _ ht11, s _ _ hd11, s _ _ hc11, hr12⟩
    · refine ⟨_, rfl, _, rfl, t, ys, m, rfl, .inl ht11, by omega, hm, fun r H12 hr0 hr12 s12 => ?_⟩
      exact ⟨r, rfl, hp11.same s12, s12 _ _ ht11, s12 _ _ hd11, s12 _ _ hc11, hr12⟩
  rintro σ H11 ⟨r, rfl, hp11, ht11, hd11, hc11, hr11⟩
  have kr : Kd H11 (.ref r) "tuple" := .tup r _ hr11
  refine ⟨_, rfl, .ref r, _, _, _, _, rfl, .ty _, kr.ty, kit_ty (kit_tuple kr.kits), _, rfl, ?_⟩
  refine iteF ?_
  refine ⟨_, rfl, _, rfl, d, _, rfl, .inl ⟨SqL.of hd11, fun u hu => ?_⟩⟩
  have nup := hp11.ap hu
  have nuq := hp11.aq hu
  have hr12 : ∀ o, (upd H11 u o) r = some (.tup ((fresh ys m).map V.str)) := fun o => by rw [upd_ne (ne_of_none hr11 hu)]; exact hr11
  have ht12 : ∀ o, (upd H11 u o) t = some (.lst (ys.map V.str)) := fun o => by rw [upd_ne (ne_of_none ht11 hu)]; exact ht11
  have hc12 : ∀ o, (upd H11 u o) c = some (.lst (ys.map V.str)) := fun o => by rw [upd_ne (ne_of_none hc11 hu)]; exact hc11
  refine ⟨_, _, .tup (SqT.of (hr12 _)) (dp_strs _), .tup (SqT.of upd_same) (dp_strs _), shaped_tup (fresh_ok ys m), shaped_tup (fresh_ok ys m), _, rfl, ?_⟩
  rw [eqv_tup (fresh_ok ys m)]
  refine iteF ?_
  refine ⟨_, rfl, _, rfl, _, _, .lst (SqL.of (ht12 _)) (dp_strs _), .lst (SqL.of (hc12 _)) (dp_strs _), shaped_list ok, shaped_list ok, _, rfl, ?_⟩
  rw [eqv_list ok]
  refine iteF ?_
  -- six odd things
  refine ⟨6, rfl, by decide, by decide, for_range (n := 6) (fun i σ H' => ∃ k o, σ = S14 a p n t m d x c r k o none none none none ∧ HandAt H' p q) ⟨none, none, rfl, hp11.upd nup nuq⟩ ?_ ?_⟩
  · rintro i σ H12 _ ⟨k, o, rfl, hp12⟩
    refine ⟨_, rfl, p, q, rfl, hp12, fun y ty H13 kd fine hp13 _ => ?_⟩
    have lens : ∀ z, y = .str z → z.length ≤ sizeLine := fun z e => Nat.le_of_lt (small1000 (by have := (fine z e).2; omega))
    refine ⟨_, rfl, y, ty, rfl, kd, lens, _, rfl, y, ty, rfl, kd, fun H14 s14 => ?_⟩
    refine ⟨(by show 2 ≤ sizeLine; decide), fun u hu => ?_⟩
    have g1 := d2_ok (labV y) (seqV ty)
    refine ⟨u, d2 (labV y) (seqV ty), rfl, .tup (SqT.of upd_same) (.cons (.bl _) (.cons (.bl _) .nil)), g1.1, g1.2.1, g1.2.2, d2_len _ _, ?_⟩
    have s15 := s14.trans (sameUpd (Same.refl H14) (o := .tup [.bl (labV y), .bl (seqV ty)]) hu)
    refine ⟨_, rfl, y, ty, rfl, kd.keep s15, fine, fun H16 s16 => ?_⟩
    refine ⟨_, rfl, (by show 2 ≤ sizeLine; decide), fun v hv => ?_⟩
    have s17 := (s15.trans s16).trans (sameUpd (Same.refl H16) (o := .tup [.ty "list", .ty "tuple"]) hv)
    refine ⟨y, v, _, _, _, _, rfl, upd_same, .cons (.ty _) (.cons (.ty _) .nil), (kd.keep s17).ty, kit_seq kd.kits, ?_⟩
    refine ⟨(by show 2 ≤ sizeLine; decide), fun z hz => ?_⟩
    refine ⟨z, d2 (labV y) (seqV ty), rfl, .tup (SqT.of upd_same) (.cons (.bl _) (.cons (.bl _) .nil)), g1.1, g1.2.1, g1.2.2, d2_len _ _, ?_⟩
    refine ⟨rfl, _, rfl, ?_⟩
    exact iteNS rfl ⟨_, _, rfl, hp13.same (s17.trans (sameUpd (Same.refl _) hz))⟩
  rintro σ H12 ⟨k, o, rfl, hp12⟩
  -- whole numbers
  have p6 : (10 : Int) ^ (6 : Int).toNat = 1000000 := by decide
  have p30 : (10 : Int) ^ (30 : Int).toNat = 1000000000000000000000000000000 := by decide
  refine ⟨_, rfl, _, _, rfl, rfl, ⟨by decide, by decide, by decide⟩, p, q, _, rfl, hp12, by rw [p6]; decide, by rw [p6]; decide, fun z H13 z0 z1 hp13 _ => ?_⟩
  rw [p6] at z1
  refine ⟨_, _, rfl, rfl, ?_⟩
  refine ⟨_, rfl, _, rfl, _, _, rfl, rfl, ⟨by decide, by decide, by decide⟩, p, q, _, rfl, hp13, by rw [p30]; decide, by rw [p30]; decide, fun y H14 y0 y1 hp14 _ => ?_⟩
  rw [p30] at y1
  refine ⟨_, _, rfl, rfl, ?_⟩
  have big : ∀ j : Int, -1000000 ≤ j → j ≤ 2000000000000000000000000000000 → j.natAbs < 2 ^ 200 := fun j h1 h2 => by
    have : (2 : Nat) ^ 200 > 2000000000000000000000000000000 := by decide
    omega
  refine ⟨fun σ H' => ∃ lo hi mid : Int, σ = S14 a p n t m d x c r k o (some (.int lo)) (some (.int hi)) (some (.int mid)) none ∧ lo ≤ mid ∧ mid ≤ hi ∧ mid.natAbs < 2 ^ 200, ?_, ?_⟩
  · refine ⟨_, rfl, _, rfl, _, rfl, _, rfl, _, _, rfl, rfl, _, _, rfl, rfl, p, q, _, rfl, hp14, by omega, big _ (by omega) (by omega), fun w H15 w0 w1 hp15 _ => ?_⟩
    exact ⟨_, _, rfl, rfl, _, _, _, rfl, by omega, by omega, big _ (by omega) (by omega)⟩
  rintro σ H15 ⟨lo, hi, mid, rfl, b1, b2, b3⟩
  have yes : ∀ v : Int, lo ≤ v → v ≤ hi → wholeV (.int v) lo hi = true := fun v h1 h2 => by simp [wholeV, h1, h2]
  have no : ∀ v : Int, ¬ (lo ≤ v ∧ v ≤ hi) → wholeV (.int v) lo hi = false := fun v h => by
    show (decide (lo ≤ v) && decide (v ≤ hi)) = false
    by_cases h1 : lo ≤ v
    · rw [decide_eq_false (show ¬ v ≤ hi from fun h2 => h ⟨h1, h2⟩), Bool.and_false]
    · rw [decide_eq_false h1, Bool.false_and]
  refine ⟨_, rfl, _, rfl, _, rfl, (by show 3 ≤ sizeLine; decide), fun l hl => ?_⟩
  refine ⟨l, rfl, ⟨_, SqL.of upd_same⟩, for_list (K := K) (a := l) (xs := [.int lo, .int hi, .int mid]) (fun i σ H' => ∃ th, σ = S14 a p n t m d x c r k o (some (.int lo)) (some (.int hi)) (some (.int mid)) th ∧ H' l = some (.lst [.int lo, .int hi, .int mid])) ⟨none, rfl, upd_same⟩ (fun i σ H' _ ⟨_, _, h⟩ => SqL.of h) ?_ ?_⟩
  · rintro i v σ H16 hv ⟨th, rfl, hl2⟩
    have hm := List.mem_of_getElem? hv
    have hw : wholeV v lo hi = true ∧ Kd H16 v "int" := by
      simp only [List.mem_cons, List.not_mem_nil, or_false] at hm
      rcases hm with e | e | e <;> subst e
      · exact ⟨yes _ (by omega) (by omega), .int _⟩
      · exact ⟨yes _ (by omega) (by omega), .int _⟩
      · exact ⟨yes _ (by omega) (by omega), .int _⟩
    refine ⟨_, rfl, _, rfl, _, rfl, v, _, lo, hi, rfl, hw.2, wholeV v lo hi, true, rfl, rfl, _, rfl, ?_⟩
    exact iteNS hw.1 ⟨_, rfl, hl2⟩
  rintro σ H16 ⟨th, rfl, hl2⟩
  have hstr : mid.natAbs.log2 < 1920 := Nat.lt_trans (PySem.Flt.log2_lt_of (by decide) b3) (by decide)
  refine ⟨_, rfl, _, _, rfl, rfl, _, rfl, _, _, rfl, rfl, _, rfl, _, rfl, hstr, _, rfl, (by show 1 ≤ sizeLine; decide), fun u hu => ?_⟩
  refine ⟨_, rfl, (by show 1 ≤ sizeLine; decide), fun v hv => ?_⟩
  refine ⟨(by show 6 ≤ sizeLine; decide), fun l2 hl3 => ?_⟩
  obtain ⟨hv0, nvu⟩ := none2 hv
  obtain ⟨hl4, nlv⟩ := none2 hl3
  obtain ⟨hl5, nlu⟩ := none2 hl4
  refine ⟨l2, rfl, ⟨_, SqL.of upd_same⟩, for_list (K := K) (a := l2) (xs := [.int (lo - 1), .int (hi + 1), .non, .str (toString mid), .ref u, .ref v]) (fun i σ H' => ∃ th, σ = S14 a p n t m d x c r k o (some (.int lo)) (some (.int hi)) (some (.int mid)) th ∧
    H' l2 = some (.lst [.int (lo - 1), .int (hi + 1), .non, .str (toString mid), .ref u, .ref v]) ∧ H' u = some (.lst [.int mid]) ∧ H' v = some (.tup [.int mid])) ⟨_, rfl, upd_same, ?_, ?_⟩ (fun i σ H' _ ⟨_, _, h, _⟩ => SqL.of h) ?_ ?_⟩
  · rw [upd_ne nlu.symm, upd_ne nvu.symm, upd_same]
  · rw [upd_ne nlv.symm, upd_same]
  · rintro i y σ H17 hy ⟨th, rfl, h1, h2, h3⟩
    have hm := List.mem_of_getElem? hy
    have hw : wholeV y lo hi = false ∧ ∃ ty, Kd H17 y ty := by
      simp only [List.mem_cons, List.not_mem_nil, or_false] at hm
      rcases hm with e | e | e | e | e | e <;> subst e
      · exact ⟨no _ (by omega), _, .int _⟩
      · exact ⟨no _ (by omega), _, .int _⟩
      · exact ⟨rfl, _, .non⟩
      · exact ⟨rfl, _, .str _⟩
      · exact ⟨rfl, _, .lst _ _ h2⟩
      · exact ⟨rfl, _, .tup _ _ h3⟩
    obtain ⟨hw, ty, kd⟩ := hw
    refine ⟨_, rfl, _, rfl, _, rfl, y, ty, lo, hi, rfl, kd, wholeV y lo hi, false, rfl, rfl, _, rfl, ?_⟩
    exact iteNS hw ⟨_, rfl, h1, h2, h3⟩
  rintro σ H17 ⟨th, rfl, _, _, _⟩
  refine ⟨.bl true, "bool", 0, 1, rfl, .bl _, false, false, rfl, rfl, true, rfl, ?_⟩
  refine iteT ⟨.bl false, "bool", 0, 1, rfl, .bl _, false, false, rfl, rfl, true, rfl, ?_⟩
  refine iteT ⟨.int 1, "int", 0, 1, rfl, .int _, true, true, rfl, rfl, true, rfl, ?_⟩
  refine iteT ⟨_, rfl, _, rfl, _, rfl, .int lo, "int", lo, lo, rfl, .int _, wholeV (.int lo) lo lo, true, rfl, rfl, ?_⟩
  have e : wholeV (.int lo) lo lo = true := by simp [wholeV]
  show V.bl (decide (wholeV (.int lo) lo lo = true)) = V.bl true
  rw [e]
  rfl
end
end Kx

set_option maxHeartbeats 8000000
namespace Kx
open PySem PySem.Spec PyProof.Rows L2
theorem all_mk {l : PySem.W.OpenLaw} {w : World} {K : PySem.W.Frag} {h : Heap} {mg : Str → Option Value} {fa : Addr} {t1 t2 : Tok} (X : K.In h) (G : h.Ns mainGlobals mg) (hfa : mg "law" = some (.ref fa))
    {f0 f1 f2 f3 f4 f5 f6 f7 f8 f9 f10 f11 f12 f13 f14 f15 : Addr} {od0 an0 od1 an1 od2 an2 od3 an3 od4 an4 od5 an5 od6 an6 od7 an7 od8 an8 od9 an9 od10 an10 od11 an11 od12 an12 od13 an13 od14 an14 od15 an15 : Option Addr} {sl0 sl1 sl2 sl3 sl4 sl5 sl6 sl7 sl8 sl9 sl10 sl11 sl12 sl13 sl14 sl15 : Array (Option Value)} {oc0 kV0 dc0 pm0 cd0 ct0 oc1 kV1 dc1 pm1 cd1 ct1 oc2 kV2 dc2 pm2 cd2 ct2 oc3 kV3 dc3 pm3 cd3 ct3 oc4 kV4 dc4 pm4 cd4 ct4 oc5 kV5 dc5 pm5 cd5 ct5 oc6 kV6 dc6 pm6 cd6 ct6 oc7 kV7 dc7 pm7 cd7 ct7 oc8 kV8 dc8 pm8 cd8 ct8 oc9 kV9 dc9 pm9 cd9 ct9 oc10 kV10 dc10 pm10 cd10 ct10 oc11 kV11 dc11 pm11 cd11 ct11 oc12 kV12 dc12 pm12 cd12 ct12 oc13 kV13 dc13 pm13 cd13 ct13 oc14 kV14 dc14 pm14 cd14 ct14 oc15 kV15 dc15 pm15 cd15 ct15 : Value}
    (a0 : PySem.W.nsIn K mainGlobals "is_whole" = some (some (.ref f0))) (l0 : K.lookup f0 = some ⟨oc0, od0, .func (PySem.W.fnOf "is_whole" "is_whole" (defArgs sWhole) (defBody sWhole) (defScope sWhole) .none kV0 dc0 pm0 an0 cd0 ct0), sl0⟩) (c0 : PySem.W.codeIn K cd0 "is_whole" = true) (k0 : PySem.W.keepIn K (.ref f0) = true)
    (a1 : PySem.W.nsIn K mainGlobals "is_label" = some (some (.ref f1))) (l1 : K.lookup f1 = some ⟨oc1, od1, .func (PySem.W.fnOf "is_label" "is_label" (defArgs sLabel) (defBody sLabel) (defScope sLabel) .none kV1 dc1 pm1 an1 cd1 ct1), sl1⟩) (c1 : PySem.W.codeIn K cd1 "is_label" = true) (k1 : PySem.W.keepIn K (.ref f1) = true)
    (a2 : PySem.W.nsIn K mainGlobals "is_sequence" = some (some (.ref f2))) (l2 : K.lookup f2 = some ⟨oc2, od2, .func (PySem.W.fnOf "is_sequence" "is_sequence" (defArgs sSeq) (defBody sSeq) (defScope sSeq) .none kV2 dc2 pm2 an2 cd2 ct2), sl2⟩) (c2 : PySem.W.codeIn K cd2 "is_sequence" = true) (k2 : PySem.W.keepIn K (.ref f2) = true)
    (a3 : PySem.W.nsIn K mainGlobals "label_at" = some (some (.ref f3))) (l3 : K.lookup f3 = some ⟨oc3, od3, .func (PySem.W.fnOf "label_at" "label_at" (defArgs sAt) (defBody sAt) (defScope sAt) .none kV3 dc3 pm3 an3 cd3 ct3), sl3⟩) (c3 : PySem.W.codeIn K cd3 "label_at" = true) (k3 : PySem.W.keepIn K (.ref f3) = true)
    (a4 : PySem.W.nsIn K mainGlobals "fresh_labels" = some (some (.ref f4))) (l4 : K.lookup f4 = some ⟨oc4, od4, .func (PySem.W.fnOf "fresh_labels" "fresh_labels" (defArgs sFresh) (defBody sFresh) (defScope sFresh) .none kV4 dc4 pm4 an4 cd4 ct4), sl4⟩) (c4 : PySem.W.codeIn K cd4 "fresh_labels" = true) (k4 : PySem.W.keepIn K (.ref f4) = true)
    (a5 : PySem.W.nsIn K mainGlobals "_law_mix" = some (some (.ref f5))) (l5 : K.lookup f5 = some ⟨oc5, od5, .func (PySem.W.fnOf "_law_mix" "_law_mix" (defArgs sMix) (defBody sMix) (defScope sMix) .none kV5 dc5 pm5 an5 cd5 ct5), sl5⟩) (c5 : PySem.W.codeIn K cd5 "_law_mix" = true) (k5 : PySem.W.keepIn K (.ref f5) = true)
    (a6 : PySem.W.nsIn K mainGlobals "_law_hand" = some (some (.ref f6))) (l6 : K.lookup f6 = some ⟨oc6, od6, .func (PySem.W.fnOf "_law_hand" "_law_hand" (defArgs sHand) (defBody sHand) (defScope sHand) .none kV6 dc6 pm6 an6 cd6 ct6), sl6⟩) (c6 : PySem.W.codeIn K cd6 "_law_hand" = true) (k6 : PySem.W.keepIn K (.ref f6) = true)
    (a7 : PySem.W.nsIn K mainGlobals "_law_draw" = some (some (.ref f7))) (l7 : K.lookup f7 = some ⟨oc7, od7, .func (PySem.W.fnOf "_law_draw" "_law_draw" (defArgs sDraw) (defBody sDraw) (defScope sDraw) .none kV7 dc7 pm7 an7 cd7 ct7), sl7⟩) (c7 : PySem.W.codeIn K cd7 "_law_draw" = true) (k7 : PySem.W.keepIn K (.ref f7) = true)
    (a8 : PySem.W.nsIn K mainGlobals "_law_one" = some (some (.ref f8))) (l8 : K.lookup f8 = some ⟨oc8, od8, .func (PySem.W.fnOf "_law_one" "_law_one" (defArgs sOne) (defBody sOne) (defScope sOne) .none kV8 dc8 pm8 an8 cd8 ct8), sl8⟩) (c8 : PySem.W.codeIn K cd8 "_law_one" = true) (k8 : PySem.W.keepIn K (.ref f8) = true)
    (a9 : PySem.W.nsIn K mainGlobals "_law_word" = some (some (.ref f9))) (l9 : K.lookup f9 = some ⟨oc9, od9, .func (PySem.W.fnOf "_law_word" "_law_word" (defArgs sWord) (defBody sWord) (defScope sWord) .none kV9 dc9 pm9 an9 cd9 ct9), sl9⟩) (c9 : PySem.W.codeIn K cd9 "_law_word" = true) (k9 : PySem.W.keepIn K (.ref f9) = true)
    (a10 : PySem.W.nsIn K mainGlobals "_law_label" = some (some (.ref f10))) (l10 : K.lookup f10 = some ⟨oc10, od10, .func (PySem.W.fnOf "_law_label" "_law_label" (defArgs sLLabel) (defBody sLLabel) (defScope sLLabel) .none kV10 dc10 pm10 an10 cd10 ct10), sl10⟩) (c10 : PySem.W.codeIn K cd10 "_law_label" = true) (k10 : PySem.W.keepIn K (.ref f10) = true)
    (a11 : PySem.W.nsIn K mainGlobals "_law_odd" = some (some (.ref f11))) (l11 : K.lookup f11 = some ⟨oc11, od11, .func (PySem.W.fnOf "_law_odd" "_law_odd" (defArgs sOdd) (defBody sOdd) (defScope sOdd) .none kV11 dc11 pm11 an11 cd11 ct11), sl11⟩) (c11 : PySem.W.codeIn K cd11 "_law_odd" = true) (k11 : PySem.W.keepIn K (.ref f11) = true)
    (a12 : PySem.W.nsIn K mainGlobals "_law_label_at" = some (some (.ref f12))) (l12 : K.lookup f12 = some ⟨oc12, od12, .func (PySem.W.fnOf "_law_label_at" "_law_label_at" (defArgs sLAt) (defBody sLAt) (defScope sLAt) .none kV12 dc12 pm12 an12 cd12 ct12), sl12⟩) (c12 : PySem.W.codeIn K cd12 "_law_label_at" = true) (k12 : PySem.W.keepIn K (.ref f12) = true)
    (a13 : PySem.W.nsIn K mainGlobals "_law_index" = some (some (.ref f13))) (l13 : K.lookup f13 = some ⟨oc13, od13, .func (PySem.W.fnOf "_law_index" "_law_index" (defArgs sIndex) (defBody sIndex) (defScope sIndex) .none kV13 dc13 pm13 an13 cd13 ct13), sl13⟩) (c13 : PySem.W.codeIn K cd13 "_law_index" = true) (k13 : PySem.W.keepIn K (.ref f13) = true)
    (a14 : PySem.W.nsIn K mainGlobals "_law_taken" = some (some (.ref f14))) (l14 : K.lookup f14 = some ⟨oc14, od14, .func (PySem.W.fnOf "_law_taken" "_law_taken" (defArgs sTaken) (defBody sTaken) (defScope sTaken) .none kV14 dc14 pm14 an14 cd14 ct14), sl14⟩) (c14 : PySem.W.codeIn K cd14 "_law_taken" = true) (k14 : PySem.W.keepIn K (.ref f14) = true)
    (a15 : PySem.W.nsIn K mainGlobals "law" = some (some (.ref f15))) (l15 : K.lookup f15 = some ⟨oc15, od15, .func (PySem.W.fnOf "law" "law" (defArgs sLaw) (defBody sLaw) (defScope sLaw) .none kV15 dc15 pm15 an15 cd15 ct15), sl15⟩) (c15 : PySem.W.codeIn K cd15 "law" = true) (k15 : PySem.W.keepIn K (.ref f15) = true)
    (z_int : PySem.W.nsIn K mainGlobals "int" = some none)
    (z_abs : PySem.W.nsIn K mainGlobals "abs" = some none)
    (z_len : PySem.W.nsIn K mainGlobals "len" = some none)
    (z_enumerate : PySem.W.nsIn K mainGlobals "enumerate" = some none)
    (z_range : PySem.W.nsIn K mainGlobals "range" = some none)
    (z_isinstance : PySem.W.nsIn K mainGlobals "isinstance" = some none)
    (z_str : PySem.W.nsIn K mainGlobals "str" = some none)
    (z_bool : PySem.W.nsIn K mainGlobals "bool" = some none)
    (z_list : PySem.W.nsIn K mainGlobals "list" = some none)
    (z_tuple : PySem.W.nsIn K mainGlobals "tuple" = some none)
    (z_divmod : PySem.W.nsIn K mainGlobals "divmod" = some none)
    (z_set : PySem.W.nsIn K mainGlobals "set" = some none)
    (z_repr : PySem.W.nsIn K mainGlobals "repr" = some none)
    (y1 : PySem.W.nsIn K mainGlobals "LETTERS" = some (some (.str "abcdefghijklmnopqrstuvwxyz" t1))) (y2 : PySem.W.nsIn K mainGlobals "LONGEST_LABEL" = some (some (.int 6 t2))) :
    ∀ (base : Heap) (s : Shared) (H : Hp) (a : Addr) (ns : List Int), K.In base → base.Ns mainGlobals mg → Env0 l.prog w K mg base callerA [] s H → SqL K H a (ns.map V.int) → ns.length ≤ 63 →
      codeAny (model l.prog w) callerA (.call (.ref fa) ⟨[.ref a], []⟩) (CR CX0 [] l.prog w H s QT EF) s := by
  have e := hfa.symm.trans (PySem.W.mg_of X G a15)
  cases e
  intro base s H a ns _ _ e0 hS hn
  have T : Bl mg := ⟨(PySem.W.mg_none_of X G z_int), (PySem.W.mg_none_of X G z_abs), (PySem.W.mg_none_of X G z_len), (PySem.W.mg_none_of X G z_enumerate), (PySem.W.mg_none_of X G z_range)⟩
  have B : Bm mg := ⟨(PySem.W.mg_none_of X G z_isinstance), (PySem.W.mg_none_of X G z_str), (PySem.W.mg_none_of X G z_bool), (PySem.W.mg_none_of X G z_list), (PySem.W.mg_none_of X G z_tuple), (PySem.W.mg_none_of X G z_divmod), ⟨_, PySem.W.mg_of X G y1⟩, ⟨_, PySem.W.mg_of X G y2⟩⟩
  have R : Rp mg := ⟨(PySem.W.mg_none_of X G z_repr)⟩
  have mix := ok_mix (P := l.prog) (w := w) (base := base) (fun_mk (st := sMix) l5 c5 k5) (PySem.W.mg_of X G a5) T
  have draw := ok_draw (P := l.prog) (w := w) (base := base) (fun_mk (st := sDraw) l7 c7 k7) (PySem.W.mg_of X G a7) T mix
  have hand := ok_hand (P := l.prog) (w := w) (base := base) (fun_mk (st := sHand) l6 c6 k6) (PySem.W.mg_of X G a6) T
  have one := ok_one (P := l.prog) (w := w) (base := base) (fun_mk (st := sOne) l8 c8 k8) (PySem.W.mg_of X G a8) T draw
  have word := ok_word (P := l.prog) (w := w) (base := base) (fun_mk (st := sWord) l9 c9 k9) (PySem.W.mg_of X G a9) T draw
  have whole := ok_whole (P := l.prog) (w := w) (base := base) (fun_mk (st := sWhole) l0 c0 k0) (PySem.W.mg_of X G a0) T B
  have label := ok_label (P := l.prog) (w := w) (base := base) (fun_mk (st := sLabel) l1 c1 k1) (PySem.W.mg_of X G a1) T B
  have seq := ok_seq (P := l.prog) (w := w) (base := base) (fun_mk (st := sSeq) l2 c2 k2) (PySem.W.mg_of X G a2) B
  have at_ := ok_at (P := l.prog) (w := w) (base := base) (fun_mk (st := sAt) l3 c3 k3) (PySem.W.mg_of X G a3) T B
  have fresh := ok_fresh (P := l.prog) (w := w) (base := base) (fun_mk (st := sFresh) l4 c4 k4) (PySem.W.mg_of X G a4) T B (PySem.W.mg_none_of X G z_set) at_
  have llab := ok_llab (P := l.prog) (w := w) (base := base) (fun_mk (st := sLLabel) l10 c10 k10) (PySem.W.mg_of X G a10) T B
  have odd := ok_odd (P := l.prog) (w := w) (base := base) (fun_mk (st := sOdd) l11 c11 k11) (PySem.W.mg_of X G a11) word one
  have lat := ok_lat (P := l.prog) (w := w) (base := base) (fun_mk (st := sLAt) l12 c12 k12) (PySem.W.mg_of X G a12) T
  have index := ok_index (P := l.prog) (w := w) (base := base) (fun_mk (st := sIndex) l13 c13 k13) (PySem.W.mg_of X G a13) T draw
  have taken := ok_taken (P := l.prog) (w := w) (base := base) (fun_mk (st := sTaken) l14 c14 k14) (PySem.W.mg_of X G a14) T B draw word one lat
  have A : All l.prog w K mg base := ⟨hand, draw, odd, llab, lat, index, taken, at_, fresh, label, seq, whole⟩
  exact law_at (fun_mk (st := sLaw) l15 c15 k15) scLaw ⟨rfl, by decide, by decide⟩ (body_law T B R A) (fun s v => .of_eq rfl) e0 hS hn
end Kx
open PySem PySem.W PyProof.Rows
set_option maxRecDepth 100000 in
set_option maxHeartbeats 0 in
theorem PySem.Challenge.cw_searchback_k02_whole_labels_in_order_holds : PySem.Challenge.rw_searchback_k02_whole_labels_in_order.Holds := by
  w_on; o_law; k_head; (case hw => w_witness2)
  k_fill
  refine Kx.law_walk (l := PySem.Challenge.rw_searchback_k02_whole_labels_in_order) rfl rfl (fun w h Y => PySem.W.kIn_of Y) ?F
  case F =>
    intro w mg fa h KX G hmg
    refine' Kx.all_mk KX G hmg ?a0 ?l0 ?c0 ?k0 ?a1 ?l1 ?c1 ?k1 ?a2 ?l2 ?c2 ?k2 ?a3 ?l3 ?c3 ?k3 ?a4 ?l4 ?c4 ?k4 ?a5 ?l5 ?c5 ?k5 ?a6 ?l6 ?c6 ?k6 ?a7 ?l7 ?c7 ?k7 ?a8 ?l8 ?c8 ?k8 ?a9 ?l9 ?c9 ?k9 ?a10 ?l10 ?c10 ?k10 ?a11 ?l11 ?c11 ?k11 ?a12 ?l12 ?c12 ?k12 ?a13 ?l13 ?c13 ?k13 ?a14 ?l14 ?c14 ?k14 ?a15 ?l15 ?c15 ?k15 ?z_int ?z_abs ?z_len ?z_enumerate ?z_range ?z_isinstance ?z_str ?z_bool ?z_list ?z_tuple ?z_divmod ?z_set ?z_repr ?y1 ?y2
    (case a0 => k_is)
    (case l0 => k_is)
    (case c0 => k_is)
    (case k0 => k_is)
    (case a1 => k_is)
    (case l1 => k_is)
    (case c1 => k_is)
    (case k1 => k_is)
    (case a2 => k_is)
    (case l2 => k_is)
    (case c2 => k_is)
    (case k2 => k_is)
    (case a3 => k_is)
    (case l3 => k_is)
    (case c3 => k_is)
    (case k3 => k_is)
    (case a4 => k_is)
    (case l4 => k_is)
    (case c4 => k_is)
    (case k4 => k_is)
    (case a5 => k_is)
    (case l5 => k_is)
    (case c5 => k_is)
    (case k5 => k_is)
    (case a6 => k_is)
    (case l6 => k_is)
    (case c6 => k_is)
    (case k6 => k_is)
    (case a7 => k_is)
    (case l7 => k_is)
    (case c7 => k_is)
    (case k7 => k_is)
    (case a8 => k_is)
    (case l8 => k_is)
    (case c8 => k_is)
    (case k8 => k_is)
    (case a9 => k_is)
    (case l9 => k_is)
    (case c9 => k_is)
    (case k9 => k_is)
    (case a10 => k_is)
    (case l10 => k_is)
    (case c10 => k_is)
    (case k10 => k_is)
    (case a11 => k_is)
    (case l11 => k_is)
    (case c11 => k_is)
    (case k11 => k_is)
    (case a12 => k_is)
    (case l12 => k_is)
    (case c12 => k_is)
    (case k12 => k_is)
    (case a13 => k_is)
    (case l13 => k_is)
    (case c13 => k_is)
    (case k13 => k_is)
    (case a14 => k_is)
    (case l14 => k_is)
    (case c14 => k_is)
    (case k14 => k_is)
    (case a15 => k_is)
    (case l15 => k_is)
    (case c15 => k_is)
    (case k15 => k_is)
    (case z_int => k_is)
    (case z_abs => k_is)
    (case z_len => k_is)
    (case z_enumerate => k_is)
    (case z_range => k_is)
    (case z_isinstance => k_is)
    (case z_str => k_is)
    (case z_bool => k_is)
    (case z_list => k_is)
    (case z_tuple => k_is)
    (case z_divmod => k_is)
    (case z_set => k_is)
    (case z_repr => k_is)
    (case y1 => k_is)
    (case y2 => k_is)

