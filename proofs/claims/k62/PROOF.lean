import PyProof.Rows.All
import Wide.All
import OpenK.AllK
import Wide.FinOn
import KE.KStateDown
import KE.KExcIs
import HandS.ForMost
import HandS.ExcInit
import HandS.IsInst
import HandS.ExcIs
import HandS.Defaults
import HandS.Nested
import HandS.NoneIn
import HandS.ListEq
import HandS.HeadEnd
import HandS.Head2
import HandS.Head3
import HandS.HeadHook4
import HandS.HeadWalk
import HandS.Wide
import HandS.Walk
import HandS.Zip
import HandS.More
import HandS.Lambda
import HandS.ExcField
import HandS.ForExc
import HandS.Gcd
import HandS.TryMany
import PySem.Challenge.RW_pagefall_k62_forms_told
set_option Elab.async false
set_option linter.all false
set_option maxRecDepth 100000
set_option maxHeartbeats 4000000
namespace LW
open PySem PySem.Spec PyProof.Rows L2
/-! ### the text by places -/
def top (i : Nat) : Stmt := PySem.Challenge.pw_pagefall_k62_forms_told.main.body.getD i (.Pass ⟨0, 0, 0, 0⟩)
-- 0 from math import gcd
-- 1 __name__ = 'pagefall.errors'
abbrev c_PageError : Stmt := top 2
abbrev c_BadWidth : Stmt := top 3
abbrev m_BadWidth_init : Stmt := inClass (top 3) 0
-- 4 __name__ = 'pagefall.kinds'
abbrev s_is_list : Stmt := top 5
abbrev s_is_integer : Stmt := top 6
abbrev s_is_whole : Stmt := top 7
abbrev s_is_width : Stmt := top 8
-- 9 __name__ = 'pagefall.ratios'
abbrev s_is_fraction : Stmt := top 10
abbrev s_lowest : Stmt := top 11
abbrev s_plus : Stmt := top 12
abbrev s_times : Stmt := top 13
-- 14 __name__ = 'pagefall.refusals'
abbrev c_BadForm : Stmt := top 15
abbrev m_BadForm_init : Stmt := inClass (top 15) 0
abbrev c_BadFraction : Stmt := top 16
abbrev m_BadFraction_init : Stmt := inClass (top 16) 0
-- 17 __name__ = 'pagefall.forms'
abbrev s_is_form : Stmt := top 18
abbrev s_check_form : Stmt := top 19
abbrev s_form_worth : Stmt := top 20
abbrev s_worth_at : Stmt := top 21
abbrev s_form_sum : Stmt := top 22
abbrev s_form_times : Stmt := top 23
-- 24 __name__ = 'law_pagefall_k62_forms_told'
abbrev s__law_source : Stmt := top 25
abbrev s__law_draw : Stmt := top 26
abbrev s__law_pick : Stmt := top 27
abbrev s__law_same : Stmt := top 28
abbrev s__law_lowest : Stmt := top 29
abbrev s__law_plus : Stmt := top 30
abbrev s__law_times : Stmt := top 31
abbrev s__law_at : Stmt := top 32
abbrev s__law_loose : Stmt := top 33
abbrev s__law_wide : Stmt := top 34
abbrev s__law_some_fraction : Stmt := top 35
abbrev s__law_some_form : Stmt := top 36
abbrev s__law_odd_fractions : Stmt := top 37
abbrev s__law_odd_forms : Stmt := top 38
abbrev s__law_met : Stmt := top 39
abbrev s__law_refused_right : Stmt := top 40
abbrev s_law : Stmt := top 41
end LW
namespace LW
open PySem PySem.Spec PyProof.Rows L2

/-! ### small things -/
def scP (N P : List Str) (sc : Scope) : Bool :=
  decide (sc.kind = .function) && (!sc.isCoroutine && (!sc.isGenerator && (decide N.Nodup && (decide (N.take P.length = P) && (P.all (fun x => decide (sc.names.lookup x = some .local) || decide (sc.names.lookup x = some .cell)) && sc.names.all (fun y => !decide (y.2 = .free)))))))
theorem scP_ok {N P : List Str} {sc : Scope} (h : scP N P sc = true) : FnScope N P sc := by
  unfold scP at h
  simp only [Bool.and_eq_true, Bool.not_eq_true', decide_eq_true_eq, List.all_eq_true, Bool.or_eq_true, decide_eq_false_iff_not] at h
  obtain ⟨h1, h2, h3, h4, h5, h6, h7⟩ := h
  exact ⟨h1, h2, h3, h4, h5, h6, h7⟩
theorem iteT {p q : Prop} {b : Bool} (h : b = true) (hp : p) : if b = true then p else q := by
  subst h
  exact hp
theorem iteF {p q : Prop} {b : Bool} (h : b = false) (hq : q) : if b = true then p else q := by
  subst h
  exact hq
theorem iteB {p q : Prop} {b : Bool} (hp : b = true → p) (hq : b = false → q) : if b = true then p else q := by
  cases b with
  | true => exact hp rfl
  | false => exact hq rfl
theorem le_sz {n : Nat} (h : Nat.ble n 100 = true) : n ≤ sizeLine := Nat.le_trans (Nat.le_of_ble_eq_true h) (by decide)
/-- all stays as it is -/
abbrev Kp (H H' : Hp) : Prop := ∀ b o, H b = some o → H' b = some o
theorem kp_new {H : Hp} {l : Addr} {o : HO} (h : H l = none) : Kp H (upd H l o) := fun b u e => by
  rw [upd_ne (ne_of_none e h)]
  exact e
/-- but at s all stays as it is -/
abbrev KpB (s : Addr) (H H' : Hp) : Prop := ∀ b o, b ≠ s → H b = some o → H' b = some o
theorem KpB.put {s : Addr} {H : Hp} {o : HO} : KpB s H (upd H s o) := fun b u h e => by
  rw [upd_ne h]
  exact e
theorem KpB.trans {s : Addr} {H H1 H2 : Hp} (a : KpB s H H1) (b : KpB s H1 H2) : KpB s H H2 := fun c o h e => b c o h (a c o h e)
theorem KpB.of {s : Addr} {H H' : Hp} (k : Kp H H') : KpB s H H' := fun b o _ e => k b o e
theorem SqL.kpB {K : PySem.W.Frag} {s a : Addr} {H H' : Hp} {xs : List V} (h : SqL K H a xs) (k : KpB s H H') (n : a ≠ s) : SqL K H' a xs := by
  rcases h with (h | ⟨o, h⟩) | h
  · exact .inl (.inl (k _ _ n h))
  · exact .inl (.inr ⟨o, k _ _ n h⟩)
  · exact .inr h
theorem SqT.kpB {K : PySem.W.Frag} {s a : Addr} {H H' : Hp} {xs : List V} (h : SqT K H a xs) (k : KpB s H H') (n : a ≠ s) : SqT K H' a xs := by
  rcases h with (h | ⟨o, h⟩) | h
  · exact .inl (.inl (k _ _ n h))
  · exact .inl (.inr ⟨o, k _ _ n h⟩)
  · exact .inr h
theorem SqL.kp {K : PySem.W.Frag} {a : Addr} {H H' : Hp} {xs : List V} (h : SqL K H a xs) (k : Kp H H') : SqL K H' a xs := by
  rcases h with (h | ⟨o, h⟩) | h
  · exact .inl (.inl (k _ _ h))
  · exact .inl (.inr ⟨o, k _ _ h⟩)
  · exact .inr h
theorem SqT.kp {K : PySem.W.Frag} {a : Addr} {H H' : Hp} {xs : List V} (h : SqT K H a xs) (k : Kp H H') : SqT K H' a xs := by
  rcases h with (h | ⟨o, h⟩) | h
  · exact .inl (.inl (k _ _ h))
  · exact .inl (.inr ⟨o, k _ _ h⟩)
  · exact .inr h
end LW
namespace LW
open PySem PySem.Spec PyProof.Rows L2

/-! ### where the drawn numbers come from -/
/-- the three cells of the draws at s -/
structure StD (H : Hp) (s : Addr) (v d c : Int) : Prop where
  at_ : H s = some (.lst [.int v, .int d, .int c])
  v0 : 0 ≤ v
  d0 : 0 ≤ d
  d1 : d < 2147483629
theorem StD.kp {H H' : Hp} {s : Addr} {v d c : Int} (S : StD H s v d c) (k : Kp H H') : StD H' s v d c := ⟨k _ _ S.at_, S.v0, S.d0, S.d1⟩
/-- some cells of the draws at s -/
def Dr (H : Hp) (s : Addr) : Prop := ∃ v d c, StD H s v d c
theorem Dr.kp {H H' : Hp} {s : Addr} (S : Dr H s) (k : Kp H H') : Dr H' s := let ⟨v, d, c, S⟩ := S; ⟨v, d, c, S.kp k⟩
theorem emod_b {a m : Int} (h : 0 < m) : 0 ≤ a % m ∧ a % m < m := ⟨Int.emod_nonneg _ (by omega), Int.emod_lt_of_pos _ h⟩
abbrev FnP (K : PySem.W.Frag) (x : Str) (st : Stmt) (f : Addr) (fd : FuncData) : Prop := FunD K x x (defArgs st) (defBody st) (defScope st) [] [] f fd
def spDraw : Sp := fun vs H Q _ => ∃ (s : Addr) (m : Int), vs = [.ref s, .int m] ∧ Dr H s ∧ 0 < m ∧ m < 1000000000 ∧ ∀ (r : Int) (H' : Hp), 0 ≤ r → r < m → Dr H' s → KpB s H H' → Q (.int r) H'
theorem scDraw : FnScope ["draws", "many", "found"] ["draws", "many"] (defScope s__law_draw) := scP_ok (by decide +kernel)
theorem ok_draw {P : Program} {w : World} {K : PySem.W.Frag} {mg : Str → Option Value} {base : Heap} (gi : mg ("int" : Str) = none) {fd : FuncData} {f : Addr} {x : Str} (F : FnP K x s__law_draw f fd) : FnOk P w K mg base CX0 1 f fd ["draws", "many"] spDraw := by
  refine F.ok scDraw (fun vs H Q E h => ?_) fun cdv A outer s0 H vs Q E hr h => ?_
  · obtain ⟨s, m, rfl, _⟩ := h
    rfl
  · obtain ⟨s, m, rfl, ⟨v, d, c, S⟩, m0, m1, k⟩ := h
    refine ⟨_, pss_cons (ps_asg (pe_op op_add (pe_ix ix_list (pv 0) pe_int (fun _ _ => rfl)) pe_int) (pg_sub (pv 0) pe_int set_list))
      (pss_cons (ps_if (pt_cmp (pc_gt (pe_ix ix_list (pv 0) pe_int (fun _ _ => rfl)) pe_int))
          (pss_cons (ps_set (i := 2) scDraw.nd rfl (.inl rfl) (pe_op op_mod (pe_callTy call_int1 rfl gi rfl (pa_cons (pe_ix ix_list (pv 0) pe_int (fun _ _ => rfl)) pa_nil)) (pv 1)))
            (pss_cons (ps_asg (pe_op op_fdiv (pe_ix ix_list (pv 0) pe_int (fun _ _ => rfl)) (pv 1)) (pg_sub (pv 0) pe_int set_list))
              (pss_cons (ps_asg (pe_op op_mod (pe_callTy call_int1 rfl gi rfl (pa_cons (pe_op op_add (pe_op op_add (pe_op op_mul (pe_ix ix_list (pv 0) pe_int (fun _ _ => rfl)) pe_int) (pv 2)) (pe_ix ix_list (pv 0) pe_int (fun _ _ => rfl))) pa_nil)) pe_int) (pg_sub (pv 0) pe_int set_list)) (pss_one (ps_ret (pv 2)))))) pss_nil)
        (pss_cons (ps_asg (pe_op op_mod (pe_callTy call_int1 rfl gi rfl (pa_cons (pe_op op_add (pe_op op_add (pe_op op_mul (pe_ix ix_list (pv 0) pe_int (fun _ _ => rfl)) pe_int) (pe_op op_mul (pe_ix ix_list (pv 0) pe_int (fun _ _ => rfl)) pe_int)) pe_int) pa_nil)) pe_int) (pg_sub (pv 0) pe_int set_list))
          (pss_one (ps_ret (pe_op op_mod (pe_callTy call_int1 rfl gi rfl (pa_cons (pe_op op_add (pe_op op_fdiv (pe_ix ix_list (pv 0) pe_int (fun _ _ => rfl)) pe_int) (pe_ix ix_list (pv 0) pe_int (fun _ _ => rfl))) pa_nil)) (pv 1)))))), ?_⟩
    have v0 := S.v0
    have d0 := S.d0
    have d1 := S.d1
    refine ⟨_, rfl, s, _, 2, _, rfl, rfl, SqL.of S.at_, rfl, _, _, rfl, rfl, ⟨_, rfl, s, _, 2, 2, rfl, rfl, S.at_, rfl, ?_⟩⟩
    have a1 : upd H s (.lst [.int v, .int d, .int (c + 1)]) s = some (.lst [.int v, .int d, .int (c + 1)]) := upd_same
    have k1 : KpB s H (upd H s (.lst [.int v, .int d, .int (c + 1)])) := KpB.put
    refine ⟨_, rfl, s, _, 0, _, rfl, rfl, SqL.of a1, rfl, _, _, rfl, rfl, ⟨_, rfl, iteB (fun hb => ?_) fun hb => ?_⟩⟩
    · refine ⟨_, rfl, s, _, 0, _, rfl, rfl, SqL.of a1, rfl, .inl ⟨_, rfl, ⟨_, rfl, _, _, rfl, rfl, m0, ?_⟩⟩⟩
      refine ⟨_, rfl, s, _, 0, _, rfl, rfl, SqL.of a1, rfl, ⟨_, rfl, _, _, rfl, rfl, ⟨m0, by omega⟩, ⟨_, rfl, s, _, 0, 0, rfl, rfl, a1, rfl, ?_⟩⟩⟩
      have a2 : upd (upd H s (.lst [.int v, .int d, .int (c + 1)])) s (.lst [.int (v / m), .int d, .int (c + 1)]) s = some (.lst [.int (v / m), .int d, .int (c + 1)]) := upd_same
      refine ⟨_, rfl, s, _, 1, _, rfl, rfl, SqL.of a2, rfl, _, _, rfl, rfl, .inl ⟨by omega, by omega⟩, _, rfl, _, _, rfl, rfl, ⟨_, rfl, s, _, 2, _, rfl, rfl, SqL.of a2, rfl, _, _, rfl, rfl, .inl ⟨_, rfl, _, _, rfl, rfl, (show (0 : Int) < 2147483629 by decide), ⟨_, rfl, s, _, 1, 1, rfl, rfl, a2, rfl, ⟨_, rfl, ?_⟩⟩⟩⟩⟩
      obtain ⟨e0, e1⟩ := emod_b (a := d * 69621 + v % m + (c + 1)) (show (0 : Int) < 2147483629 by decide)
      exact k (v % m) _ (emod_b m0).1 (emod_b m0).2 ⟨v / m, _, c + 1, upd_same, Int.ediv_nonneg v0 (by omega), e0, e1⟩ ((k1.trans KpB.put).trans KpB.put)
    · refine ⟨_, rfl, s, _, 1, _, rfl, rfl, SqL.of a1, rfl, _, _, rfl, rfl, .inl ⟨by omega, by omega⟩, ⟨_, rfl, s, _, 2, _, rfl, rfl, SqL.of a1, rfl, _, _, rfl, rfl, .inr ⟨by decide, by decide⟩, _, _, rfl, rfl, _, _, rfl, rfl, .inl ⟨_, rfl, _, _, rfl, rfl, (show (0 : Int) < 2147483629 by decide), ⟨_, rfl, s, _, 1, 1, rfl, rfl, a1, rfl, ?_⟩⟩⟩⟩
      obtain ⟨e0, e1⟩ := emod_b (a := d * 40692 + (c + 1) * 6151 + 98765) (show (0 : Int) < 2147483629 by decide)
      have a2 : upd (upd H s (.lst [.int v, .int d, .int (c + 1)])) s (.lst [.int v, .int ((d * 40692 + (c + 1) * 6151 + 98765) % 2147483629), .int (c + 1)]) s = some (.lst [.int v, .int ((d * 40692 + (c + 1) * 6151 + 98765) % 2147483629), .int (c + 1)]) := upd_same
      refine ⟨_, rfl, s, _, 1, _, rfl, rfl, SqL.of a2, rfl, _, _, rfl, rfl, ⟨(by decide), (by decide)⟩, ⟨_, rfl, s, _, 1, _, rfl, rfl, SqL.of a2, rfl, _, _, rfl, rfl, .inl ⟨_, rfl, ⟨_, rfl, _, _, rfl, rfl, m0, ?_⟩⟩⟩⟩
      exact k _ _ (emod_b m0).1 (emod_b m0).2 ⟨v, _, c + 1, upd_same, v0, e0, e1⟩ (k1.trans KpB.put)
/-- one of some things -/
def spPick (K : PySem.W.Frag) : Sp := fun vs H Q _ => ∃ (s a : Addr) (xs : List V), vs = [.ref s, .ref a] ∧ Dr H s ∧ a ≠ s ∧ (SqL K H a xs ∨ SqT K H a xs) ∧ 0 < xs.length ∧ xs.length < 1000000000 ∧
  ∀ (i : Nat) (y : V) (H' : Hp), xs[i]? = some y → Dr H' s → KpB s H H' → Q y H'
end LW
namespace LW
open PySem PySem.Spec PyProof.Rows L2

theorem scPick : FnScope ["draws", "xs"] ["draws", "xs"] (defScope s__law_pick) := scP_ok (by decide +kernel)
theorem ok_pick {P : Program} {w : World} {K : PySem.W.Frag} {mg : Str → Option Value} {base : Heap} (gl : mg ("len" : Str) = none) {fdD fd : FuncData} {fD f : Addr} (gD : mg ("_law_draw" : Str) = some (.ref fD)) (GD : FnOk P w K mg base CX0 1 fD fdD ["draws", "many"] spDraw)
    (kD : PySem.W.keepIn K (.ref fD) = true) (bD : Binds K fdD ["draws", "many"] []) {x : Str} (F : FnP K x s__law_pick f fd) : FnOk P w K mg base CX0 2 f fd ["draws", "xs"] (spPick K) := by
  refine F.ok scPick (fun vs H Q E h => ?_) fun cdv A outer s0 H vs Q E hr h => ?_
  · obtain ⟨s, a, xs, rfl, _⟩ := h
    rfl
  · obtain ⟨s, a, xs, rfl, D, ne, hx, h0, h1, k⟩ := h
    refine ⟨_, pss_one (ps_ret (pe_ix ix_seq (pv 1) (pe_call GD hr rfl gD kD bD .nil pass0 (pa_cons (pv 0) (pa_cons (pe_callB call_len rfl gl rfl (pa_cons (pv 1) pa_nil)) pa_nil))) (fun _ _ => rfl))), ?_⟩
    have lv : LenV K (.ref a) H xs.length := hx.elim (fun h => .inl ⟨_, h, rfl⟩) fun h => .inr ⟨_, h, rfl⟩
    refine ⟨_, rfl, _, rfl, _, rfl, _, _, rfl, lv, s, _, rfl, D, by omega, by omega, fun r H' r0 r1 D' k' => ?_⟩
    obtain ⟨j, rfl⟩ := Int.eq_ofNat_of_zero_le r0
    have hj : j < xs.length := by omega
    have gy : xs[j]? = some xs[j] := List.getElem?_eq_getElem hj
    rcases hx with hx | hx
    · exact .inl ⟨a, xs, _, _, rfl, rfl, SqL.kpB hx k' ne, atI_nat gy, k j _ H' gy D' k'⟩
    · exact .inr (.inl ⟨a, xs, _, _, rfl, rfl, SqT.kpB hx k' ne, atI_nat gy, k j _ H' gy D' k'⟩)
def cutI (ns : List Int) : List Int := (ns.drop (HT.sIx ns.length 0 none)).take (HT.sIx ns.length ns.length (some 1) - HT.sIx ns.length 0 none)
theorem cutI_map (ns : List Int) : cutV (ns.map V.int) none (some 1) = (cutI ns).map V.int := by
  unfold cutV cutI
  rw [List.length_map, List.map_take, List.map_drop]
/-- the draws of a script -/
def spSource (K : PySem.W.Frag) : Sp := fun vs H Q _ => ∃ (a : Addr) (ns : List Int) (t : Nat), vs = [.ref a, .int (t : Int)] ∧ SqL K H a (ns.map V.int) ∧ ns.length ≤ 1000 ∧ t ≤ 1000 ∧ ∀ (s : Addr) (H' : Hp), H s = none → Dr H' s → Kp H H' → Q (.ref s) H'
theorem scSource : FnScope ["script", "turn", "cell", "mixed", "each"] ["script", "turn"] (defScope s__law_source) := scP_ok (by decide +kernel)
theorem source_tail {P : Program} {w : World} {K : PySem.W.Frag} {mg : Str → Option Value} {base : Heap} (gi : mg ("int" : Str) = none) {f : Addr} {x : Str} {cdv : Value} {A : Around} {outer : List Env} {s0 : Shared} {H0 : Hp} {E : XK} {a : Addr} {ns : List Int} {t : Nat} (ht : t ≤ 1000) :
    ∃ ts, PSs (cxOf CX0 P w K mg base ["script", "turn", "cell", "mixed", "each"] x (defScope s__law_source) f cdv A outer s0 H0 E).nox ((defBody s__law_source).drop 1) ts ∧
      ∀ (D : Ends) (H H1 : Hp) (cell : Int), SqL K H a (ns.map V.int) → Kp H H1 → (∀ (s : Addr) (H' : Hp), H s = none → Dr H' s → Kp H H' → D.rt (.ref s) H') → ts D [some (.ref a), some (.int (t : Int)), some (.int cell), none, none] H1 := by
  refine ⟨_, pss_cons (ps_set (i := 3) scSource.nd rfl (.inl rfl) (pe_op op_add (pe_op op_mul pe_int (pv 1)) pe_int))
        (pss_cons (ps_for PassesOwn.never rfl (pi_list (pv 0)) (pg_name (i := 4) scSource.nd rfl (.inl rfl))
          (pss_one (ps_set (i := 3) scSource.nd rfl (.inl rfl) (pe_op op_mod (pe_callTy call_int1 rfl gi rfl (pa_cons (pe_op op_add (pe_op op_add (pe_op op_mul (pv 3) pe_int) (pe_op op_mod (pv 4) pe_int)) pe_int) pa_nil)) pe_int))))
          (pss_one (ps_ret (pe_lst (pa_cons (pe_ifExp (pt_cmp (pc_ge (pv 2) (pe_op op_pow pe_int pe_int))) (pv 2) pe_int) (pa_cons (pe_op op_mod (pe_callTy call_int1 rfl gi rfl (pa_cons (pe_op op_add (pv 3) (pv 2)) pa_nil)) pe_int) (pa_cons pe_int pa_nil))))))), fun D H H1 cell hS e1 k => ?_⟩
  refine ⟨_, rfl, _, _, rfl, rfl, .inl ⟨by decide, by decide⟩, _, _, rfl, rfl, ?_⟩
  refine ⟨_, rfl, a, rfl, ⟨_, SqL.kp hS e1⟩, ?_⟩
  refine for_list (fun i σ H' => ∃ (m : Int) (o : Option V), σ = [some (.ref a), some (.int (t : Int)), some (.int cell), some (.int m), o] ∧ 0 ≤ m ∧ m < 2147483648 ∧ Kp H H') ⟨_, none, rfl, by omega, by omega, e1⟩
    (fun i σ H' _ hP => by obtain ⟨_, _, _, _, _, e⟩ := hP; exact SqL.kp hS e) (fun i x σ H' hx hP => ?_) fun σ H' hP => ?_
  · obtain ⟨m, o, rfl, m0, m1, e⟩ := hP
    obtain ⟨n, _, rfl⟩ : ∃ n, n ∈ ns ∧ x = .int n := by
      obtain ⟨n, hn, e⟩ := List.mem_map.mp (List.mem_of_getElem? hx)
      exact ⟨n, hn, e.symm⟩
    refine ⟨_, rfl, _, _, rfl, rfl, .inl ⟨by omega, by omega⟩, ⟨_, rfl, _, _, rfl, rfl, (show (0 : Int) < 2147483647 by decide), _, _, rfl, rfl, _, _, rfl, rfl, .inl ⟨_, rfl, _, _, rfl, rfl, (show (0 : Int) < 2147483629 by decide), ?_⟩⟩⟩
    obtain ⟨b0, b1⟩ := emod_b (a := m * 8191 + n % 2147483647 + 7) (show (0 : Int) < 2147483629 by decide)
    exact ⟨_, _, rfl, b0, by omega, e⟩
  · obtain ⟨m, o, rfl, m0, m1, e⟩ := hP
    refine ⟨_, rfl, _, _, rfl, rfl, ⟨by decide, by decide, by decide⟩, _, _, rfl, rfl, ⟨_, rfl, ?_⟩⟩
    obtain ⟨b0, b1⟩ := emod_b (a := m + cell) (show (0 : Int) < 2147483629 by decide)
    have fin : ∀ (c0 : Int) (q : Addr), 0 ≤ c0 → H' q = none → D.rt (.ref q) (upd H' q (.lst [.int c0, .int ((m + cell) % 2147483629), .int 0])) := fun c0 q h0 hq => by
      refine k q _ ?_ ⟨c0, _, 0, upd_same, h0, b0, b1⟩ fun b o h => kp_new hq _ _ (e _ _ h)
      cases z : H q with
      | none => rfl
      | some o =>
        rw [e _ _ z] at hq
        cases hq
    refine iteB (fun hb => ?_) fun hb => ?_
    · exact ⟨_, rfl, _, rfl, _, rfl, _, _, rfl, rfl, .inl ⟨_, rfl, _, _, rfl, rfl, (show (0 : Int) < 2147483629 by decide), le_sz rfl, fun q hq => fin cell q (Int.le_trans (by decide) (of_decide_eq_true hb)) hq⟩⟩
    · exact ⟨_, rfl, _, rfl, _, _, rfl, rfl, .inl ⟨_, rfl, _, _, rfl, rfl, (show (0 : Int) < 2147483629 by decide), le_sz rfl, fun q hq => fin 0 q (by decide) hq⟩⟩
theorem ok_source {P : Program} {w : World} {K : PySem.W.Frag} {mg : Str → Option Value} {base : Heap} (gl : mg ("len" : Str) = none) (gi : mg ("int" : Str) = none) (gs : mg ("sum" : Str) = none) {fd : FuncData} {f : Addr} {x : Str} (F : FnP K x s__law_source f fd) :
    FnOk P w K mg base CX0 1 f fd ["script", "turn"] (spSource K) := by
  refine F.ok scSource (fun vs H Q E h => ?_) fun cdv A outer s0 H vs Q E hr h => ?_
  · obtain ⟨a, ns, t, rfl, _⟩ := h
    rfl
  · obtain ⟨a, ns, t, rfl, hS, hn, ht, k⟩ := h
    obtain ⟨t2, ps2, go2⟩ := source_tail (P := P) (w := w) (K := K) (mg := mg) (base := base) gi (f := f) (x := x) (cdv := cdv) (A := A) (outer := outer) (s0 := s0) (H0 := H) (E := E) (a := a) (ns := ns) ht
    refine ⟨_, PSs.nox (pss_cons (ps_set (i := 2) scSource.nd rfl (.inl rfl) (pe_ifExp (pt_cmp (pc_lt (pv 1) (pe_callB call_len rfl gl rfl (pa_cons (pv 0) pa_nil)))) (pe_ix ix_list (pv 0) (pv 1) (fun _ _ => rfl))
        (pe_op op_add (pe_op op_add (pe_op op_mod (pe_callTy call_int1 rfl gi rfl (pa_cons (pe_callB (cr_sum rfl) rfl gs rfl (pa_cons (pe_slice sl_list (pv 0) po_none (po_some pe_int)) pa_nil)) pa_nil)) pe_int) (pe_op op_mul pe_int (pv 1))) pe_int))) ps2), ?_⟩
    refine ⟨_, rfl, _, rfl, _, _, rfl, .inl ⟨_, hS, rfl⟩, _, _, rfl, rfl, ⟨_, rfl, iteB (fun hb => ?_) fun hb => ?_⟩⟩
    · have hb' : (t : Int) < ((ns.map V.int).length : Int) := of_decide_eq_true hb
      have ht2 : t < ns.length := by
        rw [List.length_map] at hb'
        omega
      have g : (ns.map V.int)[t]? = some (.int ns[t]) := by
        rw [List.getElem?_map, List.getElem?_eq_getElem ht2]
        rfl
      exact ⟨_, rfl, _, rfl, a, _, _, _, rfl, rfl, hS, atI_nat g, go2 _ H H _ hS (fun b o h => h) k⟩
    · refine ⟨_, rfl, 1, rfl, a, _, rfl, hS, fun p hp => ?_⟩
      have ec : cutV (ns.map V.int) none (some 1) = (cutI ns).map V.int := cutI_map ns
      refine ⟨p, cutI ns, rfl, SqL.of (by rw [upd_same, ec]), .inl ⟨_, rfl, _, _, rfl, rfl, (show (0 : Int) < 1000003 by decide), ⟨_, rfl, _, _, rfl, rfl, .inl ⟨by decide, by decide⟩, _, _, rfl, rfl, _, _, rfl, rfl, go2 _ H _ _ hS (kp_new hp) k⟩⟩⟩
end LW
namespace LW
open PySem PySem.Spec PyProof.Rows L2

/-! ### isinstance of several types -/
section
variable {K : PySem.W.Frag} {H : Hp}
theorem kitAny1 {t a : String} {r : Bool} {cs : List Value} {b : Bool} (h : kitB t a = some r) (hr : PySem.W.kitAny K (.type t) cs = some b) : PySem.W.kitAny K (.type t) (.type a :: cs) = some (r || b) := by
  unfold PySem.W.kitAny
  rw [L2.kit_ty h]
  cases r with
  | true => rfl
  | false => exact hr
abbrev tIs1 (K : PySem.W.Frag) (i : Nat) (a : String) : TE := tCB (rIsi K) (tCons (tVar i) (tCons (tC (.ty a)) tNil))
abbrev tIs2 (K : PySem.W.Frag) (i : Nat) (a b : String) : TE := tCB (rIsiT K) (tCons (tVar i) (tCons (tTup (tCons (tC (.ty a)) (tCons (tC (.ty b)) tNil))) tNil))
abbrev tIs4 (K : PySem.W.Frag) (i : Nat) (a b c d : String) : TE := tCB (rIsiT K) (tCons (tVar i) (tCons (tTup (tCons (tC (.ty a)) (tCons (tC (.ty b)) (tCons (tC (.ty c)) (tCons (tC (.ty d)) tNil))))) tNil))
theorem TyX.kp {H' : Hp} {x : V} {t : String} (h : TyX K H x (.type t)) (k : Kp H H') : TyX K H' x (.type t) := by
  generalize et : (Value.type t) = tv at h
  cases h with
  | base b =>
    cases b with
    | non => exact .base .non
    | bl y => exact .base (.bl y)
    | int i => exact .base (.int i)
    | str y => exact .base (.str y)
    | flt y => exact .base (.flt y)
    | lst e => exact .base (.lst (k _ _ e))
    | frz e => exact .base (.frz (k _ _ e))
    | tup e => exact .base (.tup (k _ _ e))
    | dK e => exact .base (.dK (k _ _ e))
    | dT e => exact .base (.dT (k _ _ e))
    | ins _ _ _ _ _ => cases et
  | byt b => exact .byt b
  | set e => exact .set (k _ _ e)
  | kList e c => exact .kList e c
  | kTuple e c => exact .kTuple e c
  | kDict e c => exact .kDict e c
  | fTuple e => exact .fTuple (k _ _ e)
  | fDict e => exact .fDict (k _ _ e)
theorem is1_go {σ : L2.St} {Q : VK} {i : Nat} {x : V} {t a : String} {r : Bool} (hi : σ[i]? = some (some x)) (ty : TyX K H x (.type t)) (h : kitB t a = some r) (q : Q (.bl r) H) : tIs1 K i a σ H Q :=
  ⟨_, hi, x, _, _, _, r, rfl, .ty a, ty, L2.kit_ty h, q⟩
theorem is2_go {σ : L2.St} {Q : VK} {i : Nat} {x : V} {t a b : String} {r1 r2 : Bool} (hi : σ[i]? = some (some x)) (ty : TyX K H x (.type t)) (h1 : kitB t a = some r1) (h2 : kitB t b = some r2) (q : ∀ H', Kp H H' → Q (.bl (r1 || (r2 || false))) H') : tIs2 K i a b σ H Q :=
  ⟨_, hi, le_sz rfl, fun p hp => ⟨x, p, _, _, [.type a, .type b], _, rfl, upd_same, .cons (.ty a) (.cons (.ty b) .nil), TyX.kp ty (kp_new hp), kitAny1 h1 (kitAny1 h2 kitAny_nil), q _ (kp_new hp)⟩⟩
theorem is4_go {σ : L2.St} {Q : VK} {i : Nat} {x : V} {t a b c d : String} {r1 r2 r3 r4 : Bool} (hi : σ[i]? = some (some x)) (ty : TyX K H x (.type t)) (h1 : kitB t a = some r1) (h2 : kitB t b = some r2) (h3 : kitB t c = some r3) (h4 : kitB t d = some r4)
    (q : ∀ H', Kp H H' → Q (.bl (r1 || (r2 || (r3 || (r4 || false))))) H') : tIs4 K i a b c d σ H Q :=
  ⟨_, hi, le_sz rfl, fun p hp => ⟨x, p, _, _, [.type a, .type b, .type c, .type d], _, rfl, upd_same, .cons (.ty a) (.cons (.ty b) (.cons (.ty c) (.cons (.ty d) .nil))), TyX.kp ty (kp_new hp), kitAny1 h1 (kitAny1 h2 (kitAny1 h3 (kitAny1 h4 kitAny_nil))), q _ (kp_new hp)⟩⟩
theorem ty_sqL {a : Addr} {xs : List V} (h : SqL K H a xs) : TyX K H (.ref a) (.type "list") := by
  rcases h with (h | ⟨o, h⟩) | ⟨o, its, n, h, c, _⟩
  · exact .base (.lst h)
  · exact .base (.frz h)
  · exact .kList h c
theorem ty_sqT {a : Addr} {xs : List V} (h : SqT K H a xs) : TyX K H (.ref a) (.type "tuple") := by
  rcases h with (h | ⟨o, h⟩) | ⟨o, its, n, h, c, _⟩
  · exact .base (.tup h)
  · exact .fTuple h
  · exact .kTuple h c
end
/-! ### the same, and of the same kinds -/
def SmF (K : PySem.W.Frag) (H : Hp) (F : V → V → Prop) (x y : V) : Prop :=
  (x = .non ∧ y = .non) ∨ (∃ s, x = .str s ∧ y = .str s) ∨ (∃ a b kvs, x = .ref a ∧ y = .ref b ∧ H a = some (.dK kvs) ∧ H b = some (.dK kvs) ∧ (kvs.map (·.1)).Nodup ∧ ∀ p ∈ kvs, L2.flatB p.2 = true) ∨
  (∃ b, x = .bl b ∧ y = .bl b) ∨ (∃ i, x = .int i ∧ y = .int i) ∨
  (∃ a b xs ys, x = .ref a ∧ y = .ref b ∧ SqL K H a xs ∧ SqL K H b ys ∧ xs.length ≤ sizeLine ∧ Paired F xs ys) ∨ (∃ a b xs ys, x = .ref a ∧ y = .ref b ∧ SqT K H a xs ∧ SqT K H b ys ∧ xs.length ≤ sizeLine ∧ Paired F xs ys)
def Sm (K : PySem.W.Frag) (H : Hp) : Nat → V → V → Prop
  | 0 => fun _ _ => False
  | n + 1 => SmF K H (Sm K H n)
theorem Sm.kp {K : PySem.W.Frag} {H H' : Hp} (k : Kp H H') : ∀ {n : Nat} {x y : V}, Sm K H n x y → Sm K H' n x y
  | 0, _, _, h => h.elim
  | n + 1, x, y, h => by
    have mp : ∀ {xs ys : List V}, Paired (Sm K H n) xs ys → Paired (Sm K H' n) xs ys := fun p => Paired.mapP p fun _ _ z => Sm.kp k z
    rcases h with h | h | ⟨a, b, kvs, rfl, rfl, h1, h2, h3⟩ | h | h | ⟨a, b, xs, ys, rfl, rfl, h1, h2, hz, h3⟩ | ⟨a, b, xs, ys, rfl, rfl, h1, h2, hz, h3⟩
    · exact .inl h
    · exact .inr (.inl h)
    · exact .inr (.inr (.inl ⟨a, b, kvs, rfl, rfl, k _ _ h1, k _ _ h2, h3⟩))
    · exact .inr (.inr (.inr (.inl h)))
    · exact .inr (.inr (.inr (.inr (.inl h))))
    · exact .inr (.inr (.inr (.inr (.inr (.inl ⟨a, b, xs, ys, rfl, rfl, SqL.kp h1 k, SqL.kp h2 k, hz, mp h3⟩)))))
    · exact .inr (.inr (.inr (.inr (.inr (.inr ⟨a, b, xs, ys, rfl, rfl, SqT.kp h1 k, SqT.kp h2 k, hz, mp h3⟩)))))
def spSame (K : PySem.W.Frag) (n : Nat) : Sp := fun vs H Q _ => ∃ x y : V, vs = [x, y] ∧ Sm K H n x y ∧ ∀ H', Kp H H' → Q (.bl true) H'
theorem scSame : FnScope ["found", "due", "left", "right"] ["found", "due"] (defScope s__law_same) := scP_ok (by decide +kernel)
theorem walk_zipT {K : PySem.W.Frag} {a b : Addr} {xs ys : List V} (hl : xs.length = ys.length) : Walk (RZ.ItzT K a b) xs.length (fun H => SqT K H a xs ∧ SqT K H b ys) (YPair (fun i => xs[i]?) fun i => ys[i]?) :=
  ⟨fun i H hi q => ⟨xs, ys, xs[i], ys[i]'(by omega), q.1, q.2, by simp [hi], by simp [hl ▸ hi]⟩, fun H q => ⟨xs, ys, q.1, q.2, .inl (Nat.le_refl _)⟩,
    fun i H x H' hi q y => let ⟨T, u, v, e, n, h, y1, y2⟩ := y; ⟨T, u, v, e, n, h, y1 xs q.1, y2 ys q.2⟩⟩
end LW
namespace LW
open PySem PySem.Spec PyProof.Rows L2 RZ

/-- the part that lists and tuples share -/
theorem same_seq {K : PySem.W.Frag} {n : Nat} {σ : L2.St} {H : Hp} {Qd : Hp → Prop} {xs ys : List V} {vs : List Nat} {te : TE} {J : It} {G : Hp → Prop}
    (w1 : Walk J xs.length G (YPair (fun i => xs[i]?) fun i => ys[i]?)) (hG : ∀ H', Kp H H' → G H') (p : Paired (Sm K H n) xs ys) (hz : xs.length ≤ sizeLine) (D : Addr) (hD : H D = none)
    (ht : ∀ (u v : V) (σ2 : L2.St) (H2 : Hp) (Q2 : VK), σ2[2]? = some (some u) → σ2[3]? = some (some v) → Sm K H2 n u v → (∀ H3, Kp H2 H3 → Q2 (.bl true) H3) → te σ2 H2 Q2) (h4 : σ.length = 4) (hw : vs = [2, 3])
    (hd : ∀ H' : Hp, Kp H H' → H' D = some (.lst ((List.replicate xs.length true).map V.bl)) → Qd H') :
    ∃ W : Nat → Nat → Hp → Prop, (∃ m, W 0 m (upd H D (.lst []))) ∧ ∀ i m H, W i m H →
      (J.stop i H ∧ Qd H) ∨ (J.go i H ∧ ∃ Nx : Hp → Prop, (∀ H', Nx H' → ∃ m', m' < m ∧ W (i + 1) m' H') ∧ ∀ x H', J.yld i H x H' → gTup K 2 (gCons (gName 2) (gCons (gName 3) gNil)) x (wipe σ vs) H' fun σ2 H2 => wipe σ2 vs = wipe σ vs ∧ tYes σ2 H2 fun b H3 =>
        if b = true then te σ2 H3 fun y H4 => ∃ acc, H4 D = some (.lst acc) ∧ acc.length < sizeLine ∧ Nx (upd H4 D (.lst (acc ++ [y]))) else Nx H3) := by
  subst hw
  obtain ⟨s0, s1, s2, s3, rfl⟩ : ∃ s0 s1 s2 s3, σ = [s0, s1, s2, s3] := by
    match σ, h4 with
    | [s0, s1, s2, s3], _ => exact ⟨s0, s1, s2, s3, rfl⟩
  refine lc_it w1 (fun i H' => H' D = some (.lst ((List.replicate i true).map V.bl)) ∧ Kp H H') ⟨upd_same, kp_new hD⟩ (fun i H' _ h => hG H' h.2) (fun i v H1 H' hi h hy => ?_) fun H' h => hd H' h.2 h.1
  obtain ⟨h1, h2⟩ := h
  obtain ⟨T, u, z, rfl, hT, rfl, e1, e2⟩ := hy
  have k3 : Kp H (upd H1 T (.tup [u, z])) := fun b o q => kp_new hT _ _ (h2 _ _ q)
  have sm : Sm K H n u z := by
    obtain ⟨z', ez, q⟩ := paired_get p e1
    have e3 : ys[i]? = some z := e2
    rw [e3] at ez
    cases ez
    exact q
  have hD3 : upd H1 T (.tup [u, z]) D = some (.lst ((List.replicate i true).map V.bl)) := kp_new hT _ _ h1
  refine ⟨T, [u, z], rfl, SqT.of upd_same, rfl, u, [z], rfl, z, [], rfl, rfl, rfl, ?_⟩
  refine ht u z _ _ _ rfl rfl (Sm.kp k3 sm) fun H3 k4 => ⟨_, k4 _ _ hD3, ?_, ?_, fun b o q => ?_⟩
  · rw [List.length_map, List.length_replicate]
    omega
  · rw [upd_same, List.replicate_succ', List.map_append]
    rfl
  · have nb : b ≠ D := ne_of_none q hD
    rw [upd_ne nb]
    exact k4 _ _ (k3 _ _ q)
theorem all_rep (n : Nat) : (List.replicate n true).all id = true := by
  induction n with
  | zero => rfl
  | succ n ih => exact ih
theorem ok_same {P : Program} {w : World} {K : PySem.W.Frag} {mg : Str → Option Value} {base : Heap} {fd : FuncData} {f : Addr} (F : FnP K "_law_same" s__law_same f fd) (gS : mg ("_law_same" : Str) = some (.ref f)) (gi : mg ("isinstance" : Str) = none) (g1 : mg ("list" : Str) = none) (g2 : mg ("tuple" : Str) = none)
    (g3 : mg ("bool" : Str) = none) (g4 : mg ("int" : Str) = none) (g5 : mg ("len" : Str) = none) (g6 : mg ("all" : Str) = none) (g7 : mg ("zip" : Str) = none) : ∀ n : Nat, FnOk P w K mg base CX0 n f fd ["found", "due"] (spSame K n)
  | 0 => ⟨fun vs H Q E h => by obtain ⟨x, y, rfl, _⟩ := h; rfl, fun _ _ _ _ _ _ _ _ _ _ _ _ _ h => by obtain ⟨_, _, _, h, _⟩ := h; exact (show False from h).elim⟩
  | n + 1 => by
    have GS : FnOk P w K mg base CX0 n f fd ["found", "due"] (spSame K n) := ok_same F gS gi g1 g2 g3 g4 g5 g6 g7 n
    have bS : Binds K fd ["found", "due"] [] := F.bindsN fun _ _ _ _ _ _ us hl => match us, hl with | [_, _], _ => rfl
    refine F.ok scSame (fun vs H Q E h => ?_) fun cdv A outer s0 H vs Q E hr h => ?_
    · obtain ⟨x, y, rfl, _⟩ := h
      rfl
    · have hu : (A.deeper (envOfC "_law_same" (defScope s__law_same) s0.heap.objs.size f cdv)).units + 64 < cLine := by
        have := hr.un
        omega
      have hu2 : (A.deeper (envOfC "_law_same" (defScope s__law_same) s0.heap.objs.size f cdv)).units < cLine := by omega
      obtain ⟨x, y, rfl, sm, k⟩ := h
      refine ⟨_, pss_cons (ps_if (pt_val (pe_callB call_isiT rfl gi rfl (pa_cons (pv 1) (pa_cons (pe_tup (pa_cons (pe_bltn (v := .ty "list") rfl g1 rfl rfl) (pa_cons (pe_bltn (v := .ty "tuple") rfl g2 rfl rfl) pa_nil))) pa_nil))))
          (pss_cons (ps_if (PW.pt (pw_or (pt_cmpR op_ne (pe_callB call_isi rfl gi rfl (pa_cons (pv 0) (pa_cons (pe_bltn (v := .ty "list") rfl g1 rfl rfl) pa_nil))) (pe_callB call_isi rfl gi rfl (pa_cons (pv 1) (pa_cons (pe_bltn (v := .ty "list") rfl g1 rfl rfl) pa_nil))) (nomark _))
              (pw_or1 (pt_cmpR op_ne (pe_callB call_isi rfl gi rfl (pa_cons (pv 0) (pa_cons (pe_bltn (v := .ty "tuple") rfl g2 rfl rfl) pa_nil))) (pe_callB call_isi rfl gi rfl (pa_cons (pv 1) (pa_cons (pe_bltn (v := .ty "tuple") rfl g2 rfl rfl) pa_nil))) (nomark _))))) pss_never pss_nil)
            (pss_one (ps_ret (pe_and (pe_cmpR op_eq (pe_callB call_len rfl g5 rfl (pa_cons (pv 0) pa_nil)) (pe_callB call_len rfl g5 rfl (pa_cons (pv 1) pa_nil)) (nomark _)) (pe_one (pe_callB (cr_all rfl) rfl g6 rfl (pa_cons
              (pe_lc (own := [("left", 2), ("right", 3)]) (g := gTup K 2 (gCons (gName 2) (gCons (gName 3) gNil))) (tt := tYes) (te := tCall (spSame K n) [] E0 (tCons (tVar 2) (tCons (tVar 3) tNil))) rfl scSame.nd (pi_zipA rfl g7 (pa_cons (pv 0) (pa_cons (pv 1) pa_nil)))
                (blkOk_by (N := ["found", "due", "left", "right"]) (sc := defScope s__law_same) (by decide +kernel)) (fun _ _ _ _ _ => pg_tup rfl (pgs_cons (pg_name (i := 2) scSame.nd rfl (Or.inl rfl)) (pgs_cons (pg_name (i := 3) scSame.nd rfl (Or.inl rfl)) pgs_nil)))
                (fun _ _ _ _ _ => pts_nil) (fun _ _ _ _ _ => pe_call GS hr rfl gS F.kp bS .nil pass0 (pa_cons (pv 2) (pa_cons (pv 3) pa_nil)))) pa_nil))))))) pss_nil)
        (pss_cons (ps_if (pt_val (pe_callB call_isiT rfl gi rfl (pa_cons (pv 1) (pa_cons (pe_tup (pa_cons (pe_bltn (v := .ty "bool") rfl g3 rfl rfl) (pa_cons (pe_bltn (v := .ty "int") rfl g4 rfl rfl) pa_nil))) pa_nil))))
            (pss_one (ps_ret (pe_and (pe_callB call_isi rfl gi rfl (pa_cons (pv 0) (pa_cons (pe_bltn (v := .ty "int") rfl g4 rfl rfl) pa_nil))) (pe_and (pe_cmpR op_eq (pe_callB call_isi rfl gi rfl (pa_cons (pv 0) (pa_cons (pe_bltn (v := .ty "bool") rfl g3 rfl rfl) pa_nil)))
              (pe_callB call_isi rfl gi rfl (pa_cons (pv 1) (pa_cons (pe_bltn (v := .ty "bool") rfl g3 rfl rfl) pa_nil))) (nomark _)) (pe_one (pe_cmpR op_eq (pv 0) (pv 1) (nomark _))))))) pss_nil)
          (pss_one (ps_ret (pe_and (pe_not (pe_callB call_isiT rfl gi rfl (pa_cons (pv 0) (pa_cons (pe_tup (pa_cons (pe_bltn (v := .ty "bool") rfl g3 rfl rfl) (pa_cons (pe_bltn (v := .ty "int") rfl g4 rfl rfl) (pa_cons (pe_bltn (v := .ty "list") rfl g1 rfl rfl) (pa_cons (pe_bltn (v := .ty "tuple") rfl g2 rfl rfl) pa_nil))))) pa_nil))))
            (pe_one (pe_cmpR (op_eq.or (op_eq_dict (show _ < cLine from hu2))) (pv 0) (pv 1) (nomark _))))))), ?_⟩
      have ht : ∀ (u v : V) (σ2 : L2.St) (H2 : Hp) (Q2 : VK), σ2[2]? = some (some u) → σ2[3]? = some (some v) → Sm K H2 n u v → (∀ H3, Kp H2 H3 → Q2 (.bl true) H3) → tCall (spSame K n) [] E0 (tCons (tVar 2) (tCons (tVar 3) tNil)) σ2 H2 Q2 :=
        fun u v σ2 H2 Q2 s2 s3 sm kk => ⟨_, s2, _, s3, u, v, rfl, sm, kk⟩
      rcases sm with ⟨rfl, rfl⟩ | ⟨z, rfl, rfl⟩ | ⟨a, b, kvs, rfl, rfl, ha, hb, nd, fl⟩ | ⟨b, rfl, rfl⟩ | ⟨i, rfl, rfl⟩ | ⟨a, b, xs, ys, rfl, rfl, hx, hy, hz, p⟩ | ⟨a, b, xs, ys, rfl, rfl, hx, hy, hz, p⟩
      · refine is2_go (i := 1) rfl (.base .non) (r1 := false) (r2 := false) (by decide +kernel) (by decide +kernel) fun H1 k1 => ⟨_, rfl, iteF rfl ?_⟩
        refine is2_go (i := 1) rfl (.base .non) (r1 := false) (r2 := false) (by decide +kernel) (by decide +kernel) fun H2 k2 => ⟨_, rfl, iteF rfl ?_⟩
        refine is4_go (i := 0) rfl (.base .non) (r1 := false) (r2 := false) (r3 := false) (r4 := false) (by decide +kernel) (by decide +kernel) (by decide +kernel) (by decide +kernel) fun H3 k3 => ⟨_, rfl, _, rfl, iteT rfl ⟨_, rfl, _, rfl, .inl ⟨rfl, ?_⟩⟩⟩
        exact k H3 fun b o h => k3 _ _ (k2 _ _ (k1 _ _ h))
      · refine is2_go (i := 1) rfl (.base (.str _)) (r1 := false) (r2 := false) (by decide +kernel) (by decide +kernel) fun H1 k1 => ⟨_, rfl, iteF rfl ?_⟩
        refine is2_go (i := 1) rfl (.base (.str _)) (r1 := false) (r2 := false) (by decide +kernel) (by decide +kernel) fun H2 k2 => ⟨_, rfl, iteF rfl ?_⟩
        refine is4_go (i := 0) rfl (.base (.str _)) (r1 := false) (r2 := false) (r3 := false) (r4 := false) (by decide +kernel) (by decide +kernel) (by decide +kernel) (by decide +kernel) fun H3 k3 => ⟨_, rfl, _, rfl, iteT rfl ⟨_, rfl, _, rfl, .inl ⟨rfl, ?_⟩⟩⟩
        rw [decide_eq_true rfl]
        exact k H3 fun b o h => k3 _ _ (k2 _ _ (k1 _ _ h))
      · refine is2_go (i := 1) rfl (.base (.dK hb)) (r1 := false) (r2 := false) (by decide +kernel) (by decide +kernel) fun H1 k1 => ⟨_, rfl, iteF rfl ?_⟩
        refine is2_go (i := 1) rfl (.base (.dK (k1 _ _ hb))) (r1 := false) (r2 := false) (by decide +kernel) (by decide +kernel) fun H2 k2 => ⟨_, rfl, iteF rfl ?_⟩
        refine is4_go (i := 0) rfl (.base (.dK (k2 _ _ (k1 _ _ ha)))) (r1 := false) (r2 := false) (r3 := false) (r4 := false) (by decide +kernel) (by decide +kernel) (by decide +kernel) (by decide +kernel) fun H3 k3 => ⟨_, rfl, _, rfl, iteT rfl ⟨_, rfl, _, rfl, .inr ⟨a, b, kvs, rfl, rfl, k3 _ _ (k2 _ _ (k1 _ _ ha)), k3 _ _ (k2 _ _ (k1 _ _ hb)), nd, fl, ?_⟩⟩⟩
        exact k H3 fun b o h => k3 _ _ (k2 _ _ (k1 _ _ h))
      · refine is2_go (i := 1) rfl (.base (.bl _)) (r1 := false) (r2 := false) (by decide +kernel) (by decide +kernel) fun H1 k1 => ⟨_, rfl, iteF rfl ?_⟩
        refine is2_go (i := 1) rfl (.base (.bl _)) (r1 := true) (r2 := true) (by decide +kernel) (by decide +kernel) fun H2 k2 => ⟨_, rfl, iteT rfl ?_⟩
        refine is1_go (i := 0) rfl (.base (.bl _)) (r := true) (by decide +kernel) ⟨_, rfl, iteT rfl ?_⟩
        refine is1_go (i := 0) rfl (.base (.bl _)) (r := true) (by decide +kernel) (is1_go (i := 1) rfl (.base (.bl _)) (r := true) (by decide +kernel) ⟨rfl, ⟨_, rfl, iteT rfl ⟨_, rfl, _, rfl, rfl, ?_⟩⟩⟩)
        rw [decide_eq_true rfl]
        exact k H2 fun b o h => k2 _ _ (k1 _ _ h)
      · refine is2_go (i := 1) rfl (.base (.int _)) (r1 := false) (r2 := false) (by decide +kernel) (by decide +kernel) fun H1 k1 => ⟨_, rfl, iteF rfl ?_⟩
        refine is2_go (i := 1) rfl (.base (.int _)) (r1 := false) (r2 := true) (by decide +kernel) (by decide +kernel) fun H2 k2 => ⟨_, rfl, iteT rfl ?_⟩
        refine is1_go (i := 0) rfl (.base (.int _)) (r := true) (by decide +kernel) ⟨_, rfl, iteT rfl ?_⟩
        refine is1_go (i := 0) rfl (.base (.int _)) (r := false) (by decide +kernel) (is1_go (i := 1) rfl (.base (.int _)) (r := false) (by decide +kernel) ⟨rfl, ⟨_, rfl, iteT rfl ⟨_, rfl, _, rfl, rfl, ?_⟩⟩⟩)
        rw [decide_eq_true rfl]
        exact k H2 fun b o h => k2 _ _ (k1 _ _ h)
      · have pl := Paired.length p
        refine is2_go (i := 1) rfl (ty_sqL hy) (r1 := true) (r2 := false) (by decide +kernel) (by decide +kernel) fun H1 k1 => ⟨_, rfl, iteT rfl ?_⟩
        have hx1 := SqL.kp hx k1
        have hy1 := SqL.kp hy k1
        refine is1_go (i := 0) rfl (ty_sqL hx1) (r := true) (by decide +kernel) (is1_go (i := 1) rfl (ty_sqL hy1) (r := true) (by decide +kernel) ⟨rfl, ⟨_, rfl, iteF rfl ?_⟩⟩)
        refine is1_go (i := 0) rfl (ty_sqL hx1) (r := false) (by decide +kernel) (is1_go (i := 1) rfl (ty_sqL hy1) (r := false) (by decide +kernel) ⟨rfl, ⟨_, rfl, iteF rfl ?_⟩⟩)
        refine ⟨_, rfl, _, _, rfl, .inl ⟨_, hx1, rfl⟩, ⟨_, rfl, _, _, rfl, .inl ⟨_, hy1, rfl⟩, ⟨rfl, ⟨_, rfl, iteT (decide_eq_true (by rw [pl])) ?_⟩⟩⟩⟩
        refine ⟨_, rfl, _, rfl, a, b, xs, ys, rfl, .inl ⟨hx1, hy1, fun D hD => ?_⟩⟩
        refine same_seq (L2.walk_zip (by omega)) (fun H' kk => ⟨SqL.kp hx1 kk, SqL.kp hy1 kk⟩) (Paired.mapP p fun _ _ z => Sm.kp k1 z) hz D hD ht rfl rfl fun H2 k2 hD2 => ⟨D, _, rfl, SqL.of hD2, ?_⟩
        rw [all_rep]
        exact k H2 fun b o h => k2 _ _ (k1 _ _ h)
      · have pl := Paired.length p
        refine is2_go (i := 1) rfl (ty_sqT hy) (r1 := false) (r2 := true) (by decide +kernel) (by decide +kernel) fun H1 k1 => ⟨_, rfl, iteT rfl ?_⟩
        have hx1 := SqT.kp hx k1
        have hy1 := SqT.kp hy k1
        refine is1_go (i := 0) rfl (ty_sqT hx1) (r := false) (by decide +kernel) (is1_go (i := 1) rfl (ty_sqT hy1) (r := false) (by decide +kernel) ⟨rfl, ⟨_, rfl, iteF rfl ?_⟩⟩)
        refine is1_go (i := 0) rfl (ty_sqT hx1) (r := true) (by decide +kernel) (is1_go (i := 1) rfl (ty_sqT hy1) (r := true) (by decide +kernel) ⟨rfl, ⟨_, rfl, iteF rfl ?_⟩⟩)
        refine ⟨_, rfl, _, _, rfl, .inr ⟨_, hx1, rfl⟩, ⟨_, rfl, _, _, rfl, .inr ⟨_, hy1, rfl⟩, ⟨rfl, ⟨_, rfl, iteT (decide_eq_true (by rw [pl])) ?_⟩⟩⟩⟩
        refine ⟨_, rfl, _, rfl, a, b, xs, ys, rfl, .inr ⟨hx1, hy1, fun D hD => ?_⟩⟩
        refine same_seq (walk_zipT pl) (fun H' kk => ⟨SqT.kp hx1 kk, SqT.kp hy1 kk⟩) (Paired.mapP p fun _ _ z => Sm.kp k1 z) hz D hD ht rfl rfl fun H2 k2 hD2 => ⟨D, _, rfl, SqL.of hD2, ?_⟩
        rw [all_rep]
        exact k H2 fun b o h => k2 _ _ (k1 _ _ h)
end LW
namespace LW
open PySem PySem.Spec PyProof.Rows L2

/-! ### data, its objects outside ex -/
def ObF (H : Hp) (ex : Addr → Prop) (F : V → PyData → Prop) (x : V) (d : PyData) : Prop :=
  (x = .non ∧ d = .none) ∨ (∃ b, x = .bl b ∧ d = .bool b) ∨ (∃ i, x = .int i ∧ d = .int i) ∨ (∃ z, x = .str z ∧ d = .str z) ∨ (∃ a, x = .ref a ∧ ¬ ex a ∧ d = .dict [] ∧ H a = some (.dK [])) ∨
  (∃ a xs ds, x = .ref a ∧ ¬ ex a ∧ d = .list ds ∧ Rd H a (.lst xs) ∧ xs.length ≤ 1000000 ∧ Paired F xs ds) ∨ (∃ a xs ds, x = .ref a ∧ ¬ ex a ∧ d = .tuple ds ∧ Rd H a (.tup xs) ∧ xs.length ≤ 1000000 ∧ Paired F xs ds)
def Ob (H : Hp) (ex : Addr → Prop) : Nat → V → PyData → Prop
  | 0 => fun _ _ => False
  | n + 1 => ObF H ex (Ob H ex n)
theorem rd_keep {H H' : Hp} {a : Addr} {u : HO} (h : Rd H a u) (k : ∀ o, H a = some o → H' a = some o) : Rd H' a u := by
  rcases h with h | ⟨o, h⟩
  · exact .inl (k _ h)
  · exact .inr ⟨o, k _ h⟩
theorem Ob.ext {H H' : Hp} {ex : Addr → Prop} (k : ∀ b o, ¬ ex b → H b = some o → H' b = some o) : ∀ {n : Nat} {x : V} {d : PyData}, Ob H ex n x d → Ob H' ex n x d
  | 0, _, _, h => h.elim
  | n + 1, x, d, h => by
    have mp : ∀ {xs ys}, Paired (Ob H ex n) xs ys → Paired (Ob H' ex n) xs ys := fun p => Paired.mapP p fun _ _ z => Ob.ext k z
    rcases h with h | h | h | h | ⟨a, rfl, e, rfl, h1⟩ | ⟨a, xs, ds, rfl, e, rfl, h1, hz, p⟩ | ⟨a, xs, ds, rfl, e, rfl, h1, hz, p⟩
    · exact .inl h
    · exact .inr (.inl h)
    · exact .inr (.inr (.inl h))
    · exact .inr (.inr (.inr (.inl h)))
    · exact .inr (.inr (.inr (.inr (.inl ⟨a, rfl, e, rfl, k _ _ e h1⟩))))
    · exact .inr (.inr (.inr (.inr (.inr (.inl ⟨a, xs, ds, rfl, e, rfl, rd_keep h1 fun o => k _ o e, hz, mp p⟩)))))
    · exact .inr (.inr (.inr (.inr (.inr (.inr ⟨a, xs, ds, rfl, e, rfl, rd_keep h1 fun o => k _ o e, hz, mp p⟩)))))
theorem Ob.kp {H H' : Hp} {ex : Addr → Prop} (k : Kp H H') {n : Nat} {x : V} {d : PyData} (h : Ob H ex n x d) : Ob H' ex n x d := h.ext fun b o _ z => k b o z
/-- fewer are left out; of those left out besides none stands in the heap, or ex' is met only by what isn't there -/
theorem Ob.less {H : Hp} {ex ex' : Addr → Prop} (k : ∀ b, H b ≠ none → ex' b → ex b) : ∀ {n : Nat} {x : V} {d : PyData}, Ob H ex n x d → Ob H ex' n x d
  | 0, _, _, h => h.elim
  | n + 1, x, d, h => by
    have mp : ∀ {xs ys}, Paired (Ob H ex n) xs ys → Paired (Ob H ex' n) xs ys := fun p => Paired.mapP p fun _ _ z => Ob.less k z
    have rn : ∀ {a : Addr} {u : HO}, Rd H a u → H a ≠ none := fun {a u} h z => by
      rcases h with h | ⟨o, h⟩ <;> rw [h] at z <;> cases z
    rcases h with h | h | h | h | ⟨a, rfl, e, rfl, h1⟩ | ⟨a, xs, ds, rfl, e, rfl, h1, hz, p⟩ | ⟨a, xs, ds, rfl, e, rfl, h1, hz, p⟩
    · exact .inl h
    · exact .inr (.inl h)
    · exact .inr (.inr (.inl h))
    · exact .inr (.inr (.inr (.inl h)))
    · exact .inr (.inr (.inr (.inr (.inl ⟨a, rfl, fun z => e (k _ (by rw [h1]; simp) z), rfl, h1⟩))))
    · exact .inr (.inr (.inr (.inr (.inr (.inl ⟨a, xs, ds, rfl, fun z => e (k _ (rn h1) z), rfl, h1, hz, mp p⟩)))))
    · exact .inr (.inr (.inr (.inr (.inr (.inr ⟨a, xs, ds, rfl, fun z => e (k _ (rn h1) z), rfl, h1, hz, mp p⟩)))))
theorem Ob.up {H : Hp} {ex : Addr → Prop} : ∀ {n : Nat} {x : V} {d : PyData}, Ob H ex n x d → Ob H ex (n + 1) x d
  | 0, _, _, h => h.elim
  | n + 1, x, d, h => by
    have mp : ∀ {xs ys}, Paired (Ob H ex n) xs ys → Paired (Ob H ex (n + 1)) xs ys := fun p => Paired.mapP p fun _ _ z => Ob.up z
    rcases h with h | h | h | h | h | ⟨a, xs, ds, rfl, e, rfl, h1, hz, p⟩ | ⟨a, xs, ds, rfl, e, rfl, h1, hz, p⟩
    · exact .inl h
    · exact .inr (.inl h)
    · exact .inr (.inr (.inl h))
    · exact .inr (.inr (.inr (.inl h)))
    · exact .inr (.inr (.inr (.inr (.inl h))))
    · exact .inr (.inr (.inr (.inr (.inr (.inl ⟨a, xs, ds, rfl, e, rfl, h1, hz, mp p⟩)))))
    · exact .inr (.inr (.inr (.inr (.inr (.inr ⟨a, xs, ds, rfl, e, rfl, h1, hz, mp p⟩)))))
theorem Paired.both {α β : Type} {F : α → α → Prop} {G1 G2 : α → β → Prop} (f : ∀ x y d, G1 x d → G2 y d → F x y) : ∀ {xs ys : List α} {ds : List β}, Paired G1 xs ds → Paired G2 ys ds → Paired F xs ys
  | _, _, _, .nil, .nil => .nil
  | _, _, _, .cons a p, .cons b q => .cons (f _ _ _ a b) (Paired.both f p q)
/-- two that are the same data are the same to the law -/
theorem Ob.sm {K : PySem.W.Frag} {H : Hp} {ex ex' : Addr → Prop} : ∀ {n : Nat} {x y : V} {d : PyData}, Ob H ex n x d → Ob H ex' n y d → Sm K H n x y
  | 0, _, _, _, h, _ => h.elim
  | n + 1, x, y, d, h, g => by
    have hs : (1000000 : Nat) ≤ sizeLine := by decide
    rcases h with ⟨rfl, rfl⟩ | ⟨b, rfl, rfl⟩ | ⟨i, rfl, rfl⟩ | ⟨z, rfl, rfl⟩ | ⟨a, rfl, e, rfl, h1⟩ | ⟨a, xs, ds, rfl, e, rfl, h1, hz, p⟩ | ⟨a, xs, ds, rfl, e, rfl, h1, hz, p⟩ <;>
    rcases g with ⟨rfl, e2⟩ | ⟨b2, rfl, e2⟩ | ⟨i2, rfl, e2⟩ | ⟨z2, rfl, e2⟩ | ⟨a2, rfl, e3, e2, g1⟩ | ⟨a2, ys, ds2, rfl, e3, e2, g1, gz, p2⟩ | ⟨a2, ys, ds2, rfl, e3, e2, g1, gz, p2⟩ <;> cases e2
    · exact .inl ⟨rfl, rfl⟩
    · exact .inr (.inr (.inr (.inl ⟨_, rfl, rfl⟩)))
    · exact .inr (.inr (.inr (.inr (.inl ⟨_, rfl, rfl⟩))))
    · exact .inr (.inl ⟨_, rfl, rfl⟩)
    · exact .inr (.inr (.inl ⟨a, a2, [], rfl, rfl, h1, g1, by simp, fun p hp => absurd hp List.not_mem_nil⟩))
    · exact .inr (.inr (.inr (.inr (.inr (.inl ⟨a, a2, xs, ys, rfl, rfl, .inl h1, .inl g1, by omega, Paired.both (F := Sm K H n) (G1 := Ob H ex n) (G2 := Ob H ex' n) (fun _ _ _ u v => Ob.sm (K := K) (ex := ex) (ex' := ex') u v) p p2⟩)))))
    · exact .inr (.inr (.inr (.inr (.inr (.inr ⟨a, a2, xs, ys, rfl, rfl, .inl h1, .inl g1, by omega, Paired.both (F := Sm K H n) (G1 := Ob H ex n) (G2 := Ob H ex' n) (fun _ _ _ u v => Ob.sm (K := K) (ex := ex) (ex' := ex') u v) p p2⟩)))))
/-- lists for tuples, and the other way about -/
def LkF (F : PyData → PyData → Prop) (d e : PyData) : Prop :=
  (d = e ∧ (∀ xs, d ≠ .list xs) ∧ ∀ xs, d ≠ .tuple xs) ∨ (∃ xs ys, (d = .list xs ∨ d = .tuple xs) ∧ (e = .list ys ∨ e = .tuple ys) ∧ Paired F xs ys)
def Lk : Nat → PyData → PyData → Prop
  | 0 => fun _ _ => False
  | n + 1 => LkF (Lk n)
end LW
namespace LW
open PySem PySem.Spec PyProof.Rows L2

/-! ### the thing with lists in the place of tuples at times -/
def spLoose (n : Nat) : Sp := fun vs H Q _ => ∃ (s : Addr) (x : V) (d : PyData) (ex : Addr → Prop), vs = [.ref s, x] ∧ Dr H s ∧ ex s ∧ (∀ b, ex b → H b ≠ none) ∧ Ob H ex n x d ∧
  ∀ (z : V) (H' : Hp) (e : PyData), Ob H' ex n z e → Lk n d e → Dr H' s → KpB s H H' → Q z H'
theorem scLoose : FnScope ["draws", "thing", "found", "part"] ["draws", "thing"] (defScope s__law_loose) := scP_ok (by decide +kernel)
theorem Paired.cat {α β : Type} {F : α → β → Prop} : ∀ {xs xs' : List α} {ys ys' : List β}, Paired F xs ys → Paired F xs' ys' → Paired F (xs ++ xs') (ys ++ ys')
  | _, _, _, _, .nil, q => q
  | _, _, _, _, .cons a p, q => .cons a (Paired.cat p q)
theorem lk_scal {n : Nat} {H : Hp} {ex : Addr → Prop} {x : V} {d : PyData} (h : Ob H ex (n + 1) x d) (h1 : ∀ xs, d ≠ .list xs) (h2 : ∀ xs, d ≠ .tuple xs) : Lk (n + 1) d d := .inl ⟨rfl, h1, h2⟩
section
variable {P : Program} {w : World} {K : PySem.W.Frag} {mg : Str → Option Value} {base : Heap} {n : Nat} {s D : Addr} {H : Hp} {ex : Addr → Prop} {xs : List V} {ds : List PyData}
/-- how far the new list at D is -/
def LoosePv (n : Nat) (s D : Addr) (H : Hp) (ex : Addr → Prop) (ds : List PyData) (i : Nat) (H' : Hp) : Prop :=
  ∃ (zs : List V) (es : List PyData), H' D = some (.lst zs) ∧ zs.length = i ∧ Paired (Ob H' (fun b => ex b ∨ b = D) n) zs es ∧ Paired (Lk n) (ds.take i) es ∧ Dr H' s ∧ KpB s H H'
theorem loose_0 (hD : H D = none) (hd : Dr H s) : LoosePv n s D H ex ds 0 (upd H D (.lst [])) := ⟨[], [], upd_same, rfl, .nil, .nil, hd.kp (kp_new hD), .of (kp_new hD)⟩
theorem loose_step {σ : L2.St} {i : Nat} {x : V} {H' : Hp} (p : Paired (Ob H ex n) xs ds) (hx : xs[i]? = some x) (hD : H D = none) (hl : xs.length ≤ 1000000) (hs : ex s) (hex : ∀ b, ex b → H b ≠ none) (s0 : σ[0]? = some (some (.ref s))) (s3 : σ[3]? = some (some x)) (h : LoosePv n s D H ex ds i H') :
    tCall (spLoose n) [] E0 (tCons (tVar 0) (tCons (tVar 3) tNil)) σ H' fun y H4 => ∃ acc, H4 D = some (.lst acc) ∧ acc.length < sizeLine ∧ LoosePv n s D H ex ds (i + 1) (upd H4 D (.lst (acc ++ [y]))) := by
  obtain ⟨zs, es, h1, h2, h3, h4, h5, h6⟩ := h
  obtain ⟨d, hd, od⟩ := paired_get p hx
  have sD : s ≠ D := fun z => hex s hs (by rw [z]; exact hD)
  have hi : i < xs.length := (List.getElem?_eq_some_iff.mp hx).1
  refine ⟨_, s0, _, s3, s, x, d, fun b => ex b ∨ b = D, rfl, h5, .inl hs, fun b hb z => ?_, ?_, fun z H5 e oz lk dr kb => ⟨zs, kb _ _ sD.symm h1, ?_, zs ++ [z], es ++ [e], upd_same, ?_, ?_, ?_, ?_, ?_⟩⟩
  · rcases hb with hb | hb
    · cases q : H b with
      | none => exact hex b hb q
      | some o =>
        by_cases e : b = s
        · obtain ⟨_, _, _, S⟩ := h5
          rw [e, S.at_] at z
          cases z
        · rw [h6 _ _ e q] at z
          cases z
    · rw [hb, h1] at z
      cases z
  · refine Ob.ext (H := H) (fun b o nb hb => h6 _ _ (fun z => nb (by rw [z]; exact .inl hs)) hb) (Ob.less (fun b hb z => ?_) od)
    rcases z with z | z
    · exact z
    · rw [z] at hb
      exact absurd hD hb
  · have q : (1000000 : Nat) < sizeLine := by decide
    omega
  · rw [List.length_append, h2]
    rfl
  · have k8 : ∀ b o, ¬ (ex b ∨ b = D) → H5 b = some o → upd H5 D (.lst (zs ++ [z])) b = some o := fun b o nb hb => by
      rw [upd_ne (fun y => nb (.inr y))]
      exact hb
    have k9 : ∀ b o, ¬ (ex b ∨ b = D) → H' b = some o → H5 b = some o := fun b o nb hb => kb _ _ (fun y => nb (by rw [y]; exact .inl hs)) hb
    exact Paired.cat (Paired.mapP h3 fun _ _ y => (y.ext k9).ext k8) (.cons (oz.ext k8) .nil)
  · have hi2 : i < ds.length := by rw [← Paired.length p]; exact hi
    have et : ds.take (i + 1) = ds.take i ++ [d] := by
      rw [List.take_add_one, hd]
      rfl
    rw [et]
    exact Paired.cat h4 (.cons lk .nil)
  · obtain ⟨a, b, c, S⟩ := dr
    exact ⟨a, b, c, ⟨by rw [upd_ne sD]; exact S.at_, S.v0, S.d0, S.d1⟩⟩
  · intro b o nb hb
    have bD : b ≠ D := ne_of_none hb hD
    rw [upd_ne bD]
    exact kb _ _ nb (h6 _ _ nb hb)
/-- behind the comprehension -/
theorem loose_end {Q : VK} {σ : L2.St} {H' : Hp} {d : PyData} (p : Paired (Ob H ex n) xs ds) (hd : d = .list ds ∨ d = .tuple ds) (hD : H D = none) (hl : xs.length ≤ 1000000) (hs : ex s) (hex : ∀ b, ex b → H b ≠ none) (s0 : σ[0]? = some (some (.ref s))) (s2 : σ[2]? = some (some (.ref D)))
    (h : LoosePv n s D H ex ds xs.length H') (k : ∀ (z : V) (H' : Hp) (e : PyData), Ob H' ex (n + 1) z e → Lk (n + 1) d e → Dr H' s → KpB s H H' → Q z H') :
    tIf (tB (tEqI (tCall spDraw [] E0 (tCons (tVar 0) (tCons (tC (.int 3)) tNil))) (tC (.int 0)))) (tVar 2)
      (tCB (fun xs H Q => ∃ p ys, xs = [.ref p] ∧ ((SqL K H p ys ∧ ∀ l, H l = none → Q (.ref l) (upd H l (.tup ys))) ∨ (SqT K H p ys ∧ Q (.ref p) H))) (tCons (tVar 2) tNil)) σ H' Q := by
  obtain ⟨zs, es, h1, h2, h3, h4, h5, h6⟩ := h
  have sD : s ≠ D := fun z => hex s hs (by rw [z]; exact hD)
  have etk : ds.take xs.length = ds := List.take_of_length_le (Nat.le_of_eq (Paired.length p).symm)
  rw [etk] at h4
  refine ⟨_, s0, s, 3, rfl, h5, by decide, by decide, fun r H5 r0 r1 dr kb => ⟨_, _, rfl, rfl, ⟨_, rfl, ?_⟩⟩⟩
  have o5 : Paired (Ob H5 (fun b => ex b ∨ b = D) n) zs es := Paired.mapP h3 fun _ _ y => y.ext fun b o nb hb => kb _ _ (fun y => nb (by rw [y]; exact .inl hs)) hb
  have kk : KpB s H H5 := h6.trans kb
  have d5 : H5 D = some (.lst zs) := kb _ _ sD.symm h1
  have nD : ¬ ex D := fun z => hex D z hD
  have less : ∀ {H6 : Hp}, Paired (Ob H6 (fun b => ex b ∨ b = D) n) zs es → Paired (Ob H6 ex n) zs es := fun q => Paired.mapP q fun _ _ y => Ob.less (fun b _ z => .inl z) y
  refine iteB (fun _ => ?_) fun _ => ?_
  · refine ⟨_, s2, k _ H5 (.list es) ?_ (.inr ⟨ds, es, hd, .inl rfl, h4⟩) dr kk⟩
    exact .inr (.inr (.inr (.inr (.inr (.inl ⟨D, zs, es, rfl, nD, rfl, .inl d5, by omega, less o5⟩)))))
  · refine ⟨_, s2, D, zs, rfl, .inl ⟨SqL.of d5, fun l hl5 => ?_⟩⟩
    have k7 : Kp H5 (upd H5 l (.tup zs)) := kp_new hl5
    have nl : ¬ ex l := fun z => by
      cases q : H l with
      | none => exact hex l z q
      | some o =>
        by_cases e : l = s
        · obtain ⟨_, _, _, S⟩ := dr
          rw [e, S.at_] at hl5
          cases hl5
        · rw [kk _ _ e q] at hl5
          cases hl5
    refine k _ _ (.tuple es) ?_ (.inr ⟨ds, es, hd, .inr rfl, h4⟩) (dr.kp k7) (kk.trans (.of k7))
    exact .inr (.inr (.inr (.inr (.inr (.inr ⟨l, zs, es, rfl, nl, rfl, .inl upd_same, by omega, Paired.mapP (less o5) fun _ _ y => y.kp k7⟩)))))
end
end LW
namespace LW
open PySem PySem.Spec PyProof.Rows L2

theorem ok_loose {P : Program} {w : World} {K : PySem.W.Frag} {mg : Str → Option Value} {base : Heap} {fd fdD : FuncData} {f fD : Addr} (F : FnP K "_law_loose" s__law_loose f fd) (gS : mg ("_law_loose" : Str) = some (.ref f)) (gi : mg ("isinstance" : Str) = none) (g1 : mg ("list" : Str) = none)
    (g2 : mg ("tuple" : Str) = none) (gD : mg ("_law_draw" : Str) = some (.ref fD)) (GD : FnOk P w K mg base CX0 1 fD fdD ["draws", "many"] spDraw) (kD : PySem.W.keepIn K (.ref fD) = true) (bD : Binds K fdD ["draws", "many"] []) :
    ∀ n : Nat, FnOk P w K mg base CX0 (n + 1) f fd ["draws", "thing"] (spLoose n)
  | 0 => ⟨fun vs H Q E h => by obtain ⟨s, x, d, ex, rfl, _⟩ := h; rfl, fun _ _ _ _ _ _ _ _ _ _ _ _ _ h => by obtain ⟨_, _, _, _, _, _, _, _, h, _⟩ := h; exact (show False from h).elim⟩
  | n + 1 => by
    have GS : FnOk P w K mg base CX0 (n + 1) f fd ["draws", "thing"] (spLoose n) := ok_loose F gS gi g1 g2 gD GD kD bD n
    have bS : Binds K fd ["draws", "thing"] [] := F.bindsN fun _ _ _ _ _ _ us hl => match us, hl with | [_, _], _ => rfl
    refine F.ok scLoose (fun vs H Q E h => ?_) fun cdv A outer s0 H vs Q E hr h => ?_
    · obtain ⟨s, x, d, ex, rfl, _⟩ := h
      rfl
    · have hr1 := hr.mono (j := 1) (by omega)
      obtain ⟨s, x, d, ex, rfl, dr, hs, hex, ob, k⟩ := h
      have sc : ∀ (T : String), TyX K H x (.type T) → kitB T "list" = some false → kitB T "tuple" = some false → (∀ xs, d ≠ .list xs) → (∀ xs, d ≠ .tuple xs) →
          ∃ t, PSs (cxOf CX0 P w K mg base ["draws", "thing", "found", "part"] "_law_loose" (defScope s__law_loose) f cdv A outer s0 H E) (defBody s__law_loose) t ∧ t { nx := fun _ H' => Q .non H', rt := Q } (L2.start ["draws", "thing", "found", "part"] [.ref s, x]) H := fun T ty h1 h2 n1 n2 => by
        refine ⟨_, pss_cons (ps_if (pt_not (pt_val (pe_callB call_isiT rfl gi rfl (pa_cons (pv 1) (pa_cons (pe_tup (pa_cons (pe_bltn (v := .ty "list") rfl g1 rfl rfl) (pa_cons (pe_bltn (v := .ty "tuple") rfl g2 rfl rfl) pa_nil))) pa_nil))))) (pss_one (ps_ret (pv 1))) pss_nil) pss_never, ?_⟩
        refine is2_go (i := 1) rfl ty (r1 := false) (r2 := false) h1 h2 fun H1 k1 => ⟨_, rfl, iteT rfl ⟨_, rfl, ?_⟩⟩
        exact k x H1 d (ob.kp k1) (lk_scal ob n1 n2) (dr.kp k1) (.of k1)
      rcases ob with ⟨rfl, rfl⟩ | ⟨b, rfl, rfl⟩ | ⟨i, rfl, rfl⟩ | ⟨z, rfl, rfl⟩ | ⟨a, rfl, e, rfl, h1⟩ | ⟨a, xs, ds, rfl, e, rfl, h1, hz, p⟩ | ⟨a, xs, ds, rfl, e, rfl, h1, hz, p⟩
      · exact sc "NoneType" (.base .non) (by decide +kernel) (by decide +kernel) (fun _ z => by cases z) fun _ z => by cases z
      · exact sc "bool" (.base (.bl _)) (by decide +kernel) (by decide +kernel) (fun _ z => by cases z) fun _ z => by cases z
      · exact sc "int" (.base (.int _)) (by decide +kernel) (by decide +kernel) (fun _ z => by cases z) fun _ z => by cases z
      · exact sc "str" (.base (.str _)) (by decide +kernel) (by decide +kernel) (fun _ z => by cases z) fun _ z => by cases z
      · exact sc "dict" (.base (.dK h1)) (by decide +kernel) (by decide +kernel) (fun _ z => by cases z) fun _ z => by cases z
      · refine ⟨_, pss_cons (ps_if (pt_not (pt_val (pe_callB call_isiT rfl gi rfl (pa_cons (pv 1) (pa_cons (pe_tup (pa_cons (pe_bltn (v := .ty "list") rfl g1 rfl rfl) (pa_cons (pe_bltn (v := .ty "tuple") rfl g2 rfl rfl) pa_nil))) pa_nil))))) (pss_one (ps_ret (pv 1))) pss_nil)
          (pss_cons (ps_setLc (i := 2) (own := [("part", 3)]) (g := gName 3) (tt := tYes) (te := tCall (spLoose n) [] E0 (tCons (tVar 0) (tCons (tVar 3) tNil))) rfl scLoose.nd rfl rfl (sw_true rfl rfl rfl (by decide +kernel)) (pi_list (pv 1))
            (blkOk_by (N := ["draws", "thing", "found", "part"]) (sc := defScope s__law_loose) (by decide +kernel)) (fun _ _ _ _ _ => pg_name (i := 3) scLoose.nd rfl (Or.inl rfl)) (fun _ _ _ _ _ => pts_nil) (fun _ _ _ _ _ => pe_call GS hr rfl gS F.kp bS .nil pass0 (pa_cons (pv 0) (pa_cons (pv 3) pa_nil))))
            (pss_one (ps_ret (pe_ifExp (pt_cmp (pc_eqI (pe_call GD hr1 rfl gD kD bD .nil pass0 (pa_cons (pv 0) (pa_cons pe_int pa_nil))) pe_int)) (pv 2) (pe_callTy call_tuple_of rfl g2 rfl (pa_cons (pv 2) pa_nil)))))), ?_⟩
        refine is2_go (i := 1) rfl (ty_sqL (.inl h1)) (r1 := true) (r2 := false) (by decide +kernel) (by decide +kernel) fun H1 k1 => ⟨_, rfl, iteF rfl ?_⟩
        have hx1 : Rd H1 a (.lst xs) := rd_keep h1 fun o => k1 _ o
        have p1 : Paired (Ob H1 ex n) xs ds := Paired.mapP p fun _ _ y => y.kp k1
        have hex1 : ∀ b, ex b → H1 b ≠ none := fun b hb z => by
          cases q : H b with
          | none => exact hex b hb q
          | some o =>
            rw [k1 _ _ q] at z
            cases z
        refine ⟨_, rfl, a, rfl, ⟨xs, .inl hx1⟩, fun D hD => ?_⟩
        refine lc_list (LoosePv n s D H1 ex ds) (loose_0 hD (dr.kp k1)) (fun i H' _ hP => ?_) (fun i x H' hx hP => ⟨rfl, loose_step p1 hx hD hz hs hex1 rfl rfl hP⟩) fun H' hP => ?_
        · obtain ⟨_, _, _, _, _, _, _, k6⟩ := hP
          exact SqL.kpB (.inl hx1) k6 fun z => e (by rw [z]; exact hs)
        · exact loose_end p1 (.inl rfl) hD hz hs hex1 rfl rfl hP fun z H' e1 o l d1 kb => k z H' e1 o l d1 ((KpB.of k1).trans kb)
      · refine ⟨_, pss_cons (ps_if (pt_not (pt_val (pe_callB call_isiT rfl gi rfl (pa_cons (pv 1) (pa_cons (pe_tup (pa_cons (pe_bltn (v := .ty "list") rfl g1 rfl rfl) (pa_cons (pe_bltn (v := .ty "tuple") rfl g2 rfl rfl) pa_nil))) pa_nil))))) (pss_one (ps_ret (pv 1))) pss_nil)
          (pss_cons (ps_setLc (i := 2) (own := [("part", 3)]) (g := gName 3) (tt := tYes) (te := tCall (spLoose n) [] E0 (tCons (tVar 0) (tCons (tVar 3) tNil))) rfl scLoose.nd rfl rfl (sw_true rfl rfl rfl (by decide +kernel)) (pi_tup (pv 1))
            (blkOk_by (N := ["draws", "thing", "found", "part"]) (sc := defScope s__law_loose) (by decide +kernel)) (fun _ _ _ _ _ => pg_name (i := 3) scLoose.nd rfl (Or.inl rfl)) (fun _ _ _ _ _ => pts_nil) (fun _ _ _ _ _ => pe_call GS hr rfl gS F.kp bS .nil pass0 (pa_cons (pv 0) (pa_cons (pv 3) pa_nil))))
            (pss_one (ps_ret (pe_ifExp (pt_cmp (pc_eqI (pe_call GD hr1 rfl gD kD bD .nil pass0 (pa_cons (pv 0) (pa_cons pe_int pa_nil))) pe_int)) (pv 2) (pe_callTy call_tuple_of rfl g2 rfl (pa_cons (pv 2) pa_nil)))))), ?_⟩
        refine is2_go (i := 1) rfl (ty_sqT (.inl h1)) (r1 := false) (r2 := true) (by decide +kernel) (by decide +kernel) fun H1 k1 => ⟨_, rfl, iteF rfl ?_⟩
        have hx1 : Rd H1 a (.tup xs) := rd_keep h1 fun o => k1 _ o
        have p1 : Paired (Ob H1 ex n) xs ds := Paired.mapP p fun _ _ y => y.kp k1
        have hex1 : ∀ b, ex b → H1 b ≠ none := fun b hb z => by
          cases q : H b with
          | none => exact hex b hb q
          | some o =>
            rw [k1 _ _ q] at z
            cases z
        refine ⟨_, rfl, a, rfl, ⟨xs, .inl hx1⟩, fun D hD => ?_⟩
        refine lc_tup (LoosePv n s D H1 ex ds) (loose_0 hD (dr.kp k1)) (fun i H' _ hP => ?_) (fun i x H' hx hP => ⟨rfl, loose_step p1 hx hD hz hs hex1 rfl rfl hP⟩) fun H' hP => ?_
        · obtain ⟨_, _, _, _, _, _, _, k6⟩ := hP
          exact SqT.kpB (.inl hx1) k6 fun z => e (by rw [z]; exact hs)
        · exact loose_end p1 (.inr rfl) hD hz hs hex1 rfl rfl hP fun z H' e1 o l d1 kb => k z H' e1 o l d1 ((KpB.of k1).trans kb)
end LW
namespace LW

/-! ### fractions in lowest terms -/
def lowT (t b : Int) : Int × Int := (t / (Int.gcd t b : Int), b / (Int.gcd t b : Int))
theorem gcd_pos_of {t b : Int} (h : 0 < b) : 0 < (Int.gcd t b : Int) := by
  have z : Int.gcd t b ≠ 0 := fun e => by
    have q := (Int.gcd_eq_zero_iff.mp e).2
    omega
  omega
/-- a fraction is its lowest one times the greatest common divisor -/
theorem low_mul {t b : Int} (h : 0 < b) : (lowT t b).1 * (Int.gcd t b : Int) = t ∧ (lowT t b).2 * (Int.gcd t b : Int) = b ∧ 0 < (lowT t b).2 ∧ Int.gcd (lowT t b).1 (lowT t b).2 = 1 := by
  have g := gcd_pos_of (t := t) h
  have e1 : (lowT t b).1 * (Int.gcd t b : Int) = t := Int.ediv_mul_cancel (Int.gcd_dvd_left _ _)
  have e2 : (lowT t b).2 * (Int.gcd t b : Int) = b := Int.ediv_mul_cancel (Int.gcd_dvd_right _ _)
  refine ⟨e1, e2, ?_, ?_⟩
  · rcases Int.lt_trichotomy 0 (lowT t b).2 with z | z | z
    · exact z
    · rw [← z, Int.zero_mul] at e2
      omega
    · have := Int.mul_neg_of_neg_of_pos z g
      omega
  · have q : Int.gcd ((lowT t b).1 * (Int.gcd t b : Int)) ((lowT t b).2 * (Int.gcd t b : Int)) = Int.gcd (lowT t b).1 (lowT t b).2 * Int.gcd t b := by
      rw [Int.gcd_mul_right]
      simp
    rw [e1, e2] at q
    have g' : 0 < Int.gcd t b := by omega
    exact (Nat.mul_right_cancel g' (by rw [Nat.one_mul]; exact q)).symm
theorem dvd_cop {q p s : Int} (z : q ∣ p * s) (h : Int.gcd q p = 1) : q ∣ s := by
  have z1 : q.natAbs ∣ p.natAbs * s.natAbs := by
    rw [← Int.natAbs_mul]
    exact Int.natAbs_dvd_natAbs.mpr z
  have c : Nat.Coprime q.natAbs p.natAbs := h
  exact Int.natAbs_dvd_natAbs.mp (c.dvd_of_dvd_mul_left z1)
/-- of the fractions that are equal there is one in lowest terms -/
theorem low_uniq {p q r s : Int} (hq : 0 < q) (hs : 0 < s) (h1 : Int.gcd p q = 1) (h2 : Int.gcd r s = 1) (e : p * s = r * q) : p = r ∧ q = s := by
  have d1 : q ∣ s := by
    have z : q ∣ p * s := ⟨r, by rw [e, Int.mul_comm]⟩
    exact dvd_cop z (by rw [Int.gcd_comm]; exact h1)
  have d2 : s ∣ q := by
    have z : s ∣ r * q := ⟨p, by rw [← e, Int.mul_comm]⟩
    exact dvd_cop z (by rw [Int.gcd_comm]; exact h2)
  have eq : q = s := Int.le_antisymm (Int.le_of_dvd hs d1) (Int.le_of_dvd hq d2)
  subst eq
  exact ⟨Int.eq_of_mul_eq_mul_right (by omega) e, rfl⟩
theorem low_eq {t b u c : Int} (hb : 0 < b) (hc : 0 < c) (e : t * c = u * b) : lowT t b = lowT u c := by
  obtain ⟨a1, a2, a3, a4⟩ := low_mul (t := t) hb
  obtain ⟨b1, b2, b3, b4⟩ := low_mul (t := u) hc
  have g1 := gcd_pos_of (t := t) hb
  have g2 := gcd_pos_of (t := u) hc
  have key : (lowT t b).1 * (lowT u c).2 = (lowT u c).1 * (lowT t b).2 := by
    have z : ((lowT t b).1 * (lowT u c).2) * ((Int.gcd t b : Int) * (Int.gcd u c : Int)) = ((lowT u c).1 * (lowT t b).2) * ((Int.gcd t b : Int) * (Int.gcd u c : Int)) := by
      calc ((lowT t b).1 * (lowT u c).2) * ((Int.gcd t b : Int) * (Int.gcd u c : Int)) = ((lowT t b).1 * (Int.gcd t b : Int)) * ((lowT u c).2 * (Int.gcd u c : Int)) := by ac_rfl
        _ = t * c := by rw [a1, b2]
        _ = u * b := e
        _ = ((lowT u c).1 * (Int.gcd u c : Int)) * ((lowT t b).2 * (Int.gcd t b : Int)) := by rw [b1, a2]
        _ = ((lowT u c).1 * (lowT t b).2) * ((Int.gcd t b : Int) * (Int.gcd u c : Int)) := by ac_rfl
    have gp : (Int.gcd t b : Int) * (Int.gcd u c : Int) ≠ 0 := Int.ne_of_gt (Int.mul_pos g1 g2)
    exact Int.eq_of_mul_eq_mul_right gp z
  obtain ⟨x, y⟩ := low_uniq a3 b3 a4 b4 key
  exact Prod.ext x y
/-- Euclid's step -/
theorem gcd_step {one other : Int} (h : 0 < other) (h0 : 0 ≤ one) : Int.gcd other (one % other) = Int.gcd one other := by
  rw [Int.gcd_comm one other]
  obtain ⟨k, e⟩ : ∃ k, one = one % other + k * other := ⟨one / other, by rw [Int.mul_comm]; exact (Int.emod_add_mul_ediv one other).symm⟩
  conv => rhs; rw [e]
  rw [Int.gcd_add_mul_right_right]
end LW
namespace LW
open PySem PySem.Spec PyProof.Rows L2

/-! ### fractions as the law reckons them -/
def fracV (p : Int × Int) : List V := [.int p.1, .int p.2]
def spLow : Sp := fun vs H Q _ => ∃ t b : Int, vs = [.int t, .int b] ∧ 0 < b ∧ b.natAbs < 2 ^ 4000 ∧ ∀ p, H p = none → Q (.ref p) (upd H p (.tup (fracV (lowT t b))))
theorem scLow : FnScope ["top", "bottom", "one", "other"] ["top", "bottom"] (defScope s__law_lowest) := scP_ok (by decide +kernel)
theorem ok_lowest {P : Program} {w : World} {K : PySem.W.Frag} {mg : Str → Option Value} {base : Heap} (gi : mg ("int" : Str) = none) (ga : mg ("abs" : Str) = none) {fd : FuncData} {f : Addr} {x : Str} (F : FnP K x s__law_lowest f fd) :
    FnOk P w K mg base CX0 1 f fd ["top", "bottom"] spLow := by
  refine F.ok scLow (fun vs H Q E h => ?_) fun cdv A outer s0 H vs Q E hr h => ?_
  · obtain ⟨t, b, rfl, _⟩ := h
    rfl
  · obtain ⟨t, b, rfl, b0, b1, k⟩ := h
    refine ⟨_, PSs.nox (pss_cons (ps_par (i := 2) (j := 3) rfl scLow.nd rfl rfl (by decide) rfl rfl (pa_cons (pe_callB call_abs rfl ga rfl (pa_cons (pv 0) pa_nil)) (pa_cons (pv 1) pa_nil)) (by rfl))
      (pss_cons (ps_while PassesOwn.never (pt_cmp (pc_gt (pv 3) pe_int)) (pss_one (ps_par (i := 2) (j := 3) rfl scLow.nd rfl rfl (by decide) rfl rfl (pa_cons (pv 3) (pa_cons (pe_op op_mod (pe_callTy call_int1 rfl gi rfl (pa_cons (pv 2) pa_nil)) (pv 3)) pa_nil)) (by rfl))))
        (pss_one (ps_ret (pe_tup (pa_cons (pe_op op_fdivW (pv 0) (pv 2)) (pa_cons (pe_op op_fdivW (pv 1) (pv 2)) pa_nil))))))), ?_⟩
    refine ⟨_, rfl, _, rfl, _, rfl, _, _, rfl, ?_⟩
    refine ⟨fun m σ H' => ∃ o r : Int, σ = [some (.int t), some (.int b), some (.int o), some (.int r)] ∧ 0 ≤ o ∧ 0 ≤ r ∧ Int.gcd o r = Int.gcd t b ∧ r.toNat = m ∧ H' = H, ⟨_, _, _, rfl, by split <;> omega, by omega, ?_, rfl, rfl⟩, fun m σ H' hW => ?_⟩
    · have e : (if t < 0 then -t else t) = (t.natAbs : Int) := by split <;> omega
      rw [e]
      unfold Int.gcd
      rw [Int.natAbs_natCast]
    · obtain ⟨o, r, rfl, o0, r0, hg, rfl, rfl⟩ := hW
      refine ⟨_, rfl, _, _, rfl, rfl, ⟨_, rfl, iteB (fun hb => ?_) fun hb => ?_⟩⟩
      · have hr : 0 < r := of_decide_eq_true hb
        refine ⟨fun σ' H'' => ∃ m', m' < r.toNat ∧ ∃ o r : Int, σ' = [some (.int t), some (.int b), some (.int o), some (.int r)] ∧ 0 ≤ o ∧ 0 ≤ r ∧ Int.gcd o r = Int.gcd t b ∧ r.toNat = m' ∧ H'' = H', fun σ' H'' z => z, ?_⟩
        obtain ⟨e0, e1⟩ := emod_b (a := o) hr
        exact ⟨_, rfl, _, rfl, .inl ⟨_, rfl, ⟨_, rfl, _, _, rfl, rfl, hr, _, _, rfl, (o % r).toNat, by omega, r, o % r, rfl, by omega, e0, by rw [gcd_step hr o0]; exact hg, rfl, rfl⟩⟩⟩
      · have hr : r = 0 := by
          have z : ¬ 0 < r := fun q => by
            have hb' : decide ((0 : Int) < r) = false := hb
            rw [decide_eq_true q] at hb'
            cases hb'
          omega
        subst hr
        have eg : o = (Int.gcd t b : Int) := by
          rw [Int.gcd_zero_right] at hg
          omega
        have g0 : 0 < o := by
          rw [eg]
          exact gcd_pos_of b0
        have gb : o.natAbs < 2 ^ 4000 := by
          refine Nat.lt_of_le_of_lt ?_ b1
          have d : (Int.gcd t b : Int) ∣ b := Int.gcd_dvd_right _ _
          rw [eg]
          have q := Int.le_of_dvd b0 d
          omega
        have cd : ∀ i : Int, CDivW i o := fun i => wide_div g0 gb (by decide) (by decide)
        refine ⟨_, rfl, _, rfl, _, _, rfl, rfl, cd _, _, rfl, _, rfl, _, _, rfl, rfl, cd _, le_sz rfl, fun p hp => ?_⟩
        have q := k p hp
        unfold lowT fracV at q
        rw [← eg] at q
        exact q
end LW
namespace LW
open PySem PySem.Spec PyProof.Rows L2

/-- a fraction stands at x -/
def FrAt (K : PySem.W.Frag) (H : Hp) (x : V) (p : Int × Int) : Prop := ∃ a, x = .ref a ∧ (SqT K H a (fracV p) ∨ SqL K H a (fracV p))
theorem FrAt.kp {K : PySem.W.Frag} {H H' : Hp} {x : V} {p : Int × Int} (h : FrAt K H x p) (k : Kp H H') : FrAt K H' x p := by
  obtain ⟨a, e, h⟩ := h
  exact ⟨a, e, h.elim (fun z => .inl (SqT.kp z k)) fun z => .inr (SqL.kp z k)⟩
theorem FrAt.ix {K : PySem.W.Frag} {H : Hp} {x : V} {p : Int × Int} (h : FrAt K H x p) {j : Nat} {v : V} {Q : VK} (e : (fracV p)[j]? = some v) (q : Q v H) : rIx K x (.int (j : Int)) H Q := by
  obtain ⟨a, rfl, h⟩ := h
  rcases h with h | h
  · exact .inr (.inl ⟨a, _, _, _, rfl, rfl, h, atI_nat e, q⟩)
  · exact .inl ⟨a, _, _, _, rfl, rfl, h, atI_nat e, q⟩
theorem FrAt.x0 {K : PySem.W.Frag} {H : Hp} {x : V} {p : Int × Int} (h : FrAt K H x p) {Q : VK} (q : Q (.int p.1) H) : rIx K x (.int 0) H Q := h.ix (j := 0) rfl q
theorem FrAt.x1 {K : PySem.W.Frag} {H : Hp} {x : V} {p : Int × Int} (h : FrAt K H x p) {Q : VK} (q : Q (.int p.2) H) : rIx K x (.int 1) H Q := h.ix (j := 1) rfl q
/-- a fraction whose numbers stay below 2 ^ n -/
structure FrB (n : Nat) (p : Int × Int) : Prop where
  t : p.1.natAbs < 2 ^ n
  b : p.2.natAbs < 2 ^ n
  b0 : 0 < p.2
theorem low_b {t b : Int} {n : Nat} (h0 : 0 < b) (h1 : t.natAbs < 2 ^ n) (h2 : b.natAbs < 2 ^ n) : FrB n (lowT t b) := by
  obtain ⟨e1, e2, e3, _⟩ := low_mul (t := t) h0
  have g := gcd_pos_of (t := t) h0
  have le : ∀ {x y : Int}, x * (Int.gcd t b : Int) = y → x.natAbs ≤ y.natAbs := fun {x y} e => by
    rw [← e, Int.natAbs_mul]
    exact Nat.le_mul_of_pos_right _ (by omega)
  exact ⟨Nat.lt_of_le_of_lt (le e1) h1, Nat.lt_of_le_of_lt (le e2) h2, e3⟩
def plusT (p q : Int × Int) : Int × Int := lowT (p.1 * q.2 + q.1 * p.2) (p.2 * q.2)
def timesT (p q : Int × Int) : Int × Int := lowT (p.1 * q.1) (p.2 * q.2)
theorem sum_b {x y : Int} {n : Nat} (h1 : x.natAbs < 2 ^ n) (h2 : y.natAbs < 2 ^ n) : (x + y).natAbs < 2 ^ (n + 1) := by
  rw [Nat.pow_succ]
  omega
theorem two_le {a b : Nat} (h : a ≤ b) : 2 ^ a ≤ 2 ^ b := Nat.pow_le_pow_right (by decide) h
theorem plus_b {p q : Int × Int} {n m : Nat} (h1 : FrB n p) (h2 : FrB m q) : FrB (n + m + 1) (plusT p q) := by
  have z1 := wide_lt h1.t h2.b
  have z2 := wide_lt h2.t h1.b
  rw [Nat.add_comm m n] at z2
  have z3 := wide_lt h1.b h2.b
  exact low_b (Int.mul_pos h1.b0 h2.b0) (sum_b z1 z2) (Nat.lt_of_lt_of_le z3 (two_le (by omega)))
theorem times_b {p q : Int × Int} {n m : Nat} (h1 : FrB n p) (h2 : FrB m q) : FrB (n + m) (timesT p q) :=
  low_b (Int.mul_pos h1.b0 h2.b0) (wide_lt h1.t h2.t) (wide_lt h1.b h2.b)
def spOp (K : PySem.W.Frag) (op : Int × Int → Int × Int → Int × Int) : Sp := fun vs H Q _ => ∃ (x y : V) (p q : Int × Int) (n : Nat), vs = [x, y] ∧ FrAt K H x p ∧ FrAt K H y q ∧ FrB n p ∧ FrB n q ∧ 0 < n ∧ n ≤ 1900 ∧ ∀ r, H r = none → Q (.ref r) (upd H r (.tup (fracV (op p q))))
theorem scPlus : FnScope ["one", "other"] ["one", "other"] (defScope s__law_plus) := scP_ok (by decide +kernel)
theorem scTimes : FnScope ["one", "other"] ["one", "other"] (defScope s__law_times) := scP_ok (by decide +kernel)
section
variable {P : Program} {w : World} {K : PySem.W.Frag} {mg : Str → Option Value} {base : Heap} {fL : Addr} {fdL : FuncData}
theorem ok_plus (gL : mg ("_law_lowest" : Str) = some (.ref fL)) (GL : FnOk P w K mg base CX0 1 fL fdL ["top", "bottom"] spLow) (kL : PySem.W.keepIn K (.ref fL) = true) (bL : Binds K fdL ["top", "bottom"] []) {fd : FuncData} {f : Addr} {x : Str} (F : FnP K x s__law_plus f fd) :
    FnOk P w K mg base CX0 2 f fd ["one", "other"] (spOp K plusT) := by
  refine F.ok scPlus (fun vs H Q E h => ?_) fun cdv A outer s0 H vs Q E hr h => ?_
  · obtain ⟨x, y, p, q, n, rfl, _⟩ := h
    rfl
  · obtain ⟨x, y, p, q, n, rfl, hx, hy, bp, bq, n0, n1, k⟩ := h
    refine ⟨_, pss_one (ps_ret (pe_call GL hr rfl gL kL bL .nil pass0 (pa_cons (pe_op op_add (pe_op op_mulW (pe_ix ix_seq (pv 0) pe_int (fun _ _ => rfl)) (pe_ix ix_seq (pv 1) pe_int (fun _ _ => rfl))) (pe_op op_mulW (pe_ix ix_seq (pv 1) pe_int (fun _ _ => rfl)) (pe_ix ix_seq (pv 0) pe_int (fun _ _ => rfl))))
      (pa_cons (pe_op op_mulW (pe_ix ix_seq (pv 0) pe_int (fun _ _ => rfl)) (pe_ix ix_seq (pv 1) pe_int (fun _ _ => rfl))) pa_nil)))), ?_⟩
    have mw : ∀ {i j : Int}, i.natAbs < 2 ^ n → j.natAbs < 2 ^ n → CMulW i j := fun a b => wide_mul a b n0 n0 (by omega)
    refine ⟨_, rfl, hx.x0 ⟨_, rfl, hy.x1 ⟨_, _, rfl, rfl, mw bp.t bq.b, _, rfl, hy.x0 ⟨_, rfl, hx.x1 ⟨_, _, rfl, rfl, mw bq.t bp.b, _, _, rfl, rfl, _, rfl, hx.x1 ⟨_, rfl, hy.x1 ⟨_, _, rfl, rfl, mw bp.b bq.b, ?_⟩⟩⟩⟩⟩⟩⟩
    exact ⟨_, _, rfl, Int.mul_pos bp.b0 bq.b0, Nat.lt_of_lt_of_le (wide_lt bp.b bq.b) (two_le (by omega)), k⟩
theorem ok_times (gL : mg ("_law_lowest" : Str) = some (.ref fL)) (GL : FnOk P w K mg base CX0 1 fL fdL ["top", "bottom"] spLow) (kL : PySem.W.keepIn K (.ref fL) = true) (bL : Binds K fdL ["top", "bottom"] []) {fd : FuncData} {f : Addr} {x : Str} (F : FnP K x s__law_times f fd) :
    FnOk P w K mg base CX0 2 f fd ["one", "other"] (spOp K timesT) := by
  refine F.ok scTimes (fun vs H Q E h => ?_) fun cdv A outer s0 H vs Q E hr h => ?_
  · obtain ⟨x, y, p, q, n, rfl, _⟩ := h
    rfl
  · obtain ⟨x, y, p, q, n, rfl, hx, hy, bp, bq, n0, n1, k⟩ := h
    refine ⟨_, pss_one (ps_ret (pe_call GL hr rfl gL kL bL .nil pass0 (pa_cons (pe_op op_mulW (pe_ix ix_seq (pv 0) pe_int (fun _ _ => rfl)) (pe_ix ix_seq (pv 1) pe_int (fun _ _ => rfl)))
      (pa_cons (pe_op op_mulW (pe_ix ix_seq (pv 0) pe_int (fun _ _ => rfl)) (pe_ix ix_seq (pv 1) pe_int (fun _ _ => rfl))) pa_nil)))), ?_⟩
    have mw : ∀ {i j : Int}, i.natAbs < 2 ^ n → j.natAbs < 2 ^ n → CMulW i j := fun a b => wide_mul a b n0 n0 (by omega)
    refine ⟨_, rfl, hx.x0 ⟨_, rfl, hy.x0 ⟨_, _, rfl, rfl, mw bp.t bq.t, _, rfl, hx.x1 ⟨_, rfl, hy.x1 ⟨_, _, rfl, rfl, mw bp.b bq.b, ?_⟩⟩⟩⟩⟩
    exact ⟨_, _, rfl, Int.mul_pos bp.b0 bq.b0, Nat.lt_of_lt_of_le (wide_lt bp.b bq.b) (two_le (by omega)), k⟩
end
end LW
namespace LW
open PySem PySem.Spec PyProof.Rows L2

/-- a form stands at x -/
def FmAt (K : PySem.W.Frag) (H : Hp) (x : V) (p q : Int × Int) : Prop := ∃ a u v, x = .ref a ∧ (SqT K H a [u, v] ∨ SqL K H a [u, v]) ∧ FrAt K H u p ∧ FrAt K H v q
theorem FmAt.x0 {K : PySem.W.Frag} {H : Hp} {x : V} {p q : Int × Int} (h : FmAt K H x p q) {Q : VK} (k : ∀ u, FrAt K H u p → Q u H) : rIx K x (.int 0) H Q := by
  obtain ⟨a, u, v, rfl, h, hu, hv⟩ := h
  rcases h with h | h
  · exact .inr (.inl ⟨a, _, _, _, rfl, rfl, h, atI_nat (j := 0) rfl, k u hu⟩)
  · exact .inl ⟨a, _, _, _, rfl, rfl, h, atI_nat (j := 0) rfl, k u hu⟩
theorem FmAt.x1 {K : PySem.W.Frag} {H : Hp} {x : V} {p q : Int × Int} (h : FmAt K H x p q) {Q : VK} (k : ∀ u, FrAt K H u q → Q u H) : rIx K x (.int 1) H Q := by
  obtain ⟨a, u, v, rfl, h, hu, hv⟩ := h
  rcases h with h | h
  · exact .inr (.inl ⟨a, _, _, _, rfl, rfl, h, atI_nat (j := 1) rfl, k v hv⟩)
  · exact .inl ⟨a, _, _, _, rfl, rfl, h, atI_nat (j := 1) rfl, k v hv⟩
theorem FrB.mono {n m : Nat} {p : Int × Int} (h : FrB n p) (e : n ≤ m) : FrB m p := ⟨Nat.lt_of_lt_of_le h.t (two_le e), Nat.lt_of_lt_of_le h.b (two_le e), h.b0⟩
def spAt (K : PySem.W.Frag) : Sp := fun vs H Q _ => ∃ (x y : V) (p q w : Int × Int) (n : Nat), vs = [x, y] ∧ FmAt K H x p q ∧ FrAt K H y w ∧ FrB n p ∧ FrB n q ∧ FrB n w ∧ 0 < n ∧ n ≤ 900 ∧
  ∀ r H', Kp H H' → H r = none → H' r = some (.tup (fracV (plusT p (timesT q w)))) → Q (.ref r) H'
theorem scAt : FnScope ["form", "width"] ["form", "width"] (defScope s__law_at) := scP_ok (by decide +kernel)
theorem ok_at {P : Program} {w : World} {K : PySem.W.Frag} {mg : Str → Option Value} {base : Heap} {fP fT : Addr} {fdP fdT : FuncData} (gP : mg ("_law_plus" : Str) = some (.ref fP)) (GP : FnOk P w K mg base CX0 2 fP fdP ["one", "other"] (spOp K plusT)) (kP : PySem.W.keepIn K (.ref fP) = true) (bP : Binds K fdP ["one", "other"] [])
    (gT : mg ("_law_times" : Str) = some (.ref fT)) (GT : FnOk P w K mg base CX0 2 fT fdT ["one", "other"] (spOp K timesT)) (kT : PySem.W.keepIn K (.ref fT) = true) (bT : Binds K fdT ["one", "other"] []) {fd : FuncData} {f : Addr} {x : Str} (F : FnP K x s__law_at f fd) : FnOk P w K mg base CX0 3 f fd ["form", "width"] (spAt K) := by
  refine F.ok scAt (fun vs H Q E h => ?_) fun cdv A outer s0 H vs Q E hr h => ?_
  · obtain ⟨x, y, p, q, w, n, rfl, _⟩ := h
    rfl
  · obtain ⟨x, y, p, q, w, n, rfl, hx, hy, bp, bq, bw, n0, n1, k⟩ := h
    refine ⟨_, pss_one (ps_ret (pe_call GP hr rfl gP kP bP .nil pass0 (pa_cons (pe_ix ix_seq (pv 0) pe_int (fun _ _ => rfl)) (pa_cons (pe_call GT hr rfl gT kT bT .nil pass0 (pa_cons (pe_ix ix_seq (pv 0) pe_int (fun _ _ => rfl)) (pa_cons (pv 1) pa_nil))) pa_nil)))), ?_⟩
    refine ⟨_, rfl, hx.x0 fun u hu => ⟨_, rfl, hx.x1 fun v hv => ⟨_, rfl, v, y, q, w, n, rfl, hv, hy, bq, bw, n0, by omega, fun r hr => ?_⟩⟩⟩
    have e1 : Kp H (upd H r (.tup (fracV (timesT q w)))) := kp_new hr
    refine ⟨u, .ref r, p, timesT q w, n + n, rfl, hu.kp e1, ⟨r, rfl, .inl (SqT.of upd_same)⟩, bp.mono (by omega), times_b bq bw, by omega, by omega, fun r2 hr2 => ?_⟩
    refine k r2 _ (fun b o z => kp_new hr2 _ _ (e1 _ _ z)) ?_ upd_same
    cases z : H r2 with
    | none => rfl
    | some o =>
      rw [e1 _ _ z] at hr2
      cases hr2
/-- a drawn fraction -/
def spFrac : Sp := fun vs H Q _ => ∃ s : Addr, vs = [.ref s] ∧ Dr H s ∧ ∀ (r : Addr) (H' : Hp) (t b : Int), H r = none → H' r = some (.tup (fracV (lowT t b))) → FrB 21 (t, b) → Dr H' s → KpB s H H' → Q (.ref r) H'
theorem scFrac : FnScope ["draws", "top"] ["draws"] (defScope s__law_some_fraction) := scP_ok (by decide +kernel)
theorem dr_some {H : Hp} {s : Addr} (d : Dr H s) : H s ≠ none := fun z => by
  obtain ⟨_, _, _, S⟩ := d
  rw [S.at_] at z
  cases z
section
variable {P : Program} {w : World} {K : PySem.W.Frag} {mg : Str → Option Value} {base : Heap} {fD fP fL : Addr} {fdD fdP fdL : FuncData}
theorem ok_frac (gD : mg ("_law_draw" : Str) = some (.ref fD)) (GD : FnOk P w K mg base CX0 1 fD fdD ["draws", "many"] spDraw) (kD : PySem.W.keepIn K (.ref fD) = true) (bD : Binds K fdD ["draws", "many"] [])
    (gP : mg ("_law_pick" : Str) = some (.ref fP)) (GP : FnOk P w K mg base CX0 2 fP fdP ["draws", "xs"] (spPick K)) (kP : PySem.W.keepIn K (.ref fP) = true) (bP : Binds K fdP ["draws", "xs"] [])
    (gL : mg ("_law_lowest" : Str) = some (.ref fL)) (GL : FnOk P w K mg base CX0 1 fL fdL ["top", "bottom"] spLow) (kL : PySem.W.keepIn K (.ref fL) = true) (bL : Binds K fdL ["top", "bottom"] []) {fd : FuncData} {f : Addr} {x : Str} (F : FnP K x s__law_some_fraction f fd) :
    FnOk P w K mg base CX0 3 f fd ["draws"] spFrac := by
  refine F.ok scFrac (fun vs H Q E h => ?_) fun cdv A outer s0 H vs Q E hr h => ?_
  · obtain ⟨s, rfl, _⟩ := h
    rfl
  · have hr1 := hr.mono (j := 1) (by decide)
    obtain ⟨s, rfl, dr, k⟩ := h
    refine ⟨_, pss_cons (ps_set (i := 1) scFrac.nd rfl (.inl rfl) (pe_call GP hr rfl gP kP bP .nil pass0 (pa_cons (pv 0) (pa_cons (pe_lst (pa_cons pe_int (pa_cons pe_int (pa_cons (pe_un un_neg pe_int) (pa_cons pe_int (pa_cons pe_int (pa_cons (pe_un un_neg pe_int)
        (pa_cons (pe_op op_sub (pe_call GD hr1 rfl gD kD bD .nil pass0 (pa_cons (pv 0) (pa_cons pe_int pa_nil))) pe_int) (pa_cons (pe_op op_sub (pe_call GD hr1 rfl gD kD bD .nil pass0 (pa_cons (pv 0) (pa_cons pe_int pa_nil))) pe_int) pa_nil))))))))) pa_nil))))
      (pss_one (ps_ret (pe_call GL hr1 rfl gL kL bL .nil pass0 (pa_cons (pv 1) (pa_cons (pe_call GP hr rfl gP kP bP .nil pass0 (pa_cons (pv 0) (pa_cons (pe_lst (pa_cons pe_int (pa_cons pe_int (pa_cons pe_int (pa_cons pe_int (pa_cons pe_int (pa_cons pe_int (pa_cons pe_int
        (pa_cons (pe_op op_add pe_int (pe_call GD hr1 rfl gD kD bD .nil pass0 (pa_cons (pv 0) (pa_cons pe_int pa_nil)))) pa_nil))))))))) pa_nil))) pa_nil))))), ?_⟩
    refine ⟨_, rfl, _, rfl, _, rfl, ?_⟩
    refine ⟨_, rfl, s, 41, rfl, dr, by decide, by decide, fun r1 H1 a0 a1 d1 k1 => ⟨_, _, rfl, rfl, ?_⟩⟩
    refine ⟨_, rfl, s, 2000001, rfl, d1, by decide, by decide, fun r2 H2 c0 c1 d2 k2 => ⟨_, _, rfl, rfl, le_sz rfl, fun l hl => ?_⟩⟩
    have ns : s ≠ l := fun z => dr_some d2 (by rw [z]; exact hl)
    refine ⟨s, l, _, rfl, d2.kp (kp_new hl), ns.symm, .inl (SqL.of upd_same), (show 0 < 8 by decide), (show 8 < 1000000000 by decide), fun i y H3 hy d3 k3 => ?_⟩
    obtain ⟨t, rfl, ht⟩ : ∃ t : Int, y = .int t ∧ t.natAbs < 2 ^ 21 := by
      have hm := List.mem_of_getElem? hy
      simp only [List.mem_cons, List.not_mem_nil, or_false] at hm
      rcases hm with z | z | z | z | z | z | z | z <;> exact ⟨_, z, by omega⟩
    refine ⟨_, rfl, _, rfl, ?_⟩
    refine ⟨_, rfl, s, 999, rfl, d3, by decide, by decide, fun r4 H4 e0 e1 d4 k4 => ⟨_, _, rfl, rfl, le_sz rfl, fun l5 hl5 => ?_⟩⟩
    have ns5 : s ≠ l5 := fun z => dr_some d4 (by rw [z]; exact hl5)
    refine ⟨s, l5, _, rfl, d4.kp (kp_new hl5), ns5.symm, .inl (SqL.of upd_same), (show 0 < 8 by decide), (show 8 < 1000000000 by decide), fun i2 y2 H6 hy2 d6 k6 => ?_⟩
    obtain ⟨b, rfl, hb, hb2⟩ : ∃ b : Int, y2 = .int b ∧ 0 < b ∧ b.natAbs < 2 ^ 21 := by
      have hm := List.mem_of_getElem? hy2
      simp only [List.mem_cons, List.not_mem_nil, or_false] at hm
      rcases hm with z | z | z | z | z | z | z | z <;> exact ⟨_, z, by omega, by omega⟩
    have kk : KpB s H H6 := ((((k1.trans k2).trans (.of (kp_new hl))).trans k3).trans k4).trans ((KpB.of (kp_new hl5)).trans k6)
    refine ⟨t, b, rfl, hb, Nat.lt_of_lt_of_le hb2 (two_le (by decide)), fun p hp => ?_⟩
    refine k p _ t b ?_ upd_same ⟨ht, hb2, hb⟩ (d6.kp (kp_new hp)) (kk.trans (.of (kp_new hp)))
    cases z : H p with
    | none => rfl
    | some o =>
      have np : p ≠ s := fun e => dr_some d6 (by rw [← e]; exact hp)
      rw [kk _ _ np z] at hp
      cases hp
end
end LW
namespace LW
open PySem PySem.Spec PyProof.Rows L2

/-- drawn and in lowest terms -/
def Can (p : Int × Int) : Prop := ∃ t b : Int, p = lowT t b ∧ FrB 21 (t, b)
theorem Can.b {p : Int × Int} (h : Can p) : FrB 21 p := by
  obtain ⟨t, b, rfl, h⟩ := h
  exact low_b h.b0 h.t h.b
def spWide : Sp := fun vs H Q _ => ∃ (s a : Addr) (p : Int × Int) (n : Nat), vs = [.ref s, .ref a] ∧ Dr H s ∧ H a = some (.tup (fracV p)) ∧ FrB n p ∧ 0 < n ∧ n ≤ 1000 ∧
  ∀ (r : Addr) (H' : Hp) (m : Int), H r = none → 1 ≤ m → m ≤ 10 → H' r = some (.tup (fracV (p.1 * m, p.2 * m))) → Dr H' s → KpB s H H' → Q (.ref r) H'
theorem scWide : FnScope ["draws", "one", "many"] ["draws", "one"] (defScope s__law_wide) := scP_ok (by decide +kernel)
theorem dr_ntup {H : Hp} {s a : Addr} {xs : List V} (d : Dr H s) (h : H a = some (.tup xs)) : a ≠ s := fun z => by
  obtain ⟨_, _, _, S⟩ := d
  rw [z, S.at_] at h
  cases h
section
variable {P : Program} {w : World} {K : PySem.W.Frag} {mg : Str → Option Value} {base : Heap} {fP fF : Addr} {fdP fdF : FuncData}
theorem ok_wide (gP : mg ("_law_pick" : Str) = some (.ref fP)) (GP : FnOk P w K mg base CX0 2 fP fdP ["draws", "xs"] (spPick K)) (kP : PySem.W.keepIn K (.ref fP) = true) (bP : Binds K fdP ["draws", "xs"] []) {fd : FuncData} {f : Addr} {x : Str} (F : FnP K x s__law_wide f fd) :
    FnOk P w K mg base CX0 3 f fd ["draws", "one"] spWide := by
  refine F.ok scWide (fun vs H Q E h => ?_) fun cdv A outer s0 H vs Q E hr h => ?_
  · obtain ⟨s, a, p, n, rfl, _⟩ := h
    rfl
  · obtain ⟨s, a, p, n, rfl, dr, ha, bp, n0, n1, k⟩ := h
    refine ⟨_, pss_cons (ps_set (i := 2) scWide.nd rfl (.inl rfl) (pe_call GP hr rfl gP kP bP .nil pass0 (pa_cons (pv 0) (pa_cons (pe_lst (pa_cons pe_int (pa_cons pe_int (pa_cons pe_int (pa_cons pe_int (pa_cons pe_int pa_nil)))))) pa_nil))))
      (pss_one (ps_ret (pe_tup (pa_cons (pe_op op_mulW (pe_ix ix_seq (pv 1) pe_int (fun _ _ => rfl)) (pv 2)) (pa_cons (pe_op op_mulW (pe_ix ix_seq (pv 1) pe_int (fun _ _ => rfl)) (pv 2)) pa_nil))))), ?_⟩
    refine ⟨_, rfl, le_sz rfl, fun l hl => ?_⟩
    have ns : s ≠ l := fun z => dr_some dr (by rw [z]; exact hl)
    refine ⟨s, l, _, rfl, dr.kp (kp_new hl), ns.symm, .inl (SqL.of upd_same), (show 0 < 5 by decide), (show 5 < 1000000000 by decide), fun i y H3 hy d3 k3 => ?_⟩
    obtain ⟨m, rfl, m0, m1⟩ : ∃ m : Int, y = .int m ∧ 1 ≤ m ∧ m ≤ 10 := by
      have hm := List.mem_of_getElem? hy
      simp only [List.mem_cons, List.not_mem_nil, or_false] at hm
      rcases hm with z | z | z | z | z <;> exact ⟨_, z, by omega, by omega⟩
    have ka : KpB s H H3 := (KpB.of (kp_new hl)).trans k3
    have ha3 : H3 a = some (.tup (fracV p)) := ka _ _ (dr_ntup dr ha) ha
    have fa : FrAt K H3 (.ref a) p := ⟨a, rfl, .inl (SqT.of ha3)⟩
    have mb : m.natAbs < 2 ^ 4 := by
      show m.natAbs < 16
      omega
    have mw : ∀ {i : Int}, i.natAbs < 2 ^ n → CMulW i m := fun a => wide_mul a mb n0 (by decide) (by omega)
    refine ⟨_, rfl, fa.x0 ⟨_, rfl, _, _, rfl, rfl, mw bp.t, _, rfl, fa.x1 ⟨_, rfl, _, _, rfl, rfl, mw bp.b, le_sz rfl, fun r hr3 => ?_⟩⟩⟩
    refine k r _ m ?_ m0 m1 upd_same (d3.kp (kp_new hr3)) (ka.trans (.of (kp_new hr3)))
    cases z : H r with
    | none => rfl
    | some o =>
      have np : r ≠ s := fun e => dr_some d3 (by rw [← e]; exact hr3)
      rw [ka _ _ np z] at hr3
      cases hr3
/-- a drawn form -/
def spForm : Sp := fun vs H Q _ => ∃ s : Addr, vs = [.ref s] ∧ Dr H s ∧ ∀ (r u v : Addr) (H' : Hp) (p q : Int × Int), H r = none → H' r = some (.tup [.ref u, .ref v]) → H' u = some (.tup (fracV p)) → H' v = some (.tup (fracV q)) → Can p → Can q → Dr H' s → KpB s H H' → Q (.ref r) H'
theorem scForm : FnScope ["draws", "one", "other"] ["draws"] (defScope s__law_some_form) := scP_ok (by decide +kernel)
theorem can_lit : Can (0, 1) ∧ Can (1, 1) ∧ Can (-1, 2) :=
  ⟨⟨0, 1, by decide, ⟨by decide, by decide, by decide⟩⟩, ⟨1, 1, by decide, ⟨by decide, by decide, by decide⟩⟩, ⟨-1, 2, by decide, ⟨by decide, by decide, by decide⟩⟩⟩
theorem ok_form (gF : mg ("_law_some_fraction" : Str) = some (.ref fF)) (GF : FnOk P w K mg base CX0 3 fF fdF ["draws"] spFrac) (kF : PySem.W.keepIn K (.ref fF) = true) (bF : Binds K fdF ["draws"] [])
    (gP : mg ("_law_pick" : Str) = some (.ref fP)) (GP : FnOk P w K mg base CX0 2 fP fdP ["draws", "xs"] (spPick K)) (kP : PySem.W.keepIn K (.ref fP) = true) (bP : Binds K fdP ["draws", "xs"] []) {fd : FuncData} {f : Addr} {x : Str} (F : FnP K x s__law_some_form f fd) :
    FnOk P w K mg base CX0 4 f fd ["draws"] spForm := by
  refine F.ok scForm (fun vs H Q E h => ?_) fun cdv A outer s0 H vs Q E hr h => ?_
  · obtain ⟨s, rfl, _⟩ := h
    rfl
  · have hr2 := hr.mono (j := 2) (by decide)
    obtain ⟨s, rfl, dr, k⟩ := h
    refine ⟨_, pss_cons (ps_par (i := 1) (j := 2) rfl scForm.nd rfl rfl (by decide) rfl rfl (pa_cons (pe_call GF hr rfl gF kF bF .nil pass0 (pa_cons (pv 0) pa_nil)) (pa_cons (pe_call GF hr rfl gF kF bF .nil pass0 (pa_cons (pv 0) pa_nil)) pa_nil)) (by rfl))
      (pss_one (ps_ret (pe_tup (pa_cons (pv 1) (pa_cons (pe_call GP hr2 rfl gP kP bP .nil pass0 (pa_cons (pv 0) (pa_cons (pe_lst (pa_cons (pv 2) (pa_cons (pv 2) (pa_cons (pe_tup (pa_cons pe_int (pa_cons pe_int pa_nil))) (pa_cons (pe_tup (pa_cons pe_int (pa_cons pe_int pa_nil)))
        (pa_cons (pe_tup (pa_cons (pe_un un_neg pe_int) (pa_cons pe_int pa_nil))) pa_nil)))))) pa_nil))) pa_nil))))), ?_⟩
    refine ⟨_, rfl, s, rfl, dr, fun u H1 t1 b1 n1 h1 f1 d1 k1 => ⟨_, rfl, s, rfl, d1, fun v H2 t2 b2 n2 h2 f2 d2 k2 => ⟨_, _, rfl, ?_⟩⟩⟩
    have nus : u ≠ s := dr_ntup d1 h1
    have hu2 : H2 u = some (.tup (fracV (lowT t1 b1))) := k2 _ _ nus h1
    refine ⟨_, rfl, _, rfl, _, rfl, _, rfl, le_sz rfl, fun p3 n3 => ⟨le_sz rfl, fun p4 n4 => ⟨_, rfl, le_sz rfl, fun p5 n5 => ⟨le_sz rfl, fun l nl => ?_⟩⟩⟩⟩
    have e3 : Kp H2 (upd H2 p3 (.tup [.int 0, .int 1])) := kp_new n3
    have e4 : Kp (upd H2 p3 (.tup [.int 0, .int 1])) (upd (upd H2 p3 (.tup [.int 0, .int 1])) p4 (.tup [.int 1, .int 1])) := kp_new n4
    have e5 : Kp (upd (upd H2 p3 (.tup [.int 0, .int 1])) p4 (.tup [.int 1, .int 1])) (upd (upd (upd H2 p3 (.tup [.int 0, .int 1])) p4 (.tup [.int 1, .int 1])) p5 (.tup [.int (-1), .int 2])) := kp_new n5
    have f3 : upd (upd (upd H2 p3 (.tup [.int 0, .int 1])) p4 (.tup [.int 1, .int 1])) p5 (.tup [.int (-1), .int 2]) p3 = some (.tup (fracV (0, 1))) := e5 _ _ (e4 _ _ upd_same)
    have f4 : upd (upd (upd H2 p3 (.tup [.int 0, .int 1])) p4 (.tup [.int 1, .int 1])) p5 (.tup [.int (-1), .int 2]) p4 = some (.tup (fracV (1, 1))) := e5 _ _ upd_same
    have f5 : upd (upd (upd H2 p3 (.tup [.int 0, .int 1])) p4 (.tup [.int 1, .int 1])) p5 (.tup [.int (-1), .int 2]) p5 = some (.tup (fracV (-1, 2))) := upd_same
    have eA : Kp H2 (upd (upd (upd H2 p3 (.tup [.int 0, .int 1])) p4 (.tup [.int 1, .int 1])) p5 (.tup [.int (-1), .int 2])) := fun b o z => e5 _ _ (e4 _ _ (e3 _ _ z))
    have e6 : Kp (upd (upd (upd H2 p3 (.tup [.int 0, .int 1])) p4 (.tup [.int 1, .int 1])) p5 (.tup [.int (-1), .int 2])) (upd (upd (upd (upd H2 p3 (.tup [.int 0, .int 1])) p4 (.tup [.int 1, .int 1])) p5 (.tup [.int (-1), .int 2])) l (.lst [.ref v, .ref v, .ref p3, .ref p4, .ref p5])) := kp_new nl
    have eB : Kp H2 (upd (upd (upd (upd H2 p3 (.tup [.int 0, .int 1])) p4 (.tup [.int 1, .int 1])) p5 (.tup [.int (-1), .int 2])) l (.lst [.ref v, .ref v, .ref p3, .ref p4, .ref p5])) := fun b o z => e6 _ _ (eA _ _ z)
    have d6 := d2.kp eB
    have nls : l ≠ s := fun z => dr_some (d2.kp eA) (by rw [← z]; exact nl)
    refine ⟨s, l, _, rfl, d6, nls, .inl (SqL.of upd_same), (show 0 < 5 by decide), (show 5 < 1000000000 by decide), fun i y H7 hy d7 k7 => ?_⟩
    have up : ∀ {a : Addr} {xs : List V}, upd (upd (upd H2 p3 (.tup [.int 0, .int 1])) p4 (.tup [.int 1, .int 1])) p5 (.tup [.int (-1), .int 2]) a = some (.tup xs) → H7 a = some (.tup xs) := fun {a xs} z => k7 _ _ (dr_ntup (d2.kp eA) z) (e6 _ _ z)
    obtain ⟨q, y', rfl, hq, cq⟩ : ∃ (q : Int × Int) (y' : Addr), y = .ref y' ∧ H7 y' = some (.tup (fracV q)) ∧ Can q := by
      have hm := List.mem_of_getElem? hy
      simp only [List.mem_cons, List.not_mem_nil, or_false] at hm
      rcases hm with z | z | z | z | z
      · exact ⟨_, v, z, up (eA _ _ h2), ⟨t2, b2, rfl, f2⟩⟩
      · exact ⟨_, v, z, up (eA _ _ h2), ⟨t2, b2, rfl, f2⟩⟩
      · exact ⟨_, p3, z, up f3, can_lit.1⟩
      · exact ⟨_, p4, z, up f4, can_lit.2.1⟩
      · exact ⟨_, p5, z, up f5, can_lit.2.2⟩
    have hu7 := up (eA _ _ hu2)
    have kk : KpB s H H7 := ((k1.trans k2).trans (.of eB)).trans k7
    refine ⟨le_sz rfl, fun r hr7 => ?_⟩
    have k8 := kp_new (o := .tup [.ref u, .ref y']) hr7
    refine k r u y' _ _ q ?_ upd_same (k8 _ _ hu7) (k8 _ _ hq) ⟨t1, b1, rfl, f1⟩ cq (d7.kp k8) (kk.trans (.of k8))
    cases z : H r with
    | none => rfl
    | some o =>
      have np : r ≠ s := fun e => dr_some d7 (by rw [← e]; exact hr7)
      rw [kk _ _ np z] at hr7
      cases hr7
end
end LW
namespace LW
open PySem PySem.Spec PyProof.Rows L2

/-! ### written data -/
def OT (n : Nat) (te : TE) (d : PyData) : Prop := ∀ (σ : L2.St) (H : Hp) (Q : VK) (ex : Addr → Prop), (∀ b, ex b → H b ≠ none) → (∀ (x : V) (H' : Hp), Kp H H' → Ob H' ex n x d → Q x H') → te σ H Q
def OA (n : Nat) (ta : TA) (ds : List PyData) : Prop := ∀ (σ : L2.St) (H : Hp) (Q : List V → Hp → Prop) (ex : Addr → Prop), (∀ b, ex b → H b ≠ none) → (∀ (xs : List V) (H' : Hp), Kp H H' → Paired (Ob H' ex n) xs ds → Q xs H') → ta σ H Q
theorem ex_kp {H H' : Hp} {ex : Addr → Prop} (h : ∀ b, ex b → H b ≠ none) (k : Kp H H') : ∀ b, ex b → H' b ≠ none := fun b hb z => by
  cases q : H b with
  | none => exact h b hb q
  | some o =>
    rw [k _ _ q] at z
    cases z
theorem OT.non {n : Nat} : OT (n + 1) (tC .non) .none := fun _ H _ _ _ k => k .non H (fun _ _ h => h) (.inl ⟨rfl, rfl⟩)
theorem OT.bl {n : Nat} (b : Bool) : OT (n + 1) (tC (.bl b)) (.bool b) := fun _ H _ _ _ k => k _ H (fun _ _ h => h) (.inr (.inl ⟨b, rfl, rfl⟩))
theorem OT.int {n : Nat} (i : Int) : OT (n + 1) (tC (.int i)) (.int i) := fun _ H _ _ _ k => k _ H (fun _ _ h => h) (.inr (.inr (.inl ⟨i, rfl, rfl⟩)))
theorem OT.str {n : Nat} (x : Str) : OT (n + 1) (tC (.str x)) (.str x) := fun _ H _ _ _ k => k _ H (fun _ _ h => h) (.inr (.inr (.inr (.inl ⟨x, rfl, rfl⟩))))
theorem OT.neg {n : Nat} (i : Int) : OT (n + 1) (tUn (rU fun i => .int (-i)) (tC (.int i))) (.int (-i)) := fun _ H _ _ _ k => ⟨i, rfl, k _ H (fun _ _ h => h) (.inr (.inr (.inl ⟨_, rfl, rfl⟩)))⟩
theorem OA.nil {n : Nat} : OA n tNil [] := fun _ H _ _ _ k => k [] H (fun _ _ h => h) .nil
theorem OA.cons {n : Nat} {te : TE} {ta : TA} {d : PyData} {ds : List PyData} (h : OT n te d) (t : OA n ta ds) : OA n (tCons te ta) (d :: ds) := fun σ H Q ex hex k =>
  h σ H _ ex hex fun x H1 k1 o1 => t σ H1 _ ex (ex_kp hex k1) fun xs H2 k2 p => k (x :: xs) H2 (fun b o z => k2 _ _ (k1 _ _ z)) (.cons (o1.kp k2) p)
theorem OT.tup {n : Nat} {ta : TA} {ds : List PyData} (h : OA n ta ds) (hl : Nat.ble ds.length 100 = true := by rfl) : OT (n + 1) (tTup ta) (.tuple ds) := fun σ H Q ex hex k =>
  h σ H _ ex hex fun xs H1 k1 p => by
    have l0 : ds.length ≤ 100 := Nat.le_of_ble_eq_true hl
    have l1 := Paired.length p
    refine ⟨Nat.le_trans (Nat.le_of_eq l1) (le_sz hl), fun a ha => ?_⟩
    have k2 := kp_new (o := .tup xs) ha
    exact k (.ref a) _ (fun b o z => k2 _ _ (k1 _ _ z)) (.inr (.inr (.inr (.inr (.inr (.inr ⟨a, xs, ds, rfl, fun z => ex_kp hex k1 a z ha, rfl, .inl upd_same, by omega, Paired.mapP p fun _ _ y => y.kp k2⟩))))))
theorem OT.lst {n : Nat} {ta : TA} {ds : List PyData} (h : OA n ta ds) (hl : Nat.ble ds.length 100 = true := by rfl) : OT (n + 1) (tLst ta) (.list ds) := fun σ H Q ex hex k =>
  h σ H _ ex hex fun xs H1 k1 p => by
    have l0 : ds.length ≤ 100 := Nat.le_of_ble_eq_true hl
    have l1 := Paired.length p
    refine ⟨Nat.le_trans (Nat.le_of_eq l1) (le_sz hl), fun a ha => ?_⟩
    have k2 := kp_new (o := .lst xs) ha
    exact k (.ref a) _ (fun b o z => k2 _ _ (k1 _ _ z)) (.inr (.inr (.inr (.inr (.inr (.inl ⟨a, xs, ds, rfl, fun z => ex_kp hex k1 a z ha, rfl, .inl upd_same, by omega, Paired.mapP p fun _ _ y => y.kp k2⟩))))))
end LW
namespace LW
open PySem PySem.Spec PyProof.Rows L2

theorem OT.dic {n : Nat} : OT (n + 1) tDNewK (.dict []) := fun σ H Q ex hex k => fun a ha => by
  have k2 := kp_new (o := .dK []) ha
  exact k (.ref a) _ k2 (.inr (.inr (.inr (.inr (.inl ⟨a, rfl, fun z => hex a z ha, rfl, upd_same⟩)))))
/-- what is no fraction -/
def oddFr : List PyData := [.none, .int 5, .str "1", .tuple [.int 1], .tuple [.int 1, .int 0], .tuple [.int 1, .int (-2)], .tuple [.bool true, .int 1], .tuple [.int 1, .bool true], .tuple [.int 1, .int 2, .int 3], .dict [], .list [], .tuple [.str "1", .int 2], .bool true, .str "12",
  .tuple [.tuple [.int 1, .int 2], .tuple [.int 1, .int 2]], .tuple [.none, .int 1], .list [.int 1, .none], .tuple [.int 1, .str "2"]]
/-- a list of data at l that is a list of the heap's own -/
def LsAt (H : Hp) (ex : Addr → Prop) (n : Nat) (l : Addr) (ds : List PyData) : Prop := ∃ xs, H l = some (.lst xs) ∧ ¬ ex l ∧ Paired (Ob H ex n) xs ds
def OL (n : Nat) (te : TE) (ds : List PyData) : Prop := ∀ (σ : L2.St) (H : Hp) (Q : VK) (ex : Addr → Prop), (∀ b, ex b → H b ≠ none) → (∀ (l : Addr) (H' : Hp), Kp H H' → H l = none → LsAt H' ex n l ds → Q (.ref l) H') → te σ H Q
theorem new_none {H H' : Hp} {l : Addr} (k : Kp H H') (h : H' l = none) : H l = none := by
  cases z : H l with
  | none => rfl
  | some o =>
    rw [k _ _ z] at h
    cases h
theorem OL.lst {n : Nat} {ta : TA} {ds : List PyData} (h : OA n ta ds) (hl : Nat.ble ds.length 100 = true := by rfl) : OL n (tLst ta) ds := fun σ H Q ex hex k =>
  h σ H _ ex hex fun xs H1 k1 p => by
    have l1 := Paired.length p
    refine ⟨Nat.le_trans (Nat.le_of_eq l1) (le_sz hl), fun a ha => ?_⟩
    have k2 := kp_new (o := .lst xs) ha
    exact k a _ (fun b o z => k2 _ _ (k1 _ _ z)) (new_none k1 ha) ⟨xs, upd_same, fun z => ex_kp hex k1 a z ha, Paired.mapP p fun _ _ y => y.kp k2⟩
theorem OL.cat {n : Nat} {ta tb : TE} {as bs : List PyData} (h : OL n ta as) (g : OL n tb bs) (hl : Nat.ble (as.length + bs.length) 100 = true := by rfl) : OL n (tOp rCat ta tb) (as ++ bs) := fun σ H Q ex hex k =>
  h σ H _ ex hex fun l H1 k1 n1 ⟨xs, x1, x2, x3⟩ => g σ H1 _ ex (ex_kp hex k1) fun m H2 k2 n2 ⟨ys, y1, y2, y3⟩ => by
    have e1 := Paired.length x3
    have e2 := Paired.length y3
    refine ⟨l, m, xs, ys, rfl, rfl, k2 _ _ x1, y1, Nat.le_trans (Nat.le_of_eq (by rw [e1, e2])) (le_sz hl), fun p hp => ?_⟩
    have k3 := kp_new (o := .lst (xs ++ ys)) hp
    have kk : Kp H H2 := fun b o z => k2 _ _ (k1 _ _ z)
    exact k p _ (fun b o z => k3 _ _ (kk _ _ z)) (new_none kk hp) ⟨_, upd_same, fun z => ex_kp hex kk p z hp, Paired.cat (Paired.mapP x3 fun _ _ y => (y.kp k2).kp k3) (Paired.mapP y3 fun _ _ y => y.kp k3)⟩
abbrev tI (i : Int) : TE := tC (.int i)
abbrev tT (ta : TA) : TE := tTup ta
abbrev t14 : TA := tCons (tC .non) (tCons (tI 5) (tCons (tC (.str "1")) (tCons (tT (tCons (tI 1) tNil)) (tCons (tT (tCons (tI 1) (tCons (tI 0) tNil))) (tCons (tT (tCons (tI 1) (tCons (tUn (rU fun i => .int (-i)) (tI 2)) tNil))) (tCons (tT (tCons (tC (.bl true)) (tCons (tI 1) tNil)))
  (tCons (tT (tCons (tI 1) (tCons (tC (.bl true)) tNil))) (tCons (tT (tCons (tI 1) (tCons (tI 2) (tCons (tI 3) tNil)))) (tCons tDNewK (tCons (tLst tNil) (tCons (tT (tCons (tC (.str "1")) (tCons (tI 2) tNil))) (tCons (tC (.bl true)) (tCons (tC (.str "12")) tNil)))))))))))))
theorem oa14 : OA 3 t14 (oddFr.take 14) :=
  OA.cons OT.non (OA.cons (OT.int 5) (OA.cons (OT.str _) (OA.cons (OT.tup (OA.cons (OT.int 1) OA.nil)) (OA.cons (OT.tup (OA.cons (OT.int 1) (OA.cons (OT.int 0) OA.nil))) (OA.cons (OT.tup (OA.cons (OT.int 1) (OA.cons (OT.neg 2) OA.nil)))
      (OA.cons (OT.tup (OA.cons (OT.bl true) (OA.cons (OT.int 1) OA.nil))) (OA.cons (OT.tup (OA.cons (OT.int 1) (OA.cons (OT.bl true) OA.nil))) (OA.cons (OT.tup (OA.cons (OT.int 1) (OA.cons (OT.int 2) (OA.cons (OT.int 3) OA.nil)))) (OA.cons OT.dic (OA.cons (OT.lst OA.nil)
      (OA.cons (OT.tup (OA.cons (OT.str _) (OA.cons (OT.int 2) OA.nil))) (OA.cons (OT.bl true) (OA.cons (OT.str _) OA.nil)))))))))))))
abbrev t4 : TA := tCons (tT (tCons (tT (tCons (tI 1) (tCons (tI 2) tNil))) (tCons (tT (tCons (tI 1) (tCons (tI 2) tNil))) tNil))) (tCons (tT (tCons (tC .non) (tCons (tI 1) tNil))) (tCons (tLst (tCons (tI 1) (tCons (tC .non) tNil))) (tCons (tT (tCons (tI 1) (tCons (tC (.str "2")) tNil))) tNil)))
theorem oa4 : OA 3 t4 (oddFr.drop 14) :=
  OA.cons (OT.tup (OA.cons (OT.tup (OA.cons (OT.int 1) (OA.cons (OT.int 2) OA.nil))) (OA.cons (OT.tup (OA.cons (OT.int 1) (OA.cons (OT.int 2) OA.nil))) OA.nil))) (OA.cons (OT.tup (OA.cons OT.non (OA.cons (OT.int 1) OA.nil)))
      (OA.cons (OT.lst (OA.cons (OT.int 1) (OA.cons OT.non OA.nil))) (OA.cons (OT.tup (OA.cons (OT.int 1) (OA.cons (OT.str _) OA.nil))) OA.nil)))
end LW
namespace LW
open PySem PySem.Spec PyProof.Rows L2
def spOddFr : Sp := fun vs H Q _ => ∃ ex : Addr → Prop, vs = [] ∧ (∀ b, ex b → H b ≠ none) ∧ ∀ (l : Addr) (H' : Hp), Kp H H' → H l = none → LsAt H' ex 3 l oddFr → Q (.ref l) H'
theorem scOddFr : FnScope ["found"] [] (defScope s__law_odd_fractions) := scP_ok (by decide +kernel)
theorem ok_oddfr {P : Program} {w : World} {K : PySem.W.Frag} {mg : Str → Option Value} {base : Heap} {fd : FuncData} {f : Addr} {x : Str} (F : FnP K x s__law_odd_fractions f fd) : FnOk P w K mg base CX0 1 f fd [] spOddFr := by
  refine F.ok scOddFr (fun vs H Q E h => ?_) fun cdv A outer s0 H vs Q E hr h => ?_
  · obtain ⟨ex, rfl, _⟩ := h
    rfl
  · obtain ⟨ex, rfl, hex, k⟩ := h
    refine ⟨_, pss_cons (ps_set (i := 0) scOddFr.nd rfl (.inl rfl) (pe_lst (pa_cons pe_non (pa_cons pe_int (pa_cons pe_str (pa_cons (pe_tup (pa_cons pe_int pa_nil)) (pa_cons (pe_tup (pa_cons pe_int (pa_cons pe_int pa_nil))) (pa_cons (pe_tup (pa_cons pe_int (pa_cons (pe_un un_neg pe_int) pa_nil)))
        (pa_cons (pe_tup (pa_cons pe_bl (pa_cons pe_int pa_nil))) (pa_cons (pe_tup (pa_cons pe_int (pa_cons pe_bl pa_nil))) (pa_cons (pe_tup (pa_cons pe_int (pa_cons pe_int (pa_cons pe_int pa_nil)))) (pa_cons pe_dnewK (pa_cons (pe_lst pa_nil) (pa_cons (pe_tup (pa_cons pe_str (pa_cons pe_int pa_nil)))
        (pa_cons pe_bl (pa_cons pe_str pa_nil))))))))))))))))
      (pss_one (ps_ret (pe_op op_cat (pv 0) (pe_lst (pa_cons (pe_tup (pa_cons (pe_tup (pa_cons pe_int (pa_cons pe_int pa_nil))) (pa_cons (pe_tup (pa_cons pe_int (pa_cons pe_int pa_nil))) pa_nil))) (pa_cons (pe_tup (pa_cons pe_non (pa_cons pe_int pa_nil)))
        (pa_cons (pe_lst (pa_cons pe_int (pa_cons pe_non pa_nil))) (pa_cons (pe_tup (pa_cons pe_int (pa_cons pe_str pa_nil))) pa_nil)))))))), ?_⟩
    show tAsg (tLst t14) (gName 0) _ _ _
    unfold tAsg
    refine (OL.lst oa14 rfl) _ H _ ex hex fun l H1 k1 n1 A1 => ?_
    obtain ⟨xs, x1, x2, x3⟩ := A1
    show tOp rCat (tVar 0) (tLst t4) _ _ _
    unfold tOp
    refine ⟨_, rfl, ?_⟩
    show tLst t4 _ _ _
    refine (OL.lst oa4 rfl) _ H1 _ ex (ex_kp hex k1) fun m H2 k2 n2 A2 => ?_
    obtain ⟨ys, y1, y2, y3⟩ := A2
    have e1 := Paired.length x3
    have e2 := Paired.length y3
    refine ⟨l, m, xs, ys, rfl, rfl, k2 _ _ x1, y1, Nat.le_trans (Nat.le_of_eq (by rw [e1, e2]; rfl)) (le_sz (n := 18) rfl), fun p hp => ?_⟩
    have k3 := kp_new (o := .lst (xs ++ ys)) hp
    have kk : Kp H H2 := fun b o z => k2 _ _ (k1 _ _ z)
    exact k p _ (fun b o z => k3 _ _ (kk _ _ z)) (new_none kk hp) ⟨_, upd_same, fun z => ex_kp hex kk p z hp, Paired.cat (Paired.mapP x3 fun _ _ y => (y.kp k2).kp k3) (Paired.mapP y3 fun _ _ y => y.kp k3)⟩
end LW
namespace LW
open PySem PySem.Spec PyProof.Rows L2

/-! ### the program's own looks: what is a list, an integer, a fraction, a width, a form, told of data -/
def seqD : PyData → Option (List PyData)
  | .list xs => some xs
  | .tuple xs => some xs
  | _ => none
def isSeqD (d : PyData) : Bool := (seqD d).isSome
def isIntD : PyData → Bool
  | .int _ => true
  | _ => false
def isWhD : PyData → Bool
  | .int i => decide (0 ≤ i)
  | _ => false
def posD : PyData → Bool
  | .int i => decide (0 < i)
  | _ => false
def twoD (f : PyData → PyData → Bool) (d : PyData) : Bool := match seqD d with
  | some [x, y] => f x y
  | _ => false
def isFrD : PyData → Bool := twoD fun x y => isIntD x && (isIntD y && posD y)
def isWdD : PyData → Bool := twoD fun x y => isWhD x && (isWhD y && posD y)
def isFmD : PyData → Bool := twoD fun x y => isFrD x && isFrD y
theorem two_non {f : PyData → PyData → Bool} {d : PyData} (h : seqD d = none) : twoD f d = false := by
  unfold twoD
  rw [h]
theorem two_yes {f : PyData → PyData → Bool} {d x y : PyData} (h : seqD d = some [x, y]) : twoD f d = f x y := by
  unfold twoD
  rw [h]
theorem two_len {f : PyData → PyData → Bool} {d : PyData} {ds : List PyData} (h : seqD d = some ds) (n : ds.length ≠ 2) : twoD f d = false := by
  unfold twoD
  rw [h]
  match ds, n with
  | [], _ => rfl
  | [_], _ => rfl
  | [_, _], n => exact absurd rfl n
  | _ :: _ :: _ :: _, _ => rfl
theorem ob_seq (K : PySem.W.Frag) {H : Hp} {ex : Addr → Prop} {n : Nat} {x : V} {d : PyData} (h : Ob H ex n x d) :
    (seqD d = none ∧ ∃ T : String, TyX K H x (.type T) ∧ kitB T "list" = some false ∧ kitB T "tuple" = some false) ∨
    ∃ (a : Addr) (xs : List V) (ds : List PyData) (m : Nat), x = .ref a ∧ seqD d = some ds ∧ (SqL K H a xs ∨ SqT K H a xs) ∧ Paired (Ob H ex m) xs ds := by
  match n, h with
  | 0, h => exact h.elim
  | n + 1, h =>
    rcases h with ⟨rfl, rfl⟩ | ⟨b, rfl, rfl⟩ | ⟨i, rfl, rfl⟩ | ⟨z, rfl, rfl⟩ | ⟨a, rfl, e, rfl, h1⟩ | ⟨a, xs, ds, rfl, e, rfl, h1, hz, p⟩ | ⟨a, xs, ds, rfl, e, rfl, h1, hz, p⟩
    · exact .inl ⟨rfl, "NoneType", .base .non, by decide +kernel, by decide +kernel⟩
    · exact .inl ⟨rfl, "bool", .base (.bl _), by decide +kernel, by decide +kernel⟩
    · exact .inl ⟨rfl, "int", .base (.int _), by decide +kernel, by decide +kernel⟩
    · exact .inl ⟨rfl, "str", .base (.str _), by decide +kernel, by decide +kernel⟩
    · exact .inl ⟨rfl, "dict", .base (.dK h1), by decide +kernel, by decide +kernel⟩
    · exact .inr ⟨a, xs, ds, n, rfl, rfl, .inl (.inl h1), p⟩
    · exact .inr ⟨a, xs, ds, n, rfl, rfl, .inr (.inl h1), p⟩
/-- of one thing something is told, by its data -/
def spData (r : PyData → Bool) : Sp := fun vs H Q _ => ∃ (x : V) (d : PyData) (ex : Addr → Prop) (n : Nat), vs = [x] ∧ Ob H ex n x d ∧ ∀ H', Kp H H' → Q (.bl (r d)) H'
def spDataI (r : PyData → Bool) : Sp := fun vs H Q _ => ∃ (x : V) (d : PyData) (ex : Addr → Prop) (n : Nat), vs = [x] ∧ Ob H ex n x d ∧ Q (.bl (r d)) H
theorem scIsList : FnScope ["thing"] ["thing"] (defScope s_is_list) := scP_ok (by decide +kernel)
theorem scIsInt : FnScope ["thing"] ["thing"] (defScope s_is_integer) := scP_ok (by decide +kernel)
theorem scIsWh : FnScope ["thing"] ["thing"] (defScope s_is_whole) := scP_ok (by decide +kernel)
theorem scIsWd : FnScope ["thing"] ["thing"] (defScope s_is_width) := scP_ok (by decide +kernel)
theorem scIsFr : FnScope ["thing"] ["thing"] (defScope s_is_fraction) := scP_ok (by decide +kernel)
theorem scIsFm : FnScope ["thing"] ["thing"] (defScope s_is_form) := scP_ok (by decide +kernel)
theorem sq_kp {K : PySem.W.Frag} {H H' : Hp} {a : Addr} {xs : List V} (h : SqL K H a xs ∨ SqT K H a xs) (k : Kp H H') : SqL K H' a xs ∨ SqT K H' a xs := h.elim (fun z => .inl (SqL.kp z k)) fun z => .inr (SqT.kp z k)
theorem sq_ix {K : PySem.W.Frag} {H : Hp} {a : Addr} {xs : List V} (h : SqL K H a xs ∨ SqT K H a xs) {j : Nat} {v : V} {Q : VK} (e : xs[j]? = some v) (q : Q v H) : rIx K (.ref a) (.int (j : Int)) H Q := by
  rcases h with h | h
  · exact .inl ⟨a, _, _, _, rfl, rfl, h, atI_nat e, q⟩
  · exact .inr (.inl ⟨a, _, _, _, rfl, rfl, h, atI_nat e, q⟩)
theorem sq_len {K : PySem.W.Frag} {H : Hp} {a : Addr} {xs : List V} (h : SqL K H a xs ∨ SqT K H a xs) : LenV K (.ref a) H xs.length := h.elim (fun z => .inl ⟨_, z, rfl⟩) fun z => .inr ⟨_, z, rfl⟩
section
variable {P : Program} {w : World} {K : PySem.W.Frag} {mg : Str → Option Value} {base : Heap} {fd : FuncData} {f : Addr} {x : Str}
theorem ok_islist (gi : mg ("isinstance" : Str) = none) (g1 : mg ("list" : Str) = none) (g2 : mg ("tuple" : Str) = none) (F : FnP K x s_is_list f fd) : FnOk P w K mg base CX0 1 f fd ["thing"] (spData isSeqD) := by
  refine F.ok scIsList (fun vs H Q E h => ?_) fun cdv A outer s0 H vs Q E hr h => ?_
  · obtain ⟨x, d, ex, n, rfl, _⟩ := h
    rfl
  · obtain ⟨x, d, ex, n, rfl, ob, k⟩ := h
    refine ⟨_, pss_one (ps_ret (pe_callB call_isiT rfl gi rfl (pa_cons (pv 0) (pa_cons (pe_tup (pa_cons (pe_bltn (v := .ty "list") rfl g1 rfl rfl) (pa_cons (pe_bltn (v := .ty "tuple") rfl g2 rfl rfl) pa_nil))) pa_nil)))), ?_⟩
    rcases ob_seq K ob with ⟨e, T, ty, h1, h2⟩ | ⟨a, xs, ds, m, rfl, e, h | h, _⟩
    · refine is2_go (i := 0) rfl ty h1 h2 fun H1 k1 => ?_
      have z := k H1 k1
      unfold isSeqD at z
      rw [e] at z
      exact z
    · refine is2_go (i := 0) rfl (ty_sqL h) (r1 := true) (r2 := false) (by decide +kernel) (by decide +kernel) fun H1 k1 => ?_
      have z := k H1 k1
      unfold isSeqD at z
      rw [e] at z
      exact z
    · refine is2_go (i := 0) rfl (ty_sqT h) (r1 := false) (r2 := true) (by decide +kernel) (by decide +kernel) fun H1 k1 => ?_
      have z := k H1 k1
      unfold isSeqD at z
      rw [e] at z
      exact z
theorem ok_isint (gi : mg ("isinstance" : Str) = none) (g3 : mg ("bool" : Str) = none) (g4 : mg ("int" : Str) = none) (F : FnP K x s_is_integer f fd) : FnOk P w K mg base CX0 1 f fd ["thing"] (spDataI isIntD) := by
  refine F.ok scIsInt (fun vs H Q E h => ?_) fun cdv A outer s0 H vs Q E hr h => ?_
  · obtain ⟨x, d, ex, n, rfl, _⟩ := h
    rfl
  · obtain ⟨x, d, ex, n, rfl, ob, k⟩ := h
    refine ⟨_, pss_one (ps_ret (pe_and (pe_callB call_isi rfl gi rfl (pa_cons (pv 0) (pa_cons (pe_bltn (v := .ty "int") rfl g4 rfl rfl) pa_nil))) (pe_one (pe_not (pe_callB call_isi rfl gi rfl (pa_cons (pv 0) (pa_cons (pe_bltn (v := .ty "bool") rfl g3 rfl rfl) pa_nil))))))), ?_⟩
    match n, ob with
    | 0, ob => exact ob.elim
    | n + 1, ob =>
      rcases ob with ⟨rfl, rfl⟩ | ⟨b, rfl, rfl⟩ | ⟨i, rfl, rfl⟩ | ⟨z, rfl, rfl⟩ | ⟨a, rfl, e, rfl, h1⟩ | ⟨a, xs, ds, rfl, e, rfl, h1, hz, p⟩ | ⟨a, xs, ds, rfl, e, rfl, h1, hz, p⟩
      · exact is1_go (i := 0) rfl (.base .non) (r := false) (by decide +kernel) ⟨_, rfl, iteF rfl k⟩
      · exact is1_go (i := 0) rfl (.base (.bl _)) (r := true) (by decide +kernel) ⟨_, rfl, iteT rfl (is1_go (i := 0) rfl (.base (.bl _)) (r := true) (by decide +kernel) ⟨_, rfl, k⟩)⟩
      · exact is1_go (i := 0) rfl (.base (.int _)) (r := true) (by decide +kernel) ⟨_, rfl, iteT rfl (is1_go (i := 0) rfl (.base (.int _)) (r := false) (by decide +kernel) ⟨_, rfl, k⟩)⟩
      · exact is1_go (i := 0) rfl (.base (.str _)) (r := false) (by decide +kernel) ⟨_, rfl, iteF rfl k⟩
      · exact is1_go (i := 0) rfl (.base (.dK h1)) (r := false) (by decide +kernel) ⟨_, rfl, iteF rfl k⟩
      · exact is1_go (i := 0) rfl (ty_sqL (.inl h1)) (r := false) (by decide +kernel) ⟨_, rfl, iteF rfl k⟩
      · exact is1_go (i := 0) rfl (ty_sqT (.inl h1)) (r := false) (by decide +kernel) ⟨_, rfl, iteF rfl k⟩
end
section
variable {P : Program} {w : World} {K : PySem.W.Frag} {mg : Str → Option Value} {base : Heap} {fL fI fW fF : Addr} {fdL fdI fdW fdF : FuncData}
theorem ok_iswh (gI : mg ("is_integer" : Str) = some (.ref fI)) (GI : FnOk P w K mg base CX0 1 fI fdI ["thing"] (spDataI isIntD)) (kI : PySem.W.keepIn K (.ref fI) = true) (bI : Binds K fdI ["thing"] []) {fd : FuncData} {f : Addr} {x : Str} (F : FnP K x s_is_whole f fd) : FnOk P w K mg base CX0 2 f fd ["thing"] (spDataI isWhD) := by
  refine F.ok scIsWh (fun vs H Q E h => ?_) fun cdv A outer s0 H vs Q E hr h => ?_
  · obtain ⟨x, d, ex, n, rfl, _⟩ := h
    rfl
  · obtain ⟨x, d, ex, n, rfl, ob, k⟩ := h
    refine ⟨_, pss_one (ps_ret (pe_and (pe_call GI hr rfl gI kI bI .nil pass0 (pa_cons (pv 0) pa_nil)) (pe_one (pe_cmpR op_ge (pv 0) pe_int (nomark _))))), ?_⟩
    refine ⟨_, rfl, x, d, ex, n, rfl, ob, ⟨_, rfl, ?_⟩⟩
    match n, ob with
    | 0, ob => exact ob.elim
    | n + 1, ob =>
      rcases ob with ⟨rfl, rfl⟩ | ⟨b, rfl, rfl⟩ | ⟨i, rfl, rfl⟩ | ⟨z, rfl, rfl⟩ | ⟨a, rfl, e, rfl, h1⟩ | ⟨a, xs, ds, rfl, e, rfl, h1, hz, p⟩ | ⟨a, xs, ds, rfl, e, rfl, h1, hz, p⟩
      · exact iteF rfl k
      · exact iteF rfl k
      · exact iteT rfl ⟨_, rfl, _, _, rfl, rfl, k⟩
      · exact iteF rfl k
      · exact iteF rfl k
      · exact iteF rfl k
      · exact iteF rfl k
theorem paired2 {H : Hp} {ex : Addr → Prop} {m : Nat} {xs : List V} {ds : List PyData} (p : Paired (Ob H ex m) xs ds) (h : xs.length = 2) : ∃ x y d e, xs = [x, y] ∧ ds = [d, e] ∧ Ob H ex m x d ∧ Ob H ex m y e := by
  match p, h with
  | .cons a (.cons b .nil), _ => exact ⟨_, _, _, _, rfl, rfl, a, b⟩
/-- both numbers of a pair are looked at -/
theorem ok_isfr (g5 : mg ("len" : Str) = none) (gL : mg ("is_list" : Str) = some (.ref fL)) (GL : FnOk P w K mg base CX0 1 fL fdL ["thing"] (spData isSeqD)) (kL : PySem.W.keepIn K (.ref fL) = true) (bL : Binds K fdL ["thing"] [])
    (gI : mg ("is_integer" : Str) = some (.ref fI)) (GI : FnOk P w K mg base CX0 1 fI fdI ["thing"] (spDataI isIntD)) (kI : PySem.W.keepIn K (.ref fI) = true) (bI : Binds K fdI ["thing"] []) {fd : FuncData} {f : Addr} {x : Str} (F : FnP K x s_is_fraction f fd) : FnOk P w K mg base CX0 2 f fd ["thing"] (spData isFrD) := by
  refine F.ok scIsFr (fun vs H Q E h => ?_) fun cdv A outer s0 H vs Q E hr h => ?_
  · obtain ⟨x, d, ex, n, rfl, _⟩ := h
    rfl
  · obtain ⟨x, d, ex, n, rfl, ob, k⟩ := h
    refine ⟨_, pss_one (ps_ret (pe_and (pe_call GL hr rfl gL kL bL .nil pass0 (pa_cons (pv 0) pa_nil)) (pe_and (pe_cmpR op_eq (pe_callB call_len rfl g5 rfl (pa_cons (pv 0) pa_nil)) pe_int (nomark _))
      (pe_and (pe_call GI hr rfl gI kI bI .nil pass0 (pa_cons (pe_ix ix_seq (pv 0) pe_int (fun _ _ => rfl)) pa_nil)) (pe_and (pe_call GI hr rfl gI kI bI .nil pass0 (pa_cons (pe_ix ix_seq (pv 0) pe_int (fun _ _ => rfl)) pa_nil))
        (pe_one (pe_cmpR op_gt (pe_ix ix_seq (pv 0) pe_int (fun _ _ => rfl)) pe_int (nomark _)))))))), ?_⟩
    refine ⟨_, rfl, x, d, ex, n, rfl, ob, fun H1 k1 => ⟨_, rfl, ?_⟩⟩
    have q1 := k H1 k1
    rcases ob_seq K ob with ⟨e, _⟩ | ⟨a, xs, ds, m, rfl, e, hx, p⟩
    · have e1 : isFrD d = false := two_non e
      rw [e1] at q1
      have e2 : isSeqD d = false := by
        unfold isSeqD
        rw [e]
        rfl
      rw [e2]
      exact iteF rfl q1
    · have e2 : isSeqD d = true := by
        unfold isSeqD
        rw [e]
        rfl
      rw [e2]
      have hx1 := sq_kp hx k1
      refine iteT rfl ⟨_, rfl, _, _, rfl, sq_len hx1, ⟨rfl, ⟨_, rfl, ?_⟩⟩⟩
      by_cases hl : xs.length = 2
      · obtain ⟨u, v, du, dv, rfl, rfl, ou, ov⟩ := paired2 p hl
        have e3 : isFrD d = (isIntD du && (isIntD dv && posD dv)) := two_yes e
        rw [e3] at q1
        refine iteT rfl ⟨_, rfl, sq_ix (j := 0) hx1 rfl ⟨u, du, ex, m, rfl, ou.kp k1, ⟨_, rfl, ?_⟩⟩⟩
        cases hu : isIntD du with
        | false =>
          rw [hu] at q1
          exact iteF rfl q1
        | true =>
          rw [hu] at q1
          refine iteT rfl ⟨_, rfl, sq_ix (j := 1) hx1 rfl ⟨v, dv, ex, m, rfl, ov.kp k1, ⟨_, rfl, ?_⟩⟩⟩
          match m, ov with
          | 0, ov => exact ov.elim
          | m + 1, ov =>
            rcases ov with ⟨rfl, rfl⟩ | ⟨b, rfl, rfl⟩ | ⟨i, rfl, rfl⟩ | ⟨z, rfl, rfl⟩ | ⟨a, rfl, e, rfl, h1⟩ | ⟨a, xs, ds, rfl, e, rfl, h1, hz, p⟩ | ⟨a, xs, ds, rfl, e, rfl, h1, hz, p⟩
            · exact iteF rfl q1
            · exact iteF rfl q1
            · exact iteT rfl ⟨_, rfl, sq_ix (j := 1) hx1 rfl ⟨_, _, rfl, rfl, q1⟩⟩
            · exact iteF rfl q1
            · exact iteF rfl q1
            · exact iteF rfl q1
            · exact iteF rfl q1
      · have e3 : isFrD d = false := two_len e (by rw [← Paired.length p]; exact hl)
        rw [e3] at q1
        have n2 : decide (V.int (xs.length : Int) = V.int 2) = false := decide_eq_false fun z => hl (by injection z with z; omega)
        exact iteF n2 q1
end
end LW
namespace LW
open PySem PySem.Spec PyProof.Rows L2

section
variable {P : Program} {w : World} {K : PySem.W.Frag} {mg : Str → Option Value} {base : Heap} {fL fI fW fF : Addr} {fdL fdI fdW fdF : FuncData}
theorem ok_iswd (g5 : mg ("len" : Str) = none) (gL : mg ("is_list" : Str) = some (.ref fL)) (GL : FnOk P w K mg base CX0 1 fL fdL ["thing"] (spData isSeqD)) (kL : PySem.W.keepIn K (.ref fL) = true) (bL : Binds K fdL ["thing"] [])
    (gI : mg ("is_whole" : Str) = some (.ref fI)) (GI : FnOk P w K mg base CX0 2 fI fdI ["thing"] (spDataI isWhD)) (kI : PySem.W.keepIn K (.ref fI) = true) (bI : Binds K fdI ["thing"] []) {fd : FuncData} {f : Addr} {x : Str} (F : FnP K x s_is_width f fd) : FnOk P w K mg base CX0 3 f fd ["thing"] (spData isWdD) := by
  refine F.ok scIsWd (fun vs H Q E h => ?_) fun cdv A outer s0 H vs Q E hr h => ?_
  · obtain ⟨x, d, ex, n, rfl, _⟩ := h
    rfl
  · have hr1 := hr.mono (j := 1) (by decide)
    obtain ⟨x, d, ex, n, rfl, ob, k⟩ := h
    refine ⟨_, pss_one (ps_ret (pe_and (pe_call GL hr1 rfl gL kL bL .nil pass0 (pa_cons (pv 0) pa_nil)) (pe_and (pe_cmpR op_eq (pe_callB call_len rfl g5 rfl (pa_cons (pv 0) pa_nil)) pe_int (nomark _))
      (pe_and (pe_call GI hr rfl gI kI bI .nil pass0 (pa_cons (pe_ix ix_seq (pv 0) pe_int (fun _ _ => rfl)) pa_nil)) (pe_and (pe_call GI hr rfl gI kI bI .nil pass0 (pa_cons (pe_ix ix_seq (pv 0) pe_int (fun _ _ => rfl)) pa_nil))
        (pe_one (pe_cmpR op_gt (pe_ix ix_seq (pv 0) pe_int (fun _ _ => rfl)) pe_int (nomark _)))))))), ?_⟩
    refine ⟨_, rfl, x, d, ex, n, rfl, ob, fun H1 k1 => ⟨_, rfl, ?_⟩⟩
    have q1 := k H1 k1
    rcases ob_seq K ob with ⟨e, _⟩ | ⟨a, xs, ds, m, rfl, e, hx, p⟩
    · have e1 : isWdD d = false := two_non e
      rw [e1] at q1
      have e2 : isSeqD d = false := by
        unfold isSeqD
        rw [e]
        rfl
      rw [e2]
      exact iteF rfl q1
    · have e2 : isSeqD d = true := by
        unfold isSeqD
        rw [e]
        rfl
      rw [e2]
      have hx1 := sq_kp hx k1
      refine iteT rfl ⟨_, rfl, _, _, rfl, sq_len hx1, ⟨rfl, ⟨_, rfl, ?_⟩⟩⟩
      by_cases hl : xs.length = 2
      · obtain ⟨u, v, du, dv, rfl, rfl, ou, ov⟩ := paired2 p hl
        have e3 : isWdD d = (isWhD du && (isWhD dv && posD dv)) := two_yes e
        rw [e3] at q1
        refine iteT rfl ⟨_, rfl, sq_ix (j := 0) hx1 rfl ⟨u, du, ex, m, rfl, ou.kp k1, ⟨_, rfl, ?_⟩⟩⟩
        cases hu : isWhD du with
        | false =>
          rw [hu] at q1
          exact iteF rfl q1
        | true =>
          rw [hu] at q1
          refine iteT rfl ⟨_, rfl, sq_ix (j := 1) hx1 rfl ⟨v, dv, ex, m, rfl, ov.kp k1, ⟨_, rfl, ?_⟩⟩⟩
          match m, ov with
          | 0, ov => exact ov.elim
          | m + 1, ov =>
            rcases ov with ⟨rfl, rfl⟩ | ⟨b, rfl, rfl⟩ | ⟨i, rfl, rfl⟩ | ⟨z, rfl, rfl⟩ | ⟨a, rfl, e, rfl, h1⟩ | ⟨a, xs, ds, rfl, e, rfl, h1, hz, p⟩ | ⟨a, xs, ds, rfl, e, rfl, h1, hz, p⟩
            · exact iteF rfl q1
            · exact iteF rfl q1
            · cases hv : isWhD (.int i) with
              | false =>
                rw [hv] at q1
                exact iteF rfl q1
              | true =>
                rw [hv] at q1
                exact iteT rfl ⟨_, rfl, sq_ix (j := 1) hx1 rfl ⟨_, _, rfl, rfl, q1⟩⟩
            · exact iteF rfl q1
            · exact iteF rfl q1
            · exact iteF rfl q1
            · exact iteF rfl q1
      · have e3 : isWdD d = false := two_len e (by rw [← Paired.length p]; exact hl)
        rw [e3] at q1
        have n2 : decide (V.int (xs.length : Int) = V.int 2) = false := decide_eq_false fun z => hl (by injection z with z; omega)
        exact iteF n2 q1
theorem ok_isfm (g5 : mg ("len" : Str) = none) (gL : mg ("is_list" : Str) = some (.ref fL)) (GL : FnOk P w K mg base CX0 1 fL fdL ["thing"] (spData isSeqD)) (kL : PySem.W.keepIn K (.ref fL) = true) (bL : Binds K fdL ["thing"] [])
    (gI : mg ("is_fraction" : Str) = some (.ref fI)) (GI : FnOk P w K mg base CX0 2 fI fdI ["thing"] (spData isFrD)) (kI : PySem.W.keepIn K (.ref fI) = true) (bI : Binds K fdI ["thing"] []) {fd : FuncData} {f : Addr} {x : Str} (F : FnP K x s_is_form f fd) : FnOk P w K mg base CX0 3 f fd ["thing"] (spData isFmD) := by
  refine F.ok scIsFm (fun vs H Q E h => ?_) fun cdv A outer s0 H vs Q E hr h => ?_
  · obtain ⟨x, d, ex, n, rfl, _⟩ := h
    rfl
  · have hr1 := hr.mono (j := 1) (by decide)
    obtain ⟨x, d, ex, n, rfl, ob, k⟩ := h
    refine ⟨_, pss_one (ps_ret (pe_and (pe_call GL hr1 rfl gL kL bL .nil pass0 (pa_cons (pv 0) pa_nil)) (pe_and (pe_cmpR op_eq (pe_callB call_len rfl g5 rfl (pa_cons (pv 0) pa_nil)) pe_int (nomark _))
      (pe_and (pe_call GI hr rfl gI kI bI .nil pass0 (pa_cons (pe_ix ix_seq (pv 0) pe_int (fun _ _ => rfl)) pa_nil)) (pe_one (pe_call GI hr rfl gI kI bI .nil pass0 (pa_cons (pe_ix ix_seq (pv 0) pe_int (fun _ _ => rfl)) pa_nil))))))), ?_⟩
    refine ⟨_, rfl, x, d, ex, n, rfl, ob, fun H1 k1 => ⟨_, rfl, ?_⟩⟩
    rcases ob_seq K ob with ⟨e, _⟩ | ⟨a, xs, ds, m, rfl, e, hx, p⟩
    · have q1 := k H1 k1
      have e1 : isFmD d = false := two_non e
      rw [e1] at q1
      have e2 : isSeqD d = false := by
        unfold isSeqD
        rw [e]
        rfl
      rw [e2]
      exact iteF rfl q1
    · have e2 : isSeqD d = true := by
        unfold isSeqD
        rw [e]
        rfl
      rw [e2]
      have hx1 := sq_kp hx k1
      refine iteT rfl ⟨_, rfl, _, _, rfl, sq_len hx1, ⟨rfl, ⟨_, rfl, ?_⟩⟩⟩
      by_cases hl : xs.length = 2
      · obtain ⟨u, v, du, dv, rfl, rfl, ou, ov⟩ := paired2 p hl
        have e3 : isFmD d = (isFrD du && isFrD dv) := two_yes e
        rw [e3] at k
        refine iteT rfl ⟨_, rfl, sq_ix (j := 0) hx1 rfl ⟨u, du, ex, m, rfl, ou.kp k1, fun H2 k2 => ⟨_, rfl, ?_⟩⟩⟩
        have k12 : Kp H H2 := fun b o z => k2 _ _ (k1 _ _ z)
        cases hu : isFrD du with
        | false =>
          rw [hu] at k
          exact iteF rfl (k H2 k12)
        | true =>
          rw [hu] at k
          refine iteT rfl ⟨_, rfl, sq_ix (j := 1) (sq_kp hx1 k2) rfl ⟨v, dv, ex, m, rfl, (ov.kp k1).kp k2, fun H3 k3 => ?_⟩⟩
          exact k H3 fun b o z => k3 _ _ (k12 _ _ z)
      · have q1 := k H1 k1
        have e3 : isFmD d = false := two_len e (by rw [← Paired.length p]; exact hl)
        rw [e3] at q1
        have n2 : decide (V.int (xs.length : Int) = V.int 2) = false := decide_eq_false fun z => hl (by injection z with z; omega)
        exact iteF n2 q1
end
/-! ### the program reckons -/
theorem scLowP : FnScope ["top", "bottom", "shared"] ["top", "bottom"] (defScope s_lowest) := scP_ok (by decide +kernel)
theorem scPlusP : FnScope ["one", "other"] ["one", "other"] (defScope s_plus) := scP_ok (by decide +kernel)
theorem scTimesP : FnScope ["one", "other"] ["one", "other"] (defScope s_times) := scP_ok (by decide +kernel)
theorem scAtP : FnScope ["form", "width"] ["form", "width"] (defScope s_worth_at) := scP_ok (by decide +kernel)
section
variable {P : Program} {w : World} {K : PySem.W.Frag} {mg : Str → Option Value} {base : Heap} {fL fP fT : Addr} {fdL fdP fdT : FuncData}
theorem ok_lowP (gg : mg ("gcd" : Str) = some (.builtin "math.gcd")) {fd : FuncData} {f : Addr} {x : Str} (F : FnP K x s_lowest f fd) : FnOk P w K mg base CX0 1 f fd ["top", "bottom"] spLow := by
  refine F.ok scLowP (fun vs H Q E h => ?_) fun cdv A outer s0 H vs Q E hr h => ?_
  · obtain ⟨t, b, rfl, _⟩ := h
    rfl
  · obtain ⟨t, b, rfl, b0, b1, k⟩ := h
    refine ⟨_, pss_cons (ps_set (i := 2) scLowP.nd rfl (.inl rfl) (pe_callBfun cr_gcd rfl gg (pa_cons (pv 0) (pa_cons (pv 1) pa_nil))))
      (pss_one (ps_ret (pe_tup (pa_cons (pe_op op_fdivW (pv 0) (pv 2)) (pa_cons (pe_op op_fdivW (pv 1) (pv 2)) pa_nil))))), ?_⟩
    have eg : ((Nat.gcd t.natAbs b.natAbs : Nat) : Int) = (Int.gcd t b : Int) := rfl
    have g0 := gcd_pos_of (t := t) b0
    have gb : ((Int.gcd t b : Nat) : Int).natAbs < 2 ^ 4000 := by
      refine Nat.lt_of_le_of_lt ?_ b1
      have d : (Int.gcd t b : Int) ∣ b := Int.gcd_dvd_right _ _
      have q := Int.le_of_dvd b0 d
      omega
    have cd : ∀ i : Int, CDivW i (Int.gcd t b : Int) := fun i => wide_div g0 gb (by decide) (by decide)
    refine ⟨_, rfl, _, rfl, t, b, rfl, _, rfl, _, rfl, _, _, rfl, rfl, cd _, _, rfl, _, rfl, _, _, rfl, rfl, cd _, le_sz rfl, fun p hp => ?_⟩
    exact k p hp
theorem ok_plusP (gL : mg ("lowest" : Str) = some (.ref fL)) (GL : FnOk P w K mg base CX0 1 fL fdL ["top", "bottom"] spLow) (kL : PySem.W.keepIn K (.ref fL) = true) (bL : Binds K fdL ["top", "bottom"] []) {fd : FuncData} {f : Addr} {x : Str} (F : FnP K x s_plus f fd) :
    FnOk P w K mg base CX0 2 f fd ["one", "other"] (spOp K plusT) := by
  refine F.ok scPlusP (fun vs H Q E h => ?_) fun cdv A outer s0 H vs Q E hr h => ?_
  · obtain ⟨x, y, p, q, n, rfl, _⟩ := h
    rfl
  · obtain ⟨x, y, p, q, n, rfl, hx, hy, bp, bq, n0, n1, k⟩ := h
    refine ⟨_, pss_one (ps_ret (pe_call GL hr rfl gL kL bL .nil pass0 (pa_cons (pe_op op_add (pe_op op_mulW (pe_ix ix_seq (pv 0) pe_int (fun _ _ => rfl)) (pe_ix ix_seq (pv 1) pe_int (fun _ _ => rfl))) (pe_op op_mulW (pe_ix ix_seq (pv 1) pe_int (fun _ _ => rfl)) (pe_ix ix_seq (pv 0) pe_int (fun _ _ => rfl))))
      (pa_cons (pe_op op_mulW (pe_ix ix_seq (pv 0) pe_int (fun _ _ => rfl)) (pe_ix ix_seq (pv 1) pe_int (fun _ _ => rfl))) pa_nil)))), ?_⟩
    have mw : ∀ {i j : Int}, i.natAbs < 2 ^ n → j.natAbs < 2 ^ n → CMulW i j := fun a b => wide_mul a b n0 n0 (by omega)
    refine ⟨_, rfl, hx.x0 ⟨_, rfl, hy.x1 ⟨_, _, rfl, rfl, mw bp.t bq.b, _, rfl, hy.x0 ⟨_, rfl, hx.x1 ⟨_, _, rfl, rfl, mw bq.t bp.b, _, _, rfl, rfl, _, rfl, hx.x1 ⟨_, rfl, hy.x1 ⟨_, _, rfl, rfl, mw bp.b bq.b, ?_⟩⟩⟩⟩⟩⟩⟩
    exact ⟨_, _, rfl, Int.mul_pos bp.b0 bq.b0, Nat.lt_of_lt_of_le (wide_lt bp.b bq.b) (two_le (by omega)), k⟩
theorem ok_timesP (gL : mg ("lowest" : Str) = some (.ref fL)) (GL : FnOk P w K mg base CX0 1 fL fdL ["top", "bottom"] spLow) (kL : PySem.W.keepIn K (.ref fL) = true) (bL : Binds K fdL ["top", "bottom"] []) {fd : FuncData} {f : Addr} {x : Str} (F : FnP K x s_times f fd) :
    FnOk P w K mg base CX0 2 f fd ["one", "other"] (spOp K timesT) := by
  refine F.ok scTimesP (fun vs H Q E h => ?_) fun cdv A outer s0 H vs Q E hr h => ?_
  · obtain ⟨x, y, p, q, n, rfl, _⟩ := h
    rfl
  · obtain ⟨x, y, p, q, n, rfl, hx, hy, bp, bq, n0, n1, k⟩ := h
    refine ⟨_, pss_one (ps_ret (pe_call GL hr rfl gL kL bL .nil pass0 (pa_cons (pe_op op_mulW (pe_ix ix_seq (pv 0) pe_int (fun _ _ => rfl)) (pe_ix ix_seq (pv 1) pe_int (fun _ _ => rfl)))
      (pa_cons (pe_op op_mulW (pe_ix ix_seq (pv 0) pe_int (fun _ _ => rfl)) (pe_ix ix_seq (pv 1) pe_int (fun _ _ => rfl))) pa_nil)))), ?_⟩
    have mw : ∀ {i j : Int}, i.natAbs < 2 ^ n → j.natAbs < 2 ^ n → CMulW i j := fun a b => wide_mul a b n0 n0 (by omega)
    refine ⟨_, rfl, hx.x0 ⟨_, rfl, hy.x0 ⟨_, _, rfl, rfl, mw bp.t bq.t, _, rfl, hx.x1 ⟨_, rfl, hy.x1 ⟨_, _, rfl, rfl, mw bp.b bq.b, ?_⟩⟩⟩⟩⟩
    exact ⟨_, _, rfl, Int.mul_pos bp.b0 bq.b0, Nat.lt_of_lt_of_le (wide_lt bp.b bq.b) (two_le (by omega)), k⟩
theorem ok_atP (gP : mg ("plus" : Str) = some (.ref fP)) (GP : FnOk P w K mg base CX0 2 fP fdP ["one", "other"] (spOp K plusT)) (kP : PySem.W.keepIn K (.ref fP) = true) (bP : Binds K fdP ["one", "other"] [])
    (gT : mg ("times" : Str) = some (.ref fT)) (GT : FnOk P w K mg base CX0 2 fT fdT ["one", "other"] (spOp K timesT)) (kT : PySem.W.keepIn K (.ref fT) = true) (bT : Binds K fdT ["one", "other"] []) {fd : FuncData} {f : Addr} {x : Str} (F : FnP K x s_worth_at f fd) : FnOk P w K mg base CX0 3 f fd ["form", "width"] (spAt K) := by
  refine F.ok scAtP (fun vs H Q E h => ?_) fun cdv A outer s0 H vs Q E hr h => ?_
  · obtain ⟨x, y, p, q, w, n, rfl, _⟩ := h
    rfl
  · obtain ⟨x, y, p, q, w, n, rfl, hx, hy, bp, bq, bw, n0, n1, k⟩ := h
    refine ⟨_, pss_one (ps_ret (pe_call GP hr rfl gP kP bP .nil pass0 (pa_cons (pe_ix ix_seq (pv 0) pe_int (fun _ _ => rfl)) (pa_cons (pe_call GT hr rfl gT kT bT .nil pass0 (pa_cons (pe_ix ix_seq (pv 0) pe_int (fun _ _ => rfl)) (pa_cons (pv 1) pa_nil))) pa_nil)))), ?_⟩
    refine ⟨_, rfl, hx.x0 fun u hu => ⟨_, rfl, hx.x1 fun v hv => ⟨_, rfl, v, y, q, w, n, rfl, hv, hy, bq, bw, n0, by omega, fun r hr => ?_⟩⟩⟩
    have e1 : Kp H (upd H r (.tup (fracV (timesT q w)))) := kp_new hr
    refine ⟨u, .ref r, p, timesT q w, n + n, rfl, hu.kp e1, ⟨r, rfl, .inl (SqT.of upd_same)⟩, bp.mono (by omega), times_b bq bw, by omega, by omega, fun r2 hr2 => ?_⟩
    refine k r2 _ (fun b o z => kp_new hr2 _ _ (e1 _ _ z)) ?_ upd_same
    cases z : H r2 with
    | none => rfl
    | some o =>
      rw [e1 _ _ z] at hr2
      cases hr2
end
end LW
namespace PySem
namespace K00X
open PySem.HandSPX

/-! ### C(..) with keywords, C an error's class: at the library's level -/
section
variable {M : Model} {prog : Program} {w : World} {A : Around} {E : Value → Shared → Prop} {h : Heap} {g : Array GenState}
variable {d : Drawn} {t : Nat} {os : OsState} {R : Result → Shared → Prop} {B nid iid : String}
variable {nm q : Str} {C N : Addr} {bs bm bb : List Value} {hdc : Bool} {sn : List Str} {sub : List Value} {ab : Bool}
variable {col : Option Bool} {dd : Option Addr} {k0 k1 k2 k3 k5 : Option Value} {us : List Value} {kw : List (Str × Value)}
theorem kwNewCheck (F : ExcBaseFacts B nid iid bb) (hT : ∀ Y : String, bm.contains (.type Y) = bb.contains (.type Y)) {Q : Unit → Shared → Prop}
    (hC : h.get? C = some (excClassObj nm q C N bs bm hdc sn sub ab col dd k0 k1 k2 k3 k5 nid)) (hq : Q () ⟨h, g, d, t, os⟩) :
    wpAny M A (checkBuiltinCall nid ⟨.ref C :: us, kw⟩) Q E ⟨h, g, d, t, os⟩ := by
  have cB : (Value.ref C :: bm).contains (.type B) = true := by
    rw [List.contains_cons, hT, F.hasB, Bool.or_true]
  have ns := F.noStar
  simp only [checkBuiltinCall, F.newKind, F.newSplit, F.newRow]
  repeat (first
    | refine wpAny_loadPart_at hC ?_
    | (refine wpAny_isSubtype_exc hC ?_; rw [cB])
    | refine wpAny_staticBase_exc hC ?_
    | refine wpAny_madeBy_exc hC ?_
    | simp only [bne_self_eq_false, Bool.false_eq_true, if_false]
    | wp_step)
  exact hq
theorem kwNew (F : ExcBaseFacts B nid iid bb) (hT : ∀ Y : String, bm.contains (.type Y) = bb.contains (.type Y)) (hus : us.length ≤ sizeLine)
    (hC : h.get? C = some (excClassObj nm q C N bs bm hdc sn sub ab col dd k0 k1 k2 k3 k5 nid))
    (hq : R (.ok (.ret (.ref (h.objs.size + 1)))) ⟨(h.push (W.kdv_tup us)).push (excO C h.objs.size), g, d, t, os⟩) :
    codeAny (model prog w) A (.builtin nid ⟨.ref C :: us, kw⟩) R ⟨h, g, d, t, os⟩ := by
  have en := F.ends
  have cB : (Value.ref C :: bm).contains (.type B) = true := by
    rw [List.contains_cons, hT, F.hasB, Bool.or_true]
  have cA : (Value.ref C :: bm).contains (.type "AttributeError") = false := by
    rw [List.contains_cons, hT, F.noAttr]
    rfl
  have cN : (Value.ref C :: bm).contains (.type "NameError") = false := by
    rw [List.contains_cons, hT, F.noName]
    rfl
  refine codeAny_builtinAt F.entry ?_
  unfold Builtin.«BaseException.__new__»
  refine wpAt_bind ?_
  show wpAt _ _ _ (stack >>= _) _ _ _
  refine wpAt_bind (wpAt_stack fun p below => wpAt_of_wpAny ?_)
  wp_walk
  refine wpAt_of_wpAny ?_
  rw [F.owner]
  repeat (first
    | with_reducible refine wpAny_madeHere_exc F.canon hC ?_
    | with_reducible refine wpAny_loadPart_at hC ?_
    | (with_reducible refine wpAny_isSubtype_exc hC ?_; first | rw [cB] | rw [cA] | rw [cN])
    | wp_step)
  show R _ _
  rw [Heap.size_push]
  exact hq
theorem kwTypeCall (F : ExcBaseFacts B nid iid bb) (hT : ∀ Y : String, bm.contains (.type Y) = bb.contains (.type Y)) {fI : Addr} {Q : Fin → Shared → Prop}
    (hC : h.get? C = some (excClassObj nm q C N bs bm hdc sn sub ab col dd k0 k1 k2 k3 k5 nid)) (hus : us.length ≤ sizeLine)
    (hi : W.Looks (model prog w) h (typeLookup (.ref C) "__init__") (some (.ref fI))) (hb : ∀ self, W.Looks (model prog w) h (bindSpecial (.ref fI) self) (.ref fI, [self]))
    (hq : codeAny (model prog w) A (.call (.ref fI) ⟨.ref (h.objs.size + 1) :: us, kw⟩)
      (fun r s' => match r with
        | .ok (.ret v) => v = .none ∧ Q (.done (.ret (.ref (h.objs.size + 1)))) s'
        | .ok _ => False
        | .error e => E e s') ⟨(h.push (W.kdv_tup us)).push (excO C h.objs.size), g, d, t, os⟩) :
    wpAny (model prog w) A (Builtin.«type.__call__» ⟨.ref C :: us, kw⟩) Q E ⟨h, g, d, t, os⟩ := by
  repeat (first
    | with_reducible refine wpAny_loadPart_at hC ?_
    | with_reducible refine wpAny_madeBy_exc hC ?_
    | wp_step)
  refine codeAny_call_builtin_code (Code.quiet_builtin _ F.quiet) (kwNewCheck F hT hC ?_)
  refine kwNew F hT hus hC ?_
  show wpAny _ _ _ _ _ _
  have k : ∀ b o, h.get? b = some o → ((h.push (W.kdv_tup us)).push (excO C h.objs.size)).get? b = some o := fun b o e =>
    Heap.get?_push_of_some _ (Heap.get?_push_of_some _ e)
  have hC2 := k _ _ hC
  have hge : ((h.push (W.kdv_tup us)).push (excO C h.objs.size)).get? (h.objs.size + 1) = some (excO C h.objs.size) := by
    heap_get
  have cC : (Value.ref C :: bm).contains (.ref C) = true := by
    simp
  have i2 := hi.keeps k
  have b2 := (hb (.ref (h.objs.size + 1))).keeps k
  unfold isInstance
  repeat (first
    | with_reducible refine wpAny_loadPart_at hge ?_
    | (with_reducible refine wpAny_isSubtype_exc hC2 ?_; rw [cC])
    | wp_step)
  show wpAny _ _ (typeLookup (.ref C) _) _ _ _
  refine i2.at ?_
  refine wpAny_holding (wpAny_bind (b2.at ?_))
  refine wpAny_bind (wpAny_call (codeAny_mono hq fun r s' z => ?_))
  rcases r with e | (v | _ | _ | _) <;> first | exact z | exact z.elim | skip
  obtain ⟨rfl, z⟩ := z
  first
    | exact wpAny_pure (wpAny_pure z)
    | (wp_walk; exact z)
theorem kwCall (F : ExcBaseFacts B nid iid bb) (hT : ∀ Y : String, bm.contains (.type Y) = bb.contains (.type Y)) {fI : Addr}
    (hC : h.get? C = some (excClassObj nm q C N bs bm hdc sn sub ab col dd k0 k1 k2 k3 k5 nid)) (hus : us.length ≤ sizeLine)
    (hi : W.Looks (model prog w) h (typeLookup (.ref C) "__init__") (some (.ref fI))) (hb : ∀ self, W.Looks (model prog w) h (bindSpecial (.ref fI) self) (.ref fI, [self]))
    (hq : codeAny (model prog w) (A.under (.builtin "type.__call__" ⟨.ref C :: us, kw⟩)) (.call (.ref fI) ⟨.ref (h.objs.size + 1) :: us, kw⟩) (W.InitBack (h.objs.size + 1) R)
      ⟨(h.push (W.kdv_tup us)).push (excO C h.objs.size), g, d, t, os⟩) :
    codeAny (model prog w) A (.call (.ref C) ⟨us, kw⟩) R ⟨h, g, d, t, os⟩ := by
  have f1 := tc_lookup
  have f2 := tc_bind (.ref C)
  have hTy : (⟨h, g, d, t, os⟩ : Shared).TypeIs (.ref C) "type" := ⟨_, hC, rfl⟩
  refine codeAny_of_tree ?_
  show wpAny _ _ (callAny (.ref C) _) _ _ _
  repeat (any_goals (first
    | assumption
    | with_reducible refine wpAny_loadPart_at hC ?_
    | wp_step))
  refine ⟨rfl, ?_⟩
  refine codeAny_call_builtin_at (Code.quiet_builtin _ (by decide +kernel)) entry_typeCall (wpAny_check_type_call_sub hC (kwTypeCall F hT hC hus hi hb ?_))
  refine codeAny_mono hq fun r s' z => ?_
  rcases r with e | (v | _ | _ | _) <;> exact z
end
end K00X
end PySem
namespace K00
open PySem PySem.Spec PyProof.Rows L2

/-! ### an error as a value -/
/-- what the top must have made of an error's class C, whose __init__ stands at fI -/
structure ErrC (K : PySem.W.Frag) (C fI : Addr) : Prop where
  ox : OexC K C
  ga : PySem.W.findIn K (.ref C) "__getattribute__" = some (some (.builtin "BaseException.__getattribute__"))
  gg : PySem.W.findIn K (.ref C) "__getattr__" = some none
  ini : PySem.W.findIn K (.ref C) "__init__" = some (some (.ref fI))
  ity : PySem.W.typeIn K (.ref fI) = some (.type "function")
  hd : PySem.W.hasDictIn K C = true
  cl : PySem.W.findIn K (.ref C) "__class__" = some (some (.builtin "object.__class__"))
  ob : PySem.W.mroIn K C (.type "object") = some true
  cg : PySem.W.specialIn K (.builtin "object.__class__") "__get__" = some (some (.builtin "getset_descriptor.__get__"))
  ct : PySem.W.takesIn K (.builtin "object.__class__") = some true
/-- of the class that lends the errors its __init__ -/
structure BaseC (K : PySem.W.Frag) (P : Addr) : Prop where
  ex : ∃ K0 : PySem.W.Frag, (∀ a o, K0.lookup a = some o → K.lookup a = some o) ∧ PySem.W.readsIn K0 P (.type "type") = true ∧ PySem.W.specialIn K0 (.ref P) "__getattribute__" = some (some (.builtin "type.__getattribute__")) ∧
    PySem.W.findCls K0 (.ref P) (.type "type") "__init__" = some (.val (.builtin "ValueError.__init__"))
/-- at a: an error of the class C that keeps fs -/
def ErAt (H : Hp) (a C : Addr) (fs : List (Str × V)) : Prop :=
  (fs = [] ∧ H a = some (exo a C none)) ∨ ∃ d, H a = some (exo a C (some d)) ∧ H d = some (exd d fs)
theorem exo_notbl {a C : Addr} {d : Option Addr} (ps : Array Value) : exo a C d ≠ .tbl ps := exo_tbl
theorem exd_notbl {d : Addr} {fs : List (Str × V)} (ps : Array Value) : exd d fs ≠ .tbl ps := fun z => by
  have z' : HO.ext _ = HO.tbl ps := z
  cases z'
theorem ErAt.ext {H H' : Hp} {a C : Addr} {fs : List (Str × V)} (h : ErAt H a C fs) (e : LamX.ExtN H H') : ErAt H' a C fs := by
  rcases h with ⟨h1, h2⟩ | ⟨d, h1, h2⟩
  · exact .inl ⟨h1, e _ _ h2 exo_notbl⟩
  · exact .inr ⟨d, e _ _ h1 exo_notbl, e _ _ h2 exd_notbl⟩

section
variable {X : Cx} {pins : List (Addr × Obj)} {σ : L2.St} {H : Hp} {s : Shared} {a C fI : Addr} {fs : List (Str × V)}
theorem ErAt.inst (I : Inv X pins σ H s) (h : ErAt H a C fs) : ∃ ox od, PySem.W.InstAt s.heap a ox C od := by
  rcases h with ⟨_, h2⟩ | ⟨d, h1, h2⟩
  · obtain ⟨t1, ho⟩ := exo_at I.hok h2
    exact ⟨_, none, ho, rfl, rfl, trivial⟩
  · obtain ⟨t1, ho⟩ := exo_at I.hok h1
    obtain ⟨mA, hns, rel⟩ := exd_at I.hok h2
    obtain ⟨od, hod, _⟩ := lookIn_ns hns
    exact ⟨_, some od, ho, rfl, rfl, hod⟩
/-- e.f -/
def tEf (K : PySem.W.Frag) (f : Str) (te : TE) : TE := fun σ H Q => te σ H fun x H1 => ∃ a C fI fs v, x = .ref a ∧ ErrC K C fI ∧
  PySem.W.findIn K (.ref C) f = some none ∧ ErAt H1 a C fs ∧ fs.lookup f = some v ∧ Q v H1
theorem pe_ef {e : Expr} {f : Str} {te : TE} {pos : Pos} (he : PE X e te) (hb : attributeBase e f X.env (eval e X.env) = eval e X.env := by rfl) :
    PE X (.Attribute e f pos) (tEf X.K f te) := by
  refine ⟨fun pins s σ H Q I h => attr_of hb (thn (he.run pins s σ H _ I h) fun u s1 hh => ?_)⟩
  obtain ⟨x, H1, I1, rx, a, C, fI, fs, v, ex, T, no, ha, hl, q⟩ := hh
  subst ex
  obtain rfl : u = Value.ref a := rx
  rcases ha with ⟨h1, _⟩ | ⟨d, h1, h2⟩
  · subst h1
    cases hl
  · obtain ⟨t1, ho⟩ := exo_at I1.hok h1
    obtain ⟨mA, hns, rel⟩ := exd_at I1.hok h2
    obtain ⟨od, hod, look⟩ := lookIn_ns hns
    obtain ⟨u, hu, ru⟩ := RelO.some_of (v := v) (o := mA f) (by rw [← hl]; exact rel f)
    have J : PySem.W.InstAt s1.heap a _ C (some od) := ⟨ho, rfl, rfl, hod⟩
    exact PySem.HandSPX.exc_get I1.kIn J T.ga T.gg T.ox.exC (PySem.W.findObj_own T.hd no rfl (by rw [look, hu])) (handed_of ru) ⟨v, H1, I1.tok _, ru, q⟩
/-- isinstance(e, c) -/
def rIsX (K : PySem.W.Frag) : List V → Hp → VK → Prop := fun xs H Q => ∃ (a C fI : Addr) (fs : List (Str × V)) (c : V) (u : Value) (b : Bool), xs = [.ref a, c] ∧
  ErrC K C fI ∧ ErAt H a C fs ∧ ClsV c u ∧ PySem.W.kitOne K (.ref C) u = some b ∧ Q (.bl b) H
theorem call_isx : CallR X (.builtin "isinstance") (rIsX X.K) := by
  intro pins s σ H xs us Q I r h
  obtain ⟨a, C, fI, fs, c, u, b, rfl, T, ha, k, e, q⟩ := h
  obtain ⟨u1, u2, rfl, r1, r2⟩ := vals2 r
  have e2 := k.eq r2
  subst e2
  obtain rfl : u1 = Value.ref a := r1
  obtain ⟨ox, od, J⟩ := ha.inst I
  have hc : (PySem.W.clsIn X.K C).isSome = true := by
    obtain ⟨cd, h1, _⟩ := PySem.W.any_some T.hd
    rw [h1]
    rfl
  exact PySem.W.kia_one (PySem.W.kitx_exc hc T.ga T.gg T.ox.exC T.cl T.cg T.ct T.ob) I.kIn J e (fun z => nomatch z) fun tk => ⟨.bl b, H, I.tok tk, rfl, q⟩
end

/-! ### P.__init__(self, ..) -/
theorem call_line {o : Expr} {m : Str} {apos pos : Pos} {args : List Expr} {env : Env} (hb : attributeBase o m env (eval o env) = eval o env)
    (hf : methodCallForm (args.length + ([] : List Keyword).length) (backTo pos (starEach args env)) (backToKw pos (keywordEach [] env)) = true) (hl : (apos.endLine == pos.line) = true) :
    eval (.Call (.Attribute o m apos) args [] pos) env = (do
      let ov ← eval o env
      standAt apos.atName
      let (f, first) ← holding [ov] (getMethod ov m (plainOf o env))
      callWith pos f first (backTo pos (starEach args env)) (backToKw pos (keywordEach [] env))) := by
  rw [arm_eval_Call, hb]
  simp only [mcall_line hf hl]
theorem pe_pinit {X : Cx} {x : Str} {P : Addr} {e : Expr} {es : List Expr} {ta : TA} {p1 p2 pos : Pos} (hg : Gl X x) (hm : X.mg x = some (.ref P)) (B : BaseC X.K P) (ha : PA X (e :: es) ta) (hl : (p2.endLine == pos.line) = true)
    (hf : methodCallForm ((e :: es).length + ([] : List Keyword).length) (backTo pos (starEach (e :: es) X.env)) (backToKw pos (keywordEach [] X.env)) = true := by rfl) (hdb : (x == ("__debug__" : Str)) = false := by decide)
    (hat : attributeBase (.Name x p1) "__init__" X.env (eval (.Name x p1) X.env) = eval (.Name x p1) X.env := by rfl)
    (he : starEach (e :: es) X.env = (false, eval e X.env) :: starEach es X.env := by rfl) (hpl : (backTo pos (starEach es X.env)).any (·.1) = false := by rfl) :
    PE X (.Call (.Attribute (.Name x p1) "__init__" p2) (e :: es) [] pos) (tVeI X.K ta) := by
  have hc := call_line (args := e :: es) hat hf hl
  refine ⟨fun pins s σ H Q I h => ?_⟩
  refine PySem.W.methodCall_KW (ld_glob I hg hm ?_ hdb) hc
  obtain ⟨K0, l0, rd, ga, at_⟩ := B.ex
  have X0 : K0.In s.heap := fun a o z => I.kIn a o (l0 a o z)
  refine PySem.W.method_cls X0 ga (PySem.W.cls_value X0 rd at_ rfl ?_)
  show wpAny _ _ (callWith pos (Value.builtin "ValueError.__init__") [] (backTo pos (starEach (e :: es) X.env)) []) _ _ _
  refine PyProof.Rows.callWith_method1 (thn (ha.run pos pins _ σ H _ (I.tok _) h) fun us s1 ⟨vs, H1, I1, r1, a, C, ws, ev, hl, T, ea, q⟩ => ?_) he hpl
  subst ev
  cases r1 with
  | @cons _ u0 _ ur ra rw' =>
    obtain rfl : u0 = Value.ref a := ra
    have hlen : ur.length ≤ sizeLine := by
      rw [← Paired.length rw', sizeLine_eq]
      omega
    exact oinit_ok T I1 ea hlen fun s' J => ⟨.non, H1, J, rfl, q⟩

/-! ### C(..), C an error's class: a new error that stays -/
/-- vs: what its __init__ gets behind self -/
def tMkE (C : Addr) (sp : Sp) (ta : TA) : TE := fun σ H Q => ta σ H fun vs H1 => vs.length ≤ 1000 ∧
  ∀ a, H1 a = none → sp (.ref a :: vs) (upd H1 a (exo a C none)) (fun v H2 => v = .non ∧ Q (.ref a) H2) E0
section
variable {X : Cx} {C fI : Addr} {k : Nat} {fd : FuncData} {ps ks : List Str} {sp : Sp} {x : Str} {p pos : Pos} {e : Expr} {es : List Expr} {kws : List Keyword} {ta : TA}
theorem run_mkE {pins : List (Addr × Obj)} {σ : L2.St} {H : Hp} {s : Shared} {Q : VK} {us all : List Value} {kw : List (Str × Value)} {vs : List V} (T : ErrC X.K C fI)
    (G : FnOk X.prog X.w X.K X.mg X.base CX0 k fI fd ps sp) (hr : Room (k + 1) X.A) (I : Inv X pins σ H s) (hb : ∀ (s' : Shared) (a : Addr), BindsTo s' fd ⟨.ref a :: us, kw⟩ (ps.zip (.ref a :: all)))
    (r : Vals vs all) (hl : us.length ≤ sizeLine) (h : ∀ a, H a = none → sp (.ref a :: vs) (upd H a (exo a C none)) (fun v H2 => v = .non ∧ Q (.ref a) H2) E0) :
    wpAny (model X.prog X.w) X.A (call (.ref C) us kw) (EP X pins σ Q) X.xe s := by
  obtain ⟨nm, q, N, bs, bm, sn, sub, ab, col, dd, k0, k1, k2, k3, k5, hC, hbm⟩ := T.ox.cls
  obtain ⟨hp, g, dr, tk, os⟩ := s
  have hsz : hp.objs.size ≤ hp.objs.size + 1 := Nat.le_succ _
  have hq := h (hp.objs.size + 1) (I.hok.fresh hsz)
  have kk : ∀ b o, hp.get? b = some o → ((hp.push (PySem.W.kdv_tup us)).push (PySem.HandSPX.excO C hp.objs.size)).get? b = some o := fun b o z =>
    Heap.get?_push_of_some _ (Heap.get?_push_of_some _ z)
  have hge : ((hp.push (PySem.W.kdv_tup us)).push (PySem.HandSPX.excO C hp.objs.size)).get? (hp.objs.size + 1) = some (PySem.HandSPX.excO C hp.objs.size) := by
    heap_get
  have I2 : Inv X pins σ (upd H (hp.objs.size + 1) (exo (hp.objs.size + 1) C none)) ⟨(hp.push (PySem.W.kdv_tup us)).push (PySem.HandSPX.excO C hp.objs.size), g, dr, tk, os⟩ :=
    I.laid (t' := tk) (a := hp.objs.size + 1) (o := exo (hp.objs.size + 1) C none) (h' := (hp.push (PySem.W.kdv_tup us)).push (PySem.HandSPX.excO C hp.objs.size)) kk hsz (exo_ok hge)
  have r2 : Vals (V.ref (hp.objs.size + 1) :: vs) (Value.ref (hp.objs.size + 1) :: all) := .cons rfl r
  refine wpAny_call (PySem.K00X.kwCall PySem.F.excBase_ValueError (fun Y => PySem.HandSPX.refsVE_contains Y bm hbm) (I.kIn _ _ hC) hl (PySem.W.looks_findIn I.kIn T.ini)
    (fun self => PySem.W.bind_fn I.kIn self T.ity) (codeAny_mono (G.run _ X.stack _ _ ⟨Value.ref (hp.objs.size + 1) :: us, kw⟩ (Value.ref (hp.objs.size + 1) :: all) _ _ E0
      (hr.make C us kw) (I2.env0.make C us kw) (hb _ _) r2 hq) fun z s' hq' => ?_))
  cases z with
  | error er => exact (show False from hq').elim
  | ok fl =>
    cases fl with
    | ret u =>
      obtain ⟨v, H2, I3, rv, ev, q3⟩ := I2.after hq'
      subst ev
      exact ⟨rv, ⟨V.ref (hp.objs.size + 1), H2, I3, rfl, q3⟩⟩
    | next => exact False.elim hq'
    | brk => exact False.elim hq'
    | cont => exact False.elim hq'
theorem pe_mkE (T : ErrC X.K C fI) (G : FnOk X.prog X.w X.K X.mg X.base CX0 k fI fd ps sp) (hr : Room (k + 1) X.A) (hg : Gl X x) (hm : X.mg x = some (.ref C)) (ha : PA X (e :: es) ta)
    (hb : ∀ (s' : Shared) (a : Addr) (us : List Value), us.length + 1 = ps.length → BindsTo s' fd ⟨.ref a :: us, []⟩ (ps.zip (.ref a :: us)))
    (hdb : (x == ("__debug__" : Str)) = false := by decide) (he : starEach (e :: es) X.env = (false, eval e X.env) :: starEach es X.env := by rfl) (hpl : (backTo pos (starEach es X.env)).any (·.1) = false := by rfl) :
    PE X (.Call (.Name x p) (e :: es) [] pos) (tMkE C sp ta) := by
  refine ⟨fun pins s σ H Q I h => ?_⟩
  refine wpAny_Call_Name_kw (ld_glob I hg hm ?_ hdb)
  refine PySem.W.callWith_K (h₀ := X.base) I.ok.mod.kin T.ox.kC (thn (ha.run pos pins s σ H _ I h) fun us s1 ⟨vs, H1, I1, r, hl, q⟩ => ⟨I1.kIn, ?_⟩) he hpl
  have e1 := Paired.length r
  have e2 : us.length + 1 = ps.length := by
    obtain ⟨a0, ha0⟩ : ∃ a0, H1 a0 = none := ⟨s1.heap.objs.size, I1.hok.fresh (Nat.le_refl _)⟩
    have e3 := G.len _ _ _ _ (q a0 ha0)
    rw [← e1]
    exact e3
  show wpAny _ _ (call (.ref C) us) _ _ _
  exact run_mkE T G hr I1 (fun s' a => hb s' a us e2) r (by rw [← e1, sizeLine_eq]; omega) q
theorem pe_mkE0 (T : ErrC X.K C fI) (G : FnOk X.prog X.w X.K X.mg X.base CX0 k fI fd ps sp) (hr : Room (k + 1) X.A) (hg : Gl X x) (hm : X.mg x = some (.ref C))
    (hb : ∀ (s' : Shared) (a : Addr), BindsTo s' fd ⟨[.ref a], []⟩ (ps.zip [.ref a])) (hdb : (x == ("__debug__" : Str)) = false := by decide) :
    PE X (.Call (.Name x p) [] [] pos) (tMkE C sp tNil) := by
  refine ⟨fun pins s σ H Q I h => ?_⟩
  refine wpAny_Call_Name_kw (ld_glob I hg hm ?_ hdb)
  exact PySem.W.callWith_K0 I.kIn T.ox.kC (run_mkE (us := []) (all := []) T G hr I hb .nil (Nat.zero_le _) h.2)
theorem pe_mkEK (T : ErrC X.K C fI) (G : FnOk X.prog X.w X.K X.mg X.base CX0 k fI fd ps sp) (hr : Room (k + 1) X.A) (hg : Gl X x) (hm : X.mg x = some (.ref C)) (hkw : PK X kws ta)
    (hb : ∀ (s' : Shared) (a : Addr) (ws : List Value), ws.length + 1 = ps.length → BindsTo s' fd ⟨[.ref a], ks.zip ws⟩ (ps.zip (.ref a :: ws)))
    (hall : (backToKw pos (keywordEach kws X.env)).all (·.1.isSome) = true := by rfl) (hks : (backToKw pos (keywordEach kws X.env)).filterMap (·.1) = ks := by rfl)
    (hdb : (x == ("__debug__" : Str)) = false := by decide)
    (hpl : ((backTo pos (starEach [] X.env)).any (·.1) || (backToKw pos (keywordEach kws X.env)).any (·.1.isNone)) = false := by rfl) :
    PE X (.Call (.Name x p) [] kws pos) (tMkE C sp ta) := by
  refine ⟨fun pins s σ H Q I h => ?_⟩
  refine wpAny_Call_Name_kw (ld_glob I hg hm ?_ hdb)
  refine PySem.W.callWith_KW0 (h₀ := X.base) I.ok.mod.kin T.ox.kC hall (thn (hkw.run pos pins s σ H _ I h) fun ws s1 ⟨vs, H1, I1, r, hl, q⟩ => ⟨I1.kIn, ?_⟩) hpl
  rw [hks]
  have e1 := Paired.length r
  have e2 : ws.length + 1 = ps.length := by
    obtain ⟨a0, ha0⟩ : ∃ a0, H1 a0 = none := ⟨s1.heap.objs.size, I1.hok.fresh (Nat.le_refl _)⟩
    have e3 := G.len _ _ _ _ (q a0 ha0)
    rw [← e1]
    exact e3
  exact run_mkE (us := []) T G hr I1 (fun s' a => hb s' a ws e2) r (Nat.zero_le _) q
end
end K00
namespace K00
open PySem PySem.Spec PyProof.Rows L2 LamX

/-! ### an error's __init__, for one that is raised: its dict is new -/
def spIniX (C : Addr) (x : Str) : Sp := fun vs H Q _ => ∃ (a : Addr) (v : V), vs = [.ref a, v] ∧ H a = some (exo a C none) ∧
  ∀ (d : Addr) (H' : Hp), (∀ b o, b ≠ a → H b = some o → H' b = some o) → H' a = some (exo a C (some d)) → H' d = some (exd d [(x, v)]) → d ≠ a → H d = none → Q .non H'
abbrev iniCall (t : Str) (p1 p2 p3 p4 p5 p6 : Pos) : Stmt := .Expr (.Call (.Attribute (.Name "PageError" p1) "__init__" p2) [.Name "self" p3, .Constant (.str t) 0 p4] [] p5) p6
abbrev iniSet (x : Str) (p1 p2 p3 p4 : Pos) : Stmt := .Assign [.Attribute (.Name "self" p1) x p2] (.Name x p3) p4
section
variable {P : Program} {w : World} {K : PySem.W.Frag} {mg : Str → Option Value} {base : Heap} {C CP f : Addr} {fd : FuncData} {q : Str} {params : Arguments} {scope : Scope} {t : Str}
variable {p1 p2 p3 p4 p5 p6 q1 q2 q3 q4 : Pos}
theorem ok_iniX {CX : CXT} {x : Str} (F : FunD K "__init__" q params [iniCall t p1 p2 p3 p4 p5 p6, iniSet x q1 q2 q3 q4] scope [] [] f fd) (S : FnScope ["self", x] ["self", x] scope) (hg : scope.names.lookup ("PageError" : Str) = some .globalImplicit)
    (hs : scope.names.lookup ("self" : Str) = some .local) (hx : scope.names.lookup x = some .local) (d1 : (x == ("__debug__" : Str)) = false) (d2 : (x == ("__classdict__" : Str)) = false)
    (hL : (p2.endLine == p5.line) = true) (T : OexC K C) (B : BaseC K CP) (gP : mg ("PageError" : Str) = some (.ref CP)) (nx : PySem.W.findIn K (.ref C) x = some none) : FnOk P w K mg base CX 1 f fd ["self", x] (spIniX C x) := by
  refine F.ok S (fun vs H Q E h => ?_) (fun cdv A outer s H vs Q E hr h => ?_)
  · obtain ⟨a, v, rfl, _⟩ := h
    rfl
  · obtain ⟨a, v, rfl, ha, k⟩ := h
    refine ⟨_, pss_cons (ps_expr (pe_pinit hg gP B (pa_cons (pe_var (i := 0) rfl (.inl hs)) (pa_cons pe_str pa_nil)) hL)) (pss_one (ps_ost (pe_var (i := 0) rfl (.inl hs)) (pe_var (i := 1) rfl (.inl hx) d1 d2))), ?_⟩
    refine ⟨_, rfl, a, C, [.str t], rfl, by show 1 ≤ 1000; decide, T, ha, ?_⟩
    refine ⟨v, rfl, _, rfl, a, C, rfl, T, nx, .inl ⟨ha, fun dx n ne => ?_⟩⟩
    refine k dx _ (fun b o hb e => ?_) upd_same ?_ ne n
    · rw [upd_ne hb, upd_ne (ne_of_none e n)]
      exact e
    · rw [upd_ne ne, upd_same]
/-- raise C(e): what follows it -/
theorem mkx_go {ta : TA} {σ : L2.St} {H : Hp} {Q : XK} {x : Str} (h : ta σ H fun vs H1 => ∃ v, vs = [v] ∧ ∀ (d : Addr) (H' : Hp), (∀ b o, H1 b = some o → H' b = some o) → H' d = some (.xd [(x, v)]) → H1 d = none → Q (.ref C) (some d) H')
    (mono : ∀ (R R' : List V → Hp → Prop), (∀ vs H1, R vs H1 → R' vs H1) → ta σ H R → ta σ H R') : tMkO C (spIniX C x) [] ta σ H Q := by
  refine mono _ _ (fun vs H1 hv => ?_) h
  obtain ⟨v, rfl, k⟩ := hv
  refine ⟨by show 1 ≤ 1000; decide, fun a ha => ⟨a, v, rfl, upd_same, fun d H' kk e1 e2 ne n => ⟨rfl, d, _, e1, e2, ?_, ?_⟩⟩⟩
  · rw [upd_ne ne] at n
    exact n
  · refine k d _ (fun b o hb => ?_) upd_same (by rw [upd_ne ne] at n; exact n)
    have nb := ne_of_none hb ha
    have nd : b ≠ d := fun z => by
      rw [z] at hb nb
      rw [upd_ne nb, hb] at n
      cases n
    rw [upd_ne nd, del_ne nb]
    exact kk _ _ nb (by rw [upd_ne nb]; exact hb)
end
end K00
namespace LW
open PySem PySem.Spec PyProof.Rows L2

/-! ### the defs that refuse -/
theorem kp_tr {H H1 H2 : Hp} (a : Kp H H1) (b : Kp H1 H2) : Kp H H2 := fun c o h => b c o (a c o h)
theorem FmAt.kp {K : PySem.W.Frag} {H H' : Hp} {x : V} {p q : Int × Int} (h : FmAt K H x p q) (k : Kp H H') : FmAt K H' x p q := by
  obtain ⟨a, u, v, e, h, hu, hv⟩ := h
  exact ⟨a, u, v, e, h.elim (fun z => .inl (SqT.kp z k)) (fun z => .inr (SqL.kp z k)), hu.kp k, hv.kp k⟩
/-- an error of the class C that keeps v by the name f may leave -/
def RaiseE (E : XK) (H : Hp) (C : Addr) (f : Str) (v : V) : Prop := ∀ (dd : Addr) (H' : Hp), Kp H H' → H' dd = some (.xd [(f, v)]) → E (.ref C) (some dd) H'
theorem RaiseE.kp {E : XK} {H H1 : Hp} {C : Addr} {f : Str} {v : V} (h : RaiseE E H C f v) (k : Kp H H1) : RaiseE E H1 C f v := fun dd H' k2 e => h dd H' (kp_tr k k2) e
/-- what a class of errors must have to be raised: x its name, f what it keeps -/
structure ErrX (P : Program) (w : World) (K : PySem.W.Frag) (mg : Str → Option Value) (base : Heap) (x f : Str) (C fI : Addr) (fd : FuncData) : Prop where
  ox : OexC K C
  gC : mg x = some (.ref C)
  iC : PySem.W.findIn K (.ref C) "__init__" = some (some (.ref fI))
  tI : PySem.W.typeIn K (.ref fI) = some (.type "function")
  G : FnOk P w K mg base CX0 1 fI fd ["self", f] (K00.spIniX C f)
  b : Binds K fd ["self", f] []
/-- raise C(x), x in slot i -/
theorem raise_go {C : Addr} {f : Str} {i : Nat} {σ : L2.St} {H : Hp} {E : XK} {v : V} (hi : σ[i]? = some (some v)) (h : RaiseE E H C f v) : tMkO C (K00.spIniX C f) [] (tCons (tVar i) tNil) σ H fun cls d H' => E cls d H' :=
  K00.mkx_go ⟨v, hi, v, rfl, fun d H' kk hd _ => h d H' kk hd⟩ fun R R' hm ⟨u, e, z⟩ => ⟨u, e, hm _ _ z⟩
def spCheck (CF : Addr) : Sp := fun vs H Q E => ∃ (x : V) (d : PyData) (ex : Addr → Prop) (n : Nat), vs = [x] ∧ Ob H ex n x d ∧ ((isFmD d = true ∧ ∀ H', Kp H H' → Q .non H') ∨ (isFmD d = false ∧ RaiseE E H CF "thing" x))
theorem scCheck : FnScope ["thing"] ["thing"] (defScope s_check_form) := scP_ok (by decide +kernel)
theorem scWorth : FnScope ["form", "width"] ["form", "width"] (defScope s_form_worth) := scP_ok (by decide +kernel)
theorem scSum : FnScope ["one", "other"] ["one", "other"] (defScope s_form_sum) := scP_ok (by decide +kernel)
theorem scTm : FnScope ["form", "share"] ["form", "share"] (defScope s_form_times) := scP_ok (by decide +kernel)
section
variable {P : Program} {w : World} {K : PySem.W.Frag} {mg : Str → Option Value} {base : Heap} {fF fC fW fA fP fT fR CF CW CB iF iW iB : Addr} {fdF fdC fdW fdA fdP fdT fdR dF dW dB : FuncData}
theorem ok_check (gF : mg ("is_form" : Str) = some (.ref fF)) (GF : FnOk P w K mg base CX0 3 fF fdF ["thing"] (spData isFmD)) (kF : PySem.W.keepIn K (.ref fF) = true) (bF : Binds K fdF ["thing"] [])
    (TF : ErrX P w K mg base "BadForm" "thing" CF iF dF) {fd : FuncData} {f : Addr} {x : Str} (F : FnP K x s_check_form f fd) : FnOk P w K mg base (L2.CX P w) 4 f fd ["thing"] (spCheck CF) := by
  refine F.ok scCheck (fun vs H Q E h => ?_) fun cdv A outer s0 H vs Q E hr h => ?_
  · obtain ⟨x, d, ex, n, rfl, _⟩ := h
    rfl
  · have hr2 := hr.mono (j := 2) (by decide)
    obtain ⟨x, d, ex, n, rfl, ob, k⟩ := h
    refine ⟨_, pss_one (ps_if (pt_not (pt_val (pe_call GF hr rfl gF kF bF .nil pass0 (pa_cons (pv 0) pa_nil)))) (pss_one (ps_raise rfl (takes_of rfl rfl rfl rfl) (pmk_oex TF.ox TF.iC TF.tI TF.G hr2 TF.b .nil pass0 rfl TF.gC (pa_cons (pv 0) pa_nil)))) pss_nil), ?_⟩
    refine ⟨_, rfl, x, d, ex, n, rfl, ob, fun H1 k1 => ⟨_, rfl, ?_⟩⟩
    rcases k with ⟨h, k⟩ | ⟨h, k⟩
    · rw [h]
      exact iteF rfl (k H1 k1)
    · rw [h]
      exact iteT rfl (raise_go (i := 0) rfl (k.kp k1))
def spWorth (K : PySem.W.Frag) (CF CW : Addr) : Sp := fun vs H Q E => ∃ (x y : V) (d : PyData) (ex : Addr → Prop) (n : Nat), vs = [x, y] ∧ Ob H ex n x d ∧ ((isFmD d = false ∧ RaiseE E H CF "thing" x) ∨
  (isFmD d = true ∧ ∃ (e : PyData) (m : Nat), Ob H ex m y e ∧ ((isWdD e = false ∧ RaiseE E H CW "width" y) ∨ (isWdD e = true ∧ ∃ (p q u : Int × Int) (N : Nat), FmAt K H x p q ∧ FrAt K H y u ∧ FrB N p ∧ FrB N q ∧ FrB N u ∧ 0 < N ∧ N ≤ 900 ∧
    ∀ r H', Kp H H' → H r = none → H' r = some (.tup (fracV (plusT p (timesT q u)))) → Q (.ref r) H'))))
theorem ok_worth (gC : mg ("check_form" : Str) = some (.ref fC)) (GC : FnOk P w K mg base (L2.CX P w) 4 fC fdC ["thing"] (spCheck CF)) (kC : PySem.W.keepIn K (.ref fC) = true) (bC : Binds K fdC ["thing"] [])
    (gW : mg ("is_width" : Str) = some (.ref fW)) (GW : FnOk P w K mg base CX0 3 fW fdW ["thing"] (spData isWdD)) (kW : PySem.W.keepIn K (.ref fW) = true) (bW : Binds K fdW ["thing"] [])
    (gA : mg ("worth_at" : Str) = some (.ref fA)) (GA : FnOk P w K mg base CX0 3 fA fdA ["form", "width"] (spAt K)) (kA : PySem.W.keepIn K (.ref fA) = true) (bA : Binds K fdA ["form", "width"] [])
    (TW : ErrX P w K mg base "BadWidth" "width" CW iW dW) {fd : FuncData} {f : Addr} {x : Str} (F : FnP K x s_form_worth f fd) : FnOk P w K mg base (L2.CX P w) 5 f fd ["form", "width"] (spWorth K CF CW) := by
  refine F.ok scWorth (fun vs H Q E h => ?_) fun cdv A outer s0 H vs Q E hr h => ?_
  · obtain ⟨x, y, d, ex, n, rfl, _⟩ := h
    rfl
  · have hr2 := hr.mono (j := 2) (by decide)
    have hr3 := hr.mono (j := 3) (by decide)
    obtain ⟨x, y, d, ex, n, rfl, ob, k⟩ := h
    refine ⟨_, pss_cons (ps_expr (pe_call (E := E) GC hr rfl gC kC bC .nil (passes_call (takes_of rfl rfl rfl rfl) (fun _ _ _ _ h => h)) (pa_cons (pv 0) pa_nil)))
      (pss_cons (ps_if (pt_not (pt_val (pe_call GW hr3 rfl gW kW bW .nil pass0 (pa_cons (pv 1) pa_nil)))) (pss_one (ps_raise rfl (takes_of rfl rfl rfl rfl) (pmk_oex TW.ox TW.iC TW.tI TW.G hr2 TW.b .nil pass0 rfl TW.gC (pa_cons (pv 1) pa_nil)))) pss_nil)
        (pss_one (ps_ret (pe_call GA hr3 rfl gA kA bA .nil pass0 (pa_cons (pv 0) (pa_cons (pv 1) pa_nil)))))), ?_⟩
    refine ⟨_, rfl, x, d, ex, n, rfl, ob, ?_⟩
    rcases k with ⟨h, k⟩ | ⟨h, e, m, oy, k⟩
    · exact .inr ⟨h, k⟩
    · refine .inl ⟨h, fun H1 k1 => ?_⟩
      refine ⟨_, rfl, y, e, ex, m, rfl, oy.kp k1, fun H2 k2 => ⟨_, rfl, ?_⟩⟩
      have k12 := kp_tr k1 k2
      rcases k with ⟨h2, k⟩ | ⟨h2, p, q, u, N, fx, fy, bp, bq, bu, n0, n1, k⟩
      · rw [h2]
        exact iteT rfl (raise_go (i := 1) rfl (k.kp k12))
      · rw [h2]
        refine iteF rfl ⟨_, rfl, _, rfl, x, y, p, q, u, N, rfl, fx.kp k12, fy.kp k12, bp, bq, bu, n0, n1, fun r H3 k3 hr hr3 => ?_⟩
        exact k r H3 (kp_tr k12 k3) (new_none k12 hr) hr3
def spSum (K : PySem.W.Frag) (CF : Addr) : Sp := fun vs H Q E => ∃ (x y : V) (d : PyData) (ex : Addr → Prop) (n : Nat), vs = [x, y] ∧ Ob H ex n x d ∧ ((isFmD d = false ∧ RaiseE E H CF "thing" x) ∨
  (isFmD d = true ∧ ∃ (e : PyData) (m : Nat), Ob H ex m y e ∧ ((isFmD e = false ∧ RaiseE E H CF "thing" y) ∨ (isFmD e = true ∧ ∃ (p q p2 q2 : Int × Int) (N : Nat), FmAt K H x p q ∧ FmAt K H y p2 q2 ∧ FrB N p ∧ FrB N q ∧ FrB N p2 ∧ FrB N q2 ∧ 0 < N ∧ N ≤ 900 ∧
    ∀ r u v H', Kp H H' → H r = none → H' r = some (.tup [.ref u, .ref v]) → H' u = some (.tup (fracV (plusT p p2))) → H' v = some (.tup (fracV (plusT q q2))) → Q (.ref r) H'))))
theorem ok_sum (gC : mg ("check_form" : Str) = some (.ref fC)) (GC : FnOk P w K mg base (L2.CX P w) 4 fC fdC ["thing"] (spCheck CF)) (kC : PySem.W.keepIn K (.ref fC) = true) (bC : Binds K fdC ["thing"] [])
    (gP : mg ("plus" : Str) = some (.ref fP)) (GP : FnOk P w K mg base CX0 2 fP fdP ["one", "other"] (spOp K plusT)) (kP : PySem.W.keepIn K (.ref fP) = true) (bP : Binds K fdP ["one", "other"] [])
    {fd : FuncData} {f : Addr} {x : Str} (F : FnP K x s_form_sum f fd) : FnOk P w K mg base (L2.CX P w) 5 f fd ["one", "other"] (spSum K CF) := by
  refine F.ok scSum (fun vs H Q E h => ?_) fun cdv A outer s0 H vs Q E hr h => ?_
  · obtain ⟨x, y, d, ex, n, rfl, _⟩ := h
    rfl
  · have hr2 := hr.mono (j := 2) (by decide)
    obtain ⟨x, y, d, ex, n, rfl, ob, k⟩ := h
    refine ⟨_, pss_cons (ps_expr (pe_call (E := E) GC hr rfl gC kC bC .nil (passes_call (takes_of rfl rfl rfl rfl) (fun _ _ _ _ h => h)) (pa_cons (pv 0) pa_nil)))
      (pss_cons (ps_expr (pe_call (E := E) GC hr rfl gC kC bC .nil (passes_call (takes_of rfl rfl rfl rfl) (fun _ _ _ _ h => h)) (pa_cons (pv 1) pa_nil)))
        (pss_one (ps_ret (pe_tup (pa_cons (pe_call GP hr2 rfl gP kP bP .nil pass0 (pa_cons (pe_ix ix_seq (pv 0) pe_int (fun _ _ => rfl)) (pa_cons (pe_ix ix_seq (pv 1) pe_int (fun _ _ => rfl)) pa_nil)))
          (pa_cons (pe_call GP hr2 rfl gP kP bP .nil pass0 (pa_cons (pe_ix ix_seq (pv 0) pe_int (fun _ _ => rfl)) (pa_cons (pe_ix ix_seq (pv 1) pe_int (fun _ _ => rfl)) pa_nil))) pa_nil)))))), ?_⟩
    refine ⟨_, rfl, x, d, ex, n, rfl, ob, ?_⟩
    rcases k with ⟨h, k⟩ | ⟨h, e, m, oy, k⟩
    · exact .inr ⟨h, k⟩
    · refine .inl ⟨h, fun H1 k1 => ?_⟩
      refine ⟨_, rfl, y, e, ex, m, rfl, oy.kp k1, ?_⟩
      rcases k with ⟨h2, k⟩ | ⟨h2, p, q, p2, q2, N, fx, fy, bp, bq, bp2, bq2, n0, n1, k⟩
      · exact .inr ⟨h2, k.kp k1⟩
      · refine .inl ⟨h2, fun H2 k2 => ?_⟩
        have k12 := kp_tr k1 k2
        have gx := fx.kp k12
        have gy := fy.kp k12
        refine ⟨_, rfl, gx.x0 fun u hu => ⟨_, rfl, gy.x0 fun v hv => ⟨u, v, p, p2, N, rfl, hu, hv, bp, bp2, n0, by omega, fun r hr => ?_⟩⟩⟩
        have k3 := kp_new (o := .tup (fracV (plusT p p2))) hr
        refine ⟨_, rfl, (gx.kp k3).x1 fun u2 hu2 => ⟨_, rfl, (gy.kp k3).x1 fun v2 hv2 => ⟨u2, v2, q, q2, N, rfl, hu2, hv2, bq, bq2, n0, by omega, fun r2 hr2 => ?_⟩⟩⟩
        have k4 := kp_new (o := .tup (fracV (plusT q q2))) hr2
        refine ⟨le_sz rfl, fun r3 hr3 => ?_⟩
        have k5 := kp_new (o := .tup [.ref r, .ref r2]) hr3
        exact k r3 r r2 _ (kp_tr k12 (kp_tr k3 (kp_tr k4 k5))) (new_none (kp_tr k12 (kp_tr k3 k4)) hr3) upd_same (k5 _ _ (k4 _ _ upd_same)) (k5 _ _ upd_same)
def spTm (K : PySem.W.Frag) (CF CB : Addr) : Sp := fun vs H Q E => ∃ (x y : V) (d : PyData) (ex : Addr → Prop) (n : Nat), vs = [x, y] ∧ Ob H ex n x d ∧ ((isFmD d = false ∧ RaiseE E H CF "thing" x) ∨
  (isFmD d = true ∧ ∃ (e : PyData) (m : Nat), Ob H ex m y e ∧ ((isFrD e = false ∧ RaiseE E H CB "thing" y) ∨ (isFrD e = true ∧ ∃ (p q u : Int × Int) (N : Nat), FmAt K H x p q ∧ FrAt K H y u ∧ FrB N p ∧ FrB N q ∧ FrB N u ∧ 0 < N ∧ N ≤ 900 ∧
    ∀ r a b H', Kp H H' → H r = none → H' r = some (.tup [.ref a, .ref b]) → H' a = some (.tup (fracV (timesT p u))) → H' b = some (.tup (fracV (timesT q u))) → Q (.ref r) H'))))
theorem ok_tm (gC : mg ("check_form" : Str) = some (.ref fC)) (GC : FnOk P w K mg base (L2.CX P w) 4 fC fdC ["thing"] (spCheck CF)) (kC : PySem.W.keepIn K (.ref fC) = true) (bC : Binds K fdC ["thing"] [])
    (gR : mg ("is_fraction" : Str) = some (.ref fR)) (GR : FnOk P w K mg base CX0 2 fR fdR ["thing"] (spData isFrD)) (kR : PySem.W.keepIn K (.ref fR) = true) (bR : Binds K fdR ["thing"] [])
    (gT : mg ("times" : Str) = some (.ref fT)) (GT : FnOk P w K mg base CX0 2 fT fdT ["one", "other"] (spOp K timesT)) (kT : PySem.W.keepIn K (.ref fT) = true) (bT : Binds K fdT ["one", "other"] [])
    (TB : ErrX P w K mg base "BadFraction" "thing" CB iB dB) {fd : FuncData} {f : Addr} {x : Str} (F : FnP K x s_form_times f fd) : FnOk P w K mg base (L2.CX P w) 5 f fd ["form", "share"] (spTm K CF CB) := by
  refine F.ok scTm (fun vs H Q E h => ?_) fun cdv A outer s0 H vs Q E hr h => ?_
  · obtain ⟨x, y, d, ex, n, rfl, _⟩ := h
    rfl
  · have hr2 := hr.mono (j := 2) (by decide)
    obtain ⟨x, y, d, ex, n, rfl, ob, k⟩ := h
    refine ⟨_, pss_cons (ps_expr (pe_call (E := E) GC hr rfl gC kC bC .nil (passes_call (takes_of rfl rfl rfl rfl) (fun _ _ _ _ h => h)) (pa_cons (pv 0) pa_nil)))
      (pss_cons (ps_if (pt_not (pt_val (pe_call GR hr2 rfl gR kR bR .nil pass0 (pa_cons (pv 1) pa_nil)))) (pss_one (ps_raise rfl (takes_of rfl rfl rfl rfl) (pmk_oex TB.ox TB.iC TB.tI TB.G hr2 TB.b .nil pass0 rfl TB.gC (pa_cons (pv 1) pa_nil)))) pss_nil)
        (pss_one (ps_ret (pe_tup (pa_cons (pe_call GT hr2 rfl gT kT bT .nil pass0 (pa_cons (pe_ix ix_seq (pv 0) pe_int (fun _ _ => rfl)) (pa_cons (pv 1) pa_nil)))
          (pa_cons (pe_call GT hr2 rfl gT kT bT .nil pass0 (pa_cons (pe_ix ix_seq (pv 0) pe_int (fun _ _ => rfl)) (pa_cons (pv 1) pa_nil))) pa_nil)))))), ?_⟩
    refine ⟨_, rfl, x, d, ex, n, rfl, ob, ?_⟩
    rcases k with ⟨h, k⟩ | ⟨h, e, m, oy, k⟩
    · exact .inr ⟨h, k⟩
    · refine .inl ⟨h, fun H1 k1 => ?_⟩
      refine ⟨_, rfl, y, e, ex, m, rfl, oy.kp k1, fun H2 k2 => ⟨_, rfl, ?_⟩⟩
      have k12 := kp_tr k1 k2
      rcases k with ⟨h2, k⟩ | ⟨h2, p, q, u, N, fx, fy, bp, bq, bu, n0, n1, k⟩
      · rw [h2]
        exact iteT rfl (raise_go (i := 1) rfl (k.kp k12))
      · rw [h2]
        have gx := fx.kp k12
        have gy := fy.kp k12
        refine iteF rfl ⟨_, rfl, gx.x0 fun a ha => ⟨_, rfl, a, y, p, u, N, rfl, ha, gy, bp, bu, n0, by omega, fun r hr => ?_⟩⟩
        have k3 := kp_new (o := .tup (fracV (timesT p u))) hr
        refine ⟨_, rfl, (gx.kp k3).x1 fun b hb => ⟨_, rfl, b, y, q, u, N, rfl, hb, gy.kp k3, bq, bu, n0, by omega, fun r2 hr2 => ?_⟩⟩
        have k4 := kp_new (o := .tup (fracV (timesT q u))) hr2
        refine ⟨le_sz rfl, fun r3 hr3 => ?_⟩
        have k5 := kp_new (o := .tup [.ref r, .ref r2]) hr3
        exact k r3 r r2 _ (kp_tr k12 (kp_tr k3 (kp_tr k4 k5))) (new_none (kp_tr k12 (kp_tr k3 k4)) hr3) upd_same (k5 _ _ (k4 _ _ upd_same)) (k5 _ _ upd_same)
end
end LW
namespace LW
open PySem PySem.Spec PyProof.Rows L2

/-! ### written data, parts of it read from the slots -/
section
variable (σ : L2.St) (ex : Addr → Prop) (Pr : Hp → Prop)
def QT (n : Nat) (te : TE) (d : PyData) : Prop := ∀ (H : Hp) (Q : VK), (∀ b, ex b → H b ≠ none) → Pr H → (∀ (x : V) (H' : Hp), Kp H H' → Ob H' ex n x d → Q x H') → te σ H Q
def QA (n : Nat) (ta : TA) (ds : List PyData) : Prop := ∀ (H : Hp) (Q : List V → Hp → Prop), (∀ b, ex b → H b ≠ none) → Pr H → (∀ (xs : List V) (H' : Hp), Kp H H' → Paired (Ob H' ex n) xs ds → Q xs H') → ta σ H Q
end
section
variable {σ : L2.St} {ex : Addr → Prop} {Pr : Hp → Prop}
theorem QT.of {n : Nat} {te : TE} {d : PyData} (h : OT n te d) : QT σ ex Pr n te d := fun H Q hex _ k => h σ H Q ex hex k
theorem QA.nil {n : Nat} : QA σ ex Pr n tNil [] := fun H _ _ _ k => k [] H (fun _ _ h => h) .nil
theorem QA.cons (st : ∀ H H', Kp H H' → Pr H → Pr H') {n : Nat} {te : TE} {ta : TA} {d : PyData} {ds : List PyData} (h : QT σ ex Pr n te d) (t : QA σ ex Pr n ta ds) : QA σ ex Pr n (tCons te ta) (d :: ds) := fun H Q hex p k =>
  h H _ hex p fun x H1 k1 o1 => t H1 _ (ex_kp hex k1) (st _ _ k1 p) fun xs H2 k2 q => k (x :: xs) H2 (kp_tr k1 k2) (.cons (o1.kp k2) q)
theorem QT.tup {n : Nat} {ta : TA} {ds : List PyData} (h : QA σ ex Pr n ta ds) (hl : Nat.ble ds.length 100 = true := by rfl) : QT σ ex Pr (n + 1) (tTup ta) (.tuple ds) := fun H Q hex p k =>
  h H _ hex p fun xs H1 k1 q => by
    have l0 : ds.length ≤ 100 := Nat.le_of_ble_eq_true hl
    have l1 := Paired.length q
    refine ⟨Nat.le_trans (Nat.le_of_eq l1) (le_sz hl), fun a ha => ?_⟩
    have k2 := kp_new (o := .tup xs) ha
    exact k (.ref a) _ (kp_tr k1 k2) (.inr (.inr (.inr (.inr (.inr (.inr ⟨a, xs, ds, rfl, fun z => ex_kp hex k1 a z ha, rfl, .inl upd_same, by omega, Paired.mapP q fun _ _ y => y.kp k2⟩))))))
theorem QT.lst {n : Nat} {ta : TA} {ds : List PyData} (h : QA σ ex Pr n ta ds) (hl : Nat.ble ds.length 100 = true := by rfl) : QT σ ex Pr (n + 1) (tLst ta) (.list ds) := fun H Q hex p k =>
  h H _ hex p fun xs H1 k1 q => by
    have l0 : ds.length ≤ 100 := Nat.le_of_ble_eq_true hl
    have l1 := Paired.length q
    refine ⟨Nat.le_trans (Nat.le_of_eq l1) (le_sz hl), fun a ha => ?_⟩
    have k2 := kp_new (o := .lst xs) ha
    exact k (.ref a) _ (kp_tr k1 k2) (.inr (.inr (.inr (.inr (.inr (.inl ⟨a, xs, ds, rfl, fun z => ex_kp hex k1 a z ha, rfl, .inl upd_same, by omega, Paired.mapP q fun _ _ y => y.kp k2⟩))))))
/-- a list of its own -/
theorem QL.lst {n : Nat} {ta : TA} {ds : List PyData} (h : QA σ ex Pr n ta ds) {H : Hp} {Q : VK} (hex : ∀ b, ex b → H b ≠ none) (p : Pr H) (k : ∀ (l : Addr) (H' : Hp), Kp H H' → H l = none → LsAt H' ex n l ds → Q (.ref l) H') (hl : Nat.ble ds.length 100 = true := by rfl) : tLst ta σ H Q :=
  h H _ hex p fun xs H1 k1 q => by
    have l1 := Paired.length q
    refine ⟨Nat.le_trans (Nat.le_of_eq l1) (le_sz hl), fun a ha => ?_⟩
    have k2 := kp_new (o := .lst xs) ha
    exact k a _ (kp_tr k1 k2) (new_none k1 ha) ⟨xs, upd_same, fun z => ex_kp hex k1 a z ha, Paired.mapP q fun _ _ y => y.kp k2⟩
end
/-! ### a drawn form as it stands -/
def fracD (p : Int × Int) : PyData := .tuple [.int p.1, .int p.2]
def formD (p q : Int × Int) : PyData := .tuple [fracD p, fracD q]
structure FmRaw (H : Hp) (r u v : Addr) (p q : Int × Int) : Prop where
  h : H r = some (.tup [.ref u, .ref v])
  hu : H u = some (.tup (fracV p))
  hv : H v = some (.tup (fracV q))
theorem FmRaw.kp {H H' : Hp} {r u v : Addr} {p q : Int × Int} (h : FmRaw H r u v p q) (k : Kp H H') : FmRaw H' r u v p q := ⟨k _ _ h.h, k _ _ h.hu, k _ _ h.hv⟩
theorem FmRaw.kpB {H H' : Hp} {s r u v : Addr} {p q : Int × Int} (h : FmRaw H r u v p q) (dr : Dr H s) (k : KpB s H H') : FmRaw H' r u v p q := ⟨k _ _ (dr_ntup dr h.h) h.h, k _ _ (dr_ntup dr h.hu) h.hu, k _ _ (dr_ntup dr h.hv) h.hv⟩
theorem ob_frac {H : Hp} {ex : Addr → Prop} {a : Addr} {p : Int × Int} (n : Nat) (h : H a = some (.tup (fracV p))) (e : ¬ ex a) : Ob H ex (n + 2) (.ref a) (fracD p) :=
  .inr (.inr (.inr (.inr (.inr (.inr ⟨a, fracV p, _, rfl, e, rfl, .inl h, (by show 2 ≤ 1000000; decide), .cons (.inr (.inr (.inl ⟨_, rfl, rfl⟩))) (.cons (.inr (.inr (.inl ⟨_, rfl, rfl⟩))) .nil)⟩)))))
theorem FmRaw.ob {H : Hp} {ex : Addr → Prop} {r u v : Addr} {p q : Int × Int} (n : Nat) (h : FmRaw H r u v p q) (er : ¬ ex r) (eu : ¬ ex u) (ev : ¬ ex v) : Ob H ex (n + 3) (.ref r) (formD p q) :=
  .inr (.inr (.inr (.inr (.inr (.inr ⟨r, [.ref u, .ref v], [fracD p, fracD q], rfl, er, rfl, .inl h.h, (by show 2 ≤ 1000000; decide), .cons (ob_frac n h.hu eu) (.cons (ob_frac n h.hv ev) .nil)⟩)))))
theorem FmRaw.at_ {K : PySem.W.Frag} {H : Hp} {r u v : Addr} {p q : Int × Int} (h : FmRaw H r u v p q) : FmAt K H (.ref r) p q := ⟨r, .ref u, .ref v, rfl, .inl (SqT.of h.h), ⟨u, rfl, .inl (SqT.of h.hu)⟩, ⟨v, rfl, .inl (SqT.of h.hv)⟩⟩
end LW
namespace LW
open PySem PySem.Spec PyProof.Rows L2

/-! ### what is no form -/
def spOddFm : Sp := fun vs H Q _ => ∃ (s r u v : Addr) (p q : Int × Int), vs = [.ref s, .ref r] ∧ Dr H s ∧ FmRaw H r u v p q ∧
  ∀ (l : Addr) (H' : Hp) (ds : List PyData), KpB s H H' → Dr H' s → H l = none → LsAt H' (fun b => b = s) 5 l ds → (∀ d ∈ ds, isFmD d = false) → Q (.ref l) H'
theorem scOddFm : FnScope ["draws", "one", "found", "odd"] ["draws", "one"] (defScope s__law_odd_forms) := scP_ok (by decide +kernel)
theorem oddFr_no : ∀ d ∈ oddFr, isFrD d = false := by
  have h : (oddFr.all fun d => !isFrD d) = true := by decide +kernel
  intro d hd
  have z := List.all_eq_true.mp h d hd
  simpa using z
theorem ix_fm {σ : L2.St} {K : PySem.W.Frag} {s r u v : Addr} {p q : Int × Int} (h1 : σ[1]? = some (some (.ref r))) (n : Nat) :
    QT σ (fun b => b = s) (fun H => FmRaw H r u v p q ∧ Dr H s) (n + 2) (tOp (rIx K) (tVar 1) (tC (.int 0))) (fracD p) ∧ QT σ (fun b => b = s) (fun H => FmRaw H r u v p q ∧ Dr H s) (n + 2) (tOp (rIx K) (tVar 1) (tC (.int 1))) (fracD q) := by
  refine ⟨fun H Q _ pr k => ⟨_, h1, ?_⟩, fun H Q _ pr k => ⟨_, h1, ?_⟩⟩
  · exact .inr (.inl ⟨r, _, _, _, rfl, rfl, SqT.of pr.1.h, atI_nat (j := 0) rfl, k _ H (fun _ _ z => z) (ob_frac n pr.1.hu (dr_ntup pr.2 pr.1.hu))⟩)
  · exact .inr (.inl ⟨r, _, _, _, rfl, rfl, SqT.of pr.1.h, atI_nat (j := 1) rfl, k _ H (fun _ _ z => z) (ob_frac n pr.1.hv (dr_ntup pr.2 pr.1.hv))⟩)
def oddFm1 (p q : Int × Int) : List PyData := [.none, .int 5, .str "ab", .list [], .dict [], .bool true, fracD p, .tuple [fracD p], .tuple [fracD p, fracD q, fracD q], .list [formD p q], .tuple [.int p.1, .int p.2, .int q.1, .int q.2]]
theorem oddFm1_no (p q : Int × Int) : ∀ d ∈ oddFm1 p q, isFmD d = false := by
  unfold oddFm1
  repeat' (first | exact fun _ z => absurd z List.not_mem_nil | refine List.forall_mem_cons.mpr ⟨?_, ?_⟩)
  all_goals rfl
theorem oddFm2_no {o : PyData} (h : isFrD o = false) (p q : Int × Int) : ∀ d ∈ ([.tuple [o, fracD q], .list [fracD p, o]] : List PyData), isFmD d = false := by
  have e1 : isFmD (.tuple [o, fracD q]) = (isFrD o && isFrD (fracD q)) := two_yes rfl
  have e2 : isFmD (.list [fracD p, o]) = (isFrD (fracD p) && isFrD o) := two_yes rfl
  refine List.forall_mem_cons.mpr ⟨?_, List.forall_mem_cons.mpr ⟨?_, fun _ z => absurd z List.not_mem_nil⟩⟩
  · rw [e1, h]
    rfl
  · rw [e2, h, Bool.and_false]
end LW
namespace LW
open PySem PySem.Spec PyProof.Rows L2

theorem QT.imp {σ : L2.St} {ex : Addr → Prop} {Pr Pr' : Hp → Prop} {n : Nat} {te : TE} {d : PyData} (h : QT σ ex Pr n te d) (e : ∀ H, Pr' H → Pr H) : QT σ ex Pr' n te d := fun H Q hex p k => h H Q hex (e H p) k
abbrev tX0 (K : PySem.W.Frag) : TE := tOp (rIx K) (tVar 1) (tC (.int 0))
abbrev tX1 (K : PySem.W.Frag) : TE := tOp (rIx K) (tVar 1) (tC (.int 1))
theorem ls_ext {H H' : Hp} {s : Addr} {n : Nat} {l : Addr} {ds : List PyData} (h : LsAt H (fun b => b = s) n l ds) (k : KpB s H H') : LsAt H' (fun b => b = s) n l ds := by
  obtain ⟨xs, h1, h2, h3⟩ := h
  exact ⟨xs, k _ _ h2 h1, h2, Paired.mapP h3 fun _ _ z => z.ext fun b o nb e => k _ _ nb e⟩
theorem catT_fm {σ : L2.St} {K : PySem.W.Frag} {s r u v : Addr} {p q : Int × Int} (h1 : σ[1]? = some (some (.ref r))) (n : Nat) :
    QT σ (fun b => b = s) (fun H => FmRaw H r u v p q ∧ Dr H s) (n + 2) (tOp (rCatT K) (tX0 K) (tX1 K)) (.tuple [.int p.1, .int p.2, .int q.1, .int q.2]) := fun H Q _ pr k => by
  refine ⟨_, h1, .inr (.inl ⟨r, _, _, _, rfl, rfl, SqT.of pr.1.h, atI_nat (j := 0) rfl, ⟨_, h1, .inr (.inl ⟨r, _, _, _, rfl, rfl, SqT.of pr.1.h, atI_nat (j := 1) rfl, ?_⟩)⟩⟩)⟩
  refine ⟨u, v, _, _, rfl, rfl, SqT.of pr.1.hu, SqT.of pr.1.hv, (fun z => by cases z), le_sz rfl, (fun z => by cases z), fun _ a ha => ?_⟩
  have k1 := kp_new (o := .tup (fracV p ++ fracV q)) ha
  refine k (.ref a) _ k1 (.inr (.inr (.inr (.inr (.inr (.inr ⟨a, fracV p ++ fracV q, _, rfl, fun z => dr_some pr.2 (by rw [← z]; exact ha), rfl, .inl upd_same, (by show 4 ≤ 1000000; decide), ?_⟩))))))
  have i : ∀ j : Int, Ob (upd H a (.tup (fracV p ++ fracV q))) (fun b => b = s) (n + 1) (.int j) (.int j) := fun j => .inr (.inr (.inl ⟨_, rfl, rfl⟩))
  exact .cons (i _) (.cons (i _) (.cons (i _) (.cons (i _) .nil)))
theorem fm_st {s r u v : Addr} {p q : Int × Int} : ∀ H H', Kp H H' → (FmRaw H r u v p q ∧ Dr H s) → (FmRaw H' r u v p q ∧ Dr H' s) := fun H H' k h => ⟨h.1.kp k, h.2.kp k⟩
abbrev t11 (K : PySem.W.Frag) : TA := tCons (tC .non) (tCons (tI 5) (tCons (tC (.str "ab")) (tCons (tLst tNil) (tCons tDNewK (tCons (tC (.bl true)) (tCons (tX0 K) (tCons (tT (tCons (tX0 K) tNil)) (tCons (tT (tCons (tX0 K) (tCons (tX1 K) (tCons (tX1 K) tNil))))
  (tCons (tLst (tCons (tVar 1) tNil)) (tCons (tOp (rCatT K) (tX0 K) (tX1 K)) tNil))))))))))
theorem qa11 {σ : L2.St} {K : PySem.W.Frag} {s r u v : Addr} {p q : Int × Int} (h1 : σ[1]? = some (some (.ref r))) : QA σ (fun b => b = s) (fun H => FmRaw H r u v p q ∧ Dr H s) 5 (t11 K) (oddFm1 p q) := by
  have x5 := ix_fm (K := K) (s := s) (u := u) (v := v) (p := p) (q := q) h1 3
  have x4 := ix_fm (K := K) (s := s) (u := u) (v := v) (p := p) (q := q) h1 2
  have on : QT σ (fun b => b = s) (fun H => FmRaw H r u v p q ∧ Dr H s) 4 (tVar 1) (formD p q) := fun H Q _ pr k =>
    ⟨_, h1, k _ H (fun _ _ z => z) (pr.1.ob 1 (dr_ntup pr.2 pr.1.h) (dr_ntup pr.2 pr.1.hu) (dr_ntup pr.2 pr.1.hv))⟩
  unfold oddFm1
  exact QA.cons fm_st (.of .non) (QA.cons fm_st (.of (.int 5)) (QA.cons fm_st (.of (.str _)) (QA.cons fm_st (.of (.lst .nil)) (QA.cons fm_st (.of .dic) (QA.cons fm_st (.of (.bl true)) (QA.cons fm_st x5.1 (QA.cons fm_st (QT.tup (QA.cons fm_st x4.1 QA.nil))
    (QA.cons fm_st (QT.tup (QA.cons fm_st x4.1 (QA.cons fm_st x4.2 (QA.cons fm_st x4.2 QA.nil)))) (QA.cons fm_st (QT.lst (QA.cons fm_st on QA.nil)) (QA.cons fm_st (catT_fm h1 3) QA.nil))))))))))
abbrev t2o (K : PySem.W.Frag) : TA := tCons (tT (tCons (tVar 3) (tCons (tX1 K) tNil))) (tCons (tLst (tCons (tX0 K) (tCons (tVar 3) tNil))) tNil)
theorem qa2 {σ : L2.St} {K : PySem.W.Frag} {s r u v : Addr} {p q : Int × Int} {y : V} {o : PyData} (h1 : σ[1]? = some (some (.ref r))) (h3 : σ[3]? = some (some y)) :
    QA σ (fun b => b = s) (fun H => (FmRaw H r u v p q ∧ Dr H s) ∧ Ob H (fun b => b = s) 4 y o) 5 (t2o K) [.tuple [o, fracD q], .list [fracD p, o]] := by
  have st : ∀ H H', Kp H H' → ((FmRaw H r u v p q ∧ Dr H s) ∧ Ob H (fun b => b = s) 4 y o) → ((FmRaw H' r u v p q ∧ Dr H' s) ∧ Ob H' (fun b => b = s) 4 y o) := fun H H' k h => ⟨fm_st _ _ k h.1, h.2.kp k⟩
  have x4 := ix_fm (K := K) (s := s) (u := u) (v := v) (p := p) (q := q) h1 2
  have a0 := x4.1.imp (Pr' := fun H => (FmRaw H r u v p q ∧ Dr H s) ∧ Ob H (fun b => b = s) 4 y o) fun _ h => h.1
  have a1 := x4.2.imp (Pr' := fun H => (FmRaw H r u v p q ∧ Dr H s) ∧ Ob H (fun b => b = s) 4 y o) fun _ h => h.1
  have od : QT σ (fun b => b = s) (fun H => (FmRaw H r u v p q ∧ Dr H s) ∧ Ob H (fun b => b = s) 4 y o) 4 (tVar 3) o := fun H Q _ pr k => ⟨_, h3, k _ H (fun _ _ z => z) pr.2⟩
  exact QA.cons st (QT.tup (QA.cons st od (QA.cons st a1 QA.nil))) (QA.cons st (QT.lst (QA.cons st a0 (QA.cons st od QA.nil))) QA.nil)
theorem ok_oddfm {P : Program} {w : World} {K : PySem.W.Frag} {mg : Str → Option Value} {base : Heap} {fP fO : Addr} {fdP fdO : FuncData} (gP : mg ("_law_pick" : Str) = some (.ref fP)) (GP : FnOk P w K mg base CX0 2 fP fdP ["draws", "xs"] (spPick K)) (kP : PySem.W.keepIn K (.ref fP) = true) (bP : Binds K fdP ["draws", "xs"] [])
    (gO : mg ("_law_odd_fractions" : Str) = some (.ref fO)) (GO : FnOk P w K mg base CX0 1 fO fdO [] spOddFr) (kO : PySem.W.keepIn K (.ref fO) = true) (bO : Binds K fdO [] []) {fd : FuncData} {f : Addr} {x : Str} (F : FnP K x s__law_odd_forms f fd) : FnOk P w K mg base CX0 3 f fd ["draws", "one"] spOddFm := by
  refine F.ok scOddFm (fun vs H Q E h => ?_) fun cdv A outer s0 H vs Q E hr h => ?_
  · obtain ⟨s, r, u, v, p, q, rfl, _⟩ := h
    rfl
  · have hr1 := hr.mono (j := 1) (by decide)
    obtain ⟨s, r, u, v, p, q, rfl, dr, fm, k⟩ := h
    refine ⟨_, pss_cons (ps_set (i := 2) scOddFm.nd rfl (.inl rfl) (pe_lst (pa_cons pe_non (pa_cons pe_int (pa_cons pe_str (pa_cons (pe_lst pa_nil) (pa_cons pe_dnewK (pa_cons pe_bl (pa_cons (pe_ix ix_seq (pv 1) pe_int (fun _ _ => rfl)) (pa_cons (pe_tup (pa_cons (pe_ix ix_seq (pv 1) pe_int (fun _ _ => rfl)) pa_nil))
        (pa_cons (pe_tup (pa_cons (pe_ix ix_seq (pv 1) pe_int (fun _ _ => rfl)) (pa_cons (pe_ix ix_seq (pv 1) pe_int (fun _ _ => rfl)) (pa_cons (pe_ix ix_seq (pv 1) pe_int (fun _ _ => rfl)) pa_nil)))) (pa_cons (pe_lst (pa_cons (pv 1) pa_nil))
        (pa_cons (pe_op op_catT (pe_ix ix_seq (pv 1) pe_int (fun _ _ => rfl)) (pe_ix ix_seq (pv 1) pe_int (fun _ _ => rfl))) pa_nil)))))))))))))
      (pss_cons (ps_set (i := 3) scOddFm.nd rfl (.inl rfl) (pe_call GP hr rfl gP kP bP .nil pass0 (pa_cons (pv 0) (pa_cons (pe_call0 GO hr1 rfl gO kO bO .nil pass0) pa_nil))))
        (pss_one (ps_ret (pe_op op_cat (pv 2) (pe_lst (pa_cons (pe_tup (pa_cons (pv 3) (pa_cons (pe_ix ix_seq (pv 1) pe_int (fun _ _ => rfl)) pa_nil))) (pa_cons (pe_lst (pa_cons (pe_ix ix_seq (pv 1) pe_int (fun _ _ => rfl)) (pa_cons (pv 3) pa_nil))) pa_nil))))))), ?_⟩
    have hex : ∀ b, b = s → H b ≠ none := fun b e => by
      rw [e]
      exact dr_some dr
    show tAsg (tLst (t11 K)) (gName 2) _ _ _
    unfold tAsg
    refine QL.lst (ex := fun b => b = s) (Pr := fun H => FmRaw H r u v p q ∧ Dr H s) (qa11 rfl) hex ⟨fm, dr⟩ (fun l1 H1 k1 n1 L1 => ?_) rfl
    refine ⟨_, rfl, (fun b => b = s), rfl, ex_kp hex k1, fun l2 H2 k2 n2 L2' => ?_⟩
    have dr2 := (dr.kp k1).kp k2
    obtain ⟨xs, x1, x2, x3⟩ := L2'
    have e3 := Paired.length x3
    refine ⟨s, l2, xs, rfl, dr2, x2, .inl (SqL.of x1), (by rw [e3]; show 0 < 18; decide), (by rw [e3]; show 18 < 1000000000; decide), fun i y H3 hy dr3 k3 => ?_⟩
    obtain ⟨o, ho, oy⟩ := paired_get x3 hy
    have oy3 : Ob H3 (fun b => b = s) 4 y o := Ob.up (oy.ext fun b o nb e => k3 _ _ nb e)
    have fm3 : FmRaw H3 r u v p q := ((fm.kp k1).kp k2).kpB dr2 k3
    have L13 : LsAt H3 (fun b => b = s) 5 l1 (oddFm1 p q) := ls_ext (ls_ext L1 (.of k2)) k3
    refine ⟨_, rfl, ?_⟩
    show tLst (t2o K) _ _ _
    refine QL.lst (ex := fun b => b = s) (Pr := fun H => (FmRaw H r u v p q ∧ Dr H s) ∧ Ob H (fun b => b = s) 4 y o) (qa2 rfl rfl) (fun b e => by rw [e]; exact dr_some dr3) ⟨⟨fm3, dr3⟩, oy3⟩ (fun l4 H4 k4 n4 L4 => ?_) rfl
    obtain ⟨as, a1, a2, a3⟩ := ls_ext L13 (.of k4)
    obtain ⟨bs, b1, b2, b3⟩ := L4
    have la := Paired.length a3
    have lb := Paired.length b3
    refine ⟨l1, l4, as, bs, rfl, rfl, a1, b1, (by rw [la, lb]; exact le_sz rfl), fun z hz => ?_⟩
    have k5 := kp_new (o := .lst (as ++ bs)) hz
    have kk : KpB s H H4 := ((KpB.of (kp_tr k1 k2)).trans k3).trans (.of k4)
    have zn : H z = none := by
      cases e : H z with
      | none => rfl
      | some w =>
        have ne : z ≠ s := fun q => dr_some (dr3.kp k4) (by rw [← q]; exact hz)
        rw [kk _ _ ne e] at hz
        cases hz
    refine k z _ (oddFm1 p q ++ [.tuple [o, fracD q], .list [fracD p, o]]) (kk.trans (.of k5)) ((dr3.kp k4).kp k5) zn ⟨_, upd_same, fun e => dr_some dr (by rw [← e]; exact zn), Paired.cat (Paired.mapP a3 fun _ _ y => y.kp k5) (Paired.mapP b3 fun _ _ y => y.kp k5)⟩ fun d hd => ?_
    rcases List.mem_append.mp hd with hd | hd
    · exact oddFm1_no p q d hd
    · exact oddFm2_no (oddFr_no o (List.mem_of_getElem? ho)) p q d hd
end LW
namespace LW
open PySem PySem.Spec PyProof.Rows L2 LamX

/-! ### try with several clauses that bind the error by one name -/
abbrev Cl : Type := Value × (Addr → Value → Option Addr → TS)
def wAll (K : PySem.W.Frag) (i : Nat) (Wout : WX) (D : Ends) : List Cl → WX
  | [] => Wout
  | cl :: r => wAs K cl.1 i cl.2 (wAll K i Wout D r) D
inductive HdsAs (X : Cx) (n : Str) : List ExceptHandler → List Cl → Prop
  | nil : HdsAs X n [] []
  | cons {y : Str} {c : Value} {ts : Addr → Value → Option Addr → TS} {b : Stmt} {bs : List Stmt} {p1 p2 : Pos} {hs : List ExceptHandler} {l : List Cl} (nm : Names X y c)
      (su : ∀ (a : Addr) (oe : Obj) (cls : Value) (d : Option Addr) (pn : List (Addr × Obj)), Zc cls d oe → (∃ vs, oe.data = .fields vs) → PSs (X.suite a ((a, oe) :: pn)) (b :: bs) (ts a cls d)) (r : HdsAs X n hs l) :
      HdsAs X n (.ExceptHandler (some (.Name y p1)) (some n) (b :: bs) p2 :: hs) ((c, ts) :: l)
section
variable {X : Cx} {n : Str} {i : Nat} {body : List Stmt} {hd : ExceptHandler} {tl : List ExceptHandler} {l : List Cl} {pos : Pos} {tb : WX → TS} {Wout : WX}
theorem ps_try_all (st : X.stack = X.env :: X.outer) (fr : X.env.frame = some X.env.locals) (nd : X.N.Nodup) (at_ : X.N[i]? = some n) (loc : X.env.kindOf n = some .local) (tk : Takes X Wout)
    (hb : ∀ (W : WX) (pn : List (Addr × Obj)) (xe : Value → Shared → Prop), Takes (X.tr pn xe) W → PassesOwn (model X.prog X.w) X.A X.env xe → PSs (X.tr pn xe) body (tb W)) (hh : HdsAs X n (hd :: tl) l) :
    PS X (.Try body (hd :: tl) [] [] pos) (fun D σ H => tb (wAll X.K i Wout D l) D σ H) := by
  refine ⟨fun ps s0 σ0 H0 D I0 q0 => ?_⟩
  have okX := I0.ok
  have frA : X.A.frames = some (X.env :: X.outer) := okX.frames.trans (congrArg some st)
  have lo : Loc X.env.scope n := .inl loc
  refine wpAny_Try_except ?_
  refine wpAny_mono ((hb (wAll X.K i Wout D l) (X.pn ++ ps) (fun v t1 => wpAny (model X.prog X.w) X.A (noteFrame v X.env) (fun _ t2 => wpAny (model X.prog X.w) X.A (setFlight v none) (fun _ t3 =>
    wpAny (model X.prog X.w) X.A (handleBy v X.env (hd :: tl)) (SP X ps D) X.xe t3) X.xe t2) X.xe t1) (fun v t caught => ?_) PassesOwn.looking).run [] s0 σ0 H0 D (I0.toTry _) q0) (fun fl t z => ?_) fun _ _ z => z
  · obtain ⟨a, B, sJ, ps', σ', H', cls, d, rfl, J', nb, up, sky, free, os, bare, way⟩ := caught
    have J : Inv X ps σ' H' sJ := J'.ofTry okX
    have sky2 : Sky B (X.env :: X.outer) a (Zc cls d) X.env.locals t.heap := st ▸ sky
    show wpAny _ X.A (noteFrame (.ref a) X.env) _ _ _
    refine Sky.land Zc.steady frA fr sky2 fun g3 fly up3 => ?_
    have upJ := up.trans up3
    have J3 : Inv X ps σ' H' { t with heap := g3 } := J.landed nb fly.1 upJ os bare
    obtain ⟨oe, vs, here, zc, dat⟩ := fly.there
    have nst : a ∉ frs (X.env :: X.outer) := fun hm => by
      obtain ⟨_, o2, e2, nf⟩ := fly.2.2.1.mem hm
      rw [here] at e2
      cases e2
      exact nf _ dat
    have nlo : a ≠ X.env.locals := fun z => nst (List.mem_filterMap.mpr ⟨X.env, List.mem_cons_self, by rw [fr, z]⟩)
    have nfs : a ∉ X.fs := fun hm => by
      obtain ⟨e2, he2, q2⟩ := List.mem_filterMap.mp hm
      exact nst (List.mem_filterMap.mpr ⟨e2, List.mem_cons_of_mem _ he2, q2⟩)
    have S3 := J3.suite here dat free nlo nfs
    have go : ∀ {hs' : List ExceptHandler} {l' : List Cl}, HdsAs X n hs' l' → wAll X.K i Wout D l' cls d σ' H' → wpAny (model X.prog X.w) X.A (handleBy (.ref a) X.env hs') (SP X ps D) X.xe { t with heap := g3 } := by
      intro hs' l' hk
      induction hk with
      | nil =>
        intro way
        refine wpAny_handleBy_nil ?_
        obtain ⟨f1, f2, f3, oe2, vs2, T, oT, tvs, g1, g2, g4, g5, g6⟩ := id fly
        unfold PySem.passOn
        refine wpAny_bind (wpAny_field g1 g4 g5 ?_)
        rw [if_neg (show ¬ ((Value.ref T == Value.none) = true) by simp)]
        have out : wpAny (model X.prog X.w) X.A (setFlight (.ref a) X.env.frame) (fun _ t4 => wpAny (model X.prog X.w) X.A (throw (.ref a) : Sem Flow) (SP X ps D) X.xe t4) X.xe { t with heap := g3 } := by
          rw [fr]
          refine HandSPX.setFlight_upZ fly fun h4 held up4 => wpAny_throw (tk _ _ ?_)
          exact ⟨a, B, sJ, ps, σ', H', cls, d, rfl, J, nb, upJ.trans up4, .inr (.inr (st.symm ▸ held)), free, os, bare, way⟩
        first
          | exact wpAny_bind (wpAny_pure (wpAny_bind out))
          | exact wpAny_bind out
      | @cons y c ts b bs p1 p2 hs2 l2 nm su r ih =>
        intro way
        obtain ⟨b2, m2, yes, no⟩ := way
        refine wpAny_handleBy_cons (codeAny_handlers_test ?_) (by intro q; cases q)
        have look : PySem.W.Looks (model X.prog X.w) g3 (typeOf (.ref a)) cls := fun A' Q' E' s' k' q' => wpAny_typeOf_ref (k' _ _ here) (by rw [zc.1]; exact q')
        have mat := PySem.W.exm_one (M := model X.prog X.w) J3.kIn look m2
        have nam : ∀ {Q' E' : Value → Shared → Prop}, Q' c { t with heap := g3 } → wpAny (model X.prog X.w) (X.A.mark (some (.ref a))) (eval (.Name y p1) X.env) Q' E' { t with heap := g3 } := fun {Q' E'} q' => by
          obtain ⟨n1, n2, n3 | ⟨n3, n4, n5⟩⟩ := nm
          · exact ld_glob (X := X.suite a ((a, oe) :: (X.pn ++ ps))) S3 n1 n3 q' n2
          · exact ld_blt (X := X.suite a ((a, oe) :: (X.pn ++ ps))) S3 n1 n3 n4 q' n5 n2
        refine nam (mat.here ?_)
        cases b2 with
        | false => exact ih (no rfl)
        | true =>
          refine codeAny_handlers_suite_as ?_
          refine HandSPX.lands_againZ fly fun h4 fly4 up4 => ?_
          have J4 : Inv X ps σ' H' { t with heap := h4 } := J.landed nb fly4.1 (upJ.trans up4) os bare
          obtain ⟨oe4, vs4, here4, zc4, dat4⟩ := fly4.there
          refine store_ok (X := X.suite a ((a, oe4) :: (X.pn ++ ps))) (v := .ref a) (J4.suite here4 dat4 free nlo nfs) nd at_ lo rfl (fun s5 S5 => ?_) (.inr loc)
          refine wpAny_mono ((su a oe4 cls d (X.pn ++ ps) zc4 ⟨_, dat4⟩).run [] s5 _ H' _ S5 (yes rfl a free)) (fun fl s6 z6 => ?_) fun _ _ z6 => False.elim z6
          have clear : ∀ {σ6 : L2.St} {H6 : Hp} {Q6 : Shared → Prop}, Inv (X.suite a ((a, oe4) :: (X.pn ++ ps))) [] σ6 H6 s6 → (∀ s7, Inv X ps (σ6.set i none) H6 s7 → Q6 s7) →
              wpAny (model X.prog X.w) X.A (do bindName X.env n .none; unbindBehindTheSuite X.env n p2) (fun _ s7 => Q6 s7) X.xe s6 := fun {σ6 H6 Q6} S6 k6 => gone_ok (S6.unsuite okX) nd at_ loc k6
          cases fl with
          | ret u =>
            obtain ⟨v6, σ6, H6, S6, r6, q6⟩ := z6
            exact clear S6 fun s7 J7 => ⟨_, _, _, J7, r6, q6⟩
          | next =>
            obtain ⟨σ6, H6, S6, q6⟩ := z6
            exact clear S6 fun s7 J7 => ⟨_, _, J7, q6⟩
          | brk =>
            obtain ⟨σ6, H6, S6, q6⟩ := z6
            exact clear S6 fun s7 J7 => ⟨_, _, J7, q6⟩
          | cont =>
            obtain ⟨σ6, H6, S6, q6⟩ := z6
            exact clear S6 fun s7 J7 => ⟨_, _, J7, q6⟩
    exact go hh way
  · cases fl with
    | ret u =>
      obtain ⟨v, σ', H', J', r, q⟩ := z
      exact ⟨v, σ', H', J'.ofTry okX, r, q⟩
    | next =>
      obtain ⟨σ', H', J', q⟩ := z
      exact wpAny_execs_nil ⟨σ', H', J'.ofTry okX, q⟩
    | brk =>
      obtain ⟨σ', H', J', q⟩ := z
      exact ⟨σ', H', J'.ofTry okX, q⟩
    | cont =>
      obtain ⟨σ', H', J', q⟩ := z
      exact ⟨σ', H', J'.ofTry okX, q⟩
end
end LW
namespace LW
open PySem PySem.Spec PyProof.Rows L2 LamX

/-! ### what a lambda that is asked raises -/
structure Caught (K : PySem.W.Frag) (mg : Str → Option Value) (x f : Str) (C : Addr) : Prop where
  gC : mg x = some (.ref C)
  xf : XfC K C
  no : PySem.W.findIn K (.ref C) f = some none
structure Exm3 (K : PySem.W.Frag) (CF CW CB : Addr) : Prop where
  ff : PySem.W.exmOne K (.ref CF) (.ref CF) = some true
  wf : PySem.W.exmOne K (.ref CW) (.ref CF) = some false
  ww : PySem.W.exmOne K (.ref CW) (.ref CW) = some true
  bf : PySem.W.exmOne K (.ref CB) (.ref CF) = some false
  bw : PySem.W.exmOne K (.ref CB) (.ref CW) = some false
  bb : PySem.W.exmOne K (.ref CB) (.ref CB) = some true
def metL (CF CW CB : Addr) : List (Addr × Str × Str) := [(CF, "thing", "form"), (CW, "width", "width"), (CB, "thing", "fraction")]
theorem scMet : FnScope ["ask", "e"] ["ask"] (defScope s__law_met) := scP_ok (by decide +kernel)
def TMet (CF CW CB : Addr) (tl : XK → Hp → VK → Prop) (H : Hp) (Q : VK) : Prop :=
  ∀ (E' : XK) (Q' : VK), (∀ (C : Addr) (f wd : Str) (dd : Addr) (fs : List (Str × V)) (v : V) (H' : Hp), (C, f, wd) ∈ metL CF CW CB → H' dd = some (.xd fs) → fs.lookup f = some v →
    (∀ r, H' r = none → Q (.ref r) (upd H' r (.tup [.str wd, v]))) → E' (.ref C) (some dd) H') → tl E' H Q'
theorem takes_len {X : Cx} {W : WX} {n : Nat} (tk : Takes X W) (hn : X.N.length = n) : Takes X (fun cls d σ H => σ.length = n → W cls d σ H) := fun u s' ⟨a, B, sI, pins, σ, H, cls, d, e, I, nb, up, sky, na, os, ag, w⟩ =>
  tk u s' ⟨a, B, sI, pins, σ, H, cls, d, e, I, nb, up, sky, na, os, ag, w (by rw [← hn]; exact I.len)⟩
theorem gives_met {X : Cx} {g CF CW CB : Addr} {cdg : Value} {q : Str} (TF : Caught X.K X.mg "BadForm" "thing" CF) (TW : Caught X.K X.mg "BadWidth" "width" CW) (TB : Caught X.K X.mg "BadFraction" "thing" CB) (m : Exm3 X.K CF CW CB) :
    GivesTo X ["ask", "e"] "_law_met" (defScope s__law_met) g cdg (defBody s__law_met) "ask" q (TMet CF CW CB) := by
  intro f c' s H Q tl hcall hc hT
  refine ⟨_, pss_cons (ps_try_all (i := 1) rfl rfl scMet.nd rfl rfl L2.takes0 (fun W pn xe tk _ => pss_one (ps_expr (hcall (fun cls d σ H => σ.length = 2 → W cls d σ H) pn xe (fun cls d H' => ∀ σ', σ'.length = 2 → W cls d σ' H') _ _ (takes_len tk rfl) (fun cls d σ' H' h => h σ'))))
    (.cons ⟨rfl, by decide, .inl TF.gC⟩ (fun a oe cls d pn hz hf => pss_one (ps_ret (pe_tup (pa_cons pe_str (pa_cons (pe_xf TF.xf TF.no hz hf (pv 1)) pa_nil)))))
      (.cons ⟨rfl, by decide, .inl TW.gC⟩ (fun a oe cls d pn hz hf => pss_one (ps_ret (pe_tup (pa_cons pe_str (pa_cons (pe_xf TW.xf TW.no hz hf (pv 1)) pa_nil)))))
        (.cons ⟨rfl, by decide, .inl TB.gC⟩ (fun a oe cls d pn hz hf => pss_one (ps_ret (pe_tup (pa_cons pe_str (pa_cons (pe_xf TB.xf TB.no hz hf (pv 1)) pa_nil))))) .nil)))) (pss_one (ps_ret pe_non)), ?_⟩
  refine ⟨rfl, hc, hT _ _ fun C f wd dd fs v H' hm h1 h2 h3 σ' hl => ?_⟩
  match σ', hl with
  | [s0, s1], _ =>
    unfold metL at hm
    simp only [List.mem_cons, List.not_mem_nil, or_false, Prod.mk.injEq] at hm
    rcases hm with ⟨rfl, rfl, rfl⟩ | ⟨rfl, rfl, rfl⟩ | ⟨rfl, rfl, rfl⟩
    · exact ⟨true, m.ff, fun _ a ha => ⟨_, rfl, rfl, rfl, dd, fs, v, rfl, h1, h2, le_sz rfl, h3⟩, fun z => Bool.noConfusion z⟩
    · exact ⟨false, m.wf, fun z => Bool.noConfusion z, fun _ => ⟨true, m.ww, fun _ a ha => ⟨_, rfl, rfl, rfl, dd, fs, v, rfl, h1, h2, le_sz rfl, h3⟩, fun z => Bool.noConfusion z⟩⟩
    · exact ⟨false, m.bf, fun z => Bool.noConfusion z, fun _ => ⟨false, m.bw, fun z => Bool.noConfusion z, fun _ => ⟨true, m.bb, fun _ a ha => ⟨_, rfl, rfl, rfl, dd, fs, v, rfl, h1, h2, le_sz rfl, h3⟩, fun z => Bool.noConfusion z⟩⟩⟩
/-- all but the tables stays, and so does data -/
theorem Ob.extN {H H' : Hp} {ex : Addr → Prop} (k : ∀ b o, ¬ ex b → H b = some o → (∀ ps, o ≠ .tbl ps) → H' b = some o) : ∀ {n : Nat} {x : V} {d : PyData}, Ob H ex n x d → Ob H' ex n x d
  | 0, _, _, h => h.elim
  | n + 1, x, d, h => by
    have mp : ∀ {xs ys}, Paired (Ob H ex n) xs ys → Paired (Ob H' ex n) xs ys := fun p => Paired.mapP p fun _ _ z => Ob.extN k z
    have rd : ∀ {a : Addr} {u : HO}, ¬ ex a → (∀ ps, u ≠ .tbl ps) → Rd H a u → Rd H' a u := fun {a u} e nt h => by
      rcases h with h | ⟨o, h⟩
      · exact .inl (k _ _ e h nt)
      · exact .inr ⟨o, k _ _ e h (fun _ z => by cases z)⟩
    rcases h with h | h | h | h | ⟨a, rfl, e, rfl, h1⟩ | ⟨a, xs, ds, rfl, e, rfl, h1, hz, p⟩ | ⟨a, xs, ds, rfl, e, rfl, h1, hz, p⟩
    · exact .inl h
    · exact .inr (.inl h)
    · exact .inr (.inr (.inl h))
    · exact .inr (.inr (.inr (.inl h)))
    · exact .inr (.inr (.inr (.inr (.inl ⟨a, rfl, e, rfl, k _ _ e h1 (fun _ z => by cases z)⟩))))
    · exact .inr (.inr (.inr (.inr (.inr (.inl ⟨a, xs, ds, rfl, e, rfl, rd e (fun _ z => by cases z) h1, hz, mp p⟩)))))
    · exact .inr (.inr (.inr (.inr (.inr (.inr ⟨a, xs, ds, rfl, e, rfl, rd e (fun _ z => by cases z) h1, hz, mp p⟩)))))
theorem tabs_b {T : List (Addr × Str)} {H H' : Hp} {l : Addr} {xs : List V} (h : Tabs T H) (hl : H l = some (.lst xs)) (e : KpB l H H') : Tabs T H' := fun p hp => by
  obtain ⟨ps, h1, h2, h3⟩ := h p hp
  have ne : ∀ {b : Addr} {o : HO}, H b = some o → (∀ ys, o ≠ .lst ys) → b ≠ l := fun {b o} q n z => by
    rw [z, hl] at q
    exact n xs (Option.some.inj q).symm
  refine ⟨ps, e _ _ (ne h1 fun _ z => by cases z) h1, h2, fun pos cv hc => ?_⟩
  obtain ⟨c, e1, e2⟩ := h3 pos cv hc
  exact ⟨c, e1, e _ _ (ne e2 fun _ z => by
    have z' : HO.ext _ = HO.lst _ := z
    cases z') e2⟩
/-- a lambda asked in _law_met: it raises an error of C that keeps v -/
theorem met_go {CF CW CB C : Addr} {f wd : Str} {T : List (Addr × Str)} {t : XK → TE} {σ : L2.St} {H : Hp} {Q : VK} {v : V} (hm : (C, f, wd) ∈ metL CF CW CB) (hT : Tabs T H) (ht : ∀ (E' : XK) (H1 : Hp) (Q' : VK), ExtN H H1 → RaiseE E' H1 C f v → t E' σ H1 Q')
    (k : ∀ (r : Addr) (H' : Hp), ExtN H H' → Tabs T H' → H' r = some (.tup [.str wd, v]) → Q (.ref r) H') : tLam T (TMet CF CW CB) t σ H Q := by
  refine ⟨hT, fun H1 e1 T1 E' Q' hE => ht E' H1 Q' e1 fun dd H' kk hd => ?_⟩
  refine hE C f wd dd [(f, v)] v H' hm hd (by simp [List.lookup]) fun r hr => ?_
  have k2 := kp_new (o := .tup [.str wd, v]) hr
  exact k r _ (e1.trans (.of (kp_tr kk k2))) (T1.ext (kp_tr kk k2)) upd_same
end LW
namespace LW
open PySem PySem.Spec PyProof.Rows L2 LamX

/-! ### what is refused, and in which order -/
abbrev ExtS (s : Addr) (H H' : Hp) : Prop := ∀ b o, b ≠ s → H b = some o → (∀ ps, o ≠ .tbl ps) → H' b = some o
def qLam (x : Str) : Str := (x ++ ".<locals>.") ++ "<lambda>"
theorem dr_ext {H H' : Hp} {s : Addr} (d : Dr H s) (e : ExtN H H') : Dr H' s := by
  obtain ⟨v, a, c, S⟩ := d
  exact ⟨v, a, c, e _ _ S.at_ (fun _ z => by cases z), S.v0, S.d0, S.d1⟩
theorem ob_ext {H H' : Hp} {ex : Addr → Prop} {n : Nat} {x : V} {d : PyData} (h : Ob H ex n x d) (e : ExtN H H') : Ob H' ex n x d := h.extN fun b o _ h nt => e b o h nt
theorem fm_ext {H H' : Hp} {r u v : Addr} {p q : Int × Int} (h : FmRaw H r u v p q) (e : ExtN H H') : FmRaw H' r u v p q :=
  ⟨e _ _ h.h (fun _ z => by cases z), e _ _ h.hu (fun _ z => by cases z), e _ _ h.hv (fun _ z => by cases z)⟩
theorem ext_put {H H1 : Hp} {l : Addr} {o : HO} (e : ExtN H H1) (n : H l = none) : ExtN H (upd H1 l o) := fun b u h nt => by
  rw [upd_ne (ne_of_none h n)]
  exact e b u h nt
/-- a word and what is kept -/
theorem pair_ob {H : Hp} {ex : Addr → Prop} {n : Nat} {r : Addr} {wd : Str} {y : V} {d : PyData} (h : H r = some (.tup [.str wd, y])) (e : ¬ ex r) (o : Ob H ex (n + 1) y d) : Ob H ex (n + 2) (.ref r) (.tuple [.str wd, d]) :=
  .inr (.inr (.inr (.inr (.inr (.inr ⟨r, [.str wd, y], _, rfl, e, rfl, .inl h, (by show 2 ≤ 1000000; decide), .cons (.inr (.inr (.inr (.inl ⟨_, rfl, rfl⟩)))) (.cons o .nil)⟩)))))
theorem pair_sm {K : PySem.W.Frag} {H : Hp} {s r t : Addr} {n : Nat} {wd : Str} {y : V} {d : PyData} (dr : Dr H s) (h : H r = some (.tup [.str wd, y])) (g : H t = some (.tup [.str wd, y])) (o : Ob H (fun b => b = s) (n + 1) y d) : Sm K H (n + 2) (.ref r) (.ref t) :=
  Ob.sm (pair_ob (ex := fun b => b = s) h (dr_ntup dr h) o) (pair_ob (ex := fun b => b = s) g (dr_ntup dr g) o)
theorem Sm.up {K : PySem.W.Frag} {H : Hp} : ∀ {n : Nat} {x y : V}, Sm K H n x y → Sm K H (n + 1) x y
  | 0, _, _, h => h.elim
  | n + 1, x, y, h => by
    have mp : ∀ {xs ys : List V}, Paired (Sm K H n) xs ys → Paired (Sm K H (n + 1)) xs ys := fun p => Paired.mapP p fun _ _ z => Sm.up z
    rcases h with h | h | h | h | h | ⟨a, b, xs, ys, rfl, rfl, h1, h2, hz, h3⟩ | ⟨a, b, xs, ys, rfl, rfl, h1, h2, hz, h3⟩
    · exact .inl h
    · exact .inr (.inl h)
    · exact .inr (.inr (.inl h))
    · exact .inr (.inr (.inr (.inl h)))
    · exact .inr (.inr (.inr (.inr (.inl h))))
    · exact .inr (.inr (.inr (.inr (.inr (.inl ⟨a, b, xs, ys, rfl, rfl, h1, h2, hz, mp h3⟩)))))
    · exact .inr (.inr (.inr (.inr (.inr (.inr ⟨a, b, xs, ys, rfl, rfl, h1, h2, hz, mp h3⟩)))))
theorem Sm.up3 {K : PySem.W.Frag} {H : Hp} {x y : V} (h : Sm K H 4 x y) : Sm K H 7 x y := h.up.up.up
theorem list_ob {H : Hp} {ex : Addr → Prop} {n : Nat} {l : Addr} {xs : List V} {ds : List PyData} (h : H l = some (.lst xs)) (e : ¬ ex l) (hz : xs.length ≤ 1000000) (p : Paired (Ob H ex n) xs ds) : Ob H ex (n + 1) (.ref l) (.list ds) :=
  .inr (.inr (.inr (.inr (.inr (.inl ⟨l, xs, ds, rfl, e, rfl, .inl h, hz, p⟩)))))
theorem five_sm {K : PySem.W.Frag} {H : Hp} {s l e t r1 r2 r3 r4 : Addr} {n : Nat} {y : V} {d : PyData} (dr : Dr H s) (hl : H l = some (.lst [.bl false, .ref r1, .ref r2, .ref r3, .ref r4])) (he : H e = some (.lst [.bl false, .ref t, .ref t, .ref t, .ref t])) (nl : l ≠ s) (ne : e ≠ s)
    (h1 : H r1 = some (.tup [.str "form", y])) (h2 : H r2 = some (.tup [.str "form", y])) (h3 : H r3 = some (.tup [.str "form", y])) (h4 : H r4 = some (.tup [.str "form", y])) (ht : H t = some (.tup [.str "form", y])) (o : Ob H (fun b => b = s) (n + 1) y d) : Sm K H (n + 3) (.ref l) (.ref e) := by
  have q : ∀ {a : Addr}, H a = some (.tup [.str "form", y]) → Ob H (fun b => b = s) (n + 2) (.ref a) (.tuple [.str "form", d]) := fun h => pair_ob h (dr_ntup dr h) o
  have f : Ob H (fun b => b = s) (n + 2) (.bl false) (.bool false) := .inr (.inl ⟨_, rfl, rfl⟩)
  exact Ob.sm (list_ob hl nl (by show 5 ≤ 1000000; decide) (.cons f (.cons (q h1) (.cons (q h2) (.cons (q h3) (.cons (q h4) .nil)))))) (list_ob he ne (by show 5 ≤ 1000000; decide) (.cons f (.cons (q ht) (.cons (q ht) (.cons (q ht) (.cons (q ht) .nil))))))
def oddWd : List PyData := oddFr ++ [.tuple [.int (-1), .int 2], .list [.int (-7), .int 1]]
theorem oddWd_no : ∀ d ∈ oddWd, isWdD d = false := by
  have h : (oddWd.all fun d => !isWdD d) = true := by decide +kernel
  intro d hd
  have z := List.all_eq_true.mp h d hd
  simpa using z
def spRef (T : List (Addr × Str)) : Sp := fun vs H Q _ => ∃ (s r u v : Addr) (p q : Int × Int), vs = [.ref s, .ref r] ∧ Dr H s ∧ FmRaw H r u v p q ∧ 0 < p.2 ∧ 0 < q.2 ∧ Tabs T H ∧ ∀ H', ExtS s H H' → Dr H' s → Tabs T H' → Q (.bl true) H'
theorem scRef : FnScope ["draws", "one", "odd", "found"] ["draws", "one"] (defScope s__law_refused_right) := scP_ok (by decide +kernel)
/-- what the law's look at refusals leans on -/
structure RefFns (P : Program) (w : World) (K : PySem.W.Frag) (mg : Str → Option Value) (base : Heap) (CF CW CB : Addr) (fA : Str → Addr) : Prop where
  isF : ∃ fd, FnOk P w K mg base CX0 3 (fA "is_form") fd ["thing"] (spData isFmD) ∧ L2.Binds K fd ["thing"] []
  wor : ∃ fd, FnOk P w K mg base (L2.CX P w) 5 (fA "form_worth") fd ["form", "width"] (spWorth K CF CW) ∧ L2.Binds K fd ["form", "width"] []
  sum : ∃ fd, FnOk P w K mg base (L2.CX P w) 5 (fA "form_sum") fd ["one", "other"] (spSum K CF) ∧ L2.Binds K fd ["one", "other"] []
  tms : ∃ fd, FnOk P w K mg base (L2.CX P w) 5 (fA "form_times") fd ["form", "share"] (spTm K CF CB) ∧ L2.Binds K fd ["form", "share"] []
  odF : ∃ fd, FnOk P w K mg base CX0 3 (fA "_law_odd_forms") fd ["draws", "one"] spOddFm ∧ L2.Binds K fd ["draws", "one"] []
  odR : ∃ fd, FnOk P w K mg base CX0 1 (fA "_law_odd_fractions") fd [] spOddFr ∧ L2.Binds K fd [] []
  same : ∃ fd, (∀ n, FnOk P w K mg base CX0 n (fA "_law_same") fd ["found", "due"] (spSame K n)) ∧ L2.Binds K fd ["found", "due"] []
  met : ∃ fd, FnP K "_law_met" s__law_met (fA "_law_met") fd ∧ L2.Binds K fd ["ask"] []
  keep : ∀ x ∈ (["is_form", "form_worth", "form_sum", "form_times", "_law_odd_forms", "_law_odd_fractions", "_law_same", "_law_met"] : List Str), PySem.W.keepIn K (.ref (fA x)) = true ∧ mg x = some (.ref (fA x))
  cF : Caught K mg "BadForm" "thing" CF
  cW : Caught K mg "BadWidth" "width" CW
  cB : Caught K mg "BadFraction" "thing" CB
  ex : Exm3 K CF CW CB
end LW
namespace LW
open PySem PySem.Spec PyProof.Rows L2 LamX

theorem inm1 {CF CW CB : Addr} : (CF, ("thing" : Str), ("form" : Str)) ∈ metL CF CW CB := List.mem_cons_self
theorem inm2 {CF CW CB : Addr} : (CW, ("width" : Str), ("width" : Str)) ∈ metL CF CW CB := List.mem_cons_of_mem _ List.mem_cons_self
theorem inm3 {CF CW CB : Addr} : (CB, ("thing" : Str), ("fraction" : Str)) ∈ metL CF CW CB := List.mem_cons_of_mem _ (List.mem_cons_of_mem _ List.mem_cons_self)
theorem form_yes {p q : Int × Int} (h1 : 0 < p.2) (h2 : 0 < q.2) : isFmD (formD p q) = true := by
  have e : isFmD (formD p q) = (isFrD (fracD p) && isFrD (fracD q)) := two_yes rfl
  have e1 : isFrD (fracD p) = (isIntD (.int p.1) && (isIntD (.int p.2) && posD (.int p.2))) := two_yes rfl
  have e2 : isFrD (fracD q) = (isIntD (.int q.1) && (isIntD (.int q.2) && posD (.int q.2))) := two_yes rfl
  rw [e, e1, e2]
  show (decide (0 < p.2) && decide (0 < q.2)) = true
  rw [decide_eq_true h1, decide_eq_true h2]
  rfl
/-! ### a list that grows by what is met -/
structure FSt (T : List (Addr × Str)) (H1 Hc : Hp) (fl : Addr) (xs : List V) : Prop where
  e : ExtN H1 Hc
  t : Tabs T Hc
  l : Hc fl = some (.lst xs)
  nf : ∀ b o, H1 b = some o → (∀ ps, o ≠ .tbl ps) → b ≠ fl
theorem FSt.new {T : List (Addr × Str)} {H1 H3 : Hp} {fl : Addr} {xs : List V} (e : ExtN H1 H3) (t : Tabs T H3) (n : H3 fl = none) : FSt T H1 (upd H3 fl (.lst xs)) fl xs :=
  ⟨fun b u h nt => by
    rw [upd_ne (ne_of_none (e _ _ h nt) n)]
    exact e _ _ h nt, t.ext (kp_new n), upd_same, fun b o h nt => ne_of_none (e _ _ h nt) n⟩
theorem FSt.app {T : List (Addr × Str)} {H1 Hc Hn : Hp} {fl r : Addr} {xs zs : List V} (S : FSt T H1 Hc fl xs) (e : ExtN Hc Hn) (t : Tabs T Hn) (h : Hn r = some (.tup zs)) :
    FSt T H1 (upd Hn fl (.lst (xs ++ [.ref r]))) fl (xs ++ [.ref r]) ∧ Hn fl = some (.lst xs) ∧ upd Hn fl (.lst (xs ++ [.ref r])) r = some (.tup zs) ∧ ∀ a ys, Hc a = some (.tup ys) → upd Hn fl (.lst (xs ++ [.ref r])) a = some (.tup ys) := by
  have hl : Hn fl = some (.lst xs) := e _ _ S.l (fun _ z => by cases z)
  have nt : ∀ {a : Addr} {ys : List V}, Hn a = some (.tup ys) → a ≠ fl := fun {a ys} q z => by
    rw [z, hl] at q
    cases q
  refine ⟨⟨fun b o hb n => ?_, tabs_b t hl KpB.put, upd_same, S.nf⟩, hl, ?_, fun a ys ha => ?_⟩
  · rw [upd_ne (S.nf b o hb n)]
    exact e _ _ (S.e _ _ hb n) n
  · rw [upd_ne (nt h)]
    exact h
  · have q := e _ _ ha (fun _ z => by cases z)
    rw [upd_ne (nt q)]
    exact q
abbrev tWd : TA := tCons (tT (tCons (tUn (rU fun i => .int (-i)) (tI 1)) (tCons (tI 2) tNil))) (tCons (tLst (tCons (tUn (rU fun i => .int (-i)) (tI 7)) (tCons (tI 1) tNil))) tNil)
theorem oaWd : OA 3 tWd [.tuple [.int (-1), .int 2], .list [.int (-7), .int 1]] := OA.cons (OT.tup (OA.cons (OT.neg 1) (OA.cons (OT.int 2) OA.nil))) (OA.cons (OT.lst (OA.cons (OT.neg 7) (OA.cons (OT.int 1) OA.nil))) OA.nil)
section
variable {P : Program} {w : World} {K : PySem.W.Frag} {mg : Str → Option Value} {base : Heap} {CF CW CB : Addr} {fA : Str → Addr} {T : List (Addr × Str)}
theorem ok_ref (R : RefFns P w K mg base CF CW CB fA) {c tP : Addr} {fd : FuncData} {f : Addr} (hcd : fd.code = .ref c) (F : FnP K "_law_refused_right" s__law_refused_right f fd) (TB : TabB base mg c tP) (hmT : (tP, qLam "_law_refused_right") ∈ T)
    (hu : ∀ z ∈ T, z.1 = tP → z.2 = qLam "_law_refused_right") : FnOk P w K mg base CX0 8 f fd ["draws", "one"] (spRef T) := by
  obtain ⟨fdF, GF, bF⟩ := R.isF
  obtain ⟨fdW, GW, bW⟩ := R.wor
  obtain ⟨fdS, GS, bS⟩ := R.sum
  obtain ⟨fdT, GT, bT⟩ := R.tms
  obtain ⟨fdO, GO, bO⟩ := R.odF
  obtain ⟨fdR, GR, bR⟩ := R.odR
  obtain ⟨fdQ, GQ, bQ⟩ := R.same
  obtain ⟨fdM, FM, bM⟩ := R.met
  obtain ⟨kF, gF⟩ := R.keep "is_form" (by decide)
  obtain ⟨kW, gW⟩ := R.keep "form_worth" (by decide)
  obtain ⟨kS, gS⟩ := R.keep "form_sum" (by decide)
  obtain ⟨kT, gT⟩ := R.keep "form_times" (by decide)
  obtain ⟨kO, gO⟩ := R.keep "_law_odd_forms" (by decide)
  obtain ⟨kR, gR⟩ := R.keep "_law_odd_fractions" (by decide)
  obtain ⟨kQ, gQ⟩ := R.keep "_law_same" (by decide)
  obtain ⟨kM, gM⟩ := R.keep "_law_met" (by decide)
  obtain ⟨oc, od, dV, kV, doc, pm, an, cdv, ct, osl, rfl, lk, hcd2, _, _⟩ := F.ex
  have hcdv : cdv = .ref c := hcd
  obtain ⟨ocM, odM, dVM, kVM, docM, pmM, anM, cdvM, ctM, oslM, eM, lkM, hcdM, _, _⟩ := FM.ex
  subst eM
  refine fn_of lk hcd2 scRef (fun vs H Q E h => ?_) fun A outer s0 H vs Q E hr h => ?_
  · obtain ⟨s, r, u, v, p, q, rfl, _⟩ := h
    rfl
  · have hr1 := hr.mono (j := 1) (by decide)
    have hr3 := hr.mono (j := 3) (by decide)
    obtain ⟨s, r, u, v, p, q, rfl, dr, fm, hp, hq, tT, k⟩ := h
    refine ⟨_, PSs.nox (pss_cons (ps_for PassesOwn.never rfl (pi_list (pe_call GO hr3 rfl gO kO bO .nil pass0 (pa_cons (pv 0) (pa_cons (pv 1) pa_nil)))) (pg_name (i := 2) scRef.nd rfl (.inr rfl))
        (pss_cons (ps_set (i := 3) scRef.nd rfl (.inl rfl) (pe_lst (pa_cons (pe_call GF hr3 rfl gF kF bF .nil pass0 (pa_cons (pv 2) pa_nil)) (pa_cons
            (pe_lamcall (T := T) (k := 5) rfl gM kM lkM hcdM bM scMet rfl (.inl rfl) (gives_met R.cF R.cW R.cB R.ex) TB hcdv hmT hu hr (lamS_by (sc := defScope s__law_refused_right) (by decide +kernel)) rfl (fun _ _ _ _ _ => rfl)
              (fun A outer s H E f c' hr2 => pe_call (E := E) GW hr2 rfl gW kW bW .nil (passes_call (takes_of rfl rfl rfl rfl) (fun _ _ _ _ h => h)) (pa_cons (pv 2) (pa_cons pe_non pa_nil)))) pa_nil))))
        (pss_cons (ps_expr (pe_bm PySem.F.plainAttrs_list PySem.F.slot_list_append PySem.F.type_list_append mt_append (pv 3) (pa_cons
            (pe_lamcall (T := T) (k := 5) rfl gM kM lkM hcdM bM scMet rfl (.inl rfl) (gives_met R.cF R.cW R.cB R.ex) TB hcdv hmT hu hr (lamS_by (sc := defScope s__law_refused_right) (by decide +kernel)) rfl (fun _ _ _ _ _ => rfl)
              (fun A outer s H E f c' hr2 => pe_call (E := E) GS hr2 rfl gS kS bS .nil (passes_call (takes_of rfl rfl rfl rfl) (fun _ _ _ _ h => h)) (pa_cons (pv 2) (pa_cons pe_non pa_nil)))) pa_nil)))
        (pss_cons (ps_expr (pe_bm PySem.F.plainAttrs_list PySem.F.slot_list_append PySem.F.type_list_append mt_append (pv 3) (pa_cons
            (pe_lamcall (T := T) (k := 5) rfl gM kM lkM hcdM bM scMet rfl (.inl rfl) (gives_met R.cF R.cW R.cB R.ex) TB hcdv hmT hu hr (lamS_by (sc := defScope s__law_refused_right) (by decide +kernel)) rfl (fun _ _ _ _ _ => rfl)
              (fun A outer s H E f c' hr2 => pe_call (E := E) GS hr2 rfl gS kS bS .nil (passes_call (takes_of rfl rfl rfl rfl) (fun _ _ _ _ h => h)) (pa_cons (pv 1) (pa_cons (pv 2) pa_nil)))) pa_nil)))
        (pss_cons (ps_expr (pe_bm PySem.F.plainAttrs_list PySem.F.slot_list_append PySem.F.type_list_append mt_append (pv 3) (pa_cons
            (pe_lamcall (T := T) (k := 5) rfl gM kM lkM hcdM bM scMet rfl (.inl rfl) (gives_met R.cF R.cW R.cB R.ex) TB hcdv hmT hu hr (lamS_by (sc := defScope s__law_refused_right) (by decide +kernel)) rfl (fun _ _ _ _ _ => rfl)
              (fun A outer s H E f c' hr2 => pe_call (E := E) GT hr2 rfl gT kT bT .nil (passes_call (takes_of rfl rfl rfl rfl) (fun _ _ _ _ h => h)) (pa_cons (pv 2) (pa_cons pe_non pa_nil)))) pa_nil)))
        (pss_one (ps_if (pt_not (pt_val (pe_call (GQ 7) hr rfl gQ kQ bQ .nil pass0 (pa_cons (pv 3) (pa_cons (pe_op op_cat (pe_lst (pa_cons pe_bl pa_nil)) (pe_op op_rep (pe_lst (pa_cons (pe_tup (pa_cons pe_str (pa_cons (pv 2) pa_nil))) pa_nil)) pe_int)) pa_nil))))) pss_never pss_nil)))))))
      (pss_cons (ps_for PassesOwn.never rfl (pi_list (pe_op op_cat (pe_call0 GR hr1 rfl gR kR bR .nil pass0) (pe_lst (pa_cons (pe_tup (pa_cons (pe_un un_neg pe_int) (pa_cons pe_int pa_nil))) (pa_cons (pe_lst (pa_cons (pe_un un_neg pe_int) (pa_cons pe_int pa_nil))) pa_nil))))) (pg_name (i := 2) scRef.nd rfl (.inr rfl))
        (pss_one (ps_if (pt_not (pt_val (pe_call (GQ 7) hr rfl gQ kQ bQ .nil pass0 (pa_cons
            (pe_lamcall (T := T) (k := 5) rfl gM kM lkM hcdM bM scMet rfl (.inl rfl) (gives_met R.cF R.cW R.cB R.ex) TB hcdv hmT hu hr (lamS_by (sc := defScope s__law_refused_right) (by decide +kernel)) rfl (fun _ _ _ _ _ => rfl)
              (fun A outer s H E f c' hr2 => pe_call (E := E) GW hr2 rfl gW kW bW .nil (passes_call (takes_of rfl rfl rfl rfl) (fun _ _ _ _ h => h)) (pa_cons (pv 1) (pa_cons (pv 2) pa_nil)))) (pa_cons (pe_tup (pa_cons pe_str (pa_cons (pv 2) pa_nil))) pa_nil))))) pss_never pss_nil)))
      (pss_cons (ps_for PassesOwn.never rfl (pi_list (pe_call0 GR hr1 rfl gR kR bR .nil pass0)) (pg_name (i := 2) scRef.nd rfl (.inr rfl))
        (pss_one (ps_if (pt_not (pt_val (pe_call (GQ 7) hr rfl gQ kQ bQ .nil pass0 (pa_cons
            (pe_lamcall (T := T) (k := 5) rfl gM kM lkM hcdM bM scMet rfl (.inl rfl) (gives_met R.cF R.cW R.cB R.ex) TB hcdv hmT hu hr (lamS_by (sc := defScope s__law_refused_right) (by decide +kernel)) rfl (fun _ _ _ _ _ => rfl)
              (fun A outer s H E f c' hr2 => pe_call (E := E) GT hr2 rfl gT kT bT .nil (passes_call (takes_of rfl rfl rfl rfl) (fun _ _ _ _ h => h)) (pa_cons (pv 1) (pa_cons (pv 2) pa_nil)))) (pa_cons (pe_tup (pa_cons pe_str (pa_cons (pv 2) pa_nil))) pa_nil))))) pss_never pss_nil)))
      (pss_one (ps_ret pe_bl))))), ?_⟩
    refine ⟨_, rfl, _, rfl, s, r, u, v, p, q, rfl, dr, fm, fun l H1 ds k1 dr1 n1 L1 no => ?_⟩
    obtain ⟨xs, x1, x2, x3⟩ := L1
    have fm1 : FmRaw H1 r u v p q := fm.kpB dr k1
    have tT1 : Tabs T H1 := by
      obtain ⟨v0, d0, c0, S0⟩ := dr
      exact tabs_b tT S0.at_ k1
    refine ⟨l, rfl, ⟨_, SqL.of x1⟩, ?_⟩
    refine for_list (xs := xs) (fun i σ H' => ∃ o2 o3 : Option V, σ = [some (.ref s), some (.ref r), o2, o3] ∧ ExtN H1 H' ∧ Tabs T H') ⟨none, none, rfl, ExtN.refl _, tT1⟩ (fun i σ H' _ hP => ?_) (fun i y σ H' hy hP => ?_) fun σ H' hP => ?_
    · obtain ⟨_, _, _, e, _⟩ := hP
      exact SqL.of (e _ _ x1 (fun _ z => by cases z))
    · obtain ⟨o2, o3, rfl, e1, t1⟩ := hP
      obtain ⟨d, hd, oy⟩ := paired_get x3 hy
      have hF := no d (List.mem_of_getElem? hd)
      refine ⟨_, rfl, y, d, _, 5, rfl, ob_ext oy e1, fun H2 k2 => ?_⟩
      rw [hF]
      have e2 : ExtN H1 H2 := e1.trans (.of k2)
      have fm2 := fm_ext fm1 e2
      have dr2 := dr_ext dr1 e2
      have oy2 := ob_ext oy e2
      refine met_go (v := y) inm1 (t1.ext k2) (fun E' H3 Q' e3 rz => ⟨_, rfl, y, .non, d, _, 5, rfl, ob_ext oy2 e3, .inl ⟨hF, rz⟩⟩) fun r1 H3 e3 t3 h3 => ?_
      refine ⟨le_sz rfl, fun fl nfl => ?_⟩
      have S3 : FSt T H1 (upd H3 fl (.lst [.bl false, .ref r1])) fl [.bl false, .ref r1] := FSt.new (e2.trans e3) t3 nfl
      have g1 : upd H3 fl (.lst [.bl false, .ref r1]) r1 = some (.tup [.str "form", y]) := by
        rw [upd_ne (ne_of_none h3 nfl)]
        exact h3
      refine ⟨_, rfl, .inl ⟨rfl, _, SqL.of S3.l⟩, ?_⟩
      refine met_go (v := y) inm1 S3.t (fun E' H4 Q' e4 rz => ⟨_, rfl, y, .non, d, _, 5, rfl, ob_ext (ob_ext oy S3.e) e4, .inl ⟨hF, rz⟩⟩) fun r2 H4 e4 t4 h4 => ?_
      obtain ⟨S4, l4, g2, up4⟩ := S3.app e4 t4 h4
      refine ⟨fl, _, _, rfl, rfl, l4, Nat.lt_of_lt_of_le (Nat.le_of_ble_eq_true rfl) (le_sz (n := 50) rfl), ?_⟩
      refine ⟨_, rfl, .inl ⟨rfl, _, SqL.of S4.l⟩, ?_⟩
      have fm4 := fm_ext fm1 S4.e
      have dr4 := dr_ext dr1 S4.e
      refine met_go (v := y) inm1 S4.t (fun E' H5 Q' e5 rz => ⟨_, rfl, _, rfl, .ref r, y, formD p q, (fun b => b = s), 3, rfl, ob_ext (fm4.ob 0 (dr_ntup dr4 fm4.h) (dr_ntup dr4 fm4.hu) (dr_ntup dr4 fm4.hv)) e5, .inr ⟨form_yes hp hq, d, 5, ob_ext (ob_ext oy S4.e) e5, .inl ⟨hF, rz⟩⟩⟩) fun r3 H5 e5 t5 h5 => ?_
      obtain ⟨S5, l5, g3, up5⟩ := S4.app e5 t5 h5
      refine ⟨fl, _, _, rfl, rfl, l5, Nat.lt_of_lt_of_le (Nat.le_of_ble_eq_true rfl) (le_sz (n := 50) rfl), ?_⟩
      refine ⟨_, rfl, .inl ⟨rfl, _, SqL.of S5.l⟩, ?_⟩
      refine met_go (v := y) inm1 S5.t (fun E' H6 Q' e6 rz => ⟨_, rfl, y, .non, d, _, 5, rfl, ob_ext (ob_ext oy S5.e) e6, .inl ⟨hF, rz⟩⟩) fun r4 H6 e6 t6 h6 => ?_
      obtain ⟨S6, l6, g4, up6⟩ := S5.app e6 t6 h6
      refine ⟨fl, _, _, rfl, rfl, l6, Nat.lt_of_lt_of_le (Nat.le_of_ble_eq_true rfl) (le_sz (n := 50) rfl), ?_⟩
      refine ⟨_, rfl, le_sz rfl, fun a na => ⟨_, rfl, le_sz rfl, fun t nt => ⟨le_sz rfl, fun b nb => ⟨b, 4, _, rfl, rfl, upd_same, by decide, by decide, le_sz rfl, fun c nc => ?_⟩⟩⟩⟩
      have ka := kp_new (o := .lst [.bl false]) na
      have kt := kp_new (o := .tup [.str "form", y]) nt
      have kb := kp_new (o := .lst [.ref t]) nb
      have kc := kp_new (o := .lst (List.replicate (4 : Int).toNat [V.ref t]).flatten) nc
      refine ⟨a, c, _, _, rfl, rfl, kc _ _ (kb _ _ (kt _ _ upd_same)), upd_same, le_sz rfl, fun g ng => ?_⟩
      have kg := kp_new (o := .lst ([V.bl false] ++ (List.replicate (4 : Int).toNat [V.ref t]).flatten)) ng
      have kk := kp_tr (kp_tr (kp_tr (kp_tr ka kt) kb) kc) kg
      have eF := S6.e.trans (.of kk)
      have drF := dr_ext dr1 eF
      have tF := S6.t.ext kk
      have nl : fl ≠ s := fun z => by
        obtain ⟨v0, d0, c0, S0⟩ := dr1
        exact S6.nf _ _ S0.at_ (fun _ z => by cases z) z.symm
      have ngs : g ≠ s := fun z => dr_some ((dr_ext dr1 S6.e).kp (kp_tr (kp_tr (kp_tr ka kt) kb) kc)) (by rw [← z]; exact ng)
      refine ⟨.ref fl, .ref g, rfl, five_sm drF (kk _ _ S6.l) upd_same nl ngs (kk _ _ (up6 _ _ (up5 _ _ (up4 _ _ g1)))) (kk _ _ (up6 _ _ (up5 _ _ g2))) (kk _ _ (up6 _ _ g3)) (kk _ _ g4) (kg _ _ (kc _ _ (kb _ _ upd_same))) (ob_ext oy eF), fun H7 k7 => ⟨_, rfl, iteF rfl ?_⟩⟩
      exact ⟨_, _, rfl, eF.trans (.of k7), tF.ext k7⟩
    · obtain ⟨o2, o3, rfl, e1, t1⟩ := hP
      have drA := dr_ext dr1 e1
      have fmA := fm_ext fm1 e1
      refine ⟨(fun b => b = s), rfl, (fun b z => by rw [z]; exact dr_some drA), fun l1 H2 k2 n2 L2' => ?_⟩
      obtain ⟨ys, y1, y2, y3⟩ := L2'
      show tLst tWd _ _ _
      refine (OL.lst oaWd rfl) _ H2 _ (fun b => b = s) (fun b z => by rw [z]; exact dr_some (drA.kp k2)) fun l2 H3 k3 n3 L3 => ?_
      obtain ⟨zs, z1, z2, z3⟩ := L3
      have ly := Paired.length y3
      have lz := Paired.length z3
      refine ⟨l1, l2, ys, zs, rfl, rfl, k3 _ _ y1, z1, (by rw [ly, lz]; exact le_sz (n := 20) rfl), fun l3 n3 => ?_⟩
      have k4 := kp_new (o := .lst (ys ++ zs)) n3
      have kB := kp_tr (kp_tr k2 k3) k4
      have drB := drA.kp kB
      have fmB := fmA.kp kB
      have tB := t1.ext kB
      have pB : Paired (Ob (upd H3 l3 (.lst (ys ++ zs))) (fun b => b = s) 3) (ys ++ zs) oddWd := Paired.cat (Paired.mapP y3 fun _ _ y => (y.kp k3).kp k4) (Paired.mapP z3 fun _ _ y => y.kp k4)
      refine ⟨l3, rfl, ⟨_, SqL.of upd_same⟩, ?_⟩
      refine for_list (xs := ys ++ zs) (fun i σ H4 => ∃ o2 o3 : Option V, σ = [some (.ref s), some (.ref r), o2, o3] ∧ ExtN (upd H3 l3 (.lst (ys ++ zs))) H4 ∧ Tabs T H4) ⟨o2, o3, rfl, ExtN.refl _, tB⟩ (fun i σ H4 _ hP => ?_) (fun i y σ H4 hy hP => ?_) fun σ H4 hP => ?_
      · obtain ⟨_, _, _, e, _⟩ := hP
        exact SqL.of (e _ _ upd_same (fun _ z => by cases z))
      · obtain ⟨o4, o5, rfl, e4, t4⟩ := hP
        obtain ⟨d, hd, oy⟩ := paired_get pB hy
        have hW := oddWd_no d (List.mem_of_getElem? hd)
        have fm4 := fm_ext fmB e4
        have dr4 := dr_ext drB e4
        have oy4 := ob_ext oy e4
        refine met_go (v := y) inm2 t4 (fun E' H5 Q' e5 rz => ⟨_, rfl, _, rfl, .ref r, y, formD p q, (fun b => b = s), 3, rfl, ob_ext (fm4.ob 0 (dr_ntup dr4 fm4.h) (dr_ntup dr4 fm4.hu) (dr_ntup dr4 fm4.hv)) e5, .inr ⟨form_yes hp hq, d, 3, ob_ext oy4 e5, .inl ⟨hW, rz⟩⟩⟩) fun r1 H5 e5 t5 h5 => ?_
        refine ⟨_, rfl, le_sz rfl, fun t nt => ?_⟩
        have kt := kp_new (o := .tup [.str "width", y]) nt
        have e6 := (e4.trans e5).trans (.of kt)
        refine ⟨.ref r1, .ref t, rfl, Sm.up3 (pair_sm (dr_ext drB e6) (kt _ _ h5) upd_same (ob_ext oy e6)), fun H7 k7 => ⟨_, rfl, iteF rfl ?_⟩⟩
        exact ⟨_, _, rfl, e6.trans (.of k7), (t5.ext kt).ext k7⟩
      · obtain ⟨o4, o5, rfl, e4, t4⟩ := hP
        have drC := dr_ext drB e4
        have fmC := fm_ext fmB e4
        refine ⟨(fun b => b = s), rfl, (fun b z => by rw [z]; exact dr_some drC), fun l5 H5 k5 n5 L5 => ?_⟩
        obtain ⟨ws, w1, w2, w3⟩ := L5
        have drD := drC.kp k5
        have fmD := fmC.kp k5
        refine ⟨l5, rfl, ⟨_, SqL.of w1⟩, ?_⟩
        refine for_list (xs := ws) (fun i σ H6 => ∃ o2 o3 : Option V, σ = [some (.ref s), some (.ref r), o2, o3] ∧ ExtN H5 H6 ∧ Tabs T H6) ⟨o4, o5, rfl, ExtN.refl _, t4.ext k5⟩ (fun i σ H6 _ hP => ?_) (fun i y σ H6 hy hP => ?_) fun σ H6 hP => ?_
        · obtain ⟨_, _, _, e, _⟩ := hP
          exact SqL.of (e _ _ w1 (fun _ z => by cases z))
        · obtain ⟨o6, o7, rfl, e6, t6⟩ := hP
          obtain ⟨d, hd, oy⟩ := paired_get w3 hy
          have hR := oddFr_no d (List.mem_of_getElem? hd)
          have fm6 := fm_ext fmD e6
          have dr6 := dr_ext drD e6
          have oy6 := ob_ext oy e6
          refine met_go (v := y) inm3 t6 (fun E' H7 Q' e7 rz => ⟨_, rfl, _, rfl, .ref r, y, formD p q, (fun b => b = s), 3, rfl, ob_ext (fm6.ob 0 (dr_ntup dr6 fm6.h) (dr_ntup dr6 fm6.hu) (dr_ntup dr6 fm6.hv)) e7, .inr ⟨form_yes hp hq, d, 3, ob_ext oy6 e7, .inl ⟨hR, rz⟩⟩⟩) fun r1 H7 e7 t7 h7 => ?_
          refine ⟨_, rfl, le_sz rfl, fun t nt => ?_⟩
          have kt := kp_new (o := .tup [.str "fraction", y]) nt
          have e8 := (e6.trans e7).trans (.of kt)
          refine ⟨.ref r1, .ref t, rfl, Sm.up3 (pair_sm (dr_ext drD e8) (kt _ _ h7) upd_same (ob_ext oy e8)), fun H9 k9 => ⟨_, rfl, iteF rfl ?_⟩⟩
          exact ⟨_, _, rfl, e8.trans (.of k9), (t7.ext kt).ext k9⟩
        · obtain ⟨o6, o7, rfl, e6, t6⟩ := hP
          have eA : ExtN H1 H6 := (e1.trans (.of kB)).trans ((e4.trans (.of k5)).trans e6)
          exact k H6 (fun b o nb hb nt => eA _ _ (k1 _ _ nb hb) nt) (dr_ext dr1 eA) t6
end
end LW
namespace LW
open PySem PySem.Spec PyProof.Rows L2

theorem z_tr {a b c d e f : Int} (e1 : a * d = c * b) (e2 : c * f = e * d) : (a * f) * d = (e * b) * d := by
  have h : (a * f) * d = (a * d) * f := by ac_rfl
  rw [h, e1]
  have h2 : c * b * f = (c * f) * b := by ac_rfl
  rw [h2, e2]
  ac_rfl
theorem z_pl {a b c d e f g h : Int} (h1 : a * d = c * b) (h2 : e * h = g * f) : (a * f + e * b) * (d * h) = (c * h + g * d) * (b * f) := by grind
theorem z_ti {a b c d e f g h : Int} (h1 : a * d = c * b) (h2 : e * h = g * f) : (a * e) * (d * h) = (c * g) * (b * f) := by
  have x : (a * e) * (d * h) = (a * d) * (e * h) := by ac_rfl
  rw [x, h1, h2]
  ac_rfl
theorem z_both (p1 p2 q1 q2 r1 r2 t1 t2 w1 w2 : Int) : ((p1 * r2 + r1 * p2) * ((q2 * t2) * w2) + ((q1 * t2 + t1 * q2) * w1) * (p2 * r2)) * ((p2 * (q2 * w2)) * (r2 * (t2 * w2))) =
  ((p1 * (q2 * w2) + (q1 * w1) * p2) * (r2 * (t2 * w2)) + (r1 * (t2 * w2) + (t1 * w1) * r2) * (p2 * (q2 * w2))) * ((p2 * r2) * ((q2 * t2) * w2)) := by
  grind
/-! ### equal fractions -/
structure FrE (p q : Int × Int) : Prop where
  p0 : 0 < p.2
  q0 : 0 < q.2
  e : p.1 * q.2 = q.1 * p.2
theorem FrE.rfl' {p : Int × Int} (h : 0 < p.2) : FrE p p := ⟨h, h, rfl⟩
theorem FrE.symm {p q : Int × Int} (h : FrE p q) : FrE q p := ⟨h.q0, h.p0, h.e.symm⟩
theorem FrE.trans {p q r : Int × Int} (h : FrE p q) (g : FrE q r) : FrE p r := by
  refine ⟨h.p0, g.q0, ?_⟩
  have e1 := h.e
  have e2 := g.e
  have z : (p.1 * r.2) * q.2 = (r.1 * p.2) * q.2 := z_tr e1 e2
  exact Int.eq_of_mul_eq_mul_right (Int.ne_of_gt h.q0) z
def rPlus (p q : Int × Int) : Int × Int := (p.1 * q.2 + q.1 * p.2, p.2 * q.2)
def rTimes (p q : Int × Int) : Int × Int := (p.1 * q.1, p.2 * q.2)
theorem rPlus_e {p p' q q' : Int × Int} (h : FrE p p') (g : FrE q q') : FrE (rPlus p q) (rPlus p' q') := by
  refine ⟨Int.mul_pos h.p0 g.p0, Int.mul_pos h.q0 g.q0, ?_⟩
  exact z_pl h.e g.e
theorem rTimes_e {p p' q q' : Int × Int} (h : FrE p p') (g : FrE q q') : FrE (rTimes p q) (rTimes p' q') := by
  refine ⟨Int.mul_pos h.p0 g.p0, Int.mul_pos h.q0 g.q0, ?_⟩
  exact z_ti h.e g.e
theorem low_e {t b : Int} (h : 0 < b) : FrE (lowT t b) (t, b) := by
  obtain ⟨e1, e2, e3, _⟩ := low_mul (t := t) h
  refine ⟨e3, h, ?_⟩
  show (lowT t b).1 * b = t * (lowT t b).2
  generalize (Int.gcd t b : Int) = g at e1 e2
  generalize (lowT t b).1 = x at e1 ⊢
  generalize (lowT t b).2 = y at e2 ⊢
  subst e1 e2
  ac_rfl
theorem plusT_e {p q : Int × Int} (h : 0 < p.2) (g : 0 < q.2) : FrE (plusT p q) (rPlus p q) := low_e (Int.mul_pos h g)
theorem timesT_e {p q : Int × Int} (h : 0 < p.2) (g : 0 < q.2) : FrE (timesT p q) (rTimes p q) := low_e (Int.mul_pos h g)
theorem low_of {p q : Int × Int} (h : FrE p q) : lowT p.1 p.2 = lowT q.1 q.2 := low_eq h.p0 h.q0 h.e
theorem plus_eq {p p' q q' : Int × Int} (h : FrE p p') (g : FrE q q') : plusT p q = plusT p' q' := low_of (rPlus_e h g)
theorem times_eq {p p' q q' : Int × Int} (h : FrE p p') (g : FrE q q') : timesT p q = timesT p' q' := low_of (rTimes_e h g)
theorem scale_e {p : Int × Int} {m : Int} (h : 0 < p.2) (g : 1 ≤ m) : FrE (p.1 * m, p.2 * m) p := ⟨Int.mul_pos h (by omega), h, by show p.1 * m * p.2 = p.1 * (p.2 * m); ac_rfl⟩
theorem worth_eq {p p' q q' w w' : Int × Int} (h : FrE p p') (g : FrE q q') (k : FrE w w') : plusT p (timesT q w) = plusT p' (timesT q' w') := by
  rw [times_eq g k]
  exact plus_eq h (FrE.rfl' (timesT_e g.q0 k.q0).p0)
/-- the worth of a sum is the sum of both worths -/
theorem both_eq {p q r t w : Int × Int} (hp : 0 < p.2) (hq : 0 < q.2) (hr : 0 < r.2) (ht : 0 < t.2) (hw : 0 < w.2) :
    plusT (plusT p r) (timesT (plusT q t) w) = plusT (plusT p (timesT q w)) (plusT r (timesT t w)) := by
  have a1 := plusT_e hp hr
  have a2 := plusT_e hq ht
  have a3 := (timesT_e a2.p0 hw).trans (rTimes_e a2 (FrE.rfl' hw))
  have b1 := timesT_e hq hw
  have b2 := timesT_e ht hw
  have b3 := (plusT_e hp b1.p0).trans (rPlus_e (FrE.rfl' hp) b1)
  have b4 := (plusT_e hr b2.p0).trans (rPlus_e (FrE.rfl' hr) b2)
  rw [plus_eq a1 a3, plus_eq b3 b4]
  refine low_of (p := rPlus (rPlus p r) (rTimes (rPlus q t) w)) (q := rPlus (rPlus p (rTimes q w)) (rPlus r (rTimes t w))) ⟨Int.mul_pos a1.q0 a3.q0, Int.mul_pos b3.q0 b4.q0, ?_⟩
  exact z_both p.1 p.2 q.1 q.2 r.1 r.2 t.1 t.2 w.1 w.2
end LW
namespace LW
open PySem PySem.Spec PyProof.Rows L2

theorem Can.b0 {p : Int × Int} (h : Can p) : 0 < p.2 := h.b.b0
/-- data that is written otherwise: lists for tuples -/
theorem lk_int {n : Nat} {i : Int} {e : PyData} (h : Lk n (.int i) e) : e = .int i := by
  match n, h with
  | n + 1, h =>
    rcases h with ⟨h, _⟩ | ⟨xs, ys, h | h, _⟩
    · exact h.symm
    · cases h
    · cases h
theorem lk_seq {n : Nat} {ds : List PyData} {e : PyData} (h : Lk n (.tuple ds) e) : ∃ es m, seqD e = some es ∧ Paired (Lk m) ds es := by
  match n, h with
  | n + 1, h =>
    rcases h with ⟨_, _, h⟩ | ⟨xs, ys, h, g, p⟩
    · exact absurd rfl (h ds)
    · have ex : xs = ds := by
        rcases h with h | h
        · cases h
        · cases h
          rfl
      subst ex
      rcases g with rfl | rfl
      · exact ⟨ys, n, rfl, p⟩
      · exact ⟨ys, n, rfl, p⟩
theorem lk_fr {n : Nat} {p : Int × Int} {e : PyData} (h : Lk n (fracD p) e) : seqD e = some [.int p.1, .int p.2] := by
  obtain ⟨es, m, h1, h2⟩ := lk_seq h
  match h2 with
  | .cons a (.cons b .nil) => rw [h1, lk_int a, lk_int b]
theorem lk_fm {n : Nat} {p q : Int × Int} {e : PyData} (h : Lk n (formD p q) e) : ∃ x y, seqD e = some [x, y] ∧ seqD x = some [.int p.1, .int p.2] ∧ seqD y = some [.int q.1, .int q.2] := by
  obtain ⟨es, m, h1, h2⟩ := lk_seq h
  match h2 with
  | .cons a (.cons b .nil) => exact ⟨_, _, h1, lk_fr a, lk_fr b⟩
theorem fr_yes {p : Int × Int} {e : PyData} (h : seqD e = some [.int p.1, .int p.2]) (g : 0 < p.2) : isFrD e = true := by
  have z : isFrD e = (isIntD (.int p.1) && (isIntD (.int p.2) && posD (.int p.2))) := two_yes h
  rw [z]
  show decide (0 < p.2) = true
  exact decide_eq_true g
theorem wd_yes {p : Int × Int} {e : PyData} (h : seqD e = some [.int p.1, .int p.2]) (g : 0 < p.2) (k : 0 ≤ p.1) : isWdD e = true := by
  have z : isWdD e = (isWhD (.int p.1) && (isWhD (.int p.2) && posD (.int p.2))) := two_yes h
  rw [z]
  show (decide (0 ≤ p.1) && (decide (0 ≤ p.2) && decide (0 < p.2))) = true
  rw [decide_eq_true k, decide_eq_true g, decide_eq_true (show (0 : Int) ≤ p.2 by omega)]
  rfl
theorem fm_yes {p q : Int × Int} {e x y : PyData} (h : seqD e = some [x, y]) (hx : seqD x = some [.int p.1, .int p.2]) (hy : seqD y = some [.int q.1, .int q.2]) (g : 0 < p.2) (k : 0 < q.2) : isFmD e = true := by
  have z : isFmD e = (isFrD x && isFrD y) := two_yes h
  rw [z, fr_yes hx g, fr_yes hy k]
  rfl
theorem ob_int {H : Hp} {ex : Addr → Prop} {n : Nat} {z : V} {i : Int} (h : Ob H ex n z (.int i)) : z = .int i := by
  match n, h with
  | n + 1, h =>
    rcases h with ⟨_, e⟩ | ⟨_, _, e⟩ | ⟨j, h, e⟩ | ⟨_, _, e⟩ | ⟨_, _, _, e, _⟩ | ⟨_, _, _, _, _, e, _⟩ | ⟨_, _, _, _, _, e, _⟩ <;> cases e
    exact h
theorem paired_mk {α β : Type} {F : α → β → Prop} {xs : List α} {d e : β} (p : Paired F xs [d, e]) : ∃ x y, xs = [x, y] ∧ F x d ∧ F y e := by
  match p with
  | .cons a (.cons b .nil) => exact ⟨_, _, rfl, a, b⟩
theorem ob_fr (K : PySem.W.Frag) {H : Hp} {ex : Addr → Prop} {n : Nat} {z : V} {e : PyData} {p : Int × Int} (h : Ob H ex n z e) (g : seqD e = some [.int p.1, .int p.2]) : FrAt K H z p := by
  rcases ob_seq K h with ⟨q, _⟩ | ⟨a, xs, ds, m, rfl, q, hx, pr⟩
  · rw [g] at q
    cases q
  · rw [g] at q
    cases q
    obtain ⟨u, v, e1, x, y⟩ := paired_mk pr
    have ex1 := ob_int x
    have ey1 := ob_int y
    rw [e1, ex1, ey1] at hx
    exact ⟨a, rfl, hx.symm⟩
theorem ob_fm (K : PySem.W.Frag) {H : Hp} {ex : Addr → Prop} {n : Nat} {z : V} {e x y : PyData} {p q : Int × Int} (h : Ob H ex n z e) (g : seqD e = some [x, y]) (hx : seqD x = some [.int p.1, .int p.2]) (hy : seqD y = some [.int q.1, .int q.2]) : FmAt K H z p q := by
  rcases ob_seq K h with ⟨r, _⟩ | ⟨a, xs, ds, m, rfl, r, hs, pr⟩
  · rw [g] at r
    cases r
  · rw [g] at r
    cases r
    obtain ⟨u, v, e1, ou, ov⟩ := paired_mk pr
    rw [e1] at hs
    exact ⟨a, u, v, rfl, hs.symm, ob_fr K ou hx, ob_fr K ov hy⟩
end LW
namespace LW
open PySem PySem.Spec PyProof.Rows L2 LamX

/-! ### the law's turn: what is drawn -/
def sc (p : Int × Int) (m : Int) : Int × Int := (p.1 * m, p.2 * m)
structure Raw (H : Hp) (s r1 u1 v1 r2 u2 v2 rs rw : Addr) (p1 q1 p2 q2 sh w : Int × Int) : Prop where
  f1 : FmRaw H r1 u1 v1 p1 q1
  f2 : FmRaw H r2 u2 v2 p2 q2
  hs : H rs = some (.tup (fracV sh))
  hw : H rw = some (.tup (fracV w))
theorem ne_lst {H : Hp} {a b : Addr} {xs ys : List V} (h : H a = some (.tup xs)) (g : H b = some (.lst ys)) : a ≠ b := fun z => by
  rw [z, g] at h
  cases h
section
variable {H H' : Hp} {ex ex' : Addr → Prop} {s r1 u1 v1 r2 u2 v2 rs rw : Addr} {p1 q1 p2 q2 sh w : Int × Int}
theorem Raw.ext (R : Raw H s r1 u1 v1 r2 u2 v2 rs rw p1 q1 p2 q2 sh w) (k : ∀ b xs, H b = some (.tup xs) → H' b = some (.tup xs)) : Raw H' s r1 u1 v1 r2 u2 v2 rs rw p1 q1 p2 q2 sh w :=
  ⟨⟨k _ _ R.f1.h, k _ _ R.f1.hu, k _ _ R.f1.hv⟩, ⟨k _ _ R.f2.h, k _ _ R.f2.hu, k _ _ R.f2.hv⟩, k _ _ R.hs, k _ _ R.hw⟩
theorem tup_kp (k : Kp H H') : ∀ b xs, H b = some (.tup xs) → H' b = some (.tup xs) := fun b xs h => k b _ h
theorem tup_kpB (d : Dr H s) (k : KpB s H H') : ∀ b xs, H b = some (.tup xs) → H' b = some (.tup xs) := fun b xs h => k b _ (dr_ntup d h) h
theorem tup_put {l : Addr} {ys zs : List V} (h : H l = some (.lst ys)) : ∀ b xs, H b = some (.tup xs) → upd H l (.lst zs) b = some (.tup xs) := fun b xs g => by
  rw [upd_ne (ne_lst g h)]
  exact g
theorem Dr.put {l : Addr} {o : HO} (d : Dr H s) (n : s ≠ l) : Dr (upd H l o) s := by
  obtain ⟨a, b, c, S⟩ := d
  exact ⟨a, b, c, ⟨by rw [upd_ne n]; exact S.at_, S.v0, S.d0, S.d1⟩⟩
end
/-- a form that is handed over: not in lowest terms, lists for tuples -/
structure Hd (H : Hp) (ex : Addr → Prop) (z : V) (e : PyData) (P Q : Int × Int) : Prop where
  o : Ob H ex 4 z e
  lk : Lk 4 (formD P Q) e
theorem Hd.ext {H H' : Hp} {ex : Addr → Prop} {z : V} {e : PyData} {P Q : Int × Int} (h : Hd H ex z e P Q) (k : ∀ b o, ¬ ex b → H b = some o → H' b = some o) : Hd H' ex z e P Q := ⟨h.o.ext k, h.lk⟩
theorem Hd.less {H : Hp} {ex ex' : Addr → Prop} {z : V} {e : PyData} {P Q : Int × Int} (h : Hd H ex z e P Q) (k : ∀ b, H b ≠ none → ex' b → ex b) : Hd H ex' z e P Q := ⟨h.o.less k, h.lk⟩
abbrev tW0 (K : PySem.W.Frag) (i : Nat) (j : Int) : TE := tCall spWide [] E0 (tCons (tVar 2) (tCons (tOp (rIx K) (tVar i) (tC (.int j))) tNil))
abbrev tHand (K : PySem.W.Frag) : TE := tCall (spLoose 4) [] E0 (tCons (tVar 2) (tCons (tTup (tCons (tW0 K 8 0) (tCons (tW0 K 8 1) tNil))) tNil))
theorem hand_go {K : PySem.W.Frag} {σ : L2.St} {H : Hp} {Q : VK} {s D r u v : Addr} {p q : Int × Int} {xs : List V} (h2 : σ[2]? = some (some (.ref s))) (h8 : σ[8]? = some (some (.ref r))) (dr : Dr H s) (hD : H D = some (.lst xs)) (f : FmRaw H r u v p q) (cp : Can p) (cq : Can q)
    (k : ∀ (z : V) (H' : Hp) (e : PyData) (m n : Int), 1 ≤ m → m ≤ 10 → 1 ≤ n → n ≤ 10 → Hd H' (fun b => b = s ∨ b = D) z e (sc p m) (sc q n) → Dr H' s → KpB s H H' → Q z H') : tHand K σ H Q := by
  refine ⟨_, h2, ⟨_, h2, _, h8, .inr (.inl ⟨r, _, _, _, rfl, rfl, SqT.of f.h, atI_nat (j := 0) rfl, ⟨s, u, p, 21, rfl, dr, f.hu, cp.b, by decide, by decide, fun a1 H1 m n1 m1 m2 g1 d1 k1 => ?_⟩⟩)⟩⟩
  have f1 := f.kpB dr k1
  refine ⟨_, h2, _, h8, .inr (.inl ⟨r, _, _, _, rfl, rfl, SqT.of f1.h, atI_nat (j := 1) rfl, ⟨s, v, q, 21, rfl, d1, f1.hv, cq.b, by decide, by decide, fun a2 H2 n n2 m3 m4 g2 d2 k2 => ⟨le_sz rfl, fun t nt => ?_⟩⟩⟩)⟩
  have k3 := kp_new (o := .tup [.ref a1, .ref a2]) nt
  have g1' : H2 a1 = some (.tup (fracV (sc p m))) := k2 _ _ (dr_ntup d1 g1) g1
  have d3 := d2.kp k3
  have nDs : H D ≠ none := by
    rw [hD]
    intro z
    cases z
  by_cases e : D = s
  · have hex : ∀ b, (b = s ∨ b = D) → upd H2 t (.tup [.ref a1, .ref a2]) b ≠ none := fun b z => by
      have z' : b = s := z.elim id fun y => y.trans e
      rw [z']
      exact dr_some d3
    have nn : ∀ {b : Addr} {ys : List V}, upd H2 t (.tup [.ref a1, .ref a2]) b = some (.tup ys) → ¬ (b = s ∨ b = D) := fun {b ys} h z => by
      have z' : b = s := z.elim id fun y => y.trans e
      exact dr_ntup d3 h z'
    have fm : FmRaw (upd H2 t (.tup [.ref a1, .ref a2])) t a1 a2 (sc p m) (sc q n) := ⟨upd_same, k3 _ _ g1', k3 _ _ g2⟩
    exact ⟨s, .ref t, formD (sc p m) (sc q n), fun b => b = s ∨ b = D, rfl, d3, .inl rfl, hex, fm.ob 1 (nn fm.h) (nn fm.hu) (nn fm.hv), fun z H' e oz lk d4 k4 => k z H' e m n m1 m2 m3 m4 ⟨oz, lk⟩ d4 (((k1.trans k2).trans (.of k3)).trans k4)⟩
  · have hD3 : upd H2 t (.tup [.ref a1, .ref a2]) D = some (.lst xs) := k3 _ _ (k2 _ _ e (k1 _ _ e hD))
    have hex : ∀ b, (b = s ∨ b = D) → upd H2 t (.tup [.ref a1, .ref a2]) b ≠ none := fun b z => by
      rcases z with z | z
      · rw [z]
        exact dr_some d3
      · rw [z, hD3]
        intro y
        cases y
    have nn : ∀ {b : Addr} {ys : List V}, upd H2 t (.tup [.ref a1, .ref a2]) b = some (.tup ys) → ¬ (b = s ∨ b = D) := fun {b ys} h z => by
      rcases z with z | z
      · exact dr_ntup d3 h z
      · exact ne_lst h hD3 z
    have fm : FmRaw (upd H2 t (.tup [.ref a1, .ref a2])) t a1 a2 (sc p m) (sc q n) := ⟨upd_same, k3 _ _ g1', k3 _ _ g2⟩
    exact ⟨s, .ref t, formD (sc p m) (sc q n), fun b => b = s ∨ b = D, rfl, d3, .inl rfl, hex, fm.ob 1 (nn fm.h) (nn fm.hu) (nn fm.hv), fun z H' e oz lk d4 k4 => k z H' e m n m1 m2 m3 m4 ⟨oz, lk⟩ d4 (((k1.trans k2).trans (.of k3)).trans k4)⟩
/-- a fraction that is handed over -/
abbrev tHandF (i : Nat) : TE := tCall (spLoose 4) [] E0 (tCons (tVar 2) (tCons (tCall spWide [] E0 (tCons (tVar 2) (tCons (tVar i) tNil))) tNil))
theorem handF_go {σ : L2.St} {H : Hp} {Q : VK} {ex : Addr → Prop} {s r : Addr} {i : Nat} {p : Int × Int} (h2 : σ[2]? = some (some (.ref s))) (hi : σ[i]? = some (some (.ref r))) (dr : Dr H s) (es : ex s) (hex : ∀ b, ex b → ∃ ys, H b = some (.lst ys)) (f : H r = some (.tup (fracV p))) (b : FrB 21 p)
    (k : ∀ (z : V) (H' : Hp) (e : PyData) (m : Int), 1 ≤ m → m ≤ 10 → Ob H' ex 4 z e → Lk 4 (fracD (sc p m)) e → Dr H' s → KpB s H H' → Q z H') : tHandF i σ H Q := by
  refine ⟨_, h2, ⟨_, h2, _, hi, ⟨s, r, p, 21, rfl, dr, f, b, by decide, by decide, fun a H1 m n1 m1 m2 g1 d1 k1 => ?_⟩⟩⟩
  have lst : ∀ b, ex b → ∃ ys, H1 b = some (.lst ys) := fun b hb => by
    by_cases e : b = s
    · obtain ⟨_, _, _, S⟩ := d1
      exact ⟨_, by rw [e]; exact S.at_⟩
    · obtain ⟨ys, h⟩ := hex b hb
      exact ⟨ys, k1 _ _ e h⟩
  have na : ¬ ex a := fun z => by
    obtain ⟨ys, h⟩ := lst a z
    rw [g1] at h
    cases h
  have hx : ∀ b, ex b → H1 b ≠ none := fun b hb z => by
    obtain ⟨ys, h⟩ := lst b hb
    rw [z] at h
    cases h
  exact ⟨s, .ref a, fracD (sc p m), ex, rfl, d1, es, hx, ob_frac 2 g1 na, fun z H' e oz lk d2 k2 => k z H' e m m1 m2 oz lk d2 (k1.trans k2)⟩
end LW
namespace LW
open PySem PySem.Spec PyProof.Rows L2 LamX

abbrev NL : List Str := ["script", "turn", "draws", "one", "other", "share", "width", "handed", "form", "found", "due", "both"]
theorem scLaw : FnScope NL ["script"] (defScope s_law) := scP_ok (by decide +kernel)
def spLaw (K : PySem.W.Frag) (T : List (Addr × Str)) : Sp := fun vs H Q _ => ∃ (a : Addr) (ns : List Int), vs = [.ref a] ∧ SqL K H a (ns.map V.int) ∧ ns.length ≤ 1000 ∧ Tabs T H ∧ ∀ H' : Hp, Q (.bl true) H'
structure LawF (P : Program) (w : World) (K : PySem.W.Frag) (mg : Str → Option Value) (base : Heap) (CF CW CB : Addr) (fA : Str → Addr) (T : List (Addr × Str)) : Prop where
  src : ∃ fd, FnOk P w K mg base CX0 1 (fA "_law_source") fd ["script", "turn"] (spSource K) ∧ L2.Binds K fd ["script", "turn"] []
  frm : ∃ fd, FnOk P w K mg base CX0 4 (fA "_law_some_form") fd ["draws"] spForm ∧ L2.Binds K fd ["draws"] []
  frc : ∃ fd, FnOk P w K mg base CX0 3 (fA "_law_some_fraction") fd ["draws"] spFrac ∧ L2.Binds K fd ["draws"] []
  loo : ∃ fd, (∀ n, FnOk P w K mg base CX0 (n + 1) (fA "_law_loose") fd ["draws", "thing"] (spLoose n)) ∧ L2.Binds K fd ["draws", "thing"] []
  wid : ∃ fd, FnOk P w K mg base CX0 3 (fA "_law_wide") fd ["draws", "one"] spWide ∧ L2.Binds K fd ["draws", "one"] []
  at_ : ∃ fd, FnOk P w K mg base CX0 3 (fA "_law_at") fd ["form", "width"] (spAt K) ∧ L2.Binds K fd ["form", "width"] []
  pls : ∃ fd, FnOk P w K mg base CX0 2 (fA "_law_plus") fd ["one", "other"] (spOp K plusT) ∧ L2.Binds K fd ["one", "other"] []
  tms : ∃ fd, FnOk P w K mg base CX0 2 (fA "_law_times") fd ["one", "other"] (spOp K timesT) ∧ L2.Binds K fd ["one", "other"] []
  ref : ∃ fd, FnOk P w K mg base CX0 8 (fA "_law_refused_right") fd ["draws", "one"] (spRef T) ∧ L2.Binds K fd ["draws", "one"] []
  rf : RefFns P w K mg base CF CW CB fA
  keep : ∀ x ∈ (["_law_source", "_law_some_form", "_law_some_fraction", "_law_loose", "_law_wide", "_law_at", "_law_plus", "_law_times", "_law_refused_right"] : List Str), PySem.W.keepIn K (.ref (fA x)) = true ∧ mg x = some (.ref (fA x))
  fr : ∀ x ∈ (["range", "min", "len", "abs"] : List Str), mg x = none
theorem sq_extN {K : PySem.W.Frag} {H H' : Hp} {a : Addr} {xs : List V} (h : SqL K H a xs) (e : ExtN H H') : SqL K H' a xs := by
  rcases h with (h | ⟨o, h⟩) | h
  · exact .inl (.inl (e _ _ h (fun _ z => by cases z)))
  · exact .inl (.inr ⟨o, e _ _ h (fun _ z => by cases z)⟩)
  · exact .inr h
theorem sc_b {p : Int × Int} {m : Int} (h : FrB 21 p) (h1 : 1 ≤ m) (h2 : m ≤ 10) : FrB 25 (sc p m) := by
  have mb : m.natAbs < 2 ^ 4 := by
    show m.natAbs < 16
    omega
  exact ⟨wide_lt h.t mb, wide_lt h.b mb, Int.mul_pos h.b0 (by omega)⟩
def absI (i : Int) : Int := if i < 0 then -i else i
theorem abs_b {p : Int × Int} {n : Nat} (h : FrB n p) : FrB n (absI p.1, p.2) := by
  refine ⟨?_, h.b, h.b0⟩
  have e : (absI p.1).natAbs = p.1.natAbs := by
    unfold absI
    split <;> omega
  show (absI p.1).natAbs < 2 ^ n
  rw [e]
  exact h.t
theorem abs_0 (i : Int) : 0 ≤ absI i := by
  unfold absI
  split <;> omega
/-- what holds of the heap through a turn -/
structure Tu (T : List (Addr × Str)) (Hs H : Hp) (ex : Addr → Prop) (s r1 u1 v1 r2 u2 v2 rs rw D : Addr) (p1 q1 p2 q2 sh w : Int × Int) (z0 z1 : V) (e0 e1 : PyData) (P1 Q1 P2 Q2 : Int × Int) : Prop where
  eN : ExtN Hs H
  ns : Hs s = none
  tT : Tabs T H
  raw : Raw H s r1 u1 v1 r2 u2 v2 rs rw p1 q1 p2 q2 sh w
  dr : Dr H s
  hD : H D = some (.lst [z0, z1])
  nD : D ≠ s
  h0 : Hd H ex z0 e0 P1 Q1
  h1 : Hd H ex z1 e1 P2 Q2
section
variable {T : List (Addr × Str)} {Hs H H' : Hp} {ex ex' : Addr → Prop} {s r1 u1 v1 r2 u2 v2 rs rw D : Addr} {p1 q1 p2 q2 sh w : Int × Int} {z0 z1 : V} {e0 e1 : PyData} {P1 Q1 P2 Q2 : Int × Int}
theorem Tu.kp (S : Tu T Hs H ex s r1 u1 v1 r2 u2 v2 rs rw D p1 q1 p2 q2 sh w z0 z1 e0 e1 P1 Q1 P2 Q2) (k : Kp H H') : Tu T Hs H' ex s r1 u1 v1 r2 u2 v2 rs rw D p1 q1 p2 q2 sh w z0 z1 e0 e1 P1 Q1 P2 Q2 :=
  ⟨S.eN.trans (.of k), S.ns, S.tT.ext k, S.raw.ext (tup_kp k), S.dr.kp k, k _ _ S.hD, S.nD, S.h0.ext fun b o _ h => k b o h, S.h1.ext fun b o _ h => k b o h⟩
theorem Tu.kpB (S : Tu T Hs H ex s r1 u1 v1 r2 u2 v2 rs rw D p1 q1 p2 q2 sh w z0 z1 e0 e1 P1 Q1 P2 Q2) (es : ex s) (d : Dr H' s) (k : KpB s H H') : Tu T Hs H' ex s r1 u1 v1 r2 u2 v2 rs rw D p1 q1 p2 q2 sh w z0 z1 e0 e1 P1 Q1 P2 Q2 := by
  refine ⟨fun b o h nt => k b o (ne_of_none h S.ns) (S.eN b o h nt), S.ns, ?_, S.raw.ext (tup_kpB S.dr k), d, k _ _ S.nD S.hD, S.nD, S.h0.ext fun b o n h => k b o (fun z => n (by rw [z]; exact es)) h, S.h1.ext fun b o n h => k b o (fun z => n (by rw [z]; exact es)) h⟩
  obtain ⟨v0, d0, c0, S0⟩ := S.dr
  exact tabs_b S.tT S0.at_ k
theorem Tu.put (S : Tu T Hs H ex s r1 u1 v1 r2 u2 v2 rs rw D p1 q1 p2 q2 sh w z0 z1 e0 e1 P1 Q1 P2 Q2) {l : Addr} {ys zs : List V} (h : H l = some (.lst ys)) (el : ex l) (ns : s ≠ l) (nD : D ≠ l) (nl : ∀ b o, Hs b = some o → (∀ ps, o ≠ .tbl ps) → b ≠ l) :
    Tu T Hs (upd H l (.lst zs)) ex s r1 u1 v1 r2 u2 v2 rs rw D p1 q1 p2 q2 sh w z0 z1 e0 e1 P1 Q1 P2 Q2 := by
  have k : KpB l H (upd H l (.lst zs)) := KpB.put
  exact ⟨fun b o hb nt => k b o (nl b o hb nt) (S.eN b o hb nt), S.ns, tabs_b S.tT h k, S.raw.ext (tup_put h), S.dr.put ns, k _ _ nD S.hD, S.nD, S.h0.ext fun b o n hb => k b o (fun z => n (by rw [z]; exact el)) hb, S.h1.ext fun b o n hb => k b o (fun z => n (by rw [z]; exact el)) hb⟩
theorem Tu.less (S : Tu T Hs H ex s r1 u1 v1 r2 u2 v2 rs rw D p1 q1 p2 q2 sh w z0 z1 e0 e1 P1 Q1 P2 Q2) (k : ∀ b, H b ≠ none → ex' b → ex b) : Tu T Hs H ex' s r1 u1 v1 r2 u2 v2 rs rw D p1 q1 p2 q2 sh w z0 z1 e0 e1 P1 Q1 P2 Q2 :=
  ⟨S.eN, S.ns, S.tT, S.raw, S.dr, S.hD, S.nD, S.h0.less k, S.h1.less k⟩
end
theorem frac_sm {K : PySem.W.Frag} {H : Hp} {s a b : Addr} {p : Int × Int} (d : Dr H s) (h : H a = some (.tup (fracV p))) (g : H b = some (.tup (fracV p))) : Sm K H 2 (.ref a) (.ref b) :=
  Ob.sm (ob_frac (ex := fun b => b = s) 0 h (dr_ntup d h)) (ob_frac (ex := fun b => b = s) 0 g (dr_ntup d g))
theorem fm_ob3 {H : Hp} {s r u v : Addr} {p q : Int × Int} (d : Dr H s) (f : FmRaw H r u v p q) : Ob H (fun b => b = s) 3 (.ref r) (formD p q) := f.ob 0 (dr_ntup d f.h) (dr_ntup d f.hu) (dr_ntup d f.hv)
/-- the list of what is found, and of what is due -/
theorem found_ob {H : Hp} {s l r3 r4 a4 b4 r5 a5 b5 : Addr} {R A4 B4 A5 B5 : Int × Int} (d : Dr H s) (hl : H l = some (.lst [.bl true, .bl true, .ref r3, .ref r4, .ref r5])) (nl : l ≠ s) (h3 : H r3 = some (.tup (fracV R))) (f4 : FmRaw H r4 a4 b4 A4 B4) (f5 : FmRaw H r5 a5 b5 A5 B5) :
    Ob H (fun b => b = s) 4 (.ref l) (.list [.bool true, .bool true, fracD R, formD A4 B4, formD A5 B5]) := by
  have t : Ob H (fun b => b = s) 3 (.bl true) (.bool true) := .inr (.inl ⟨_, rfl, rfl⟩)
  exact list_ob hl nl (by show 5 ≤ 1000000; decide) (.cons t (.cons t (.cons (ob_frac 1 h3 (dr_ntup d h3)) (.cons (fm_ob3 d f4) (.cons (fm_ob3 d f5) .nil)))))
end LW
namespace LW
open PySem PySem.Spec PyProof.Rows L2 LamX

section
variable {P : Program} {w : World} {K : PySem.W.Frag} {mg : Str → Option Value} {base : Heap} {CF CW CB : Addr} {fA : Str → Addr} {T : List (Addr × Str)}
theorem ok_law (L : LawF P w K mg base CF CW CB fA T) {fd : FuncData} {f : Addr} {x : Str} (F : FnP K x s_law f fd) : FnOk P w K mg base CX0 9 f fd ["script"] (spLaw K T) := by
  obtain ⟨fd1, G1, b1⟩ := L.src
  obtain ⟨fd2, G2, b2⟩ := L.frm
  obtain ⟨fd3, G3, b3⟩ := L.frc
  obtain ⟨fd4, G4, b4⟩ := L.loo
  obtain ⟨fd5, G5, b5⟩ := L.wid
  obtain ⟨fd6, G6, b6⟩ := L.at_
  obtain ⟨fd7, G7, b7⟩ := L.pls
  obtain ⟨fd8, G8, b8⟩ := L.tms
  obtain ⟨fd9, G9, b9⟩ := L.ref
  obtain ⟨fdF, GF, bF⟩ := L.rf.isF
  obtain ⟨fdW, GW, bW⟩ := L.rf.wor
  obtain ⟨fdS, GS, bS⟩ := L.rf.sum
  obtain ⟨fdT, GT, bT⟩ := L.rf.tms
  obtain ⟨fdQ, GQ, bQ⟩ := L.rf.same
  obtain ⟨k1, g1⟩ := L.keep "_law_source" (by decide)
  obtain ⟨k2, g2⟩ := L.keep "_law_some_form" (by decide)
  obtain ⟨k3, g3⟩ := L.keep "_law_some_fraction" (by decide)
  obtain ⟨k4, g4⟩ := L.keep "_law_loose" (by decide)
  obtain ⟨k5, g5⟩ := L.keep "_law_wide" (by decide)
  obtain ⟨k6, g6⟩ := L.keep "_law_at" (by decide)
  obtain ⟨k7, g7⟩ := L.keep "_law_plus" (by decide)
  obtain ⟨k8, g8⟩ := L.keep "_law_times" (by decide)
  obtain ⟨k9, g9⟩ := L.keep "_law_refused_right" (by decide)
  obtain ⟨kF, gF⟩ := L.rf.keep "is_form" (by decide)
  obtain ⟨kW, gW⟩ := L.rf.keep "form_worth" (by decide)
  obtain ⟨kS, gS⟩ := L.rf.keep "form_sum" (by decide)
  obtain ⟨kT, gT⟩ := L.rf.keep "form_times" (by decide)
  obtain ⟨kQ, gQ⟩ := L.rf.keep "_law_same" (by decide)
  have gRg := L.fr "range" (by decide)
  have gMi := L.fr "min" (by decide)
  have gLe := L.fr "len" (by decide)
  have gAb := L.fr "abs" (by decide)
  refine F.ok scLaw (fun vs H Q E h => ?_) fun cdv A outer s0 H vs Q E hr h => ?_
  · obtain ⟨a, ns, rfl, _⟩ := h
    rfl
  · have hr1 := hr.mono (j := 1) (by decide)
    have hr2 := hr.mono (j := 2) (by decide)
    have hr3 := hr.mono (j := 3) (by decide)
    have hr4 := hr.mono (j := 4) (by decide)
    have hr5 := hr.mono (j := 5) (by decide)
    obtain ⟨a, ns, rfl, hS, hn, tT, k⟩ := h
    refine ⟨_, PSs.nox (pss_cons (ps_for PassesOwn.never rfl (pi_range1 rfl gRg (pa_cons (pe_op op_add pe_int (pe_callB (call_min2 rfl) rfl gMi rfl (pa_cons (pe_callB call_len rfl gLe rfl (pa_cons (pv 0) pa_nil)) (pa_cons pe_int pa_nil)))) pa_nil)) (pg_name (i := 1) scLaw.nd rfl (.inl rfl))
      (pss_cons (ps_set (i := 2) scLaw.nd rfl (.inr rfl) (pe_call G1 hr1 rfl g1 k1 b1 .nil pass0 (pa_cons (pv 0) (pa_cons (pv 1) pa_nil))))
      (pss_cons (ps_par (i := 3) (j := 4) rfl scLaw.nd rfl rfl (by decide) rfl rfl (pa_cons (pe_call G2 hr4 rfl g2 k2 b2 .nil pass0 (pa_cons (pv 2) pa_nil)) (pa_cons (pe_call G2 hr4 rfl g2 k2 b2 .nil pass0 (pa_cons (pv 2) pa_nil)) pa_nil)) (by rfl))
      (pss_cons (ps_par (i := 5) (j := 6) rfl scLaw.nd rfl rfl (by decide) rfl rfl (pa_cons (pe_call G3 hr3 rfl g3 k3 b3 .nil pass0 (pa_cons (pv 2) pa_nil)) (pa_cons (pe_call G3 hr3 rfl g3 k3 b3 .nil pass0 (pa_cons (pv 2) pa_nil)) pa_nil)) (by rfl))
      (pss_cons (ps_set (i := 6) scLaw.nd rfl (.inl rfl) (pe_tup (pa_cons (pe_callB call_abs rfl gAb rfl (pa_cons (pe_ix ix_seq (pv 6) pe_int (fun _ _ => rfl)) pa_nil)) (pa_cons (pe_ix ix_seq (pv 6) pe_int (fun _ _ => rfl)) pa_nil))))
      (pss_cons (ps_setLc (i := 7) (own := [("form", 8)]) (g := gName 8) (tt := tYes) (te := tHand K) rfl scLaw.nd rfl rfl (sw_true rfl rfl rfl (by decide +kernel)) (pi_tup (pe_tup (pa_cons (pv 3) (pa_cons (pv 4) pa_nil))))
          (blkOk_by (N := NL) (sc := defScope s_law) (by decide +kernel)) (fun _ _ _ _ _ => pg_name (i := 8) scLaw.nd rfl (Or.inl rfl)) (fun _ _ _ _ _ => pts_nil)
          (fun _ _ _ _ _ => pe_call (G4 4) hr5 rfl g4 k4 b4 .nil pass0 (pa_cons (pv 2) (pa_cons (pe_tup (pa_cons (pe_call G5 hr3 rfl g5 k5 b5 .nil pass0 (pa_cons (pv 2) (pa_cons (pe_ix ix_seq (pv 8) pe_int (fun _ _ => rfl)) pa_nil)))
            (pa_cons (pe_call G5 hr3 rfl g5 k5 b5 .nil pass0 (pa_cons (pv 2) (pa_cons (pe_ix ix_seq (pv 8) pe_int (fun _ _ => rfl)) pa_nil))) pa_nil))) pa_nil))))
      (pss_cons (ps_set (i := 9) scLaw.nd rfl (.inl rfl) (pe_lst (pa_cons (pe_call GF hr3 rfl gF kF bF .nil pass0 (pa_cons (pe_ix ix_seq (pv 7) pe_int (fun _ _ => rfl)) pa_nil)) (pa_cons (pe_call GF hr3 rfl gF kF bF .nil pass0 (pa_cons (pv 3) pa_nil))
          (pa_cons (pe_call (E := E0) GW hr5 rfl gW kW bW .nil passL (pa_cons (pe_ix ix_seq (pv 7) pe_int (fun _ _ => rfl)) (pa_cons (pe_call (G4 4) hr5 rfl g4 k4 b4 .nil pass0 (pa_cons (pv 2) (pa_cons (pe_call G5 hr3 rfl g5 k5 b5 .nil pass0 (pa_cons (pv 2) (pa_cons (pv 6) pa_nil))) pa_nil))) pa_nil))) pa_nil)))))
      (pss_cons (ps_expr (pe_bm PySem.F.plainAttrs_list PySem.F.slot_list_append PySem.F.type_list_append mt_append (pv 9) (pa_cons (pe_call (E := E0) GS hr5 rfl gS kS bS .nil passL (pa_cons (pe_ix ix_seq (pv 7) pe_int (fun _ _ => rfl)) (pa_cons (pe_ix ix_seq (pv 7) pe_int (fun _ _ => rfl)) pa_nil))) pa_nil)))
      (pss_cons (ps_expr (pe_bm PySem.F.plainAttrs_list PySem.F.slot_list_append PySem.F.type_list_append mt_append (pv 9) (pa_cons (pe_call (E := E0) GT hr5 rfl gT kT bT .nil passL (pa_cons (pe_ix ix_seq (pv 7) pe_int (fun _ _ => rfl))
          (pa_cons (pe_call (G4 4) hr5 rfl g4 k4 b4 .nil pass0 (pa_cons (pv 2) (pa_cons (pe_call G5 hr3 rfl g5 k5 b5 .nil pass0 (pa_cons (pv 2) (pa_cons (pv 5) pa_nil))) pa_nil))) pa_nil))) pa_nil)))
      (pss_cons (ps_set (i := 10) scLaw.nd rfl (.inl rfl) (pe_lst (pa_cons pe_bl (pa_cons pe_bl (pa_cons (pe_call G6 hr3 rfl g6 k6 b6 .nil pass0 (pa_cons (pv 3) (pa_cons (pv 6) pa_nil)))
          (pa_cons (pe_tup (pa_cons (pe_call G7 hr2 rfl g7 k7 b7 .nil pass0 (pa_cons (pe_ix ix_seq (pv 3) pe_int (fun _ _ => rfl)) (pa_cons (pe_ix ix_seq (pv 4) pe_int (fun _ _ => rfl)) pa_nil)))
            (pa_cons (pe_call G7 hr2 rfl g7 k7 b7 .nil pass0 (pa_cons (pe_ix ix_seq (pv 3) pe_int (fun _ _ => rfl)) (pa_cons (pe_ix ix_seq (pv 4) pe_int (fun _ _ => rfl)) pa_nil))) pa_nil))) pa_nil))))))
      (pss_cons (ps_if (pt_not (pt_val (pe_call (GQ 4) hr4 rfl gQ kQ bQ .nil pass0 (pa_cons (pv 9) (pa_cons (pe_op op_cat (pv 10) (pe_lst (pa_cons (pe_tup (pa_cons (pe_call G8 hr2 rfl g8 k8 b8 .nil pass0 (pa_cons (pe_ix ix_seq (pv 4) pe_int (fun _ _ => rfl)) (pa_cons (pv 5) pa_nil)))
          (pa_cons (pe_call G8 hr2 rfl g8 k8 b8 .nil pass0 (pa_cons (pe_ix ix_seq (pv 4) pe_int (fun _ _ => rfl)) (pa_cons (pv 5) pa_nil))) pa_nil))) pa_nil))) pa_nil))))) pss_never pss_nil)
      (pss_cons (ps_set (i := 11) scLaw.nd rfl (.inl rfl) (pe_call G7 hr2 rfl g7 k7 b7 .nil pass0 (pa_cons (pe_call G6 hr3 rfl g6 k6 b6 .nil pass0 (pa_cons (pv 3) (pa_cons (pv 6) pa_nil))) (pa_cons (pe_call G6 hr3 rfl g6 k6 b6 .nil pass0 (pa_cons (pv 4) (pa_cons (pv 6) pa_nil))) pa_nil))))
      (pss_cons (ps_if (pt_not (pt_val (pe_call (GQ 2) hr2 rfl gQ kQ bQ .nil pass0 (pa_cons (pe_call (E := E0) GW hr5 rfl gW kW bW .nil passL (pa_cons (pe_call (E := E0) GS hr5 rfl gS kS bS .nil passL (pa_cons (pv 3) (pa_cons (pv 4) pa_nil))) (pa_cons (pv 6) pa_nil))) (pa_cons (pv 11) pa_nil))))) pss_never pss_nil)
      (pss_one (ps_if (PW.pt (pw_and (pt_cmp (pc_lt (pv 1) pe_int)) (pw_and1 (pt_not (pt_val (pe_call G9 hr rfl g9 k9 b9 .nil pass0 (pa_cons (pv 2) (pa_cons (pv 3) pa_nil)))))))) pss_never pss_nil)))))))))))))))
      (pss_one (ps_ret pe_bl))), ?_⟩
    refine ⟨_, rfl, _, _, rfl, .inl ⟨_, hS, rfl⟩, _, _, rfl, _, _, rfl, rfl, _, rfl, ?_, ?_, ?_⟩
    · split <;> omega
    · rw [List.length_map]
      split <;> omega
    have hj : (3 + if (3 : Int) < ((ns.map V.int).length : Int) then 3 else ((ns.map V.int).length : Int)).toNat ≤ 6 := by
      split <;> omega
    generalize (3 + if (3 : Int) < ((ns.map V.int).length : Int) then 3 else ((ns.map V.int).length : Int)).toNat = nn at hj ⊢
    refine for_range (lo := 0) (n := nn) (fun i σ H' => ∃ o1 o2 o3 o4 o5 o6 o7 o8 o9 o10 o11 : Option V, σ = [some (.ref a), o1, o2, o3, o4, o5, o6, o7, o8, o9, o10, o11] ∧ ExtN H H' ∧ Tabs T H')
      ⟨none, none, none, none, none, none, none, none, none, none, none, rfl, ExtN.refl _, tT⟩ (fun i σ H0 hi hP => ?_) fun σ H' _ => k H'
    obtain ⟨o1, o2, o3, o4, o5, o6, o7, o8, o9, o10, o11, rfl, eZ, t0⟩ := hP
    have hS0 := sq_extN hS eZ
    refine ⟨_, rfl, _, rfl, a, ns, i, (by rw [Int.zero_add]; rfl), hS0, hn, by omega, fun s H1 ns1 d1 kS => ?_⟩
    refine ⟨_, rfl, s, rfl, d1, fun r1 u1 v1 H2 p1 q1 _ a1 a2 a3 cp1 cq1 d2 kB2 => ⟨_, rfl, s, rfl, d2, fun r2 u2 v2 H3 p2 q2 _ c1 c2 c3 cp2 cq2 d3 kB3 => ⟨_, _, rfl, ?_⟩⟩⟩
    refine ⟨_, rfl, s, rfl, d3, fun rs H4 ts bs _ hs4 fs d4 kB4 => ⟨_, rfl, s, rfl, d4, fun rw0 H5 tw bw _ hw5 fw d5 kB5 => ⟨_, _, rfl, ?_⟩⟩⟩
    have bsh : FrB 21 (lowT ts bs) := low_b fs.b0 fs.t fs.b
    have bw0 : FrB 21 (lowT tw bw) := low_b fw.b0 fw.t fw.b
    generalize lowT ts bs = sh at hs4 bsh
    generalize lowT tw bw = wz at hw5 bw0
    have fw5 : FrAt K H5 (.ref rw0) wz := ⟨rw0, rfl, .inl (SqT.of hw5)⟩
    refine ⟨_, rfl, fw5.x0 ⟨_, rfl, _, rfl, fw5.x1 ⟨le_sz rfl, fun rw nrw => ?_⟩⟩⟩
    have bw := abs_b bw0
    have wp : 0 ≤ (absI wz.1, wz.2).1 := abs_0 wz.1
    have kw := kp_new (o := .tup [.int (absI wz.1), .int wz.2]) nrw
    have hw6 : upd H5 rw (.tup [.int (absI wz.1), .int wz.2]) rw = some (.tup (fracV (absI wz.1, wz.2))) := upd_same
    generalize hH6 : upd H5 rw (HO.tup [V.int (if wz.1 < 0 then -wz.1 else wz.1), V.int wz.2]) = H6
    have hH6' : upd H5 rw (.tup [.int (absI wz.1), .int wz.2]) = H6 := hH6
    rw [hH6'] at hw6 kw
    generalize hwd : ((absI wz.1, wz.2) : Int × Int) = wd at hw6 bw wp
    have d6 := d5.kp kw
    have up25 : ∀ b xs, H2 b = some (.tup xs) → H6 b = some (.tup xs) := fun b xs z => kw _ _ (tup_kpB d4 kB5 _ _ (tup_kpB d3 kB4 _ _ (tup_kpB d2 kB3 _ _ z)))
    have up35 : ∀ b xs, H3 b = some (.tup xs) → H6 b = some (.tup xs) := fun b xs z => kw _ _ (tup_kpB d4 kB5 _ _ (tup_kpB d3 kB4 _ _ z))
    have R6 : Raw H6 s r1 u1 v1 r2 u2 v2 rs rw p1 q1 p2 q2 sh wd := ⟨⟨up25 _ _ a1, up25 _ _ a2, up25 _ _ a3⟩, ⟨up35 _ _ c1, up35 _ _ c2, up35 _ _ c3⟩, kw _ _ (tup_kpB d4 kB5 _ _ hs4), hw6⟩
    have eN6 : ExtN H0 H6 := fun b o hb nt => by
      have nb : b ≠ s := ne_of_none hb ns1
      exact kw _ _ (kB5 _ _ nb (kB4 _ _ nb (kB3 _ _ nb (kB2 _ _ nb (kS _ _ hb)))))
    have tT6 : Tabs T H6 := by
      have kk : KpB s H1 H6 := (((kB2.trans kB3).trans kB4).trans kB5).trans (.of kw)
      obtain ⟨v0, d0, c0, S0⟩ := d1
      exact tabs_b (t0.ext kS) S0.at_ kk
    refine ⟨_, rfl, _, rfl, le_sz rfl, fun tt ntt => ⟨tt, rfl, ⟨_, SqT.of upd_same⟩, fun D hD => ?_⟩⟩
    have k7 := kp_new (o := .tup [.ref r1, .ref r2]) ntt
    have R7 := R6.ext (tup_kp k7)
    have d7 := d6.kp k7
    have htt : upd H6 tt (.tup [.ref r1, .ref r2]) tt = some (.tup [.ref r1, .ref r2]) := upd_same
    have eN7 : ExtN H0 (upd H6 tt (.tup [.ref r1, .ref r2])) := eN6.trans (.of k7)
    have tT7 := tT6.ext k7
    generalize upd H6 tt (.tup [.ref r1, .ref r2]) = H7 at hD R7 d7 htt eN7 tT7 ⊢
    have nDs : D ≠ s := fun z => dr_some d7 (by rw [← z]; exact hD)
    have nf : ∀ b o, H0 b = some o → (∀ ps, o ≠ .tbl ps) → b ≠ D := fun b o hb nt => ne_of_none (eN7 _ _ hb nt) hD
    refine lc_tup (K := K) (a := tt) (xs := [.ref r1, .ref r2]) (fun i H' => Raw H' s r1 u1 v1 r2 u2 v2 rs rw p1 q1 p2 q2 sh wd ∧ Dr H' s ∧ H' tt = some (.tup [.ref r1, .ref r2]) ∧ ExtN H0 H' ∧ Tabs T H' ∧
        ((i = 0 ∧ H' D = some (.lst [])) ∨ (i = 1 ∧ ∃ (z0 : V) (e0 : PyData) (m0 n0 : Int), H' D = some (.lst [z0]) ∧ 1 ≤ m0 ∧ m0 ≤ 10 ∧ 1 ≤ n0 ∧ n0 ≤ 10 ∧ Hd H' (fun b => b = s ∨ b = D) z0 e0 (sc p1 m0) (sc q1 n0)) ∨
          (i = 2 ∧ ∃ (z0 z1 : V) (e0 e1 : PyData) (m0 n0 m1 n1 : Int), H' D = some (.lst [z0, z1]) ∧ 1 ≤ m0 ∧ m0 ≤ 10 ∧ 1 ≤ n0 ∧ n0 ≤ 10 ∧ 1 ≤ m1 ∧ m1 ≤ 10 ∧ 1 ≤ n1 ∧ n1 ≤ 10 ∧ Hd H' (fun b => b = s ∨ b = D) z0 e0 (sc p1 m0) (sc q1 n0) ∧ Hd H' (fun b => b = s ∨ b = D) z1 e1 (sc p2 m1) (sc q2 n1))))
      ⟨R7.ext (tup_kp (kp_new hD)), d7.kp (kp_new hD), kp_new hD _ _ htt, eN7.trans (.of (kp_new hD)), tT7.ext (kp_new hD), .inl ⟨rfl, upd_same⟩⟩ (fun i H' _ hP => ?_) (fun i y H' hy hP => ⟨rfl, ?_⟩) fun H' hP => ?_
    · exact SqT.of hP.2.2.1
    · obtain ⟨R, d, ht, eN, tTt, c⟩ := hP
      rcases c with ⟨rfl, hD0⟩ | ⟨rfl, z0, e0, m0, n0, hD0, b1, b2, b3, b4, h0⟩ | ⟨rfl, _⟩
      · cases hy
        refine hand_go (D := D) rfl rfl d hD0 R.f1 cp1 cq1 fun z H4 e m n m1 m2 n1 n2 hz d4 kB => ?_
        have hD4 := kB _ _ nDs hD0
        refine ⟨[], hD4, by decide, (R.ext (tup_kpB d kB)).ext (tup_put hD4), d4.put nDs.symm, ?_, ?_, ?_, .inr (.inl ⟨rfl, z, e, m, n, upd_same, m1, m2, n1, n2, hz.ext fun b o nb hb => ?_⟩)⟩
        · exact tup_put hD4 _ _ (tup_kpB d kB _ _ ht)
        · intro b o hb nt
          rw [upd_ne (nf b o hb nt)]
          exact kB _ _ (ne_of_none hb ns1) (eN b o hb nt)
        · obtain ⟨v0, d0, c0, S0⟩ := d
          exact tabs_b (tabs_b tTt S0.at_ kB) hD4 KpB.put
        · rw [upd_ne (fun q => nb (.inr q))]
          exact hb
      · cases hy
        refine hand_go (D := D) rfl rfl d hD0 R.f2 cp2 cq2 fun z H4 e m n m1 m2 n1 n2 hz d4 kB => ?_
        have hD4 := kB _ _ nDs hD0
        refine ⟨[z0], hD4, Nat.lt_of_lt_of_le (Nat.le_of_ble_eq_true rfl) (le_sz (n := 50) rfl), (R.ext (tup_kpB d kB)).ext (tup_put hD4), d4.put nDs.symm, ?_, ?_, ?_, .inr (.inr ⟨rfl, z0, z, e0, e, m0, n0, m, n, upd_same, b1, b2, b3, b4, m1, m2, n1, n2, (h0.ext (H' := H4) fun b o nb hb => ?_).ext fun b o nb hb => ?_, hz.ext fun b o nb hb => ?_⟩)⟩
        · exact tup_put hD4 _ _ (tup_kpB d kB _ _ ht)
        · intro b o hb nt
          rw [upd_ne (nf b o hb nt)]
          exact kB _ _ (ne_of_none hb ns1) (eN b o hb nt)
        · obtain ⟨v0, d0, c0, S0⟩ := d
          exact tabs_b (tabs_b tTt S0.at_ kB) hD4 KpB.put
        · exact kB _ _ (fun q => nb (.inl q)) hb
        · rw [upd_ne (fun q => nb (.inr q))]
          exact hb
        · rw [upd_ne (fun q => nb (.inr q))]
          exact hb
      · cases hy
    · obtain ⟨R, d, _, eN, tTt, c⟩ := hP
      rcases c with ⟨z, _⟩ | ⟨z, _⟩ | ⟨_, z0, z1, e0, e1, m0, n0, m1, n1, hD2, b1, b2, b3, b4, b5, b6, b7, b8, h0, h1⟩
      · cases z
      · cases z
      have S : Tu T H0 H' (fun b => b = s) s r1 u1 v1 r2 u2 v2 rs rw D p1 q1 p2 q2 sh wd z0 z1 e0 e1 (sc p1 m0) (sc q1 n0) (sc p2 m1) (sc q2 n1) := ⟨eN, ns1, tTt, R, d, hD2, nDs, h0.less fun b _ z => .inl z, h1.less fun b _ z => .inl z⟩
      obtain ⟨x0, y0, l0a, l0b, l0c⟩ := lk_fm S.h0.lk
      obtain ⟨x1, y1, l1a, l1b, l1c⟩ := lk_fm S.h1.lk
      have cP1 := sc_b cp1.b b1 b2
      have cQ1 := sc_b cq1.b b3 b4
      have cP2 := sc_b cp2.b b5 b6
      have cQ2 := sc_b cq2.b b7 b8
      have fm0 : isFmD e0 = true := fm_yes l0a l0b l0c cP1.b0 cQ1.b0
      have fm1 : isFmD e1 = true := fm_yes l1a l1b l1c cP2.b0 cQ2.b0
      have fo1 : isFmD (formD p1 q1) = true := form_yes cp1.b0 cq1.b0
      refine ⟨_, rfl, .inl ⟨D, _, _, _, rfl, rfl, SqL.of hD2, atI_nat (j := 0) rfl, ⟨z0, e0, (fun b => b = s), 4, rfl, S.h0.o, fun HA kA => ?_⟩⟩⟩
      rw [fm0]
      refine ⟨_, rfl, .ref r1, formD p1 q1, (fun b => b = s), 3, rfl, (fm_ob3 d S.raw.f1).kp kA, fun HB kB => ?_⟩
      rw [fo1]
      have S2 := S.kp (kp_tr kA kB)
      refine ⟨_, rfl, .inl ⟨D, _, _, _, rfl, rfl, SqL.of S2.hD, atI_nat (j := 0) rfl, ?_⟩⟩
      show tHandF 6 _ _ _
      refine handF_go (ex := fun b => b = s) rfl rfl S2.dr rfl (fun b hb => ?_) S2.raw.hw bw (fun zw HC ew mw w1 w2 ow lw dC kC => ?_)
      · obtain ⟨_, _, _, S0⟩ := S2.dr
        exact ⟨_, by rw [hb]; exact S0.at_⟩
      have S3 := S2.kpB rfl dC kC
      have lwf := lk_fr lw
      have cW := sc_b bw w1 w2
      have wpm : 0 ≤ (sc wd mw).1 := Int.mul_nonneg wp (by omega)
      refine ⟨z0, zw, e0, (fun b => b = s), 4, rfl, S3.h0.o, .inr ⟨fm0, ew, 4, ow, .inr ⟨wd_yes lwf cW.b0 wpm, sc p1 m0, sc q1 n0, sc wd mw, 25, ob_fm K S3.h0.o l0a l0b l0c, ob_fr K ow lwf, cP1, cQ1, cW, by decide, by decide, fun r3 HD kD n3 g3 => ?_⟩⟩⟩
      have eR : plusT (sc p1 m0) (timesT (sc q1 n0) (sc wd mw)) = plusT p1 (timesT q1 wd) := worth_eq (scale_e cp1.b0 b1) (scale_e cq1.b0 b3) (scale_e bw.b0 w1)
      rw [eR] at g3
      refine ⟨le_sz rfl, fun fl nfl => ?_⟩
      have S4 := S3.kp kD
      have kf := kp_new (o := .lst [.bl true, .bl true, .ref r3]) nfl
      have nsl : s ≠ fl := fun z => dr_some S4.dr (by rw [z]; exact nfl)
      have nDl : D ≠ fl := ne_of_none S4.hD nfl
      have nl0 : ∀ b o, H0 b = some o → (∀ ps, o ≠ .tbl ps) → b ≠ fl := fun b o hb nt => ne_of_none (S4.eN b o hb nt) nfl
      have S5 := (S4.less (ex' := fun b => b = s ∨ b = fl) fun b hb z => z.elim id fun q => absurd (by rw [q]; exact nfl) hb).kp kf
      have hf5 : upd HD fl (.lst [.bl true, .bl true, .ref r3]) fl = some (.lst [.bl true, .bl true, .ref r3]) := upd_same
      have g35 := kf _ _ g3
      generalize upd HD fl (.lst [.bl true, .bl true, .ref r3]) = HE at S5 hf5 g35 ⊢
      refine ⟨_, rfl, .inl ⟨rfl, _, SqL.of hf5⟩, ?_⟩
      refine ⟨_, rfl, .inl ⟨D, _, _, _, rfl, rfl, SqL.of S5.hD, atI_nat (j := 0) rfl, ⟨_, rfl, .inl ⟨D, _, _, _, rfl, rfl, SqL.of S5.hD, atI_nat (j := 1) rfl, ⟨z0, z1, e0, _, 4, rfl, S5.h0.o, .inr ⟨fm0, e1, 4, S5.h1.o,
        .inr ⟨fm1, sc p1 m0, sc q1 n0, sc p2 m1, sc q2 n1, 25, ob_fm K S5.h0.o l0a l0b l0c, ob_fm K S5.h1.o l1a l1b l1c, cP1, cQ1, cP2, cQ2, by decide, by decide, fun r4 aa4 bb4 HF kF' n4 f4r f4a f4b => ?_⟩⟩⟩⟩⟩⟩⟩
      have eA4 : plusT (sc p1 m0) (sc p2 m1) = plusT p1 p2 := plus_eq (scale_e cp1.b0 b1) (scale_e cp2.b0 b5)
      have eB4 : plusT (sc q1 n0) (sc q2 n1) = plusT q1 q2 := plus_eq (scale_e cq1.b0 b3) (scale_e cq2.b0 b7)
      rw [eA4] at f4a
      rw [eB4] at f4b
      have hfF := kF' _ _ hf5
      refine ⟨fl, _, _, rfl, rfl, hfF, Nat.lt_of_lt_of_le (Nat.le_of_ble_eq_true rfl) (le_sz (n := 50) rfl), ?_⟩
      have S6 := (S5.kp kF').put (zs := [.bl true, .bl true, .ref r3] ++ [.ref r4]) hfF (.inr rfl) nsl nDl nl0
      have hf6 : upd HF fl (.lst ([.bl true, .bl true, .ref r3] ++ [.ref r4])) fl = some (.lst ([.bl true, .bl true, .ref r3] ++ [.ref r4])) := upd_same
      have u6 : ∀ b xs, HF b = some (.tup xs) → upd HF fl (.lst ([.bl true, .bl true, .ref r3] ++ [.ref r4])) b = some (.tup xs) := tup_put hfF
      generalize upd HF fl (.lst ([.bl true, .bl true, .ref r3] ++ [.ref r4])) = HG at S6 hf6 u6 ⊢
      have g36 := u6 _ _ (kF' _ _ g35)
      have F46 : FmRaw HG r4 aa4 bb4 (plusT p1 p2) (plusT q1 q2) := ⟨u6 _ _ f4r, u6 _ _ f4a, u6 _ _ f4b⟩
      refine ⟨_, rfl, .inl ⟨rfl, _, SqL.of hf6⟩, ?_⟩
      refine ⟨_, rfl, .inl ⟨D, _, _, _, rfl, rfl, SqL.of S6.hD, atI_nat (j := 1) rfl, ?_⟩⟩
      show tHandF 5 _ _ _
      refine handF_go (ex := fun b => b = s ∨ b = fl) rfl rfl S6.dr (.inl rfl) (fun b hb => ?_) S6.raw.hs bsh (fun zs HI es ms s1 s2 os ls dI kI => ?_)
      · rcases hb with hb | hb
        · obtain ⟨_, _, _, S0⟩ := S6.dr
          exact ⟨_, by rw [hb]; exact S0.at_⟩
        · exact ⟨_, by rw [hb]; exact hf6⟩
      have S7 := S6.kpB (.inl rfl) dI kI
      have hf7 := kI _ _ nsl.symm hf6
      have lsf := lk_fr ls
      have cS := sc_b bsh s1 s2
      refine ⟨z1, zs, e1, _, 4, rfl, S7.h1.o, .inr ⟨fm1, es, 4, os, .inr ⟨fr_yes lsf cS.b0, sc p2 m1, sc q2 n1, sc sh ms, 25, ob_fm K S7.h1.o l1a l1b l1c, ob_fr K os lsf, cP2, cQ2, cS, by decide, by decide, fun r5 aa5 bb5 HJ kJ n5 f5r f5a f5b => ?_⟩⟩⟩
      have eA5 : timesT (sc p2 m1) (sc sh ms) = timesT p2 sh := times_eq (scale_e cp2.b0 b5) (scale_e bsh.b0 s1)
      have eB5 : timesT (sc q2 n1) (sc sh ms) = timesT q2 sh := times_eq (scale_e cq2.b0 b7) (scale_e bsh.b0 s1)
      rw [eA5] at f5a
      rw [eB5] at f5b
      have hfJ := kJ _ _ hf7
      refine ⟨fl, _, _, rfl, rfl, hfJ, Nat.lt_of_lt_of_le (Nat.le_of_ble_eq_true rfl) (le_sz (n := 50) rfl), ?_⟩
      have S8 := (S7.kp kJ).put (zs := ([.bl true, .bl true, .ref r3] ++ [.ref r4]) ++ [.ref r5]) hfJ (.inr rfl) nsl nDl nl0
      have hf8 : upd HJ fl (.lst (([.bl true, .bl true, .ref r3] ++ [.ref r4]) ++ [.ref r5])) fl = some (.lst [.bl true, .bl true, .ref r3, .ref r4, .ref r5]) := upd_same
      have u8 : ∀ b xs, HJ b = some (.tup xs) → upd HJ fl (.lst (([.bl true, .bl true, .ref r3] ++ [.ref r4]) ++ [.ref r5])) b = some (.tup xs) := tup_put hfJ
      generalize upd HJ fl (.lst (([.bl true, .bl true, .ref r3] ++ [.ref r4]) ++ [.ref r5])) = HK at S8 hf8 u8 ⊢
      have t8 : ∀ b xs, HG b = some (.tup xs) → HK b = some (.tup xs) := fun b xs z => u8 _ _ (kJ _ _ (tup_kpB S6.dr kI _ _ z))
      have g38 := t8 _ _ g36
      have F48 : FmRaw HK r4 aa4 bb4 (plusT p1 p2) (plusT q1 q2) := ⟨t8 _ _ F46.h, t8 _ _ F46.hu, t8 _ _ F46.hv⟩
      have F58 : FmRaw HK r5 aa5 bb5 (timesT p2 sh) (timesT q2 sh) := ⟨u8 _ _ f5r, u8 _ _ f5a, u8 _ _ f5b⟩
      refine ⟨_, rfl, _, rfl, .ref r1, .ref rw, p1, q1, wd, 21, rfl, S8.raw.f1.at_, ⟨rw, rfl, .inl (SqT.of S8.raw.hw)⟩, cp1.b, cq1.b, bw, by decide, by decide, fun r7 HL kL n7 g7 => ?_⟩
      have S9 := S8.kp kL
      refine ⟨_, rfl, S9.raw.f1.at_.x0 fun u hu => ⟨_, rfl, S9.raw.f2.at_.x0 fun v hv => ⟨u, v, p1, p2, 21, rfl, hu, hv, cp1.b, cp2.b, by decide, by decide, fun a8 n8 => ?_⟩⟩⟩
      have k8 := kp_new (o := .tup (fracV (plusT p1 p2))) n8
      have S10 := S9.kp k8
      refine ⟨_, rfl, S10.raw.f1.at_.x1 fun u hu => ⟨_, rfl, S10.raw.f2.at_.x1 fun v hv => ⟨u, v, q1, q2, 21, rfl, hu, hv, cq1.b, cq2.b, by decide, by decide, fun b8 n9 => ?_⟩⟩⟩
      have k9 := kp_new (o := .tup (fracV (plusT q1 q2))) n9
      refine ⟨le_sz rfl, fun r8 n10 => ⟨le_sz rfl, fun dl n11 => ?_⟩⟩
      have k10 := kp_new (o := .tup [.ref a8, .ref b8]) n10
      have k11 := kp_new (o := .lst [.bl true, .bl true, .ref r7, .ref r8]) n11
      have S11 := ((S10.kp k9).kp k10).kp k11
      have g711 := k11 _ _ (k10 _ _ (k9 _ _ (k8 _ _ g7)))
      have F811 : FmRaw (upd (upd (upd (upd HL a8 (.tup (fracV (plusT p1 p2)))) b8 (.tup (fracV (plusT q1 q2)))) r8 (.tup [.ref a8, .ref b8])) dl (.lst [.bl true, .bl true, .ref r7, .ref r8])) r8 a8 b8 (plusT p1 p2) (plusT q1 q2) :=
        ⟨k11 _ _ upd_same, k11 _ _ (k10 _ _ (k9 _ _ upd_same)), k11 _ _ (k10 _ _ upd_same)⟩
      have hdl : upd (upd (upd (upd HL a8 (.tup (fracV (plusT p1 p2)))) b8 (.tup (fracV (plusT q1 q2)))) r8 (.tup [.ref a8, .ref b8])) dl (.lst [.bl true, .bl true, .ref r7, .ref r8]) dl = some (.lst [.bl true, .bl true, .ref r7, .ref r8]) := upd_same
      have kM : Kp HK (upd (upd (upd (upd HL a8 (.tup (fracV (plusT p1 p2)))) b8 (.tup (fracV (plusT q1 q2)))) r8 (.tup [.ref a8, .ref b8])) dl (.lst [.bl true, .bl true, .ref r7, .ref r8])) := kp_tr kL (kp_tr k8 (kp_tr k9 (kp_tr k10 k11)))
      generalize upd (upd (upd (upd HL a8 (.tup (fracV (plusT p1 p2)))) b8 (.tup (fracV (plusT q1 q2)))) r8 (.tup [.ref a8, .ref b8])) dl (.lst [.bl true, .bl true, .ref r7, .ref r8]) = HM at S11 g711 F811 hdl kM ⊢
      have frs : FrAt K HM (.ref rs) sh := ⟨rs, rfl, .inl (SqT.of S11.raw.hs)⟩
      refine ⟨_, rfl, _, rfl, _, rfl, S11.raw.f2.at_.x0 fun u hu => ⟨_, rfl, ⟨u, .ref rs, p2, sh, 21, rfl, hu, frs, cp2.b, bsh, by decide, by decide, fun a12 n12 => ?_⟩⟩⟩
      have k12 := kp_new (o := .tup (fracV (timesT p2 sh))) n12
      refine ⟨_, rfl, (S11.kp k12).raw.f2.at_.x1 fun v hv => ⟨_, rfl, ⟨v, .ref rs, q2, sh, 21, rfl, hv, frs.kp k12, cq2.b, bsh, by decide, by decide, fun b12 n13 => ?_⟩⟩⟩
      have k13 := kp_new (o := .tup (fracV (timesT q2 sh))) n13
      refine ⟨le_sz rfl, fun r12 n14 => ⟨le_sz rfl, fun l13 n15 => ?_⟩⟩
      have k14 := kp_new (o := .tup [.ref a12, .ref b12]) n14
      have k15 := kp_new (o := .lst [.ref r12]) n15
      have kN := kp_tr k12 (kp_tr k13 (kp_tr k14 k15))
      refine ⟨dl, l13, _, _, rfl, rfl, kN _ _ hdl, upd_same, le_sz rfl, fun gl n16 => ?_⟩
      have k16 := kp_new (o := .lst ([.bl true, .bl true, .ref r7, .ref r8] ++ [.ref r12])) n16
      have kO := kp_tr kN k16
      have kP := kp_tr kM kO
      have S12 := S11.kp kO
      have F12 : FmRaw (upd (upd (upd (upd (upd HM a12 (.tup (fracV (timesT p2 sh)))) b12 (.tup (fracV (timesT q2 sh)))) r12 (.tup [.ref a12, .ref b12])) l13 (.lst [.ref r12])) gl (.lst ([.bl true, .bl true, .ref r7, .ref r8] ++ [.ref r12]))) r12 a12 b12 (timesT p2 sh) (timesT q2 sh) :=
        ⟨k16 _ _ (k15 _ _ upd_same), k16 _ _ (k15 _ _ (k14 _ _ (k13 _ _ upd_same))), k16 _ _ (k15 _ _ (k14 _ _ upd_same))⟩
      have hgl : upd (upd (upd (upd (upd HM a12 (.tup (fracV (timesT p2 sh)))) b12 (.tup (fracV (timesT q2 sh)))) r12 (.tup [.ref a12, .ref b12])) l13 (.lst [.ref r12])) gl (.lst ([.bl true, .bl true, .ref r7, .ref r8] ++ [.ref r12])) gl = some (.lst [.bl true, .bl true, .ref r7, .ref r8, .ref r12]) := upd_same
      have ngl : gl ≠ s := fun z => dr_some (S11.kp kN).dr (by rw [← z]; exact n16)
      generalize upd (upd (upd (upd (upd HM a12 (.tup (fracV (timesT p2 sh)))) b12 (.tup (fracV (timesT q2 sh)))) r12 (.tup [.ref a12, .ref b12])) l13 (.lst [.ref r12])) gl (.lst ([.bl true, .bl true, .ref r7, .ref r8] ++ [.ref r12])) = HN at S12 F12 hgl kO kP ⊢
      have sm : Sm K HN 4 (.ref fl) (.ref gl) := Ob.sm (found_ob S12.dr (kP _ _ hf8) nsl.symm (kP _ _ g38) (F48.kp kP) (F58.kp kP)) (found_ob S12.dr hgl ngl (kO _ _ g711) (F811.kp kO) F12)
      refine ⟨.ref fl, .ref gl, rfl, sm, fun HO kQ' => ⟨_, rfl, iteF rfl ?_⟩⟩
      have S13 := S12.kp kQ'
      have cAt : FrB 64 (plusT p1 (timesT q1 wd)) := plus_b cp1.b (times_b cq1.b bw)
      have cAt2 : FrB 64 (plusT p2 (timesT q2 wd)) := plus_b cp2.b (times_b cq2.b bw)
      refine ⟨_, rfl, _, rfl, .ref r1, .ref rw, p1, q1, wd, 21, rfl, S13.raw.f1.at_, ⟨rw, rfl, .inl (SqT.of S13.raw.hw)⟩, cp1.b, cq1.b, bw, by decide, by decide, fun r20 HP kR n20 g20 => ?_⟩
      have S14 := S13.kp kR
      refine ⟨_, rfl, _, rfl, .ref r2, .ref rw, p2, q2, wd, 21, rfl, S14.raw.f2.at_, ⟨rw, rfl, .inl (SqT.of S14.raw.hw)⟩, cp2.b, cq2.b, bw, by decide, by decide, fun r21 HQ kS' n21 g21 => ?_⟩
      have S15 := S14.kp kS'
      refine ⟨.ref r20, .ref r21, _, _, 64, rfl, ⟨r20, rfl, .inl (SqT.of (kS' _ _ g20))⟩, ⟨r21, rfl, .inl (SqT.of g21)⟩, cAt, cAt2, by decide, by decide, fun r22 n22 => ?_⟩
      have k22 := kp_new (o := .tup (fracV (plusT (plusT p1 (timesT q1 wd)) (plusT p2 (timesT q2 wd))))) n22
      have S16 := S15.kp k22
      have g22 : upd HQ r22 (.tup (fracV (plusT (plusT p1 (timesT q1 wd)) (plusT p2 (timesT q2 wd))))) r22 = some (.tup (fracV (plusT (plusT p1 (timesT q1 wd)) (plusT p2 (timesT q2 wd))))) := upd_same
      generalize upd HQ r22 (.tup (fracV (plusT (plusT p1 (timesT q1 wd)) (plusT p2 (timesT q2 wd))))) = HR at S16 g22 ⊢
      have fo2 : isFmD (formD p2 q2) = true := form_yes cp2.b0 cq2.b0
      have cS1 := plus_b cp1.b cp2.b
      have cS2 := plus_b cq1.b cq2.b
      refine ⟨_, rfl, _, rfl, .ref r1, .ref r2, formD p1 q1, (fun b => b = s), 3, rfl, fm_ob3 S16.dr S16.raw.f1, .inr ⟨fo1, formD p2 q2, 3, fm_ob3 S16.dr S16.raw.f2, .inr ⟨fo2, p1, q1, p2, q2, 21, S16.raw.f1.at_, S16.raw.f2.at_, cp1.b, cq1.b, cp2.b, cq2.b, by decide, by decide, fun r23 a23 b23 HS kT' n23 h23 h23a h23b => ?_⟩⟩⟩
      have S17 := S16.kp kT'
      have F23 : FmRaw HS r23 a23 b23 (plusT p1 p2) (plusT q1 q2) := ⟨h23, h23a, h23b⟩
      have fo3 : isFmD (formD (plusT p1 p2) (plusT q1 q2)) = true := form_yes cS1.b0 cS2.b0
      have wo3 : isWdD (fracD wd) = true := wd_yes rfl bw.b0 wp
      refine ⟨_, rfl, .ref r23, .ref rw, formD (plusT p1 p2) (plusT q1 q2), (fun b => b = s), 3, rfl, fm_ob3 S17.dr F23, .inr ⟨fo3, fracD wd, 2, ob_frac 0 S17.raw.hw (dr_ntup S17.dr S17.raw.hw), .inr ⟨wo3, plusT p1 p2, plusT q1 q2, wd, 43, F23.at_, ⟨rw, rfl, .inl (SqT.of S17.raw.hw)⟩, cS1, cS2, bw.mono (by decide), by decide, by decide, fun r24 HT kU n24 g24 => ?_⟩⟩⟩
      rw [both_eq cp1.b0 cq1.b0 cp2.b0 cq2.b0 bw.b0] at g24
      have S18 := S17.kp kU
      refine ⟨_, rfl, .ref r24, .ref r22, rfl, frac_sm S18.dr g24 (kU _ _ (kT' _ _ g22)), fun HU kV => ⟨_, rfl, iteF rfl ?_⟩⟩
      have S19 := S18.kp kV
      refine ⟨_, rfl, _, _, rfl, rfl, ⟨_, rfl, iteB (fun hb => ?_) fun hb => iteF rfl ⟨_, _, _, _, _, _, _, _, _, _, _, rfl, eZ.trans S19.eN, S19.tT⟩⟩⟩
      refine ⟨_, rfl, _, rfl, s, r1, u1, v1, p1, q1, rfl, S19.dr, S19.raw.f1, cp1.b0, cq1.b0, S19.tT, fun H9 e9 d9 t9 => ⟨_, rfl, iteF rfl ?_⟩⟩
      exact ⟨_, _, _, _, _, _, _, _, _, _, _, rfl, eZ.trans fun b o hb nt => e9 b o (ne_of_none hb ns1) (S19.eN b o hb nt) nt, t9⟩
end
end LW
namespace K00
open PySem PySem.W
/-! ### looks at a part of the written heap hold of the whole of it -/
def Le (K K' : Frag) : Prop := ∀ a o, K.lookup a = some o → K'.lookup a = some o
section
variable {K K' : Frag} {x : Str}
theorem nsIn_le (l : Le K K') {a : Addr} {r : Option Value} (h : nsIn K a x = some r) : nsIn K' a x = some r := by
  unfold nsIn at h ⊢
  cases q : K.lookup a with
  | none =>
    rw [q] at h
    cases h
  | some o =>
    rw [l _ _ q]
    rw [q] at h
    exact h
theorem ownIn_le (l : Le K K') {v : Value} {r : Option Value} (h : ownIn K x v = some r) : ownIn K' x v = some r := by
  cases v with
  | ref a =>
    unfold ownIn at h ⊢
    dsimp only at h ⊢
    cases q : K.lookup a with
    | none =>
      rw [q] at h
      cases h
    | some o =>
      obtain ⟨oc, od, dt, sl⟩ := o
      rw [l _ _ q]
      rw [q] at h
      cases dt with
      | cls cd => exact nsIn_le l h
      | _ => cases h
  | _ => exact h
theorem alongIn_le (l : Le K K') : ∀ {vs : List Value} {r : Option Value}, alongIn K x vs = some r → alongIn K' x vs = some r
  | [], r, h => h
  | c :: vs, r, h => by
    unfold alongIn at h ⊢
    cases q : ownIn K x c with
    | none =>
      rw [q] at h
      cases h
    | some o =>
      rw [ownIn_le l q]
      rw [q] at h
      cases o with
      | none => exact alongIn_le l h
      | some v => exact h
theorem findIn_le (l : Le K K') {v : Value} {r : Option Value} (h : findIn K v x = some r) : findIn K' v x = some r := by
  cases v with
  | ref a =>
    unfold findIn at h ⊢
    dsimp only at h ⊢
    cases q : K.lookup a with
    | none =>
      rw [q] at h
      cases h
    | some o =>
      obtain ⟨oc, od, dt, sl⟩ := o
      rw [l _ _ q]
      rw [q] at h
      cases dt with
      | cls cd => exact alongIn_le l h
      | _ => cases h
  | _ => exact h
theorem typeIn_le (l : Le K K') {v t : Value} (h : typeIn K v = some t) : typeIn K' v = some t := by
  cases v with
  | ref a =>
    obtain ⟨o, h1, h2⟩ := Option.map_eq_some_iff.mp (show (K.lookup a).map (·.cls) = some t from h)
    show (K'.lookup a).map (·.cls) = some t
    rw [l _ _ h1, ← h2]
    rfl
  | _ => exact h
theorem specialIn_le (l : Le K K') {v : Value} {r : Option Value} (h : specialIn K v x = some r) : specialIn K' v x = some r := by
  obtain ⟨t, h1, h2⟩ := Option.bind_eq_some_iff.mp h
  exact Option.bind_eq_some_iff.mpr ⟨t, typeIn_le l h1, findIn_le l h2⟩
theorem takesIn_le (l : Le K K') {a : Value} {r : Bool} (h : takesIn K a = some r) : takesIn K' a = some r := by
  unfold takesIn at h ⊢
  cases q : specialIn K a "__set__" with
  | none =>
    rw [q] at h
    cases h
  | some o =>
    rw [specialIn_le l q]
    rw [q] at h
    cases o with
    | some v => exact h
    | none =>
      obtain ⟨y, h1, h2⟩ := Option.map_eq_some_iff.mp h
      exact Option.map_eq_some_iff.mpr ⟨y, specialIn_le l h1, h2⟩
theorem clsIn_le (l : Le K K') {C : Addr} {cd : ClassData} (h : clsIn K C = some cd) : clsIn K' C = some cd := by
  unfold clsIn at h ⊢
  cases q : K.lookup C with
  | none =>
    rw [q] at h
    cases h
  | some o =>
    rw [l _ _ q]
    rw [q] at h
    exact h
theorem mroIn_le (l : Le K K') {C : Addr} {b : Value} {r : Bool} (h : mroIn K C b = some r) : mroIn K' C b = some r := by
  obtain ⟨t, h1, h2⟩ := Option.bind_eq_some_iff.mp h
  exact Option.bind_eq_some_iff.mpr ⟨t, clsIn_le l h1, h2⟩
theorem subIn_le (l : Le K K') {t b : Value} {r : Bool} (h : subIn K t b = some r) : subIn K' t b = some r := by
  cases t with
  | ref C => exact mroIn_le l h
  | _ => exact h
theorem isCls_le (l : Le K K') {C : Addr} (h : (clsIn K C).isSome = true) : (clsIn K' C).isSome = true := by
  obtain ⟨cd, h1⟩ := Option.isSome_iff_exists.mp h
  rw [clsIn_le l h1]
  rfl
theorem hasDictIn_le (l : Le K K') {C : Addr} (h : hasDictIn K C = true) : hasDictIn K' C = true := by
  unfold hasDictIn at h ⊢
  cases q : clsIn K C with
  | none =>
    rw [q] at h
    cases h
  | some cd =>
    rw [clsIn_le l q]
    rw [q] at h
    exact h
theorem kitCls_le (l : Le K K') {t c : Value} {r : Bool} (h : kitCls K t c = some r) : kitCls K' t c = some r := by
  unfold kitCls at h ⊢
  cases c with
  | ref C =>
    dsimp only at h ⊢
    by_cases q : ((clsIn K C).isSome && typeIn K (.ref C) == some (.type "type")) = true
    · rw [if_pos q] at h
      obtain ⟨q1, q2⟩ := Bool.and_eq_true_iff.mp q
      have e1 := isCls_le l q1
      have e2 := typeIn_le l (beq_iff_eq.mp q2)
      rw [if_pos (by rw [e1, e2]; rfl)]
      exact subIn_le l h
    · rw [if_neg q] at h
      cases h
  | type T =>
    dsimp only at h ⊢
    by_cases q : kitMeta T = true
    · rw [if_pos q] at h ⊢
      exact subIn_le l h
    · rw [if_neg q] at h
      cases h
  | _ => exact h
theorem kitOne_le (l : Le K K') {t c : Value} {r : Bool} (h : kitOne K t c = some r) : kitOne K' t c = some r := by
  unfold kitOne at h ⊢
  by_cases q : (t == c) = true
  · rw [if_pos q] at h ⊢
    exact h
  · rw [if_neg q] at h ⊢
    exact kitCls_le l h
theorem keepIn_le (l : Le K K') {f : Value} (h : keepIn K f = true) : keepIn K' f = true := by
  cases f with
  | ref a =>
    unfold keepIn at h ⊢
    dsimp only at h ⊢
    cases q : K.lookup a with
    | none =>
      rw [q] at h
      cases h
    | some o =>
      obtain ⟨oc, od, dt, sl⟩ := o
      rw [l _ _ q]
      rw [q] at h
      cases dt with
      | func fd => rfl
      | cls cd =>
        have z := beq_iff_eq.mp (show (specialIn K (.ref a) "__call__" == some (some (.builtin "type.__call__"))) = true from h)
        show (specialIn K' (.ref a) "__call__" == some (some (.builtin "type.__call__"))) = true
        rw [specialIn_le l z]
        exact beq_self_eq_true _
      | _ => cases h
  | _ => exact h
theorem codeIn_le (l : Le K K') {cd : Value} {q : Str} (h : codeIn K cd q = true) : codeIn K' cd q = true := by
  cases cd with
  | ref c =>
    unfold codeIn at h ⊢
    dsimp only at h ⊢
    cases e : K.lookup c with
    | none =>
      rw [e] at h
      cases h
    | some o =>
      rw [l _ _ e]
      rw [e] at h
      exact h
  | _ => exact h
theorem codeHdIn_le (l : Le K K') {c P : Addr} (h : codeHdIn K c P = true) : codeHdIn K' c P = true := by
  unfold codeHdIn at h ⊢
  cases e : K.lookup c with
  | none =>
    rw [e] at h
    cases h
  | some o =>
    rw [l _ _ e]
    rw [e] at h
    exact h
theorem readsIn_le (l : Le K K') {C : Addr} {mc : Value} (h : readsIn K C mc = true) : readsIn K' C mc = true := by
  simp only [readsIn, Bool.and_eq_true, beq_iff_eq] at h ⊢
  obtain ⟨⟨⟨⟨a, b⟩, c⟩, d⟩, e⟩ := h
  refine ⟨⟨⟨⟨nsIn_le l a, typeIn_le l b⟩, findIn_le l c⟩, ?_⟩, subIn_le l e⟩
  by_cases q : onTheHeap mc = true
  · rw [if_pos q] at d ⊢
    obtain ⟨z, h1⟩ := Option.isSome_iff_exists.mp d
    rw [findIn_le l h1]
    rfl
  · rw [if_neg q]
    rfl
end
theorem frT_le {g : Addr → Option Obj} {as bs : List Addr} (h : ∀ a ∈ as, a ∈ bs) : Le (He.frT g as) (He.frT g bs) := by
  have memG : ∀ {a : Addr} {o : Obj}, g a = some o → ∀ {l : List Addr}, a ∈ l → (He.frG g l).lookup a = some o := by
    intro a o e l
    induction l with
    | nil =>
      intro z
      cases z
    | cons b r ih =>
      intro z
      unfold He.frG
      cases hb : g b with
      | none =>
        rw [List.filterMap_cons, hb]
        have nb : a ≠ b := fun q => by
          rw [q, hb] at e
          cases e
        exact ih ((List.mem_cons.mp z).resolve_left nb)
      | some ob =>
        rw [List.filterMap_cons, hb]
        show (match a == b with | true => some ob | false => (He.frG g r).lookup a) = some o
        cases q : (a == b) with
        | true =>
          have q2 : a = b := beq_iff_eq.mp q
          rw [q2, hb] at e
          exact e
        | false =>
          have nb : a ≠ b := fun z2 => by
            rw [z2, beq_self_eq_true] at q
            cases q
          exact ih ((List.mem_cons.mp z).resolve_left nb)
  have asG : ∀ {a : Addr} {o : Obj} {l : List Addr}, (He.frT g l).lookup a = some o → a ∈ l := by
    intro a o l e
    have m := He.lookup_mem e
    obtain ⟨m1, _⟩ := List.mem_filter.mp m
    unfold He.frG at m1
    obtain ⟨b, hb, e2⟩ := List.mem_filterMap.mp m1
    cases q : g b with
    | none =>
      rw [q] at e2
      cases e2
    | some u =>
      rw [q] at e2
      have e3 : (b, u) = (a, o) := Option.some.inj e2
      injection e3 with e4 _
      rw [← e4]
      exact hb
  have filt : ∀ {a : Addr} {o : Obj}, He.emptyTab o = false → ∀ {l : List (Addr × Obj)}, l.lookup a = some o → (∀ q ∈ l, q.1 = a → q.2 = o) → (l.filter fun q => !He.emptyTab q.2).lookup a = some o := by
    intro a o ht l
    induction l with
    | nil =>
      intro z _
      cases z
    | cons p r ih =>
      intro z hu
      obtain ⟨b, u⟩ := p
      have z2 : (match a == b with | true => some u | false => r.lookup a) = some o := z
      cases q : (a == b) with
      | true =>
        rw [q] at z2
        have e : u = o := Option.some.inj z2
        rw [List.filter_cons, if_pos (by rw [e]; simp [ht])]
        show (match a == b with | true => some u | false => _) = some o
        rw [q, e]
      | false =>
        rw [q] at z2
        have ih2 := ih z2 fun p hp => hu p (List.mem_cons_of_mem _ hp)
        rw [List.filter_cons]
        by_cases c : (!He.emptyTab u) = true
        · rw [if_pos c]
          show (match a == b with | true => some u | false => _) = some o
          rw [q]
          exact ih2
        · rw [if_neg c]
          exact ih2
  intro a o e
  obtain ⟨h1, h2⟩ := He.frT_mem e
  refine filt h2 (memG h1 (h a (asG e))) fun p hp ep => ?_
  obtain ⟨b, u⟩ := p
  have z := He.frG_mem hp
  have z2 : g b = some o := by
    rw [show b = a from ep]
    exact h1
  rw [z2] at z
  exact (Option.some.inj z).symm
end K00
namespace LW
open PySem PySem.Spec PyProof.Rows L2 K00
/-- an error: its place in the text, its name, what it keeps -/
abbrev Er : Type := Nat × Str × List Str
def ersA : List Er := [(3, "BadWidth", ["width"]),
  (15, "BadForm", ["thing"])]
def ersB : List Er := [(16, "BadFraction", ["thing"])]
def ers : List Er := ersA ++ ersB
abbrev sIni (i : Nat) : Stmt := inClass (top i) 0
def loose0 : List PySem.Str := [Str.ofString "PageError", Str.ofString "BadWidth", Str.ofString "BadForm", Str.ofString "BadFraction", Str.ofString "is_list", Str.ofString "is_integer", Str.ofString "is_whole", Str.ofString "is_width", Str.ofString "is_fraction", Str.ofString "lowest", Str.ofString "plus", Str.ofString "times", Str.ofString "is_form", Str.ofString "check_form"]
def loose1 : List PySem.Str := [Str.ofString "form_worth", Str.ofString "worth_at", Str.ofString "form_sum", Str.ofString "form_times", Str.ofString "_law_source", Str.ofString "_law_draw", Str.ofString "_law_pick", Str.ofString "_law_same", Str.ofString "_law_lowest", Str.ofString "_law_plus", Str.ofString "_law_times", Str.ofString "_law_at", Str.ofString "_law_loose", Str.ofString "_law_wide"]
def loose2 : List PySem.Str := [Str.ofString "_law_some_fraction", Str.ofString "_law_some_form", Str.ofString "_law_odd_fractions", Str.ofString "_law_odd_forms", Str.ofString "_law_met", Str.ofString "_law_refused_right"]
def loose : List PySem.Str := loose0 ++ loose1 ++ loose2
/-! ### the law's own defs: places and names -/
abbrev Df : Type := Nat × Str
def dfs : List Df := [(5, "is_list"), (6, "is_integer"), (7, "is_whole"), (8, "is_width"), (10, "is_fraction"), (11, "lowest"), (12, "plus"), (13, "times"), (18, "is_form"), (19, "check_form"), (20, "form_worth"), (21, "worth_at"), (22, "form_sum"), (23, "form_times"), (25, "_law_source"), (26, "_law_draw"), (27, "_law_pick"), (28, "_law_same"), (29, "_law_lowest"), (30, "_law_plus"), (31, "_law_times"), (32, "_law_at"), (33, "_law_loose"), (34, "_law_wide"), (35, "_law_some_fraction"), (36, "_law_some_form"), (37, "_law_odd_fractions"), (38, "_law_odd_forms"), (39, "_law_met"), (40, "_law_refused_right"), (41, "law")]
def tabN : List Str := ["_law_refused_right"]
def freeN : List Str := ["len", "range", "min", "isinstance", "int", "bool", "list", "tuple", "abs", "sum", "zip", "all"]
/-! ### looks into the heap behind the top, by a small part of it each -/
def gA (g : Addr → Option Obj) (x : Str) : Addr := He.ga (He.frT g [mainGlobals]) x
def nsA (g : Addr → Option Obj) (C : Addr) : Addr := match g C with
  | some ⟨_, _, .cls cd, _⟩ => cd.ns
  | _ => 0
def niA (g : Addr → Option Obj) (N : Addr) (x : Str) : Addr := match PySem.W.nsIn (He.frT g [N]) N x with
  | some (some (.ref a)) => a
  | _ => 0
def cdA (g : Addr → Option Obj) (f : Addr) : Addr := match g f with
  | some ⟨_, _, .func fd, _⟩ => (match fd.code with
    | .ref c => c
    | _ => 0)
  | _ => 0
def tbA (g : Addr → Option Obj) (c : Addr) : Addr := He.tabOf (He.frT g [c]) c
/-- the def at f as the text has it -/
def fnV (K : PySem.W.Frag) (f : Addr) : He.FnW := match K.lookup f with
  | some ⟨_, _, .func fd, _⟩ => some (fd.name, fd.qualname, fd.params, fd.body, fd.scope, fd.globals, fd.closure, fd.builtins)
  | _ => none
def fnB (K : PySem.W.Frag) (f c : Addr) (q : Str) : Bool := PySem.W.keepIn K (.ref f) && (match K.lookup f with
  | some ⟨_, _, .func fd, _⟩ => (match fd.code with
    | .ref c' => decide (c' = c)
    | _ => false) && (PySem.W.codeIn K (.ref c) q && (match fd.defaults with
    | .none => true
    | _ => false))
  | _ => false)
abbrev ptail (C CP : Addr) : List Value := [.ref C, .ref CP, .type "ValueError", .type "Exception", .type "BaseException", .type "object"]
def clsB (K : PySem.W.Frag) (CP C : Addr) : Bool := match K.lookup C with
  | some ⟨.type t, _, .cls cd, sl⟩ => decide (t = "type") && (decide (cd.mro = ptail C CP) && (cd.hasDict && (!cd.hasDel && (match sl.toList with
    | [_, _, _, _, some (.builtin n), _] => decide (n = "ValueError.__new__")
    | _ => false))))
  | _ => false
def errB (K : PySem.W.Frag) (CP C f : Addr) (fs : List Str) : Bool := clsB K CP C &&
  (He.eqO (PySem.W.findIn K (.ref C) "__setattr__") (some (some (.builtin "object.__setattr__"))) &&
  (He.eqO (PySem.W.findIn K (.ref C) "__getattribute__") (some (some (.builtin "BaseException.__getattribute__"))) &&
  (He.eqO (PySem.W.findIn K (.ref C) "__getattr__") (some none) &&
  (He.eqO (PySem.W.findIn K (.ref C) "__init__") (some (some (.ref f))) &&
  (decide (PySem.W.typeIn K (.ref f) = some (.type "function")) &&
  (PySem.W.keepIn K (.ref C) &&
  (He.eqO (PySem.W.findIn K (.ref C) "__class__") (some (some (.builtin "object.__class__"))) &&
  fs.all fun x => He.eqO (PySem.W.findIn K (.ref C) x) (some none))))))))
/-- an error's class: its look -/
def errAs (g : Addr → Option Obj) (CP NP : Addr) (c : Er) : List Addr :=
  [gA g c.2.1, CP, nsA g (gA g c.2.1), NP, niA g (nsA g (gA g c.2.1)) "__init__", cdA g (niA g (nsA g (gA g c.2.1)) "__init__")]
def errL (g : Addr → Option Obj) (CP NP : Addr) (c : Er) : Bool × He.FnW :=
  HandSHeadRun.frNat (gA g c.2.1) fun C => HandSHeadRun.frNat (nsA g C) fun N => HandSHeadRun.frNat (niA g N "__init__") fun f => HandSHeadRun.frNat (cdA g f) fun cd =>
    (errB (He.frT g [C, CP, N, NP, f, cd]) CP C f c.2.2 && fnB (He.frT g [C, CP, N, NP, f, cd]) f cd (c.2.1 ++ ".__init__"), fnV (He.frT g [C, CP, N, NP, f, cd]) f)
def errV (c : Er) : Bool × He.FnW := (true, some ("__init__", c.2.1 ++ ".__init__", defArgs (sIni c.1), .stmts (defBody (sIni c.1)), defScope (sIni c.1), mainGlobals, [], builtinsNs))
/-- a def of the law -/
def defAs (g : Addr → Option Obj) (d : Df) : List Addr := [gA g d.2, cdA g (gA g d.2)]
def defL (g : Addr → Option Obj) (d : Df) : Bool × He.FnW :=
  HandSHeadRun.frNat (gA g d.2) fun f => HandSHeadRun.frNat (cdA g f) fun cd => (fnB (He.frT g [f, cd]) f cd d.2, fnV (He.frT g [f, cd]) f)
def defV (d : Df) : Bool × He.FnW := (true, some (d.2, d.2, defArgs (top d.1), .stmts (defBody (top d.1)), defScope (top d.1), mainGlobals, [], builtinsNs))
/-- a def's table -/
def tabL (g : Addr → Option Obj) (x : Str) : Bool := HandSHeadRun.frNat (cdA g (gA g x)) fun cd => HandSHeadRun.frNat (tbA g cd) fun P =>
  PySem.W.codeHdIn (He.frT g [cd]) cd P && (match g P with
    | some o => He.emptyTab o
    | none => false)
def gloL (g : Addr → Option Obj) (x : Str) : Bool := He.eqO (PySem.W.nsIn (He.frT g [mainGlobals]) mainGlobals x) (some (some (.ref (gA g x))))
def freL (g : Addr → Option Obj) (x : Str) : Bool := He.eqO (PySem.W.nsIn (He.frT g [mainGlobals]) mainGlobals x) (some none)
/-- the class that all errors stand on -/
def basL (g : Addr → Option Obj) (CP NP : Addr) : Bool := PySem.W.readsIn (He.frT g [CP, NP, cStatics]) CP (.type "type") &&
  (He.eqO (PySem.W.specialIn (He.frT g [CP, NP, cStatics]) (.ref CP) "__getattribute__") (some (some (.builtin "type.__getattribute__"))) &&
  ((match PySem.W.findCls (He.frT g [CP, NP, cStatics]) (.ref CP) (.type "type") "__init__" with
    | some (.val (.builtin n)) => decide (n = "ValueError.__init__")
    | _ => false) &&
  (decide (PySem.W.specialIn (He.frT g [CP, NP, cStatics]) (.builtin "object.__class__") "__get__" = some (some (.builtin "getset_descriptor.__get__"))) &&
  (decide (PySem.W.takesIn (He.frT g [CP, NP, cStatics]) (.builtin "object.__class__") = some true) &&
  (PySem.W.isClsIn (He.frT g [CP, NP, cStatics]) CP && decide (PySem.W.typeIn (He.frT g [CP, NP, cStatics]) (.ref CP) = some (.type "type")))))))
def someL (g : Addr → Option Obj) (CP NP : Addr) : Bool := basL g CP NP && (gloL g "PageError" && ((ers.all fun c => gloL g c.2.1) && ((dfs.all fun d => gloL g d.2) && ((freeN.all fun x => freL g x) &&
  ((tabN.all fun x => tabL g x) && (decide ((CP :: ers.map fun c => gA g c.2.1).Nodup) && (((g sysModules).any fun o => !He.emptyTab o) && He.eqO (PySem.W.nsIn (He.frT g [mainGlobals]) mainGlobals "gcd") (some (some (.builtin "math.gcd"))))))))))
abbrev AlK : Type := Bool × List (Bool × He.FnW) × List (Bool × He.FnW)
def obsK (g : Addr → Option Obj) : AlK := HandSHeadRun.frNat (gA g "PageError") fun CP => HandSHeadRun.frNat (nsA g CP) fun NP =>
  (someL g CP NP, dfs.map fun d => defL g d, ers.map fun c => errL g CP NP c)
def valK : AlK := (true, dfs.map defV, ers.map errV)
abbrev R : PySem.W.OpenRow := PySem.W.OpenLaw.row PySem.Challenge.rw_pagefall_k62_forms_told
def ob (s : PySem.W.SharedT) : AlK := obsK (HandSHeadRun.getT s)
end LW
namespace LW
open PySem PySem.Spec PyProof.Rows L2 K00

/-! ### what the looks tell -/
theorem funD_of {K : PySem.W.Frag} {f c : Addr} {x q : Str} {params : Arguments} {body : List Stmt} {scope : Scope} (e : fnV K f = some (x, q, params, .stmts body, scope, mainGlobals, [], builtinsNs)) (h : fnB K f c q = true) :
    ∃ fd, fd.code = .ref c ∧ FunD K x q params body scope [] [] f fd := by
  obtain ⟨kp, h2⟩ := He.ba h
  unfold fnV at e
  cases hl : K.lookup f with
  | none =>
    rw [hl] at h2
    cases h2
  | some o =>
    obtain ⟨oc, od, dt, osl⟩ := o
    rw [hl] at h2 e
    cases dt with
    | func fd =>
      obtain ⟨n1, n2, n3, n4, n5, n6, n7, n8, n9, n10, n11, n12, n13, n14, n15⟩ := fd
      have e2 : (some (n1, n2, n3, n4, n5, n6, n7, n15) : He.FnW) = some (x, q, params, .stmts body, scope, mainGlobals, [], builtinsNs) := e
      simp only [Option.some.injEq, Prod.mk.injEq] at e2
      obtain ⟨h1, h2', h3, h4, h5, h6, h7, h8⟩ := e2
      subst h1 h2' h3 h4 h5 h6 h7 h8
      have h3 : ((match (generalizing := false) n13 with | .ref c' => decide (c' = c) | _ => false) && (PySem.W.codeIn K (.ref c) n2 && (match (generalizing := false) n8 with | .none => true | _ => false))) = true := h2
      obtain ⟨g1, g2⟩ := He.ba h3
      obtain ⟨g3, g4⟩ := He.ba g2
      cases n13 with
      | ref c' =>
        have ec : c' = c := of_decide_eq_true g1
        subst ec
        cases n8 with
        | none => exact ⟨_, rfl, ⟨oc, od, .none, n9, n10, n11, n12, .ref c', n14, osl, rfl, hl, g3, .inl ⟨rfl, rfl⟩, .inl rfl⟩, kp⟩
        | _ => cases g4
      | _ => cases g1
    | _ => cases h2
theorem funD_le {K K' : PySem.W.Frag} (l : Le K K') {f : Addr} {x q : Str} {params : Arguments} {body : List Stmt} {scope : Scope} {fd : FuncData} (F : FunD K x q params body scope [] [] f fd) : FunD K' x q params body scope [] [] f fd := by
  obtain ⟨⟨oc, od, dV, kV, doc, pm, an, cdv, ct, osl, rfl, lk, hcd, hD, hK⟩, kp⟩ := F
  refine ⟨⟨oc, od, dV, kV, doc, pm, an, cdv, ct, osl, rfl, l _ _ lk, codeIn_le l hcd, ?_, .inl rfl⟩, keepIn_le l kp⟩
  rcases hD with z | ⟨z, _⟩
  · exact .inl z
  · exact absurd rfl z
abbrev bmP (P : Addr) : List Value := [.ref P, .type "ValueError", .type "Exception", .type "BaseException", .type "object"]
def slB : List (Option Value) → Bool
  | [_, _, _, _, some (.builtin n), _] => decide (n = "ValueError.__new__")
  | _ => false
theorem slB_ok {l : List (Option Value)} (h : slB l = true) : ∃ k0 k1 k2 k3 k5, l = [k0, k1, k2, k3, some (.builtin "ValueError.__new__"), k5] := by
  unfold slB at h
  split at h
  · rename_i k0 k1 k2 k3 n k5
    have e : n = "ValueError.__new__" := of_decide_eq_true h
    rw [e]
    exact ⟨k0, k1, k2, k3, k5, rfl⟩
  · cases h
theorem clsB_ok {K : PySem.W.Frag} {P C : Addr} (h : clsB K P C = true) : ∃ nm q N bs sn sub ab col dd k0 k1 k2 k3 k5, K.lookup C = some (excClassObj nm q C N bs (bmP P) true sn sub ab col dd k0 k1 k2 k3 k5 "ValueError.__new__") := by
  unfold clsB at h
  cases e : K.lookup C with
  | none =>
    rw [e] at h
    cases h
  | some o =>
    obtain ⟨oc, od, dt, sl⟩ := o
    rw [e] at h
    cases oc with
    | type t =>
      cases dt with
      | cls cd =>
        obtain ⟨nm, bs, mro, ns, qn, hd, sn, sub, ab, col, del⟩ := cd
        have h1 : (decide (t = "type") && (decide (mro = ptail C P) && (hd && (!del && slB sl.toList)))) = true := h
        obtain ⟨a1, h2⟩ := He.ba h1
        obtain ⟨a2, h3⟩ := He.ba h2
        obtain ⟨a3, h4⟩ := He.ba h3
        obtain ⟨a4, h5⟩ := He.ba h4
        have b1 : t = "type" := of_decide_eq_true a1
        have b2 : mro = ptail C P := of_decide_eq_true a2
        have b4 : del = false := by
          cases del with
          | false => rfl
          | true => cases a4
        obtain ⟨k0, k1, k2, k3, k5, e5⟩ := slB_ok h5
        have hs : sl = sl.toList.toArray := by simp
        rw [e5] at hs
        subst b1 b2 b4 hs
        rw [a3]
        exact ⟨nm, qn, ns, bs, sn, sub, ab, col, od, k0, k1, k2, k3, k5, rfl⟩
      | _ => cases h
    | _ => cases dt <;> cases h
theorem clsB_le {K K' : PySem.W.Frag} (l : Le K K') {P C : Addr} (h : clsB K P C = true) : clsB K' P C = true := by
  unfold clsB at h ⊢
  cases e : K.lookup C with
  | none =>
    rw [e] at h
    cases h
  | some o =>
    rw [l _ _ e]
    rw [e] at h
    exact h
theorem refs_bm (P : Addr) : PySem.HandSPX.refsVE (bmP P) = true := by
  show (PySem.HandSPX.veTail == PySem.HandSPX.veTail) = true
  decide +kernel
theorem has_ty (C P : Addr) (T : String) : (Value.ref C :: bmP P).contains (.type T) = PySem.HandSPX.veTail.contains (.type T) :=
  PySem.HandSPX.refsVE_contains T (.ref C :: bmP P) (refs_bm P)
section
variable {K : PySem.W.Frag} {P C : Addr}
theorem cls_in (h : clsB K P C = true) : ∃ cd, PySem.W.clsIn K C = some cd ∧ cd.mro = .ref C :: bmP P ∧ cd.hasDict = true := by
  obtain ⟨nm, q, N, bs, sn, sub, ab, col, dd, k0, k1, k2, k3, k5, e⟩ := clsB_ok h
  refine ⟨⟨nm, bs, .ref C :: bmP P, N, q, true, sn, sub, ab, col, false⟩, ?_, rfl, rfl⟩
  unfold PySem.W.clsIn
  rw [e]
theorem mro_in (h : clsB K P C = true) (b : Value) : PySem.W.mroIn K C b = some ((Value.ref C :: bmP P).contains b) := by
  obtain ⟨cd, e1, e2, _⟩ := cls_in h
  unfold PySem.W.mroIn
  rw [e1, Option.bind_some, e2, if_neg (by simp)]
theorem ty_in (h : clsB K P C = true) : PySem.W.typeIn K (.ref C) = some (.type "type") := by
  obtain ⟨nm, q, N, bs, sn, sub, ab, col, dd, k0, k1, k2, k3, k5, e⟩ := clsB_ok h
  show (K.lookup C).map (·.cls) = _
  rw [e]
  rfl
theorem kit_ty (h : clsB K P C = true) (T : String) (hm : PySem.W.kitMeta T = true) : PySem.W.kitOne K (.ref C) (.type T) = some (PySem.HandSPX.veTail.contains (.type T)) := by
  unfold PySem.W.kitOne
  rw [if_neg (fun z => by have z2 := beq_iff_eq.mp z; cases z2), ← has_ty C P T, ← mro_in h]
  unfold PySem.W.kitCls
  dsimp only
  rw [if_pos hm]
  rfl
theorem kit_ref {C' : Addr} (h : clsB K P C = true) (hc : PySem.W.isClsIn K C' = true) (ht : PySem.W.typeIn K (.ref C') = some (.type "type")) :
    PySem.W.kitOne K (.ref C) (.ref C') = some (decide (C = C') || decide (C' = P)) := by
  unfold PySem.W.kitOne
  by_cases e : C = C'
  · subst e
    rw [if_pos (by simp)]
    simp
  · rw [if_neg (by simpa using e)]
    unfold PySem.W.kitCls
    dsimp only
    have hc' : (PySem.W.clsIn K C').isSome = true := hc
    rw [if_pos (by rw [hc', ht]; decide)]
    show PySem.W.mroIn K C (.ref C') = _
    rw [mro_in h]
    have e2 : ¬ C' = C := fun z => e z.symm
    by_cases e3 : C' = P
    · simp [List.contains_cons, e, e2, e3]
    · simp [List.contains_cons, e, e2, e3]
theorem cls_is (h : clsB K P C = true) : PySem.W.isClsIn K C = true := by
  obtain ⟨cd, e1, _⟩ := cls_in h
  show (PySem.W.clsIn K C).isSome = true
  rw [e1]
  rfl
end
end LW
namespace LW
open PySem PySem.Spec PyProof.Rows L2 K00

/-! ### what the end leans on -/
structure Fx (K : PySem.W.Frag) (P : Addr) (cA iA fA dA tA : Str → Addr) : Prop where
  base : BaseC K P
  gloP : PySem.W.nsIn K mainGlobals "PageError" = some (some (.ref P))
  gloE : ∀ c ∈ ers, PySem.W.nsIn K mainGlobals c.2.1 = some (some (.ref (cA c.2.1)))
  gloD : ∀ d ∈ dfs, PySem.W.nsIn K mainGlobals d.2 = some (some (.ref (fA d.2)))
  free : ∀ x ∈ freeN, PySem.W.nsIn K mainGlobals x = some none
  err : ∀ c ∈ ers, ErrC K (cA c.2.1) (iA c.2.1) ∧ clsB K P (cA c.2.1) = true ∧ ∀ x ∈ c.2.2, PySem.W.findIn K (.ref (cA c.2.1)) x = some none
  ini : ∀ c ∈ ers, ∃ fd, FunD K "__init__" (c.2.1 ++ ".__init__") (defArgs (sIni c.1)) (defBody (sIni c.1)) (defScope (sIni c.1)) [] [] (iA c.2.1) fd
  dfn : ∀ d ∈ dfs, ∃ fd, fd.code = .ref (dA d.2) ∧ FunD K d.2 d.2 (defArgs (top d.1)) (defBody (top d.1)) (defScope (top d.1)) [] [] (fA d.2) fd
  tabH : ∀ x ∈ tabN, PySem.W.codeHdIn K (dA x) (tA x) = true
  tabO : ∀ x ∈ tabN, K.lookup (tA x) = none
  nd : (P :: ers.map fun c => cA c.2.1).Nodup
  pc : PySem.W.isClsIn K P = true
  pt : PySem.W.typeIn K (.ref P) = some (.type "type")
  sys : ∃ o, K.lookup sysModules = some o
  gcd : PySem.W.nsIn K mainGlobals "gcd" = some (some (.builtin "math.gcd"))
def asAll (g : Addr → Option Obj) (CP NP : Addr) : List Addr := [sysModules, cStatics, mainGlobals, CP, NP] ++ (dfs.flatMap (defAs g) ++ ers.flatMap (errAs g CP NP))
theorem fx_of {h : Heap} (e : obsK h.get? = valK) : ∃ (K : PySem.W.Frag) (P : Addr) (cA iA fA dA tA : Str → Addr), K.In h ∧ Fx K P cA iA fA dA tA ∧ ∀ x ∈ tabN, h.get? (tA x) = some { cls := .none, data := .fields #[] } := by
  generalize hg : h.get? = g at e
  simp only [obsK, HandSHeadRun.frNat_eq] at e
  generalize hP : gA g "PageError" = CP at e
  generalize hN : nsA g CP = NP at e
  have e1 : someL g CP NP = true := congrArg (fun z : AlK => z.1) e
  have e2 : (dfs.map fun d => defL g d) = dfs.map defV := congrArg (fun z : AlK => z.2.1) e
  have e3 : (ers.map fun c => errL g CP NP c) = ers.map errV := congrArg (fun z : AlK => z.2.2) e
  have e4 : ∀ d ∈ dfs, defL g d = defV d := List.map_inj_left.mp e2
  have e5 : ∀ c ∈ ers, errL g CP NP c = errV c := List.map_inj_left.mp e3
  obtain ⟨s1, r⟩ := He.ba e1
  obtain ⟨s2, r⟩ := He.ba r
  obtain ⟨s3, r⟩ := He.ba r
  obtain ⟨s4, r⟩ := He.ba r
  obtain ⟨s5, r⟩ := He.ba r
  obtain ⟨s6, r⟩ := He.ba r
  obtain ⟨s7, r⟩ := He.ba r
  obtain ⟨s8, s9⟩ := He.ba r
  obtain ⟨b1, r⟩ := He.ba s1
  obtain ⟨b2, r⟩ := He.ba r
  obtain ⟨b3, r⟩ := He.ba r
  obtain ⟨b4, r⟩ := He.ba r
  obtain ⟨b5, r⟩ := He.ba r
  obtain ⟨b6, b7⟩ := He.ba r
  have lM : Le (He.frT g [mainGlobals]) (He.frT g (asAll g CP NP)) := frT_le fun a ha => by
    rw [List.mem_singleton] at ha
    rw [ha]
    simp [asAll]
  have lB : Le (He.frT g [CP, NP, cStatics]) (He.frT g (asAll g CP NP)) := frT_le fun a ha => by
    simp only [List.mem_cons, List.not_mem_nil, or_false] at ha
    simp only [asAll, List.mem_append, List.mem_cons]
    rcases ha with z | z | z <;> simp [z]
  have lE : ∀ c ∈ ers, Le (He.frT g (errAs g CP NP c)) (He.frT g (asAll g CP NP)) := fun c hc => frT_le fun a ha =>
    List.mem_append.mpr (.inr (List.mem_append.mpr (.inr (List.mem_flatMap.mpr ⟨c, hc, ha⟩))))
  have lD : ∀ d ∈ dfs, Le (He.frT g (defAs g d)) (He.frT g (asAll g CP NP)) := fun d hd => frT_le fun a ha =>
    List.mem_append.mpr (.inr (List.mem_append.mpr (.inl (List.mem_flatMap.mpr ⟨d, hd, ha⟩))))
  have tabs : ∀ x ∈ tabN, PySem.W.codeHdIn (He.frT g [cdA g (gA g x)]) (cdA g (gA g x)) (tbA g (cdA g (gA g x))) = true ∧ ∃ o, g (tbA g (cdA g (gA g x))) = some o ∧ He.emptyTab o = true := fun x hx => by
    have z := List.all_eq_true.mp s6 x hx
    unfold tabL at z
    simp only [HandSHeadRun.frNat_eq] at z
    obtain ⟨z1, z2⟩ := He.ba z
    refine ⟨z1, ?_⟩
    cases q : g (tbA g (cdA g (gA g x))) with
    | none =>
      rw [q] at z2
      cases z2
    | some o =>
      rw [q] at z2
      exact ⟨o, rfl, z2⟩
  have cdP : ∀ x ∈ tabN, ∃ d ∈ dfs, d.2 = x := by decide +kernel
  refine ⟨He.frT g (asAll g CP NP), CP, gA g, fun x => niA g (nsA g (gA g x)) "__init__", gA g, fun x => cdA g (gA g x), fun x => tbA g (cdA g (gA g x)), by rw [← hg]; exact He.frT_in, ?_, fun x hx => ?_⟩
  · refine ⟨⟨_, lB, b1, He.eqO_ok b2, ?_⟩, nsIn_le lM ?_, fun c hc => nsIn_le lM (He.eqO_ok (List.all_eq_true.mp s3 c hc)), fun d hd => nsIn_le lM (He.eqO_ok (List.all_eq_true.mp s4 d hd)),
      fun x hx => nsIn_le lM (He.eqO_ok (List.all_eq_true.mp s5 x hx)), fun c hc => ?_, fun c hc => ?_, fun d hd => ?_, fun x hx => ?_, fun x hx => ?_, of_decide_eq_true s7, isCls_le lB b6, typeIn_le lB (of_decide_eq_true b7), ?_, nsIn_le lM (He.eqO_ok s9)⟩
    · split at b3
      · rename_i n q
        rw [q, show n = "ValueError.__init__" from of_decide_eq_true b3]
      · cases b3
    · have z := He.eqO_ok s2
      rw [hP] at z
      exact z
    · have z := e5 c hc
      unfold errL errV at z
      simp only [HandSHeadRun.frNat_eq, Prod.mk.injEq] at z
      obtain ⟨z1, _⟩ := z
      obtain ⟨z1, _⟩ := He.ba z1
      obtain ⟨c1, r⟩ := He.ba z1
      obtain ⟨c2, r⟩ := He.ba r
      obtain ⟨c3, r⟩ := He.ba r
      obtain ⟨c4, r⟩ := He.ba r
      obtain ⟨c5, r⟩ := He.ba r
      obtain ⟨c6, r⟩ := He.ba r
      obtain ⟨c7, r⟩ := He.ba r
      obtain ⟨c8, c9⟩ := He.ba r
      have l := lE c hc
      have cb := clsB_le l c1
      obtain ⟨nm, q, N, bs, sn, sub, ab, col, dd, k0, k1, k2, k3, k5, el⟩ := clsB_ok cb
      have exC : PySem.W.subIn (He.frT g (asAll g CP NP)) (.ref (gA g c.2.1)) (.type "BaseException") = some true := by
        show PySem.W.mroIn _ _ _ = _
        rw [mro_in cb, has_ty]
        decide +kernel
      have obj : PySem.W.mroIn (He.frT g (asAll g CP NP)) (gA g c.2.1) (.type "object") = some true := by
        rw [mro_in cb, has_ty]
        decide +kernel
      have hdi : PySem.W.hasDictIn (He.frT g (asAll g CP NP)) (gA g c.2.1) = true := by
        obtain ⟨cd, h1, _, h3⟩ := cls_in cb
        unfold PySem.W.hasDictIn
        rw [h1]
        exact h3
      refine ⟨⟨⟨⟨nm, q, N, bs, bmP CP, sn, sub, ab, col, dd, k0, k1, k2, k3, k5, el, refs_bm CP⟩, findIn_le l (He.eqO_ok c2), exC, ty_in cb, keepIn_le l c7⟩, findIn_le l (He.eqO_ok c3), findIn_le l (He.eqO_ok c4), findIn_le l (He.eqO_ok c5),
        typeIn_le l (of_decide_eq_true c6), hdi, findIn_le l (He.eqO_ok c8), obj, specialIn_le lB (of_decide_eq_true b4), takesIn_le lB (of_decide_eq_true b5)⟩, cb, fun x hx => findIn_le l (He.eqO_ok (List.all_eq_true.mp c9 x hx))⟩
    · have z := e5 c hc
      unfold errL errV at z
      simp only [HandSHeadRun.frNat_eq, Prod.mk.injEq] at z
      obtain ⟨z1, z2⟩ := z
      obtain ⟨_, z3⟩ := He.ba z1
      obtain ⟨fd, _, F⟩ := funD_of z2 z3
      exact ⟨fd, funD_le (lE c hc) F⟩
    · have z := e4 d hd
      unfold defL defV at z
      simp only [HandSHeadRun.frNat_eq, Prod.mk.injEq] at z
      obtain ⟨z1, z2⟩ := z
      obtain ⟨fd, hcd, F⟩ := funD_of z2 z1
      exact ⟨fd, hcd, funD_le (lD d hd) F⟩
    · obtain ⟨d, hd, ed⟩ := cdP x hx
      refine codeHdIn_le (fun a o z => lD d hd a o ?_) (tabs x hx).1
      refine frT_le (fun b hb => ?_) a o z
      rw [List.mem_singleton] at hb
      rw [hb]
      simp [defAs, ed]
    · obtain ⟨_, o, q, z⟩ := tabs x hx
      exact He.frT_none q z
    · obtain ⟨o, q, z⟩ : ∃ o, g sysModules = some o ∧ He.emptyTab o = false := by
        cases q : g sysModules with
        | none =>
          rw [q] at s8
          cases s8
        | some o =>
          rw [q] at s8
          refine ⟨o, rfl, ?_⟩
          have z : (!He.emptyTab o) = true := s8
          cases w : He.emptyTab o with
          | false => rfl
          | true =>
            rw [w] at z
            cases z
      refine ⟨o, ?_⟩
      have l2 : Le (He.frT g [sysModules]) (He.frT g (asAll g CP NP)) := frT_le fun a ha => by
        rw [List.mem_singleton] at ha
        rw [ha]
        simp [asAll]
      refine l2 _ _ ?_
      unfold He.frT He.frG
      rw [List.filterMap_cons, q]
      simp [z, List.lookup]
  · obtain ⟨_, o, q, z⟩ := tabs x hx
    show g (tbA g (cdA g (gA g x))) = _
    rw [q, He.emptyTab_eq z]
def hk : PySem.W.Hook where
  α := AlK
  obs := fun s => obsK s.heap.get?
  val := fun _ => valK
  says := fun _ h => ∃ (K : PySem.W.Frag) (P : Addr) (cA iA fA dA tA : Str → Addr), K.In h ∧ Fx K P cA iA fA dA tA ∧ ∀ x ∈ tabN, h.get? (tA x) = some { cls := .none, data := .fields #[] }
  of := fun _ _ e => fx_of e
  keeps := fun _ _ _ ⟨K, P, cA, iA, fA, dA, tA, hK, F, hT⟩ k => ⟨K, P, cA, iA, fA, dA, tA, PySem.W.Frag.In.keeps hK k, F, fun x hx => k _ _ (hT x hx)⟩
theorem ob_eq (s : PySem.W.SharedT) : ob s = hk.obs s.abs := by
  have e : HandSHeadRun.getT s = s.abs.heap.get? := funext (HandSHeadRun.getT_eq s)
  show obsK (HandSHeadRun.getT s) = obsK s.abs.heap.get?
  rw [e]
end LW
namespace LW
open PySem PySem.Spec PyProof.Rows L2 LamX K00

/-! ### the end of the law: a def that is called where no repr runs, code tables beside it -/
theorem law_callG {P : Program} {w : World} {K : PySem.W.Frag} {mg mb : Str → Option Value} {k : Nat} {fa a : Addr} {cs : List (Addr × Addr)} {fd : FuncData} {x : Str} {sp : Sp} {s₁ : Shared} {vs : List Value} {ns : List Int}
    (KX : K.In s₁.heap) (hns : s₁.heap.Ns mainGlobals mg) (hb : s₁.heap.Ns builtinsNs mb) (hbb : ∀ y : Str, y ≠ "__name__" → mb y = bootBuiltins y) (hlim : s₁.heap.NoLimit) (hg : s₁.gens = #[])
    (hT : ∀ p ∈ cs, s₁.heap.get? p.2 = some { cls := .none, data := .fields #[] }) (nT : ∀ p ∈ cs, K.lookup p.2 = none) (C : ∀ p ∈ cs, PySem.W.CodeHd s₁.heap p.1 p.2)
    (hbm : ∃ (bm : Addr) (ob : Obj), mg "__builtins__" = some (.ref bm) ∧ bm ≠ builtinsNs ∧ s₁.heap.get? bm = some ob ∧ ob.cls = .type "module" ∧ ob.dict = some builtinsNs ∧ ob.data = .plain)
    (ha : s₁.heap.get? a = some { cls := .type "list", data := .seq vs.toArray }) (hi : IntsAre vs ns) (hl : ns.length ≤ sizeLine) (hr : Room k callerA)
    (F : ∀ base : Heap, K.In base → base.Ns mainGlobals mg → (∀ p ∈ cs, TabB base mg p.1 p.2) → FnOk P w K mg base CX0 k fa fd [x] sp) (hbind : ∀ (s : Shared) (u : Value), BindsTo s fd ⟨[u], []⟩ [(x, u)])
    (hsp : ∀ H : Hp, (∀ p ∈ cs, H p.2 = some (.tbl #[])) → SqL K H a (ns.map V.int) → sp [.ref a] H (fun v _ => v = .bl true) E0) :
    codeAny (model P w) callerA (.call (.ref fa) ⟨[.ref a], []⟩) (fun r s' => r = .ok (.ret (.bool true)) ∧ OldK s₁.heap s'.heap ∧ s'.os = s₁.os ∧ AllBare s'.gens) s₁ := by
  have rv := vals_ints hi
  have lenV := hi.length
  -- the tables' addresses
  have atT : ∀ b : Addr, b ∈ cs.map (·.2) → s₁.heap.get? b = some { cls := .none, data := .fields #[] } := fun b hb => by
    obtain ⟨p, hp, e⟩ := List.mem_map.mp hb
    rw [← e]
    exact hT p hp
  have inT : ∀ p ∈ cs, p.2 ∈ cs.map (·.2) := fun p hp => List.mem_map.mpr ⟨p, hp, rfl⟩
  have aT : a ∉ cs.map (·.2) := fun z => by
    have q := atT a z
    rw [ha] at q
    have z' : Data.seq vs.toArray _ = Data.fields #[] := congrArg Obj.data (Option.some.inj q)
    cases z'
  have core : ∀ H : Hp, (∀ p ∈ cs, H p.2 = some (.tbl #[])) → (∀ b, H b = none ∨ b ∈ cs.map (·.2) ∨ ∃ o xs, H b = some (.frz o (.lst xs))) → SqL K H a (ns.map V.int) → HOk P w H s₁.heap →
      (∀ b, H b ≠ none → b = a ∨ b ∈ cs.map (·.2)) → (H a ≠ none → K.lookup a = none) →
      codeAny (model P w) callerA (.call (.ref fa) ⟨[.ref a], []⟩) (fun r s' => r = .ok (.ret (.bool true)) ∧ OldK s₁.heap s'.heap ∧ s'.os = s₁.os ∧ AllBare s'.gens) s₁ := by
    intro H hH hO hS hok hA hK
    have un_of : ∀ {b : Addr} {o : Obj}, s₁.heap.get? b = some o → (∀ vs n, o.data ≠ .seq vs n) → o.data ≠ .fields #[] → H b = none := fun {b o} e h1 h2 => by
      cases q : H b with
      | none => rfl
      | some u =>
        rcases hA b (by rw [q]; simp) with e' | e'
        · rw [e', ha] at e
          cases e
          exact (h1 _ _ rfl).elim
        · rw [atT b e'] at e
          cases e
          exact (h2 rfl).elim
    have un_dict : ∀ {b : Addr} {o : Obj} {es : Array DictEntry} {ep : Nat}, s₁.heap.get? b = some o → o.data = .dict es ep → H b = none := fun {b o es ep} e d =>
      un_of e (fun vs n z => by rw [d] at z; cases z) fun z => by rw [d] at z; cases z
    have nsK : ∀ {b : Addr} {m : Str → Option Value}, s₁.heap.Ns b m → (hidT s₁.heap H).Ns b m := fun {b m} ⟨o, es, ep, e, d, r⟩ => ⟨o, es, ep, hidT_get e (un_dict e d), d, r⟩
    have hKb : K.In (hidT s₁.heap H) := fun b o e => hidT_get (KX b o e) (by
      cases q : H b with
      | none => rfl
      | some u =>
        rcases hA b (by rw [q]; simp) with e' | e'
        · rw [e'] at e q
          rw [hK (by rw [q]; simp)] at e
          cases e
        · obtain ⟨p, hp, ep⟩ := List.mem_map.mp e'
          rw [← ep, nT p hp] at e
          cases e)
    have hM : L2.Mod K mg (hidT s₁.heap H) := ⟨hKb, nsK hns, ⟨mb, nsK hb, hbb⟩, let ⟨mc, h1, h2⟩ := hlim; ⟨mc, nsK h1, h2⟩⟩
    have TB : ∀ p ∈ cs, TabB (hidT s₁.heap H) mg p.1 p.2 := fun p hp => by
      have hTp := hT p hp
      refine ⟨?_, ?_, fun z => ?_⟩
      · obtain ⟨o, us, file, tf, flags, tg, inF, text, tt, e1, r1, r2, r3, r4, r5, r6, r7, r8, hne⟩ := C p hp
        refine ⟨o, us, file, tf, flags, tg, inF, text, tt, hidT_get e1 (un_of e1 (fun vs n z => ?_) fun z => ?_), r1, r2, r3, r4, r5, r6, r7, r8, hne⟩
        · rw [r2] at z
          cases z
        · rw [r2] at z
          cases z
          simp at r3
      · obtain ⟨bm, ob, b1, b2, b3, b4, b5, b6⟩ := hbm
        have nG : bm ≠ mainGlobals := fun q => by
          obtain ⟨o, es, ep, e, hd, _⟩ := hns
          rw [q, e] at b3
          cases b3
          rw [hd] at b6
          cases b6
        have nP : bm ≠ p.2 := fun q => by
          rw [q, hTp] at b3
          cases b3
          cases b6
        refine ⟨bm, ob, b1, b2, nG, nP, hidT_get b3 (un_of b3 (fun vs n z => ?_) fun z => ?_), b4, b5, b6⟩
        · rw [b6] at z
          cases z
        · rw [b6] at z
          cases z
      · obtain ⟨o, es, ep, e, hd, _⟩ := hns
        rw [z, hTp] at e
        cases e
        cases hd
    have e0 : Env0 P w K mg (hidT s₁.heap H) callerA [] s₁ H :=
      ⟨rfl, hM, fun b o e => of_hidT e, Nat.le_of_eq (hidT_size _ _), trivial, fun b hb => absurd (show b ∈ ([] : List Addr) from hb) (by simp), hok, .of_eq hg⟩
    refine codeAny_mono ((F _ hKb (nsK hns) TB).run callerA [] s₁ H ⟨[.ref a], []⟩ [.ref a] [.ref a] _ E0 hr e0 (hbind s₁ (.ref a)) (.cons rfl .nil) (hsp H hH hS)) fun r s' h => ?_
    cases r with
    | error e => exact (show False from h).elim
    | ok fl =>
      cases fl with
      | next => exact False.elim h
      | brk => exact False.elim h
      | cont => exact False.elim h
      | ret u =>
        obtain ⟨v, H', os, bare, un, hok', r', q⟩ := h
        have q' : v = .bl true := q
        subst q'
        obtain rfl : u = Value.bool true := r'
        have old : ∀ b o, b ∉ cs.map (·.2) → s₁.heap.get? b = some o → s'.heap.get? b = some o := fun b o nb e => by
          cases q : H b with
          | none => exact un.keep b o e q (fun z => absurd (show b ∈ ([] : List Addr) from z) (by simp)) (by simp)
          | some u =>
            rcases hO b with z | z | ⟨ob, xs, z⟩
            · rw [q] at z
              cases z
            · exact absurd z nb
            · have z2 := un.frzs b ob _ z
              obtain ⟨e1, _⟩ := hok b _ z
              obtain ⟨e2, _⟩ := hok' b _ z2
              rw [e] at e1
              cases e1
              exact e2
        have tab : ∀ p ∈ cs, ∃ m : Array Value, s'.heap.get? p.2 = some { cls := .none, data := .fields m } := fun p hp => by
          obtain ⟨m, z⟩ := un.tbls p.2 #[] (hH p hp)
          exact ⟨_, hok' p.2 _ z⟩
        refine ⟨rfl, ⟨fun b o e => ?_, fun b o e => ?_⟩, os, bare⟩
        · by_cases hb : b ∈ cs.map (·.2)
          · obtain ⟨p, hp, ep⟩ := List.mem_map.mp hb
            obtain ⟨m, hm⟩ := tab p hp
            rw [← ep] at e ⊢
            rw [hT p hp] at e
            cases e
            exact .inr (.inl ⟨((C p hp).tab (hT p hp)).isCodeTable, rfl, #[], m, rfl, by rw [Array.empty_append]; exact hm⟩)
          · exact .inl (old b o hb e)
        · by_cases hb : b ∈ cs.map (·.2)
          · obtain ⟨p, hp, ep⟩ := List.mem_map.mp hb
            obtain ⟨m, hm⟩ := tab p hp
            rw [← ep]
            exact ⟨_, hm⟩
          · exact ⟨o, old b o hb e⟩
  cases hk : K.lookup a with
  | some o =>
    have e := KX a o hk
    rw [ha] at e
    cases e
    refine core (fun b => if b ∈ cs.map (·.2) then some (.tbl #[]) else none) (fun p hp => if_pos (inT p hp)) (fun b => ?_) (.inr ⟨_, vs.toArray, _, hk, rfl, rfl, rfl, by rw [List.size_toArray, lenV]; exact hl, by simpa using rv⟩)
      (fun b u z => ?_) (fun b z => ?_) fun z => absurd (show (if a ∈ cs.map (·.2) then some (HO.tbl #[]) else none) = none from if_neg aT) z
    · by_cases hb : b ∈ cs.map (·.2)
      · exact .inr (.inl hb)
      · exact .inl (if_neg hb)
    · by_cases hb : b ∈ cs.map (·.2)
      · have z' := (if_pos hb).symm.trans z
        cases z'
        exact atT b hb
      · have z' := (if_neg hb).symm.trans z
        cases z'
    · by_cases hb : b ∈ cs.map (·.2)
      · exact .inr hb
      · exact absurd (if_neg hb) z
  | none =>
    refine core (fun b => if b = a then some (.frz { cls := .type "list", data := .seq vs.toArray } (.lst (ns.map V.int))) else if b ∈ cs.map (·.2) then some (.tbl #[]) else none)
      (fun p hp => (if_neg (show ¬ p.2 = a from fun z => aT (by rw [← z]; exact inT p hp))).trans (if_pos (inT p hp))) (fun b => ?_)
      (.inl (.inr ⟨{ cls := .type "list", data := .seq vs.toArray }, if_pos rfl⟩)) (fun b u z => ?_) (fun b z => ?_) fun _ => hk
    · by_cases hb : b = a
      · exact .inr (.inr ⟨_, _, if_pos hb⟩)
      · by_cases hb2 : b ∈ cs.map (·.2)
        · exact .inr (.inl hb2)
        · exact .inl ((if_neg hb).trans (if_neg hb2))
    · by_cases hb : b = a
      · have z' := (if_pos hb).symm.trans z
        cases z'
        rw [hb]
        exact ⟨ha, by rw [List.length_map]; exact hl, vs, _, rv, ha⟩
      · have z1 := (if_neg hb).symm.trans z
        by_cases hb2 : b ∈ cs.map (·.2)
        · have z' := (if_pos hb2).symm.trans z1
          cases z'
          exact atT b hb2
        · have z' := (if_neg hb2).symm.trans z1
          cases z'
    · by_cases hb : b = a
      · exact .inl hb
      · by_cases hb2 : b ∈ cs.map (·.2)
        · exact .inr hb2
        · exact absurd ((if_neg hb).trans (if_neg hb2)) z
/-- what is known of the law's promise at the head's heap h -/
def LawAtG (l : PySem.W.OpenLaw) (w : World) (K : PySem.W.Frag) (k n : Nat) (x : Str) (mg : Str → Option Value) (fa : Addr) (h : Heap) : Prop :=
  ∃ (fd : FuncData) (cs : List (Addr × Addr)) (sp : Sp), (∀ p ∈ cs, h.get? p.2 = some { cls := .none, data := .fields #[] }) ∧ (∀ p ∈ cs, K.lookup p.2 = none) ∧ (∀ p ∈ cs, PySem.W.CodeHd h p.1 p.2) ∧ (∀ (s : Shared) (u : Value), BindsTo s fd ⟨[u], []⟩ [(x, u)]) ∧
    (∀ (H : Hp) (a : Addr) (ns : List Int), ns.length ≤ n → (∀ p ∈ cs, H p.2 = some (.tbl #[])) → SqL K H a (ns.map V.int) → sp [.ref a] H (fun v _ => v = .bl true) E0) ∧
    ∀ base : Heap, K.In base → base.Ns mainGlobals mg → (∀ p ∈ cs, TabB base mg p.1 p.2) → FnOk l.prog w K mg base CX0 k fa fd [x] sp
theorem walkG {l : PySem.W.OpenLaw} {n k : Nat} {q : Program} {loose : List Str} {XP : (Str → Option Value) → Heap → Prop} {YP : World → Heap → Prop} {d : DefRec} {x : Str}
    (hn : l.most = some n) (hn2 : n ≤ sizeLine) (hdf : d.params.defaults = []) (hr : Room k callerA)
    (F : ∀ (w : World) (mg : Str → Option Value) (fa : Addr) (h : Heap), YP w h → h.Ns mainGlobals mg → mg d.name = some (.ref fa) → ∃ K : PySem.W.Frag, K.In h ∧ LawAtG l w K k n x mg fa h) :
    PySem.W.WalkO q loose XP YP l.row.toRowW d [] (fun f vs => PySem.call f vs) := by
  refine Att.attach_callB hn hdf fun w s₀ s₁ mg mb fa o pm cd doc a vs ns G Y ho hd hcd hmg hobj hints hlen hbits hg => ?_
  obtain ⟨K, KX, fd, cs, sp, hT, nT, C, hb, hsp, hF⟩ := F w mg fa _ Y G.T.g hmg
  exact law_callG KX G.T.g G.T.b G.T.builtins G.T.nolimit hg hT nT C G.T.bmain hobj hints (Nat.le_trans hlen hn2) hr hF hb fun H hH hS => hsp H a ns hlen hH hS
end LW
namespace LW
open PySem PySem.Spec PyProof.Rows L2 K00
set_option maxHeartbeats 0 in
theorem run (w : World) : HandSHeadRun.RunEqI R (PySem.W.view R.prog [0, 41]) hk ob 60000 loose w := by
  unfold HandSHeadRun.RunEqI
  kernel_rfl
end LW
namespace LW
open PySem PySem.Spec PyProof.Rows L2 LamX K00

/-! ### all of it, behind the head -/
def Tq (tA : Str → Addr) : List (Addr × Str) := tabN.map fun x => (tA x, qLam x)
def Cs (dA tA : Str → Addr) : List (Addr × Addr) := tabN.map fun x => (dA x, tA x)
section
variable {P : Program} {w : World} {K : PySem.W.Frag} {mg : Str → Option Value} {base : Heap} {CP : Addr} {cA iA fA dA tA : Str → Addr}
theorem er (i : Nat) (c : Er) (h : ers[i]? = some c) : c ∈ ers := List.mem_of_getElem? h
theorem err_w (Fx : Fx K CP cA iA fA dA tA) (gP : mg ("PageError" : Str) = some (.ref CP)) (gm : ∀ c ∈ ers, mg c.2.1 = some (.ref (cA c.2.1))) :
    ∃ fd, ErrX P w K mg base "BadWidth" "width" (cA "BadWidth") (iA "BadWidth") fd ∧ Caught K mg "BadWidth" "width" (cA "BadWidth") := by
  obtain ⟨E, _, no⟩ := Fx.err _ (er 0 _ rfl)
  obtain ⟨fd, F⟩ := Fx.ini _ (er 0 _ rfl)
  have nx := no "width" (by decide)
  exact ⟨fd, ⟨E.ox, gm _ (er 0 _ rfl), E.ini, E.ity, ok_iniX F (scP_ok (by decide +kernel)) rfl rfl rfl rfl rfl rfl E.ox Fx.base gP nx, F.bindsN fun _ _ _ _ _ _ us hl => match us, hl with | [_, _], _ => rfl⟩, ⟨gm _ (er 0 _ rfl), ⟨E.ga, E.gg, E.ox.exC, E.hd⟩, nx⟩⟩
theorem err_f (Fx : Fx K CP cA iA fA dA tA) (gP : mg ("PageError" : Str) = some (.ref CP)) (gm : ∀ c ∈ ers, mg c.2.1 = some (.ref (cA c.2.1))) :
    ∃ fd, ErrX P w K mg base "BadForm" "thing" (cA "BadForm") (iA "BadForm") fd ∧ Caught K mg "BadForm" "thing" (cA "BadForm") := by
  obtain ⟨E, _, no⟩ := Fx.err _ (er 1 _ rfl)
  obtain ⟨fd, F⟩ := Fx.ini _ (er 1 _ rfl)
  have nx := no "thing" (by decide)
  exact ⟨fd, ⟨E.ox, gm _ (er 1 _ rfl), E.ini, E.ity, ok_iniX F (scP_ok (by decide +kernel)) rfl rfl rfl rfl rfl rfl E.ox Fx.base gP nx, F.bindsN fun _ _ _ _ _ _ us hl => match us, hl with | [_, _], _ => rfl⟩, ⟨gm _ (er 1 _ rfl), ⟨E.ga, E.gg, E.ox.exC, E.hd⟩, nx⟩⟩
theorem err_b (Fx : Fx K CP cA iA fA dA tA) (gP : mg ("PageError" : Str) = some (.ref CP)) (gm : ∀ c ∈ ers, mg c.2.1 = some (.ref (cA c.2.1))) :
    ∃ fd, ErrX P w K mg base "BadFraction" "thing" (cA "BadFraction") (iA "BadFraction") fd ∧ Caught K mg "BadFraction" "thing" (cA "BadFraction") := by
  obtain ⟨E, _, no⟩ := Fx.err _ (er 2 _ rfl)
  obtain ⟨fd, F⟩ := Fx.ini _ (er 2 _ rfl)
  have nx := no "thing" (by decide)
  exact ⟨fd, ⟨E.ox, gm _ (er 2 _ rfl), E.ini, E.ity, ok_iniX F (scP_ok (by decide +kernel)) rfl rfl rfl rfl rfl rfl E.ox Fx.base gP nx, F.bindsN fun _ _ _ _ _ _ us hl => match us, hl with | [_, _], _ => rfl⟩, ⟨gm _ (er 2 _ rfl), ⟨E.ga, E.gg, E.ox.exC, E.hd⟩, nx⟩⟩
theorem exm_cc (Fx : Fx K CP cA iA fA dA tA) {c d : Er} (hc : c ∈ ers) (hd : d ∈ ers) (b : Bool) (h : (if b = true then cA c.2.1 = cA d.2.1 else cA c.2.1 ≠ cA d.2.1)) : PySem.W.exmOne K (.ref (cA c.2.1)) (.ref (cA d.2.1)) = some b := by
  obtain ⟨E, cb, _⟩ := Fx.err c hc
  obtain ⟨E2, cb2, _⟩ := Fx.err d hd
  have np : cA d.2.1 ≠ CP := fun z => (List.nodup_cons.mp Fx.nd).1 (List.mem_map.mpr ⟨d, hd, z⟩)
  refine PySem.W.exm_ref E2.ox.exC E2.hd E2.ox.tyC ?_
  show PySem.W.mroIn K (cA c.2.1) (.ref (cA d.2.1)) = some b
  rw [mro_in cb]
  cases b with
  | true =>
    have e : cA c.2.1 = cA d.2.1 := h
    rw [e]
    simp
  | false =>
    have e : cA c.2.1 ≠ cA d.2.1 := h
    have e2 : ¬ cA d.2.1 = cA c.2.1 := fun z => e z.symm
    simp [List.contains_cons, e2, np, bmP]
theorem exm3 (Fx : Fx K CP cA iA fA dA tA) : Exm3 K (cA "BadForm") (cA "BadWidth") (cA "BadFraction") := by
  have nd : [CP, cA "BadWidth", cA "BadForm", cA "BadFraction"].Nodup := Fx.nd
  simp only [List.nodup_cons, List.mem_cons, List.not_mem_nil, or_false, not_or] at nd
  obtain ⟨_, ⟨n1, n2⟩, n3, _⟩ := nd
  exact ⟨exm_cc Fx (er 1 _ rfl) (er 1 _ rfl) true rfl, exm_cc Fx (er 0 _ rfl) (er 1 _ rfl) false n1, exm_cc Fx (er 0 _ rfl) (er 0 _ rfl) true rfl, exm_cc Fx (er 2 _ rfl) (er 1 _ rfl) false fun z => n3 z.symm,
    exm_cc Fx (er 2 _ rfl) (er 0 _ rfl) false fun z => n2 z.symm, exm_cc Fx (er 2 _ rfl) (er 2 _ rfl) true rfl⟩
end
end LW
namespace LW
open PySem PySem.Spec PyProof.Rows L2 LamX K00

section
variable {P : Program} {w : World} {K : PySem.W.Frag} {mg : Str → Option Value} {base : Heap} {CP : Addr} {cA iA fA dA tA : Str → Addr}
theorem df (i : Nat) (d : Df) (h : dfs[i]? = some d) : d ∈ dfs := List.mem_of_getElem? h
theorem law_fns (Fx : Fx K CP cA iA fA dA tA) (gP : mg ("PageError" : Str) = some (.ref CP)) (gm : ∀ c ∈ ers, mg c.2.1 = some (.ref (cA c.2.1))) (gd : ∀ d ∈ dfs, mg d.2 = some (.ref (fA d.2))) (fr : ∀ x ∈ freeN, mg x = none) (gg : mg ("gcd" : Str) = some (.builtin "math.gcd"))
    (TB : ∀ p ∈ Cs dA tA, TabB base mg p.1 p.2) : LawF P w K mg base (cA "BadForm") (cA "BadWidth") (cA "BadFraction") fA (Tq tA) := by
  have fr' : ∀ (i : Nat) (x : Str), freeN[i]? = some x → mg x = none := fun i x h => fr x (List.mem_of_getElem? h)
  have z_len : mg ("len" : Str) = none := fr' 0 _ rfl
  have z_isi : mg ("isinstance" : Str) = none := fr' 3 _ rfl
  have z_int : mg ("int" : Str) = none := fr' 4 _ rfl
  have z_bool : mg ("bool" : Str) = none := fr' 5 _ rfl
  have z_list : mg ("list" : Str) = none := fr' 6 _ rfl
  have z_tup : mg ("tuple" : Str) = none := fr' 7 _ rfl
  have z_abs : mg ("abs" : Str) = none := fr' 8 _ rfl
  have z_sum : mg ("sum" : Str) = none := fr' 9 _ rfl
  have z_zip : mg ("zip" : Str) = none := fr' 10 _ rfl
  have z_all : mg ("all" : Str) = none := fr' 11 _ rfl
  obtain ⟨dW, TW, CW⟩ := err_w (P := P) (w := w) (base := base) Fx gP gm
  obtain ⟨dF, TF, CF⟩ := err_f (P := P) (w := w) (base := base) Fx gP gm
  obtain ⟨dB, TBr, CB⟩ := err_b (P := P) (w := w) (base := base) Fx gP gm
  obtain ⟨f0, _, F0⟩ := Fx.dfn _ (df 0 _ rfl)
  obtain ⟨f1, _, F1⟩ := Fx.dfn _ (df 1 _ rfl)
  obtain ⟨f2, _, F2⟩ := Fx.dfn _ (df 2 _ rfl)
  obtain ⟨f3, _, F3⟩ := Fx.dfn _ (df 3 _ rfl)
  obtain ⟨f4, _, F4⟩ := Fx.dfn _ (df 4 _ rfl)
  obtain ⟨f5, _, F5⟩ := Fx.dfn _ (df 5 _ rfl)
  obtain ⟨f6, _, F6⟩ := Fx.dfn _ (df 6 _ rfl)
  obtain ⟨f7, _, F7⟩ := Fx.dfn _ (df 7 _ rfl)
  obtain ⟨f8, _, F8⟩ := Fx.dfn _ (df 8 _ rfl)
  obtain ⟨f9, _, F9⟩ := Fx.dfn _ (df 9 _ rfl)
  obtain ⟨f10, _, F10⟩ := Fx.dfn _ (df 10 _ rfl)
  obtain ⟨f11, _, F11⟩ := Fx.dfn _ (df 11 _ rfl)
  obtain ⟨f12, _, F12⟩ := Fx.dfn _ (df 12 _ rfl)
  obtain ⟨f13, _, F13⟩ := Fx.dfn _ (df 13 _ rfl)
  obtain ⟨f14, _, F14⟩ := Fx.dfn _ (df 14 _ rfl)
  obtain ⟨f15, _, F15⟩ := Fx.dfn _ (df 15 _ rfl)
  obtain ⟨f16, _, F16⟩ := Fx.dfn _ (df 16 _ rfl)
  obtain ⟨f17, _, F17⟩ := Fx.dfn _ (df 17 _ rfl)
  obtain ⟨f18, _, F18⟩ := Fx.dfn _ (df 18 _ rfl)
  obtain ⟨f19, _, F19⟩ := Fx.dfn _ (df 19 _ rfl)
  obtain ⟨f20, _, F20⟩ := Fx.dfn _ (df 20 _ rfl)
  obtain ⟨f21, _, F21⟩ := Fx.dfn _ (df 21 _ rfl)
  obtain ⟨f22, _, F22⟩ := Fx.dfn _ (df 22 _ rfl)
  obtain ⟨f23, _, F23⟩ := Fx.dfn _ (df 23 _ rfl)
  obtain ⟨f24, _, F24⟩ := Fx.dfn _ (df 24 _ rfl)
  obtain ⟨f25, _, F25⟩ := Fx.dfn _ (df 25 _ rfl)
  obtain ⟨f26, _, F26⟩ := Fx.dfn _ (df 26 _ rfl)
  obtain ⟨f27, _, F27⟩ := Fx.dfn _ (df 27 _ rfl)
  obtain ⟨f28, _, F28⟩ := Fx.dfn _ (df 28 _ rfl)
  obtain ⟨f29, c29, F29⟩ := Fx.dfn _ (df 29 _ rfl)
  have B0 : L2.Binds K f0 ["thing"] [] := F0.bindsN fun _ _ _ _ _ _ us hl => match us, hl with | [_], _ => rfl
  have B1 : L2.Binds K f1 ["thing"] [] := F1.bindsN fun _ _ _ _ _ _ us hl => match us, hl with | [_], _ => rfl
  have B2 : L2.Binds K f2 ["thing"] [] := F2.bindsN fun _ _ _ _ _ _ us hl => match us, hl with | [_], _ => rfl
  have B3 : L2.Binds K f3 ["thing"] [] := F3.bindsN fun _ _ _ _ _ _ us hl => match us, hl with | [_], _ => rfl
  have B4 : L2.Binds K f4 ["thing"] [] := F4.bindsN fun _ _ _ _ _ _ us hl => match us, hl with | [_], _ => rfl
  have B5 : L2.Binds K f5 ["top", "bottom"] [] := F5.bindsN fun _ _ _ _ _ _ us hl => match us, hl with | [_, _], _ => rfl
  have B6 : L2.Binds K f6 ["one", "other"] [] := F6.bindsN fun _ _ _ _ _ _ us hl => match us, hl with | [_, _], _ => rfl
  have B7 : L2.Binds K f7 ["one", "other"] [] := F7.bindsN fun _ _ _ _ _ _ us hl => match us, hl with | [_, _], _ => rfl
  have B8 : L2.Binds K f8 ["thing"] [] := F8.bindsN fun _ _ _ _ _ _ us hl => match us, hl with | [_], _ => rfl
  have B9 : L2.Binds K f9 ["thing"] [] := F9.bindsN fun _ _ _ _ _ _ us hl => match us, hl with | [_], _ => rfl
  have B10 : L2.Binds K f10 ["form", "width"] [] := F10.bindsN fun _ _ _ _ _ _ us hl => match us, hl with | [_, _], _ => rfl
  have B11 : L2.Binds K f11 ["form", "width"] [] := F11.bindsN fun _ _ _ _ _ _ us hl => match us, hl with | [_, _], _ => rfl
  have B12 : L2.Binds K f12 ["one", "other"] [] := F12.bindsN fun _ _ _ _ _ _ us hl => match us, hl with | [_, _], _ => rfl
  have B13 : L2.Binds K f13 ["form", "share"] [] := F13.bindsN fun _ _ _ _ _ _ us hl => match us, hl with | [_, _], _ => rfl
  have B14 : L2.Binds K f14 ["script", "turn"] [] := F14.bindsN fun _ _ _ _ _ _ us hl => match us, hl with | [_, _], _ => rfl
  have B15 : L2.Binds K f15 ["draws", "many"] [] := F15.bindsN fun _ _ _ _ _ _ us hl => match us, hl with | [_, _], _ => rfl
  have B16 : L2.Binds K f16 ["draws", "xs"] [] := F16.bindsN fun _ _ _ _ _ _ us hl => match us, hl with | [_, _], _ => rfl
  have B17 : L2.Binds K f17 ["found", "due"] [] := F17.bindsN fun _ _ _ _ _ _ us hl => match us, hl with | [_, _], _ => rfl
  have B18 : L2.Binds K f18 ["top", "bottom"] [] := F18.bindsN fun _ _ _ _ _ _ us hl => match us, hl with | [_, _], _ => rfl
  have B19 : L2.Binds K f19 ["one", "other"] [] := F19.bindsN fun _ _ _ _ _ _ us hl => match us, hl with | [_, _], _ => rfl
  have B20 : L2.Binds K f20 ["one", "other"] [] := F20.bindsN fun _ _ _ _ _ _ us hl => match us, hl with | [_, _], _ => rfl
  have B21 : L2.Binds K f21 ["form", "width"] [] := F21.bindsN fun _ _ _ _ _ _ us hl => match us, hl with | [_, _], _ => rfl
  have B22 : L2.Binds K f22 ["draws", "thing"] [] := F22.bindsN fun _ _ _ _ _ _ us hl => match us, hl with | [_, _], _ => rfl
  have B23 : L2.Binds K f23 ["draws", "one"] [] := F23.bindsN fun _ _ _ _ _ _ us hl => match us, hl with | [_, _], _ => rfl
  have B24 : L2.Binds K f24 ["draws"] [] := F24.bindsN fun _ _ _ _ _ _ us hl => match us, hl with | [_], _ => rfl
  have B25 : L2.Binds K f25 ["draws"] [] := F25.bindsN fun _ _ _ _ _ _ us hl => match us, hl with | [_], _ => rfl
  have B26 : L2.Binds K f26 [] [] := F26.bindsN fun _ _ _ _ _ _ us hl => match us, hl with | [], _ => rfl
  have B27 : L2.Binds K f27 ["draws", "one"] [] := F27.bindsN fun _ _ _ _ _ _ us hl => match us, hl with | [_, _], _ => rfl
  have B28 : L2.Binds K f28 ["ask"] [] := F28.bindsN fun _ _ _ _ _ _ us hl => match us, hl with | [_], _ => rfl
  have B29 : L2.Binds K f29 ["draws", "one"] [] := F29.bindsN fun _ _ _ _ _ _ us hl => match us, hl with | [_, _], _ => rfl
  have G0 : FnOk P w K mg base CX0 1 (fA "is_list") f0 ["thing"] (spData isSeqD) := ok_islist z_isi z_list z_tup F0
  have G1 : FnOk P w K mg base CX0 1 (fA "is_integer") f1 ["thing"] (spDataI isIntD) := ok_isint z_isi z_bool z_int F1
  have G2 : FnOk P w K mg base CX0 2 (fA "is_whole") f2 ["thing"] (spDataI isWhD) := ok_iswh (gd _ (df 1 _ rfl)) G1 F1.kp B1 F2
  have G3 : FnOk P w K mg base CX0 3 (fA "is_width") f3 ["thing"] (spData isWdD) := ok_iswd z_len (gd _ (df 0 _ rfl)) G0 F0.kp B0 (gd _ (df 2 _ rfl)) G2 F2.kp B2 F3
  have G4 : FnOk P w K mg base CX0 2 (fA "is_fraction") f4 ["thing"] (spData isFrD) := ok_isfr z_len (gd _ (df 0 _ rfl)) G0 F0.kp B0 (gd _ (df 1 _ rfl)) G1 F1.kp B1 F4
  have G5 : FnOk P w K mg base CX0 1 (fA "lowest") f5 ["top", "bottom"] spLow := ok_lowP gg F5
  have G6 : FnOk P w K mg base CX0 2 (fA "plus") f6 ["one", "other"] (spOp K plusT) := ok_plusP (gd _ (df 5 _ rfl)) G5 F5.kp B5 F6
  have G7 : FnOk P w K mg base CX0 2 (fA "times") f7 ["one", "other"] (spOp K timesT) := ok_timesP (gd _ (df 5 _ rfl)) G5 F5.kp B5 F7
  have G8 : FnOk P w K mg base CX0 3 (fA "is_form") f8 ["thing"] (spData isFmD) := ok_isfm z_len (gd _ (df 0 _ rfl)) G0 F0.kp B0 (gd _ (df 4 _ rfl)) G4 F4.kp B4 F8
  have G9 : FnOk P w K mg base (L2.CX P w) 4 (fA "check_form") f9 ["thing"] (spCheck (cA "BadForm")) := ok_check (gd _ (df 8 _ rfl)) G8 F8.kp B8 TF F9
  have G11 : FnOk P w K mg base CX0 3 (fA "worth_at") f11 ["form", "width"] (spAt K) := ok_atP (gd _ (df 6 _ rfl)) G6 F6.kp B6 (gd _ (df 7 _ rfl)) G7 F7.kp B7 F11
  have G10 : FnOk P w K mg base (L2.CX P w) 5 (fA "form_worth") f10 ["form", "width"] (spWorth K (cA "BadForm") (cA "BadWidth")) := ok_worth (gd _ (df 9 _ rfl)) G9 F9.kp B9 (gd _ (df 3 _ rfl)) G3 F3.kp B3 (gd _ (df 11 _ rfl)) G11 F11.kp B11 TW F10
  have G12 : FnOk P w K mg base (L2.CX P w) 5 (fA "form_sum") f12 ["one", "other"] (spSum K (cA "BadForm")) := ok_sum (gd _ (df 9 _ rfl)) G9 F9.kp B9 (gd _ (df 6 _ rfl)) G6 F6.kp B6 F12
  have G13 : FnOk P w K mg base (L2.CX P w) 5 (fA "form_times") f13 ["form", "share"] (spTm K (cA "BadForm") (cA "BadFraction")) := ok_tm (gd _ (df 9 _ rfl)) G9 F9.kp B9 (gd _ (df 4 _ rfl)) G4 F4.kp B4 (gd _ (df 7 _ rfl)) G7 F7.kp B7 TBr F13
  have G14 : FnOk P w K mg base CX0 1 (fA "_law_source") f14 ["script", "turn"] (spSource K) := ok_source z_len z_int z_sum F14
  have G15 : FnOk P w K mg base CX0 1 (fA "_law_draw") f15 ["draws", "many"] spDraw := ok_draw z_int F15
  have G16 : FnOk P w K mg base CX0 2 (fA "_law_pick") f16 ["draws", "xs"] (spPick K) := ok_pick z_len (gd _ (df 15 _ rfl)) G15 F15.kp B15 F16
  have G17 : ∀ n, FnOk P w K mg base CX0 n (fA "_law_same") f17 ["found", "due"] (spSame K n) := ok_same F17 (gd _ (df 17 _ rfl)) z_isi z_list z_tup z_bool z_int z_len z_all z_zip
  have G18 : FnOk P w K mg base CX0 1 (fA "_law_lowest") f18 ["top", "bottom"] spLow := ok_lowest z_int z_abs F18
  have G19 : FnOk P w K mg base CX0 2 (fA "_law_plus") f19 ["one", "other"] (spOp K plusT) := ok_plus (gd _ (df 18 _ rfl)) G18 F18.kp B18 F19
  have G20 : FnOk P w K mg base CX0 2 (fA "_law_times") f20 ["one", "other"] (spOp K timesT) := ok_times (gd _ (df 18 _ rfl)) G18 F18.kp B18 F20
  have G21 : FnOk P w K mg base CX0 3 (fA "_law_at") f21 ["form", "width"] (spAt K) := ok_at (gd _ (df 19 _ rfl)) G19 F19.kp B19 (gd _ (df 20 _ rfl)) G20 F20.kp B20 F21
  have G22 : ∀ n, FnOk P w K mg base CX0 (n + 1) (fA "_law_loose") f22 ["draws", "thing"] (spLoose n) := ok_loose F22 (gd _ (df 22 _ rfl)) z_isi z_list z_tup (gd _ (df 15 _ rfl)) G15 F15.kp B15
  have G23 : FnOk P w K mg base CX0 3 (fA "_law_wide") f23 ["draws", "one"] spWide := ok_wide (gd _ (df 16 _ rfl)) G16 F16.kp B16 F23
  have G24 : FnOk P w K mg base CX0 3 (fA "_law_some_fraction") f24 ["draws"] spFrac := ok_frac (gd _ (df 15 _ rfl)) G15 F15.kp B15 (gd _ (df 16 _ rfl)) G16 F16.kp B16 (gd _ (df 18 _ rfl)) G18 F18.kp B18 F24
  have G25 : FnOk P w K mg base CX0 4 (fA "_law_some_form") f25 ["draws"] spForm := ok_form (gd _ (df 24 _ rfl)) G24 F24.kp B24 (gd _ (df 16 _ rfl)) G16 F16.kp B16 F25
  have G26 : FnOk P w K mg base CX0 1 (fA "_law_odd_fractions") f26 [] spOddFr := ok_oddfr F26
  have G27 : FnOk P w K mg base CX0 3 (fA "_law_odd_forms") f27 ["draws", "one"] spOddFm := ok_oddfm (gd _ (df 16 _ rfl)) G16 F16.kp B16 (gd _ (df 26 _ rfl)) G26 F26.kp B26 F27
  have R : RefFns P w K mg base (cA "BadForm") (cA "BadWidth") (cA "BadFraction") fA := by
    refine ⟨⟨f8, G8, B8⟩, ⟨f10, G10, B10⟩, ⟨f12, G12, B12⟩, ⟨f13, G13, B13⟩, ⟨f27, G27, B27⟩, ⟨f26, G26, B26⟩, ⟨f17, G17, B17⟩, ⟨f28, F28, B28⟩, ?_, CF, CW, CB, exm3 Fx⟩
    repeat' (first | exact fun _ z => absurd z List.not_mem_nil | refine List.forall_mem_cons.mpr ⟨?_, ?_⟩)
    · exact ⟨F8.kp, gd _ (df 8 _ rfl)⟩
    · exact ⟨F10.kp, gd _ (df 10 _ rfl)⟩
    · exact ⟨F12.kp, gd _ (df 12 _ rfl)⟩
    · exact ⟨F13.kp, gd _ (df 13 _ rfl)⟩
    · exact ⟨F27.kp, gd _ (df 27 _ rfl)⟩
    · exact ⟨F26.kp, gd _ (df 26 _ rfl)⟩
    · exact ⟨F17.kp, gd _ (df 17 _ rfl)⟩
    · exact ⟨F28.kp, gd _ (df 28 _ rfl)⟩
  have tq : ∀ z ∈ Tq tA, z.1 = tA "_law_refused_right" → z.2 = qLam "_law_refused_right" := fun z hz _ => by
    have hz' : z ∈ [(tA "_law_refused_right", qLam "_law_refused_right")] := hz
    rw [List.mem_singleton] at hz'
    rw [hz']
  have G29 : FnOk P w K mg base CX0 8 (fA "_law_refused_right") f29 ["draws", "one"] (spRef (Tq tA)) :=
    ok_ref R c29 F29 (TB (dA "_law_refused_right", tA "_law_refused_right") (List.mem_map.mpr ⟨"_law_refused_right", List.mem_singleton.mpr rfl, rfl⟩)) (List.mem_map.mpr ⟨"_law_refused_right", List.mem_singleton.mpr rfl, rfl⟩) tq
  refine ⟨⟨f14, G14, B14⟩, ⟨f25, G25, B25⟩, ⟨f24, G24, B24⟩, ⟨f22, G22, B22⟩, ⟨f23, G23, B23⟩, ⟨f21, G21, B21⟩, ⟨f19, G19, B19⟩, ⟨f20, G20, B20⟩, ⟨f29, G29, B29⟩, R, ?_, ?_⟩
  · repeat' (first | exact fun _ z => absurd z List.not_mem_nil | refine List.forall_mem_cons.mpr ⟨?_, ?_⟩)
    · exact ⟨F14.kp, gd _ (df 14 _ rfl)⟩
    · exact ⟨F25.kp, gd _ (df 25 _ rfl)⟩
    · exact ⟨F24.kp, gd _ (df 24 _ rfl)⟩
    · exact ⟨F22.kp, gd _ (df 22 _ rfl)⟩
    · exact ⟨F23.kp, gd _ (df 23 _ rfl)⟩
    · exact ⟨F21.kp, gd _ (df 21 _ rfl)⟩
    · exact ⟨F19.kp, gd _ (df 19 _ rfl)⟩
    · exact ⟨F20.kp, gd _ (df 20 _ rfl)⟩
    · exact ⟨F29.kp, gd _ (df 29 _ rfl)⟩
  · repeat' (first | exact fun _ z => absurd z List.not_mem_nil | refine List.forall_mem_cons.mpr ⟨?_, ?_⟩)
    · exact fr' 1 _ rfl
    · exact fr' 2 _ rfl
    · exact fr' 0 _ rfl
    · exact fr' 8 _ rfl
theorem tabs0 {H : Hp} (h : ∀ p ∈ Cs dA tA, H p.2 = some (.tbl #[])) : Tabs (Tq tA) H := fun p hp => by
  obtain ⟨x, hx, rfl⟩ := List.mem_map.mp hp
  refine ⟨#[], h (dA x, tA x) (List.mem_map.mpr ⟨x, hx, rfl⟩), trivial, fun pos cv hc => ?_⟩
  cases hc
theorem law_at {l : PySem.W.OpenLaw} {h : Heap} {fa : Addr} (X : K.In h) (G : h.Ns mainGlobals mg) (Fx : Fx K CP cA iA fA dA tA) (hT : ∀ x ∈ tabN, h.get? (tA x) = some { cls := .none, data := .fields #[] }) (hmg : mg ("law" : Str) = some (.ref fa)) :
    LawAtG l w K 9 63 "script" mg fa h := by
  have gP : mg ("PageError" : Str) = some (.ref CP) := PySem.W.mg_of X G Fx.gloP
  have gg : mg ("gcd" : Str) = some (.builtin "math.gcd") := PySem.W.mg_of X G Fx.gcd
  have gm : ∀ c ∈ ers, mg c.2.1 = some (.ref (cA c.2.1)) := fun c hc => PySem.W.mg_of X G (Fx.gloE c hc)
  have gd : ∀ d ∈ dfs, mg d.2 = some (.ref (fA d.2)) := fun d hd => PySem.W.mg_of X G (Fx.gloD d hd)
  have fr : ∀ x ∈ freeN, mg x = none := fun x hx => PySem.W.mg_none_of X G (Fx.free x hx)
  have dl : ((41, "law") : Df) ∈ dfs := df 30 _ rfl
  obtain ⟨fd, _, F⟩ := Fx.dfn _ dl
  have ef : fa = fA "law" := by
    have z := hmg.symm.trans (gd _ dl)
    cases z
    rfl
  subst ef
  refine ⟨fd, Cs dA tA, spLaw K (Tq tA), fun p hp => ?_, fun p hp => ?_, fun p hp => ?_, fun s u => ?_, fun H a ns hl hH hS => ⟨a, ns, rfl, hS, by omega, tabs0 hH, fun _ => rfl⟩, fun base _ _ TB => ok_law (law_fns Fx gP gm gd fr gg TB) F⟩
  · obtain ⟨x, hx, rfl⟩ := List.mem_map.mp hp
    exact hT x hx
  · obtain ⟨x, hx, rfl⟩ := List.mem_map.mp hp
    exact Fx.tabO x hx
  · obtain ⟨x, hx, rfl⟩ := List.mem_map.mp hp
    exact PySem.W.codeHd_of_K X (Fx.tabH x hx)
  · exact FunD.bindsA (ps := ["script"]) F (fun _ _ _ _ _ _ us hl => match us, hl with | [_], _ => rfl) s [u] rfl
end
end LW
open PySem PySem.W PySem.Calls PyProof.Rows
theorem PySem.Challenge.cw_pagefall_k62_forms_told_holds : PySem.Challenge.rw_pagefall_k62_forms_told.Holds := by
  w_on; o_law
  refine HandSHeadRun.head_imp (r := OpenLaw.row PySem.Challenge.rw_pagefall_k62_forms_told) (q := view (OpenLaw.row PySem.Challenge.rw_pagefall_k62_forms_told).prog [0, 41]) (H := LW.hk) (ob := LW.ob) (M := 60000) (loose := LW.loose)
    (d := HandSHeadRun.topDef (OpenLaw.row PySem.Challenge.rw_pagefall_k62_forms_told).prog 41) (kwd := []) LW.ob_eq
    LW.run (by kernel_rfl) (by kernel_rfl) (by kernel_rfl) (by rfl) (by first | assumption | decide +kernel) (by decide +kernel) ⟨rfl, rfl, rfl, rfl, rfl, by decide +kernel⟩ ?hw ?hc
  case hw => w_witness2
  case hc =>
    refine LW.walkG (l := PySem.Challenge.rw_pagefall_k62_forms_told) (n := 63) (k := 9) (x := "script") rfl (by decide) (by kernel_rfl) ⟨rfl, by decide, by decide⟩ ?F
    intro w mg fa h Y G hmg0
    obtain ⟨K, CP, cA, iA, fA, dA, tA, KX, Fx, hT⟩ := Y
    have hmg : mg ("law" : PySem.Str) = some (.ref fa) := by
      have e : (HandSHeadRun.topDef (OpenLaw.row PySem.Challenge.rw_pagefall_k62_forms_told).prog 41).name = ("law" : PySem.Str) := by kernel_rfl
      rw [← e]
      exact hmg0
    exact ⟨K, KX, LW.law_at KX G Fx hT hmg⟩
