import PyProof.Rows.All
import Wide.All
import OpenK.AllK
import Wide.FinOn
import HandS.ForMost
import HandS.Codes
import HandS.IsInst
import HandS.Defaults
import HandS.MakeKw
import HandS.MakeKwOnly
import HandS.ClsMeth
import HandS.TupAny
import HandS.Style
import HandS.Conv
import HandS.Walk
import HandS.Lambda
import HandS.Iter
import HandS.ExcInit
import HandS.ForExc
import KE.KExcIs
import HandS.EndTab
import HandS.More
import HandS.SlotsOwn
import PyProof.InstNe
import KE.DataEq
import HandS.DeepEq
import HandS.RaiseMore
import PySem.Challenge.RW_evenrules_k15_rules_by_weights_made
open PySem PySem.W PyProof.Rows
set_option Elab.async false
set_option linter.all false
set_option maxRecDepth 100000 in
set_option maxHeartbeats 0 in
open_top hd for PySem.Challenge.rw_evenrules_k15_rules_by_weights_made
set_option maxRecDepth 100000
set_option maxHeartbeats 4000000
namespace Ev
open PySem L2
def top (i : Nat) : Stmt := PySem.Challenge.pw_evenrules_k15_rules_by_weights_made.main.body.getD i (.Pass ⟨0, 0, 0, 0⟩)
abbrev sDraw : Stmt := top 47
/-- all that was tracked is as it was, but at p -/
def But (p : Addr) (H H' : Hp) : Prop := ∀ b o, b ≠ p → H b = some o → H' b = some o
theorem But.refl (p : Addr) (H : Hp) : But p H H := fun _ _ _ e => e
theorem But.trans {p : Addr} {H H1 H2 : Hp} (a : But p H H1) (b : But p H1 H2) : But p H H2 := fun c o n e => b c o n (a c o n e)
theorem Same.but {p : Addr} {H H' : Hp} (a : Same H H') : But p H H' := fun c o _ e => a c o e
theorem But.upd_new {p q : Addr} {H : Hp} {o : HO} (h : H q = none) : But p H (upd H q o) := fun b u _ e => by
  rw [upd_ne (ne_of_none e h)]; exact e
theorem But.upd_at {p : Addr} {H : Hp} {o : HO} : But p H (upd H p o) := fun b u n e => by
  rw [upd_ne n]; exact e
/-- the pen: a list of a list of ints, how often it was asked, and a rest -/
def Pen (L : Addr) (H : Hp) (p : Addr) (B : Int) : Prop := ∃ (ns : List Int) (turn carry : Int),
  H p = some (.lst [.ref L, .int turn, .int carry]) ∧ H L = some (.lst (ns.map V.int)) ∧ L ≠ p ∧ ns.length ≤ 63 ∧ 0 ≤ turn ∧ turn ≤ B ∧ 0 ≤ carry
theorem Pen.keep {L : Addr} {H H' : Hp} {p : Addr} {B : Int} (h : Pen L H p B) (k : Same H H') : Pen L H' p B := by
  obtain ⟨ns, t, c, h1, h2, h3, h4, h5, h6, h7⟩ := h
  exact ⟨ns, t, c, k _ _ h1, k _ _ h2, h3, h4, h5, h6, h7⟩
theorem Pen.mono {L : Addr} {H : Hp} {p : Addr} {B B' : Int} (h : Pen L H p B) (k : B ≤ B') : Pen L H p B' := by
  obtain ⟨ns, t, c, h1, h2, h3, h4, h5, h6, h7⟩ := h
  exact ⟨ns, t, c, h1, h2, h3, h4, h5, by omega, h7⟩
def spDraw : Sp := fun vs H Q _ => ∃ (p L : Addr) (m B : Int), vs = [.ref p, .int m] ∧ 1 ≤ m ∧ m < 1073741824 ∧ B ≤ 1000000 ∧ Pen L H p B ∧
  ∀ (d : Int) (H' : Hp), But p H H' → Pen L H' p (B + 1) → 0 ≤ d → d < m → Q (.int d) H'
theorem dpInts {K : PySem.W.Frag} {H : Hp} : ∀ ns : List Int, DpAll K H (ns.map V.int) (ns.map PyData.int)
  | [] => .nil
  | n :: r => .cons (.int n) (dpInts r)
theorem sh_ints (ns : List Int) : SeqAt.shaped (.list (ns.map PyData.int)) = true := by
  have h1 : ∀ ns : List Int, PyData.canLayAll0 (ns.map PyData.int) = true := by
    intro ns
    induction ns with
    | nil => rfl
    | cons n r ih => simp [PyData.canLayAll0, PyData.canLay0, ih]
  have h2 : ∀ ns : List Int, PyData.depthAll (ns.map PyData.int) ≤ 1 := by
    intro ns
    induction ns with
    | nil => simp [PyData.depthAll]
    | cons n r ih => simp [PyData.depthAll, PyData.depth]; omega
  unfold SeqAt.shaped
  rw [Bool.and_eq_true]
  refine ⟨by simp [PyData.canLay0, h1], decide_eq_true ?_⟩
  have := h2 ns
  simp [PyData.depth]; omega
theorem eqv_nil (ns : List Int) : PyData.eqv (.list (ns.map PyData.int)) (.list []) = ns.isEmpty := by
  cases ns <;> simp [PyData.eqv, PyData.eqvAll]
section
variable {P : Program} {w : World} {K : PySem.W.Frag} {mg : Str → Option Value} {base : Heap}
/-- built-ins that the program does not cover -/
structure Blt (mg : Str → Option Value) : Prop where
  int : mg "int" = none
  len : mg "len" = none
  abs : mg "abs" = none
  list : mg "list" = none
  min : mg "min" = none
  max : mg "max" = none
  isi : mg "isinstance" = none
  bool : mg "bool" = none
  tuple : mg "tuple" = none
  all : mg "all" = none
  range : mg "range" = none
  repr : mg "repr" = none
theorem scD : FnScope ["_law_pen_here", "_law_many", "_law_digit", "_law_at", "_law_cell", "_law_great", "_law_mixed"] ["_law_pen_here", "_law_many"] (defScope sDraw) := ⟨rfl, rfl, rfl, by decide +kernel, rfl, by decide +kernel, by decide +kernel⟩
theorem fmod_lo (a : Int) {m : Int} (h : 1 ≤ m) : 0 ≤ a.fmod m := by rw [Int.fmod_eq_emod_of_nonneg a (by omega)]; exact Int.emod_nonneg a (by omega)
theorem fmod_hi (a : Int) {m : Int} (h : 1 ≤ m) : a.fmod m < m := by rw [Int.fmod_eq_emod_of_nonneg a (by omega)]; exact Int.emod_lt_of_pos a (by omega)
theorem fdiv_lo {a m : Int} (h : 1 ≤ m) (h0 : 0 ≤ a) : 0 ≤ a.fdiv m := by rw [Int.fdiv_eq_ediv_of_nonneg a (by omega)]; exact Int.ediv_nonneg h0 (by omega)
theorem cell_at {ns : List Int} (h : ns ≠ []) (t : Int) : ∃ c : Int, atI (ns.map V.int) (t.fmod (((ns.map V.int).length : Nat) : Int)) = some (V.int c) := by
  rw [List.length_map]
  have l : 0 < ns.length := List.length_pos_iff.mpr h
  have h1 : 0 ≤ t.fmod (ns.length : Int) := fmod_lo t (by omega)
  have h2 : t.fmod (ns.length : Int) < ns.length := fmod_hi t (by omega)
  generalize t.fmod (ns.length : Int) = i at h1 h2
  obtain ⟨j, rfl⟩ := Int.eq_ofNat_of_zero_le h1
  have hj : j < ns.length := by omega
  exact ⟨ns[j], atI_nat (by rw [List.getElem?_map, List.getElem?_eq_getElem hj]; rfl)⟩
theorem mul_le_of {a b A B : Int} (a0 : 0 ≤ a) (b0 : 0 ≤ b) (ha : a ≤ A) (hb : b ≤ B) : 0 ≤ a * b ∧ a * b ≤ A * B :=
  ⟨Int.mul_nonneg a0 b0, Int.mul_le_mul ha hb b0 (by omega)⟩
theorem bound1 (c : Int) {M C D t : Int} (hM : 1 ≤ M) (hM2 : M ≤ 4294967296) (hC : 0 ≤ C ∧ C ≤ 1000000) (hD : 0 ≤ D ∧ D ≤ 1000000) (h0 : 0 ≤ t) (h1 : t ≤ 1000000) : (c.fmod M + C * t + D).natAbs < 2 ^ 64 := by
  have a1 := fmod_lo c hM
  have a2 := fmod_hi c hM
  have ⟨a3, a4⟩ := mul_le_of hC.1 h0 hC.2 h1
  omega
theorem bound2 {x C5 C6 C7 t : Int} (hx : 0 ≤ x ∧ x < 4294967296) (h5 : 0 ≤ C5 ∧ C5 ≤ 1000000) (h6 : 0 ≤ C6 ∧ C6 ≤ 1000000) (h7 : 0 ≤ C7 ∧ C7 ≤ 1000000) (h0 : 0 ≤ t) (h1 : t ≤ 1000000) :
    (x * (2 * t + C5) + C6 * t * t + C7).natAbs < 2 ^ 64 := by
  have ⟨a1, a2⟩ := mul_le_of (b := 2 * t + C5) (A := 4294967296) (B := 3000000) hx.1 (by omega) (by omega) (by omega)
  have ⟨a3, a4⟩ := mul_le_of h6.1 h0 h6.2 h1
  have ⟨a5, a6⟩ := mul_le_of a3 h0 a4 h1
  omega
theorem great_nn {c e : Int} (h : e ≤ (if c < 0 then -c else c)) (b : Bool) : 0 ≤ 2 * ((if c < 0 then -c else c) - e) + (if b = true then 1 else 0) := by
  cases b
  · rw [if_neg Bool.false_ne_true]; omega
  · rw [if_pos rfl]; omega
theorem lt64 {x : Int} (h : 0 ≤ x ∧ x < 4294967296) : -(2 ^ 64) < x ∧ x < 2 ^ 64 := ⟨by omega, by omega⟩
theorem nz {M : Int} (h : 0 < M) : M ≠ 0 := by omega
theorem ok_draw {f : Addr} {fd : FuncData} (F : Fun K "_law_draw" "_law_draw" sDraw f fd) (T : Blt mg) : FnOk P w K mg base CX0 1 f fd ["_law_pen_here", "_law_many"] spDraw := by
  refine F.ok scD (fun vs H Q E h => ?_) (fun cdv A outer s H vs Q E hr h => ?_)
  · obtain ⟨p, L, m, B, rfl, _⟩ := h
    rfl
  · obtain ⟨p, L, m, B, rfl, hm, hm2, hB, ⟨ns, tn, ca, hp, hL, Lp, hlen, t0, tB, c0⟩, k⟩ := h
    have hu := hu_of hr
    refine ⟨_, pss_cons (ps_if (pt_cmpR op_gt (pe_ix ix_list (pv 0) pe_int (fun _ _ => rfl)) pe_int (nomark _))
        (pss_cons (ps_set (i := 2) scD.nd rfl (.inl rfl) (pe_op op_modN (pe_callTy call_int1 (by rfl) T.int (by decide +kernel) (pa_cons (pe_ix ix_list (pv 0) pe_int (fun _ _ => rfl)) pa_nil)) (pv 1)))
        (pss_cons (ps_asg (pe_op op_fdivN (pe_callTy call_int1 (by rfl) T.int (by decide +kernel) (pa_cons (pe_ix ix_list (pv 0) pe_int (fun _ _ => rfl)) pa_nil)) (pv 1)) (pg_sub (pv 0) pe_int set_list))
        (pss_one (ps_ret (pv 2))))) pss_nil)
      (pss_cons (ps_set (i := 3) scD.nd rfl (.inl rfl) (pe_ix ix_list (pv 0) pe_int (fun _ _ => rfl)))
      (pss_cons (ps_asg (pe_op op_add (pv 3) pe_int) (pg_sub (pv 0) pe_int set_list))
      (pss_cons (ps_set (i := 4) scD.nd rfl (.inl rfl) (pe_op op_add (pe_op op_mul pe_int (pv 3)) pe_int))
      (pss_cons (ps_if (pt_cmpR (op_neD hr.units) (pe_ix ix_list (pv 0) pe_int (fun _ _ => rfl)) (pe_lst pa_nil) (nomark _))
        (pss_one (ps_set (i := 4) scD.nd rfl (.inl rfl) (pe_ix ix_list (pe_ix ix_list (pv 0) pe_int (fun _ _ => rfl))
          (pe_op op_modN (pe_callTy call_int1 (by rfl) T.int (by decide +kernel) (pa_cons (pv 3) pa_nil)) (pe_callB call_len_seq (by rfl) T.len PySem.boot_len (pa_cons (pe_ix ix_list (pv 0) pe_int (fun _ _ => rfl)) pa_nil))) (fun _ _ => rfl)))) pss_nil)
      (pss_cons (ps_if (PW.pt (pw_and (pt_cmpR op_lt (pv 3) (pe_callB call_len_seq (by rfl) T.len PySem.boot_len (pa_cons (pe_ix ix_list (pv 0) pe_int (fun _ _ => rfl)) pa_nil)) (nomark _))
          (pw_and1 (pt_cmpR op_ge (pe_callB call_abs (by rfl) T.abs (by decide +kernel) (pa_cons (pv 4) pa_nil)) (pe_op op_pow pe_int pe_int) (nomark _)))))
        (pss_cons (ps_set (i := 5) scD.nd rfl (.inl rfl) (pe_op op_add (pe_op op_mul pe_int (pe_op op_sub (pe_callB call_abs (by rfl) T.abs (by decide +kernel) (pa_cons (pv 4) pa_nil)) (pe_op op_pow pe_int pe_int)))
            (pe_callTy call_int1 (by rfl) T.int (by decide +kernel) (pa_cons (pe_cmpR op_lt (pv 4) pe_int (nomark _)) pa_nil))))
        (pss_cons (ps_asg (pe_op op_fdivN (pe_callTy call_int1 (by rfl) T.int (by decide +kernel) (pa_cons (pv 5) pa_nil)) (pv 1)) (pg_sub (pv 0) pe_int set_list))
        (pss_one (ps_ret (pe_op op_modN (pe_callTy call_int1 (by rfl) T.int (by decide +kernel) (pa_cons (pv 5) pa_nil)) (pv 1)))))) pss_nil)
      (pss_cons (ps_set (i := 6) scD.nd rfl (.inl rfl) (pe_op op_modN (pe_callTy call_int1 (by rfl) T.int (by decide +kernel) (pa_cons (pe_op op_pow (pe_op op_add (pe_op op_add
          (pe_op op_modN (pe_callTy call_int1 (by rfl) T.int (by decide +kernel) (pa_cons (pv 4) pa_nil)) pe_int) (pe_op op_mul pe_int (pv 3))) pe_int) pe_int) pa_nil)) pe_int))
      (pss_cons (ps_set (i := 6) scD.nd rfl (.inl rfl) (pe_op op_modN (pe_callTy call_int1 (by rfl) T.int (by decide +kernel) (pa_cons (pe_op op_pow (pe_op op_add (pe_op op_add
          (pe_op op_mul (pv 6) (pe_op op_add (pe_op op_mul pe_int (pv 3)) pe_int)) (pe_op op_mul (pe_op op_mul pe_int (pv 3)) (pv 3))) pe_int) pe_int) pa_nil)) pe_int))
      (pss_one (ps_ret (pe_op op_modN (pe_callTy call_int1 (by rfl) T.int (by decide +kernel) (pa_cons (pe_op op_fdivN (pv 6) pe_int) pa_nil)) (pv 1))))))))))), ?_⟩
    have i2 : ∀ {a b c : V}, atI [a, b, c] 2 = some c := fun {a b c} => atI_nat (j := 2) rfl
    have i1 : ∀ {a b c : V}, atI [a, b, c] 1 = some b := fun {a b c} => atI_nat (j := 1) rfl
    have i0 : ∀ {a b c : V}, atI [a, b, c] 0 = some a := fun {a b c} => atI_nat (j := 0) rfl
    -- if pen[2] > 0
    refine ⟨_, rfl, p, _, 2, _, rfl, rfl, SqL.of hp, i2, _, _, rfl, rfl, _, rfl, ite2 (fun e => ?_) (fun e => ?_)⟩
    · -- digit
      refine ⟨_, rfl, p, _, 2, _, rfl, rfl, SqL.of hp, i2, .inl ⟨_, rfl, _, rfl, _, _, rfl, rfl, (by omega), ?_⟩⟩
      refine ⟨_, rfl, p, _, 2, _, rfl, rfl, SqL.of hp, i2, .inl ⟨_, rfl, _, rfl, _, _, rfl, rfl, ⟨by omega, by omega⟩, _, rfl, p, _, _, 2, rfl, rfl, hp, rfl, ?_⟩⟩
      refine ⟨_, rfl, ?_⟩
      exact k _ _ But.upd_at ⟨ns, tn, _, upd_same, by rw [upd_ne Lp]; exact hL, Lp, hlen, t0, by omega, fdiv_lo hm c0⟩ (fmod_lo _ hm) (fmod_hi _ hm)
    · -- turn
      refine ⟨_, rfl, p, _, 1, _, rfl, rfl, SqL.of hp, i1, ?_⟩
      refine ⟨_, rfl, _, _, rfl, rfl, _, rfl, p, _, _, 1, rfl, rfl, hp, rfl, ?_⟩
      have hp1 : upd H p (.lst ([V.ref L, V.int tn, V.int ca].set 1 (V.int (tn + 1)))) p = some (.lst [.ref L, .int (tn + 1), .int ca]) := upd_same
      have hL1 : upd H p (.lst ([V.ref L, V.int tn, V.int ca].set 1 (V.int (tn + 1)))) L = some (.lst (ns.map V.int)) := by rw [upd_ne Lp]; exact hL
      have b1 : But p H (upd H p (.lst ([V.ref L, V.int tn, V.int ca].set 1 (V.int (tn + 1))))) := But.upd_at
      generalize upd H p (.lst ([V.ref L, V.int tn, V.int ca].set 1 (V.int (tn + 1)))) = H1 at hp1 hL1 b1 ⊢
      -- cell = c * turn + c'
      refine ⟨_, rfl, _, _, rfl, rfl, .inl ⟨by decide, by decide⟩, _, _, rfl, rfl, ?_⟩
      -- if pen[0] != []
      refine ⟨_, rfl, p, _, 0, _, rfl, rfl, SqL.of hp1, i0, by decide, fun l hl => ?_⟩
      have n1 : p ≠ l := ne_of_none hp1 hl
      have n2 : L ≠ l := ne_of_none hL1 hl
      have hp2 : upd H1 l (.lst []) p = some (.lst [.ref L, .int (tn + 1), .int ca]) := by rw [upd_ne n1]; exact hp1
      have hL2 : upd H1 l (.lst []) L = some (.lst (ns.map V.int)) := by rw [upd_ne n2]; exact hL1
      have hl2 : upd H1 l (.lst []) l = some (.lst []) := upd_same
      have b2 : But p H (upd H1 l (.lst [])) := b1.trans (But.upd_new hl)
      clear b1 hp1 hL1
      generalize upd H1 l (.lst []) = H2 at hp2 hL2 hl2 b2
      refine ⟨_, _, .lst (SqL.of hL2) (dpInts ns), .lst (SqL.of hl2) .nil, sh_ints ns, sh_ints [], _, rfl, ?_⟩
      rw [eqv_nil]
      -- the rest, for any cell
      have hcell : ∀ c : Int, ∃ j : Int, (if c < 0 then -c else c) = j ∧ 0 ≤ j := fun c => by
        by_cases z : c < 0
        · exact ⟨_, rfl, by rw [if_pos z]; omega⟩
        · exact ⟨_, rfl, by rw [if_neg z]; omega⟩
      have fin : ∀ H' : Hp, H' p = some (.lst [.ref L, .int (tn + 1), .int ca]) → H' L = some (.lst (ns.map V.int)) → But p H H' → Pen L H' p (B + 1) := fun H' e1 e2 _ =>
        ⟨ns, tn + 1, ca, e1, e2, Lp, hlen, by omega, by omega, c0⟩
      have ht : tn ≤ 1000000 := by omega
      have hm6 : 0 ≤ 71315 * tn ∧ 71315 * tn ≤ 71315 * 1000000 := mul_le_of (by decide) t0 (Int.le_refl _) ht
      have hq : ∀ {x m : Int}, 1 ≤ m → m ≤ 4294967296 → 0 ≤ x.fmod m ∧ x.fmod m < 4294967296 := fun {x m} h1 h2 => ⟨fmod_lo x h1, by have := fmod_hi x h1; omega⟩
      cases hn : ns with
      | nil =>
        refine iteF ?_
        refine ⟨_, rfl, _, rfl, p, _, 0, _, rfl, rfl, SqL.of hp2, i0, L, _, rfl, .inl (SqL.of hL2), _, _, rfl, rfl, _, rfl, ite2 (fun e1 => ?_) (fun e1 => ?_)⟩
        · refine ⟨_, rfl, _, rfl, _, _, rfl, rfl, ⟨by decide, by decide, by decide⟩, _, _, rfl, rfl, _, rfl, ite2 (fun e2 => ?_) (fun e2 => ?_)⟩
          · refine ⟨_, rfl, _, rfl, _, _, rfl, rfl, ⟨by decide, by decide, by decide⟩, _, _, rfl, rfl, _, _, rfl, rfl, .inl ⟨by decide, by decide⟩, _, rfl, _, _, rfl, rfl, .inr ⟨_, rfl, _, _, rfl, rfl, ?_⟩⟩
            refine ⟨_, rfl, .inl ⟨_, rfl, _, rfl, _, _, rfl, rfl, ⟨by omega, by omega⟩, _, rfl, p, _, _, 2, rfl, rfl, hp2, rfl, ?_⟩⟩
            refine ⟨_, rfl, .inl ⟨_, rfl, _, rfl, _, _, rfl, rfl, (by omega), ?_⟩⟩
            refine k _ _ (b2.trans But.upd_at) ⟨_, tn + 1, _, upd_same, by rw [upd_ne Lp]; exact hL2, Lp, hlen, by omega, by omega, fdiv_lo hm ?_⟩ (fmod_lo _ hm) (fmod_hi _ hm)
            have e3 := of_decide_eq_true e2
            exact great_nn e3 _
          · skip
            refine ⟨_, rfl, .inl ⟨_, rfl, _, _, rfl, rfl, nz (by decide), _, rfl, _, _, rfl, rfl, .inl ⟨by decide, by decide⟩, _, _, rfl, rfl, _, _, rfl, rfl, _, _, rfl, rfl, ⟨by decide, by decide, bound1 _ (by decide) (by decide) (by decide) (by decide) t0 ht⟩, .inl ⟨_, rfl, _, _, rfl, rfl, nz (by decide), ?_⟩⟩⟩
            refine ⟨_, rfl, _, rfl, _, _, rfl, rfl, .inl ⟨by decide, by decide⟩, _, _, rfl, rfl, _, _, rfl, rfl, .inl ?_, _, rfl, _, _, rfl, rfl, .inl ⟨by decide, by decide⟩, _, rfl, _, _, rfl, rfl, .inl ?_, _, _, rfl, rfl, _, _, rfl, rfl, _, _, rfl, rfl, ⟨by decide, by decide, ?_⟩, .inl ⟨_, rfl, _, _, rfl, rfl, nz (by decide), ?_⟩⟩
            · exact lt64 (hq (by decide) (by decide))
            · exact ⟨by omega, by omega⟩
            · exact bound2 (hq (by decide) (by decide)) (by decide) (by decide) (by decide) t0 ht
            · refine ⟨_, rfl, _, _, rfl, rfl, ⟨by decide, by decide⟩, .inl ⟨_, rfl, _, rfl, _, _, rfl, rfl, (by omega), ?_⟩⟩
              exact k _ _ b2 (fin _ hp2 hL2 b2) (fmod_lo _ hm) (fmod_hi _ hm)
        · skip
          refine ⟨_, rfl, .inl ⟨_, rfl, _, _, rfl, rfl, nz (by decide), _, rfl, _, _, rfl, rfl, .inl ⟨by decide, by decide⟩, _, _, rfl, rfl, _, _, rfl, rfl, _, _, rfl, rfl, ⟨by decide, by decide, bound1 _ (by decide) (by decide) (by decide) (by decide) t0 ht⟩, .inl ⟨_, rfl, _, _, rfl, rfl, nz (by decide), ?_⟩⟩⟩
          refine ⟨_, rfl, _, rfl, _, _, rfl, rfl, .inl ⟨by decide, by decide⟩, _, _, rfl, rfl, _, _, rfl, rfl, .inl ?_, _, rfl, _, _, rfl, rfl, .inl ⟨by decide, by decide⟩, _, rfl, _, _, rfl, rfl, .inl ?_, _, _, rfl, rfl, _, _, rfl, rfl, _, _, rfl, rfl, ⟨by decide, by decide, ?_⟩, .inl ⟨_, rfl, _, _, rfl, rfl, nz (by decide), ?_⟩⟩
          · exact lt64 (hq (by decide) (by decide))
          · exact ⟨by omega, by omega⟩
          · exact bound2 (hq (by decide) (by decide)) (by decide) (by decide) (by decide) t0 ht
          · refine ⟨_, rfl, _, _, rfl, rfl, ⟨by decide, by decide⟩, .inl ⟨_, rfl, _, rfl, _, _, rfl, rfl, (by omega), ?_⟩⟩
            exact k _ _ b2 (fin _ hp2 hL2 b2) (fmod_lo _ hm) (fmod_hi _ hm)
      | cons n0 nr =>
        refine iteT ?_
        obtain ⟨c, hc⟩ := cell_at (ns := ns) (by rw [hn]; exact List.cons_ne_nil _ _) tn
        refine ⟨_, rfl, p, _, 0, _, rfl, rfl, SqL.of hp2, i0, _, rfl, .inl ⟨_, rfl, _, rfl, p, _, 0, _, rfl, rfl, SqL.of hp2, i0, L, _, rfl, .inl (SqL.of hL2), _, _, rfl, rfl, (by rw [List.length_map, hn, List.length_cons]; omega), L, _, _, _, rfl, rfl, SqL.of hL2, hc, ?_⟩⟩
        refine ⟨_, rfl, _, rfl, p, _, 0, _, rfl, rfl, SqL.of hp2, i0, L, _, rfl, .inl (SqL.of hL2), _, _, rfl, rfl, _, rfl, ite2 (fun e1 => ?_) (fun e1 => ?_)⟩
        · refine ⟨_, rfl, _, rfl, _, _, rfl, rfl, ⟨by decide, by decide, by decide⟩, _, _, rfl, rfl, _, rfl, ite2 (fun e2 => ?_) (fun e2 => ?_)⟩
          · refine ⟨_, rfl, _, rfl, _, _, rfl, rfl, ⟨by decide, by decide, by decide⟩, _, _, rfl, rfl, _, _, rfl, rfl, .inl ⟨by decide, by decide⟩, _, rfl, _, _, rfl, rfl, .inr ⟨_, rfl, _, _, rfl, rfl, ?_⟩⟩
            refine ⟨_, rfl, .inl ⟨_, rfl, _, rfl, _, _, rfl, rfl, ⟨by omega, by omega⟩, _, rfl, p, _, _, 2, rfl, rfl, hp2, rfl, ?_⟩⟩
            refine ⟨_, rfl, .inl ⟨_, rfl, _, rfl, _, _, rfl, rfl, (by omega), ?_⟩⟩
            refine k _ _ (b2.trans But.upd_at) ⟨_, tn + 1, _, upd_same, by rw [upd_ne Lp]; exact hL2, Lp, hlen, by omega, by omega, fdiv_lo hm ?_⟩ (fmod_lo _ hm) (fmod_hi _ hm)
            have e3 := of_decide_eq_true e2
            exact great_nn e3 _
          · skip
            refine ⟨_, rfl, .inl ⟨_, rfl, _, _, rfl, rfl, nz (by decide), _, rfl, _, _, rfl, rfl, .inl ⟨by decide, by decide⟩, _, _, rfl, rfl, _, _, rfl, rfl, _, _, rfl, rfl, ⟨by decide, by decide, bound1 _ (by decide) (by decide) (by decide) (by decide) t0 ht⟩, .inl ⟨_, rfl, _, _, rfl, rfl, nz (by decide), ?_⟩⟩⟩
            refine ⟨_, rfl, _, rfl, _, _, rfl, rfl, .inl ⟨by decide, by decide⟩, _, _, rfl, rfl, _, _, rfl, rfl, .inl ?_, _, rfl, _, _, rfl, rfl, .inl ⟨by decide, by decide⟩, _, rfl, _, _, rfl, rfl, .inl ?_, _, _, rfl, rfl, _, _, rfl, rfl, _, _, rfl, rfl, ⟨by decide, by decide, ?_⟩, .inl ⟨_, rfl, _, _, rfl, rfl, nz (by decide), ?_⟩⟩
            · exact lt64 (hq (by decide) (by decide))
            · exact ⟨by omega, by omega⟩
            · exact bound2 (hq (by decide) (by decide)) (by decide) (by decide) (by decide) t0 ht
            · refine ⟨_, rfl, _, _, rfl, rfl, ⟨by decide, by decide⟩, .inl ⟨_, rfl, _, rfl, _, _, rfl, rfl, (by omega), ?_⟩⟩
              exact k _ _ b2 (fin _ hp2 hL2 b2) (fmod_lo _ hm) (fmod_hi _ hm)
        · skip
          refine ⟨_, rfl, .inl ⟨_, rfl, _, _, rfl, rfl, nz (by decide), _, rfl, _, _, rfl, rfl, .inl ⟨by decide, by decide⟩, _, _, rfl, rfl, _, _, rfl, rfl, _, _, rfl, rfl, ⟨by decide, by decide, bound1 _ (by decide) (by decide) (by decide) (by decide) t0 ht⟩, .inl ⟨_, rfl, _, _, rfl, rfl, nz (by decide), ?_⟩⟩⟩
          refine ⟨_, rfl, _, rfl, _, _, rfl, rfl, .inl ⟨by decide, by decide⟩, _, _, rfl, rfl, _, _, rfl, rfl, .inl ?_, _, rfl, _, _, rfl, rfl, .inl ⟨by decide, by decide⟩, _, rfl, _, _, rfl, rfl, .inl ?_, _, _, rfl, rfl, _, _, rfl, rfl, _, _, rfl, rfl, ⟨by decide, by decide, ?_⟩, .inl ⟨_, rfl, _, _, rfl, rfl, nz (by decide), ?_⟩⟩
          · exact lt64 (hq (by decide) (by decide))
          · exact ⟨by omega, by omega⟩
          · exact bound2 (hq (by decide) (by decide)) (by decide) (by decide) (by decide) t0 ht
          · refine ⟨_, rfl, _, _, rfl, rfl, ⟨by decide, by decide⟩, .inl ⟨_, rfl, _, rfl, _, _, rfl, rfl, (by omega), ?_⟩⟩
            exact k _ _ b2 (fin _ hp2 hL2 b2) (fmod_lo _ hm) (fmod_hi _ hm)
end
end Ev
namespace Ev
open PySem L2 PySem.Spec PyProof.Rows
abbrev sKept : Stmt := top 2
abbrev sParts : Stmt := top 5
abbrev sBRInit : Stmt := inClass (top 9) 0
abbrev sNHInit : Stmt := inClass (top 10) 0
abbrev sIsInt : Stmt := top 14
abbrev sWithin : Stmt := top 15
abbrev sTurnInit : Stmt := inClass (top 30) 0
abbrev sTurnEq : Stmt := inClass (top 30) 2
abbrev sTryInit : Stmt := inClass (top 31) 0
abbrev sTryEq : Stmt := inClass (top 31) 3
abbrev sPair : Stmt := top 35
abbrev sTimes : Stmt := top 36
abbrev sPlus : Stmt := top 37
abbrev sTurn : Stmt := top 38
abbrev sNeedT : Stmt := top 39
abbrev sHalves : Stmt := top 40
abbrev sNeedH : Stmt := top 41
abbrev sPen : Stmt := top 46
abbrev sPick : Stmt := top 48
abbrev sNums : Stmt := top 49
abbrev sRule : Stmt := top 50
abbrev sHeard : Stmt := top 51
abbrev sDue : Stmt := top 52
abbrev sTells : Stmt := top 53
abbrev sMade : Stmt := top 54
abbrev sLPair : Stmt := top 55
abbrev sLPlus : Stmt := top 56
abbrev sRefu : Stmt := top 57
abbrev sLaw : Stmt := top 58
theorem same_new {H : Hp} {q : Addr} {o : HO} (n : H q = none) : Same H (upd H q o) := fun b u e => by rw [upd_ne (ne_of_none e n)]; exact e
theorem Same.gone {H H' : Hp} {p : Addr} (k : Same H H') (n : H' p = none) : H p = none := by
  cases z : H p with
  | none => rfl
  | some o => rw [k _ _ z] at n; cases n
/-- a def that stands under its name -/
structure Df (P : Program) (w : World) (K : PySem.W.Frag) (mg : Str → Option Value) (base : Heap) (k : Nat) (x : Str) (ps : List Str) (sp : Sp) : Prop where
  ex : ∃ (f : Addr) (fd : FuncData), FnOk P w K mg base CX0 k f fd ps sp ∧ mg x = some (.ref f) ∧ PySem.W.keepIn K (.ref f) = true ∧ Binds K fd ps []
theorem extN_refl (H : Hp) : LamX.ExtN H H := fun _ _ e _ => e
theorem sx {H H1 H2 : Hp} (k : Same H H1) (q : LamX.ExtN H1 H2) : LamX.ExtN H H2 := fun b o e t => q b o (k b o e) t
theorem xx {H H1 H2 : Hp} (k : LamX.ExtN H H1) (q : LamX.ExtN H1 H2) : LamX.ExtN H H2 := fun b o e t => q b o (k b o e t) t
/-- no integer -/
def NoInt (H : Hp) (v : V) : Prop := (∀ i, v ≠ .int i) ∧ ∃ (T : String) (b c : Bool), (∀ (K : PySem.W.Frag) (H' : Hp), LamX.ExtN H H' → TyX K H' v (.type T)) ∧ kitB T "int" = some b ∧ kitB T "bool" = some c ∧ (b = true → c = true)
theorem NoInt.keep {H H' : Hp} {v : V} (h : NoInt H v) (k : Same H H') : NoInt H' v := by
  obtain ⟨n, T, b, c, ty, r⟩ := h
  exact ⟨n, T, b, c, fun K G q => ty K G (sx k q), r⟩
theorem NoInt.ext {H H' : Hp} {v : V} (h : NoInt H v) (k : LamX.ExtN H H') : NoInt H' v := by
  obtain ⟨n, T, b, c, ty, r⟩ := h
  exact ⟨n, T, b, c, fun K G q => ty K G (xx k q), r⟩
/-- an integer or none -/
def IntQ (H : Hp) (v : V) : Prop := (∃ i, v = .int i) ∨ NoInt H v
theorem IntQ.keep {H H' : Hp} {v : V} (h : IntQ H v) (k : Same H H') : IntQ H' v := h.imp id fun n => n.keep k
theorem IntQ.ext {H H' : Hp} {v : V} (h : IntQ H v) (k : LamX.ExtN H H') : IntQ H' v := h.imp id fun n => n.ext k
def isI : V → Bool
  | .int _ => true
  | _ => false
def inB (l m : Int) : V → Bool
  | .int i => decide (l ≤ i) && decide (i ≤ m)
  | _ => false
theorem isI_no {H : Hp} {v : V} (h : NoInt H v) : isI v = false := by
  cases v <;> first | rfl | exact absurd rfl (h.1 _)
theorem inB_no {H : Hp} {v : V} (h : NoInt H v) (l m : Int) : inB l m v = false := by
  cases v <;> first | rfl | exact absurd rfl (h.1 _)
/-- what stands in such a tuple -/
def Scal (v : V) : Prop := (∃ i, v = .int i) ∨ (∃ b, v = .bl b) ∨ v = .str "2"
theorem noInt_bl (H : Hp) (b : Bool) : NoInt H (.bl b) := ⟨fun i z => (by cases z), "bool", true, true, fun _ _ _ => .base (.bl b), by decide +kernel, by decide +kernel, fun _ => rfl⟩
theorem noInt_str (H : Hp) (x : Str) : NoInt H (.str x) := ⟨fun i z => (by cases z), "str", false, false, fun _ _ _ => .base (.str x), by decide +kernel, by decide +kernel, fun z => z⟩
theorem Scal.q {H : Hp} {v : V} (h : Scal v) : IntQ H v := by
  rcases h with ⟨i, rfl⟩ | ⟨b, rfl⟩ | rfl
  · exact .inl ⟨i, rfl⟩
  · exact .inr (noInt_bl H b)
  · exact .inr (noInt_str H _)
/-- no tuple -/
def NoTup (H : Hp) (v : V) : Prop := ∃ T : String, (∀ (K : PySem.W.Frag) (H' : Hp), LamX.ExtN H H' → TyX K H' v (.type T)) ∧ kitB T "tuple" = some false
theorem NoTup.keep {H H' : Hp} {v : V} (h : NoTup H v) (k : Same H H') : NoTup H' v := by
  obtain ⟨T, ty, r⟩ := h
  exact ⟨T, fun K G q => ty K G (sx k q), r⟩
theorem NoTup.ext {H H' : Hp} {v : V} (h : NoTup H v) (k : LamX.ExtN H H') : NoTup H' v := by
  obtain ⟨T, ty, r⟩ := h
  exact ⟨T, fun K G q => ty K G (xx k q), r⟩
/-- a tuple of such values, or no tuple: xs tells which -/
def PairQ (H : Hp) (v : V) : Option (List V) → Prop
  | some xs => ∃ a, v = .ref a ∧ H a = some (.tup xs) ∧ xs.length ≤ 1000 ∧ ∀ x ∈ xs, Scal x
  | none => NoTup H v
theorem PairQ.keep {H H' : Hp} {v : V} {o : Option (List V)} (h : PairQ H v o) (k : Same H H') : PairQ H' v o := by
  cases o with
  | none => exact NoTup.keep h k
  | some xs =>
    obtain ⟨a, e, h1, h2, h3⟩ := h
    exact ⟨a, e, k _ _ h1, h2, h3⟩
theorem PairQ.ext {H H' : Hp} {v : V} {o : Option (List V)} (h : PairQ H v o) (k : LamX.ExtN H H') : PairQ H' v o := by
  cases o with
  | none => exact NoTup.ext h k
  | some xs =>
    obtain ⟨a, e, h1, h2, h3⟩ := h
    exact ⟨a, e, k _ _ h1 (fun _ z => by cases z), h2, h3⟩
def pairB (m : Int) : Option (List V) → Bool
  | some [x, y] => inB 1 m x && inB 1 m y
  | _ => false
def leV : V → V → Bool
  | .int i, .int j => decide (j ≤ i)
  | _, _ => false
def timesB : Option (List V) → Bool
  | some [x, y] => (inB 1 6 x && inB 1 6 y) && leV x y
  | _ => false
def spIsIntA : Sp := fun vs H Q _ => ∃ v : V, vs = [v] ∧ IntQ H v ∧ Q (.bl (isI v)) H
def spWithinA : Sp := fun vs H Q _ => ∃ (v : V) (l m : Int), vs = [v, .int l, .int m] ∧ IntQ H v ∧ Q (.bl (inB l m v)) H
def spPairA : Sp := fun vs H Q _ => ∃ (v : V) (o : Option (List V)) (m : Int), vs = [v, .int m] ∧ PairQ H v o ∧ ∀ H', Same H H' → Q (.bl (pairB m o)) H'
def spTimesA : Sp := fun vs H Q _ => ∃ (v : V) (o : Option (List V)), vs = [v] ∧ PairQ H v o ∧ ∀ H', Same H H' → Q (.bl (timesB o)) H'
def spPlusA : Sp := fun vs H Q _ => ∃ v : V, vs = [v] ∧ IntQ H v ∧ Q (.bl (inB (-6) 6 v)) H
def spTurnA : Sp := fun vs H Q _ => ∃ (v : V) (o : Option (List V)), vs = [v] ∧ PairQ H v o ∧ ∀ H', Same H H' → Q (.bl (pairB 8 o)) H'
theorem lc_pureV {J : It} {n : Nat} {G : Hp → Prop} {Y : Nat → Hp → V → Hp → Prop} (W : Walk J n G Y) {g : TG} {tt : TT} {te : TE} {vs : List Nat} {σ : L2.St} {H1 : Hp} {D : Addr} {Qd : Hp → Prop} (rs : List V) (hn : rs.length = n) (hb : n ≤ 1000)
    (hG : ∀ H, But D H1 H → G H)
    (step : ∀ (i : Nat) (x : V) (H H' : Hp) (r : V), i < n → rs[i]? = some r → But D H1 H → (∃ acc, H D = some (.lst acc)) → Y i H x H' → ∀ (R : VK) (Wk : Hp → Prop), (∀ H4, Same H H4 → R r H4) →
      g x (wipe σ vs) H' fun σ2 H2 => wipe σ2 vs = wipe σ vs ∧ tt σ2 H2 fun b H3 => if b = true then te σ2 H3 R else Wk H3)
    (fin : ∀ H, But D H1 H → H D = some (.lst rs) → Qd H) :
    ∃ W : Nat → Nat → Hp → Prop, (∃ m, W 0 m (upd H1 D (HO.lst []))) ∧ ∀ (i m : Nat) (H : Hp), W i m H → J.stop i H ∧ Qd H ∨ J.go i H ∧ ∃ Nx : Hp → Prop, (∀ (H' : Hp), Nx H' → ∃ m', m' < m ∧ W (i + 1) m' H') ∧
      ∀ (x : V) (H' : Hp), J.yld i H x H' → g x (wipe σ vs) H' fun σ2 H2 => wipe σ2 vs = wipe σ vs ∧ tt σ2 H2 fun b H3 =>
        if b = true then te σ2 H3 fun y H4 => ∃ acc, H4 D = some (HO.lst acc) ∧ acc.length < sizeLine ∧ Nx (upd H4 D (HO.lst (acc ++ [y]))) else Nx H3 := by
  refine lc_it W (fun i H => H D = some (.lst (rs.take i)) ∧ But D H1 H) ⟨upd_same, But.upd_at⟩ (fun i H _ h => hG H h.2) (fun i x H H' hi h y => ?_) (fun H h => ?_)
  · obtain ⟨e1, e2⟩ := h
    have hr : rs[i]? = some rs[i] := List.getElem?_eq_getElem (by omega)
    refine step i x H H' rs[i] hi hr e2 ⟨_, e1⟩ y _ _ fun H4 s4 => ⟨_, s4 _ _ e1, ?_, ?_, ?_⟩
    · rw [List.length_take]
      exact Nat.lt_of_le_of_lt (Nat.min_le_left _ _) (Nat.lt_of_lt_of_le (show i < 1000 by omega) (by decide))
    · rw [List.take_add_one, hr]
      exact upd_same
    · exact fun c o nc ec => by rw [upd_ne nc]; exact s4 _ _ (e2 c o nc ec)
  · obtain ⟨e1, e2⟩ := h
    rw [← hn, List.take_length] at e1
    exact fin H e2 e1
section
variable {P : Program} {w : World} {K : PySem.W.Frag} {mg : Str → Option Value} {base : Heap}
theorem tup1 {a b : V} : atI [a, b] 1 = some b := atI_nat (j := 1) rfl
theorem tup0 {a b : V} : atI [a, b] 0 = some a := atI_nat (j := 0) rfl
theorem scIsInt : FnScope ["value"] ["value"] (defScope sIsInt) := ⟨rfl, rfl, rfl, by decide +kernel, rfl, by decide +kernel, by decide +kernel⟩
theorem ok_isInt {f : Addr} {fd : FuncData} (F : Fun K "is_integer" "is_integer" sIsInt f fd) (T : Blt mg) : FnOk P w K mg base CX0 1 f fd ["value"] spIsIntA := by
  refine F.ok scIsInt (fun vs H Q E h => ?_) (fun cdv A outer s H vs Q E hr h => ?_)
  · obtain ⟨v, rfl, _⟩ := h
    rfl
  · obtain ⟨v, rfl, h, k⟩ := h
    refine ⟨_, pss_one (ps_ret (pe_and (pe_callB call_isi (by rfl) T.isi (by decide +kernel) (pa_cons (pv 0) (pa_cons (pe_bltn (v := .ty "int") (by rfl) T.int (by decide +kernel) rfl) pa_nil)))
      (pe_one (pe_not (pe_callB call_isi (by rfl) T.isi (by decide +kernel) (pa_cons (pv 0) (pa_cons (pe_bltn (v := .ty "bool") (by rfl) T.bool (by decide +kernel) rfl) pa_nil))))))), ?_⟩
    rcases h with ⟨i, rfl⟩ | no
    · exact ⟨_, rfl, _, _, _, _, true, rfl, .ty _, .base (.int i), kit_ty (by decide +kernel), true, rfl, iteT ⟨_, rfl, _, _, _, _, false, rfl, .ty _, .base (.int i), kit_ty (by decide +kernel), _, rfl, k⟩⟩
    · rw [isI_no no] at k
      obtain ⟨_, TT, b, c, ty, e1, e2, e3⟩ := no
      refine ⟨_, rfl, _, _, _, _, b, rfl, .ty _, ty _ _ (extN_refl H), kit_ty e1, b, rfl, ?_⟩
      cases b with
      | false => exact iteF k
      | true => exact iteT ⟨_, rfl, _, _, _, _, true, rfl, .ty _, ty _ _ (extN_refl H), kit_ty (by rw [e2, e3 rfl]), _, rfl, k⟩
theorem scWithin : FnScope ["value", "least", "most"] ["value", "least", "most"] (defScope sWithin) := ⟨rfl, rfl, rfl, by decide +kernel, rfl, by decide +kernel, by decide +kernel⟩
theorem ok_within {f : Addr} {fd : FuncData} (F : Fun K "is_within" "is_within" sWithin f fd) (D : Df P w K mg base 1 "is_integer" ["value"] spIsIntA) : FnOk P w K mg base CX0 2 f fd ["value", "least", "most"] spWithinA := by
  obtain ⟨fI, fdI, GI, gI, kI, bI⟩ := D.ex
  refine F.ok scWithin (fun vs H Q E h => ?_) (fun cdv A outer s H vs Q E hr h => ?_)
  · obtain ⟨v, l, m, rfl, _⟩ := h
    rfl
  · obtain ⟨v, l, m, rfl, h, k⟩ := h
    refine ⟨_, pss_one (ps_ret (pe_and (pe_call GI hr (by rfl) gI kI bI .nil pass0 (pa_cons (pv 0) pa_nil)) (pe_one (pe_chain op_le op_le (pv 1) (pv 0) (pv 2))))), ?_⟩
    refine ⟨_, rfl, _, rfl, h, ?_⟩
    rcases h with ⟨i, rfl⟩ | no
    · refine ⟨true, rfl, iteT ⟨_, rfl, _, rfl, _, _, rfl, rfl, _, rfl, ?_⟩⟩
      have k : Q (.bl (decide (l ≤ i) && decide (i ≤ m))) H := k
      by_cases z : l ≤ i
      · rw [decide_eq_true z] at k ⊢
        refine iteT ⟨_, rfl, _, _, rfl, rfl, ?_⟩
        exact k
      · rw [decide_eq_false z] at k ⊢
        exact iteF k
    · rw [inB_no no] at k
      rw [isI_no no]
      exact ⟨false, rfl, iteF k⟩
theorem scPair : FnScope ["value", "most", "item"] ["value", "most"] (defScope sPair) := ⟨rfl, rfl, rfl, by decide +kernel, rfl, by decide +kernel, by decide +kernel⟩
theorem pairB_len {m : Int} {xs : List V} (h : xs.length ≠ 2) : pairB m (some xs) = false := by
  match xs, h with
  | [], _ => rfl
  | [_], _ => rfl
  | [_, _], h => exact absurd rfl h
  | _ :: _ :: _ :: _, _ => rfl
theorem ok_pair {f : Addr} {fd : FuncData} (F : Fun K "is_pair" "is_pair" sPair f fd) (T : Blt mg) (D : Df P w K mg base 2 "is_within" ["value", "least", "most"] spWithinA) : FnOk P w K mg base CX0 3 f fd ["value", "most"] spPairA := by
  obtain ⟨fW, fdW, GW, gW, kW, bW⟩ := D.ex
  refine F.ok scPair (fun vs H Q E h => ?_) (fun cdv A outer s H vs Q E hr h => ?_)
  · obtain ⟨v, o, m, rfl, _⟩ := h
    rfl
  · obtain ⟨v, o, m, rfl, hv, k⟩ := h
    refine ⟨_, pss_one (ps_ret (pe_and (pe_callB call_isi (by rfl) T.isi (by decide +kernel) (pa_cons (pv 0) (pa_cons (pe_bltn (v := .ty "tuple") (by rfl) T.tuple (by decide +kernel) rfl) pa_nil)))
      (pe_and (pe_cmpR op_eq (pe_callB call_len_seq (by rfl) T.len PySem.boot_len (pa_cons (pv 0) pa_nil)) pe_int (nomark _))
      (pe_one (pe_callB (cr_all rfl) (by rfl) T.all (by decide +kernel) (pa_cons (pe_lc (own := [("item", 2)]) (g := gName 2) (tt := tYes) (te := tCall spWithinA [] E0 (tCons (tVar 2) (tCons (tC (.int 1)) (tCons (tVar 1) tNil)))) (by rfl) scPair.nd (pi_tup (pv 0)) (blkOk_by (own := [("item", 2)]) (N := ["value", "most", "item"]) (sc := defScope sPair) (by decide +kernel))
          (fun _ _ _ _ _ => pg_name (i := 2) scPair.nd rfl (.inl rfl)) (fun _ _ _ _ _ => pts_nil) (fun _ _ _ _ _ => pe_call GW hr (by rfl) gW kW bW .nil pass0 (pa_cons (pv 2) (pa_cons pe_int (pa_cons (pv 1) pa_nil))))) pa_nil)))))), ?_⟩
    cases o with
    | none =>
      obtain ⟨TT, ty, e⟩ := hv
      exact ⟨_, rfl, _, _, _, _, false, rfl, .ty _, ty _ _ (extN_refl H), kit_ty e, false, rfl, iteF (k H (Same.refl H))⟩
    | some xs =>
      obtain ⟨a, rfl, ha, hl, hq⟩ := hv
      refine ⟨_, rfl, _, _, _, _, true, rfl, .ty _, .base (.tup ha), kit_ty (by decide +kernel), true, rfl, iteT ⟨_, rfl, a, _, rfl, .inr (SqT.of ha), rfl, _, rfl, ite2 (fun e => ?_) (fun e => ?_)⟩⟩
      · have e : xs.length = 2 := by
          have e' : (xs.length : Int) = 2 := by simpa using e
          omega
        refine ⟨_, rfl, a, rfl, ⟨_, SqT.of ha⟩, fun D nD => ?_⟩
        have aD := ne_of_none ha nD
        refine lc_pureV (n := xs.length) (walk_tup (xs := xs)) (xs.map fun x => V.bl (inB 1 m x)) (List.length_map _) (by omega) (fun H' h => SqT.of (h _ _ aD ha)) (fun i v H2 H' r hi hr bt _ y R Wk kk => ?_) (fun H' bt hD => ?_)
        · obtain ⟨rfl, hv⟩ := y
          have er : r = V.bl (inB 1 m v) := by
            rw [List.getElem?_map, hv] at hr
            exact (Option.some.inj hr).symm
          subst er
          have sq : IntQ H' v := (hq v (List.mem_of_getElem? hv)).q
          exact ⟨rfl, _, rfl, _, rfl, v, 1, m, rfl, sq, kk _ (Same.refl _)⟩
        · have s1 : Same H H' := fun c o e => bt c o (ne_of_none e nD) e
          have eq : (xs.map fun x => V.bl (inB 1 m x)) = (xs.map fun x => inB 1 m x).map V.bl := by rw [List.map_map]; rfl
          rw [eq] at hD
          refine ⟨D, _, rfl, SqL.of hD, ?_⟩
          match xs, e with
          | [x, y], _ =>
            have := k H' s1
            simpa [pairB] using this
      · have e : xs.length ≠ 2 := by
          have e' : ¬ (xs.length : Int) = 2 := by simpa using e
          omega
        have := k H (Same.refl H)
        rw [pairB_len e] at this
        simpa using this
theorem scTimes : FnScope ["value"] ["value"] (defScope sTimes) := ⟨rfl, rfl, rfl, by decide +kernel, rfl, by decide +kernel, by decide +kernel⟩
theorem inB_int {l m : Int} {v : V} (h : inB l m v = true) : ∃ i, v = .int i ∧ l ≤ i ∧ i ≤ m := by
  cases v <;> first | cases h | skip
  rename_i i
  have h : (decide (l ≤ i) && decide (i ≤ m)) = true := h
  rw [Bool.and_eq_true, decide_eq_true_eq, decide_eq_true_eq] at h
  exact ⟨i, rfl, h.1, h.2⟩
theorem pair_cases (m : Int) (o : Option (List V)) : (∃ i j, o = some [.int i, .int j] ∧ (1 ≤ i ∧ i ≤ m) ∧ (1 ≤ j ∧ j ≤ m) ∧ pairB m o = true) ∨ pairB m o = false := by
  cases z : pairB m o with
  | false => exact .inr rfl
  | true =>
    refine .inl ?_
    match o, z with
    | some [x, y], z =>
      have z : (inB 1 m x && inB 1 m y) = true := z
      rw [Bool.and_eq_true] at z
      obtain ⟨i, rfl, h1, h2⟩ := inB_int z.1
      obtain ⟨j, rfl, h3, h4⟩ := inB_int z.2
      exact ⟨i, j, rfl, ⟨h1, h2⟩, ⟨h3, h4⟩, rfl⟩
theorem times_no {o : Option (List V)} (h : pairB 6 o = false) : timesB o = false := by
  match o, h with
  | none, _ => rfl
  | some [], _ => rfl
  | some [_], _ => rfl
  | some [x, y], h =>
    have h : (inB 1 6 x && inB 1 6 y) = false := h
    show ((inB 1 6 x && inB 1 6 y) && leV x y) = false
    rw [h]
    rfl
  | some (_ :: _ :: _ :: _), _ => rfl
theorem ok_times {f : Addr} {fd : FuncData} (F : Fun K "is_times" "is_times" sTimes f fd) (D : Df P w K mg base 3 "is_pair" ["value", "most"] spPairA) {CW : Addr} {mc u : Value} (gW : mg "WeightRule" = some (.ref CW)) (cr : ClX.CRead K CW mc) (cv : ClX.CVal K CW mc "MOST" (.int 6) u) :
    FnOk P w K mg base CX0 4 f fd ["value"] spTimesA := by
  obtain ⟨fP, fdP, GP, gP, kP, bP⟩ := D.ex
  refine F.ok scTimes (fun vs H Q E h => ?_) (fun cdv A outer s H vs Q E hr h => ?_)
  · obtain ⟨v, o, rfl, _⟩ := h
    rfl
  · obtain ⟨v, o, rfl, hv, k⟩ := h
    refine ⟨_, pss_one (ps_ret (pe_and (pe_call GP hr (by rfl) gP kP bP .nil pass0 (pa_cons (pv 0) (pa_cons (ClX.pe_cval (pe_glob (v := .ref CW) rfl gW rfl)) pa_nil)))
      (pe_one (pe_cmpR op_le (pe_ix ix_tup (pv 0) pe_int (fun _ _ => rfl)) (pe_ix ix_tup (pv 0) pe_int (fun _ _ => rfl)) (nomark _))))), ?_⟩
    refine ⟨_, rfl, CW, mc, _, u, rfl, cr, cv, v, o, _, rfl, hv, fun H' s => ?_⟩
    rcases pair_cases 6 o with ⟨i, j, rfl, h1, h2, e⟩ | e
    · rw [e]
      obtain ⟨a, rfl, ha, _⟩ := hv
      refine ⟨true, rfl, iteT ⟨_, rfl, a, _, 1, _, rfl, rfl, SqT.of (s _ _ ha), tup1, _, rfl, a, _, 0, _, rfl, rfl, SqT.of (s _ _ ha), tup0, _, _, rfl, rfl, ?_⟩⟩
      have k := k H' s
      have e : (inB 1 6 (.int i) && inB 1 6 (.int j)) = true := e
      have k : Q (.bl ((inB 1 6 (.int i) && inB 1 6 (.int j)) && decide (j ≤ i))) H' := k
      rw [e, Bool.true_and] at k
      exact k
    · have k := k H' s
      rw [times_no e] at k
      rw [e]
      exact ⟨false, rfl, iteF k⟩
theorem scPlus : FnScope ["value"] ["value"] (defScope sPlus) := ⟨rfl, rfl, rfl, by decide +kernel, rfl, by decide +kernel, by decide +kernel⟩
theorem ok_plus {f : Addr} {fd : FuncData} (F : Fun K "is_plus" "is_plus" sPlus f fd) (D : Df P w K mg base 2 "is_within" ["value", "least", "most"] spWithinA) {t : Tok} (gM : mg "MOST_PLUS" = some (.int 6 t)) : FnOk P w K mg base CX0 3 f fd ["value"] spPlusA := by
  obtain ⟨fW, fdW, GW, gW, kW, bW⟩ := D.ex
  refine F.ok scPlus (fun vs H Q E h => ?_) (fun cdv A outer s H vs Q E hr h => ?_)
  · obtain ⟨v, rfl, _⟩ := h
    rfl
  · obtain ⟨v, rfl, hv, k⟩ := h
    refine ⟨_, pss_one (ps_ret (pe_call GW hr (by rfl) gW kW bW .nil pass0 (pa_cons (pv 0) (pa_cons (pe_un un_neg (pe_glob (v := .int 6) rfl gM ⟨_, rfl⟩)) (pa_cons (pe_glob (v := .int 6) rfl gM ⟨_, rfl⟩) pa_nil))))), ?_⟩
    exact ⟨_, rfl, _, rfl, v, _, _, rfl, hv, k⟩
theorem scTurn : FnScope ["value"] ["value"] (defScope sTurn) := ⟨rfl, rfl, rfl, by decide +kernel, rfl, by decide +kernel, by decide +kernel⟩
theorem ok_turn {f : Addr} {fd : FuncData} (F : Fun K "is_turn" "is_turn" sTurn f fd) (D : Df P w K mg base 3 "is_pair" ["value", "most"] spPairA) {t : Tok} (gM : mg "MOST_TURN" = some (.int 8 t)) : FnOk P w K mg base CX0 4 f fd ["value"] spTurnA := by
  obtain ⟨fP, fdP, GP, gP, kP, bP⟩ := D.ex
  refine F.ok scTurn (fun vs H Q E h => ?_) (fun cdv A outer s H vs Q E hr h => ?_)
  · obtain ⟨v, o, rfl, _⟩ := h
    rfl
  · obtain ⟨v, o, rfl, hv, k⟩ := h
    refine ⟨_, pss_one (ps_ret (pe_call GP hr (by rfl) gP kP bP .nil pass0 (pa_cons (pv 0) (pa_cons (pe_glob (v := .int 8) rfl gM ⟨_, rfl⟩) pa_nil)))), ?_⟩
    exact ⟨_, rfl, v, o, _, rfl, hv, k⟩
end
end Ev
namespace Ev
open PySem L2 PySem.Spec PyProof.Rows
section
variable {X : Cx}
theorem pe_never {e : Expr} : PE X e (fun _ _ _ => False) := ⟨fun _ _ _ _ _ _ h => h.elim⟩
end
/-- v is a value of the built-in type T, one that holds nothing -/
structure Flat (v : V) (T : String) : Prop where
  ty : ∀ (K : PySem.W.Frag) (H : Hp), TyX K H v (.type T)
  l : kitB T "list" = some false
  t : kitB T "tuple" = some false
  d : kitB T "dict" = some false
theorem flat_int (i : Int) : Flat (.int i) "int" := ⟨fun _ _ => .base (.int i), by decide +kernel, by decide +kernel, by decide +kernel⟩
theorem flat_str (x : Str) : Flat (.str x) "str" := ⟨fun _ _ => .base (.str x), by decide +kernel, by decide +kernel, by decide +kernel⟩
theorem kit2 {K : PySem.W.Frag} {T a b : String} (h1 : kitB T a = some false) (h2 : kitB T b = some false) : PySem.W.kitAny K (.type T) [.type a, .type b] = some false :=
  kitAny_cons (kit_ty h1) (fun _ => kitAny_cons (kit_ty h2) (fun _ => kitAny_nil) (fun z => by cases z)) (fun z => by cases z)
def spParts : Sp := fun vs H Q _ => ∃ (v : V) (T : String), vs = [v] ∧ Flat v T ∧ ∀ (p : Addr) (H' : Hp), H p = none → Same H H' → H' p = some (.lst []) → Q (.ref p) H'
def spKept : Sp := fun vs H Q _ => ∃ (v : V) (T : String), vs = [v] ∧ Flat v T ∧ ∀ (H' : Hp), Same H H' → Q v H'
section
variable {P : Program} {w : World} {K : PySem.W.Frag} {mg : Str → Option Value} {base : Heap}
theorem scParts : FnScope ["value"] ["value"] (defScope sParts) := ⟨rfl, rfl, rfl, by decide +kernel, rfl, by decide +kernel, by decide +kernel⟩
theorem ok_parts {f : Addr} {fd : FuncData} (F : Fun K "parts_of" "parts_of" sParts f fd) (T : Blt mg) (md : mg "dict" = none) : FnOk P w K mg base CX0 1 f fd ["value"] spParts := by
  refine F.ok scParts (fun vs H Q E h => ?_) (fun cdv A outer s H vs Q E hr h => ?_)
  · obtain ⟨v, TT, rfl, _⟩ := h
    rfl
  · obtain ⟨v, TT, rfl, fl, kk⟩ := h
    refine ⟨_, pss_cons (ps_if (pt_val (pe_callB call_isiT (by rfl) T.isi (by decide +kernel) (pa_cons (pv 0) (pa_cons (pe_tup (pa_cons (pe_bltn (v := .ty "list") (by rfl) T.list (by decide +kernel) rfl) (pa_cons (pe_bltn (v := .ty "tuple") (by rfl) T.tuple (by decide +kernel) rfl) pa_nil))) pa_nil)))) (pss_one ps_never) pss_nil)
      (pss_one (ps_ret (pe_ifExp (pt_val (pe_callB call_isi (by rfl) T.isi (by decide +kernel) (pa_cons (pv 0) (pa_cons (pe_bltn (v := .ty "dict") (by rfl) md (by decide +kernel) rfl) pa_nil)))) pe_never (pe_lst pa_nil)))), ?_⟩
    refine ⟨_, rfl, (by show 2 ≤ sizeLine; decide), fun tp ntp => ⟨v, tp, _, _, _, false, rfl, upd_same, .cons (.ty _) (.cons (.ty _) .nil), fl.ty _ _, kit2 fl.l fl.t, _, rfl, iteF ?_⟩⟩
    refine ⟨_, rfl, v, _, _, _, false, rfl, .ty _, fl.ty _ _, kit_ty fl.d, _, rfl, iteF ⟨(by show 0 ≤ sizeLine; decide), fun p np => ?_⟩⟩
    refine kk p _ ?_ (fun b o e => ?_) upd_same
    · cases e : H p with
      | none => rfl
      | some o => rw [upd_ne (ne_of_none e ntp), e] at np; cases np
    · have e1 : upd H tp (.tup [.ty "list", .ty "tuple"]) b = some o := by rw [upd_ne (ne_of_none e ntp)]; exact e
      rw [upd_ne (ne_of_none e1 np)]; exact e1
theorem kit3 {K : PySem.W.Frag} {T a b c : String} (h1 : kitB T a = some false) (h2 : kitB T b = some false) (h3 : kitB T c = some false) : PySem.W.kitAny K (.type T) [.type a, .type b, .type c] = some false :=
  kitAny_cons (kit_ty h1) (fun _ => kitAny_cons (kit_ty h2) (fun _ => kitAny_cons (kit_ty h3) (fun _ => kitAny_nil) (fun z => by cases z)) (fun z => by cases z)) (fun z => by cases z)
theorem scKept : FnScope ["value"] ["value"] (defScope sKept) := ⟨rfl, rfl, rfl, by decide +kernel, rfl, by decide +kernel, by decide +kernel⟩
theorem ok_kept {f : Addr} {fd : FuncData} (F : Fun K "kept" "kept" sKept f fd) (T : Blt mg) (md : mg "dict" = none) (ma : mg "any" = none) (D : Df P w K mg base 1 "parts_of" ["value"] spParts) : FnOk P w K mg base CX0 2 f fd ["value"] spKept := by
  refine F.ok scKept (fun vs H Q E h => ?_) (fun cdv A outer s H vs Q E hr h => ?_)
  · obtain ⟨v, TT, rfl, _⟩ := h
    rfl
  · obtain ⟨v, TT, rfl, fl, kk⟩ := h
    refine ⟨_, pss_cons (ps_if (pt_not (pt_val (pe_callB call_isiT (by rfl) T.isi (by decide +kernel) (pa_cons (pv 0) (pa_cons (pe_tup (pa_cons (pe_bltn (v := .ty "list") (by rfl) T.list (by decide +kernel) rfl) (pa_cons (pe_bltn (v := .ty "tuple") (by rfl) T.tuple (by decide +kernel) rfl) (pa_cons (pe_bltn (v := .ty "dict") (by rfl) md (by decide +kernel) rfl) pa_nil)))) pa_nil))))) (pss_one (ps_ret (pv 0))) pss_nil)
      (pss_cons ps_never (pss_one ps_never)), ?_⟩
    refine ⟨_, rfl, (by show 3 ≤ sizeLine; decide), fun tp ntp => ⟨v, tp, _, _, _, false, rfl, upd_same, .cons (.ty _) (.cons (.ty _) (.cons (.ty _) .nil)), fl.ty _ _, kit3 fl.l fl.t fl.d, _, rfl, iteT ⟨_, rfl, ?_⟩⟩⟩
    exact kk _ (fun b u e => by rw [upd_ne (ne_of_none e ntp)]; exact e)
end
end Ev
namespace Ev
open PySem L2 PySem.Spec PyProof.Rows
/-! Promises of defs that are called while no repr is under way (so what they make can be shown). -/
structure FnG (P : Program) (w : World) (K : PySem.W.Frag) (mg : Str → Option Value) (base : Heap) (k : Nat) (f : Addr)
    (fd : FuncData) (ps : List Str) (sp : Sp) : Prop where
  many : ∀ vs H Q E, sp vs H Q E → vs.length = ps.length
  goes : ∀ (A : Around) (above : List Env) (s : Shared) (H : Hp) (args : Args) (us : List Value) (vs : List V) (Q : VK)
    (E : XK), Room k A → A.guards = some [] → Env0 P w K mg base A above s H → BindsTo s fd args (ps.zip us) → Vals vs us →
    sp vs H Q E → codeAny (model P w) A (.call (.ref f) args) (CR CX0 above P w H s Q E) s
theorem FnG.of {P : Program} {w : World} {K : PySem.W.Frag} {mg : Str → Option Value} {base : Heap} {k : Nat} {f : Addr}
    {fd : FuncData} {ps : List Str} {sp : Sp} (F : FnOk P w K mg base CX0 k f fd ps sp) : FnG P w K mg base k f fd ps sp :=
  ⟨F.len, fun A above s H args us vs Q E hr _ => F.run A above s H args us vs Q E hr⟩
section
variable {P : Program} {w : World} {K : PySem.W.Frag} {mg : Str → Option Value} {base : Heap}
/-- a def by its body, where no repr is under way -/
theorem fng_code {x qual : Str} {st : Stmt} {f : Addr} {fd : FuncData} {N ps : List Str} {k : Nat} {sp : Sp} (F : Fun K x qual st f fd)
    (S : FnScope N ps (defScope st)) (many : ∀ vs H Q E, sp vs H Q E → vs.length = ps.length)
    (body : ∀ (cdv : Value), fd.code = cdv → ∀ (A : Around) (above : List Env) (s : Shared) (H : Hp) (vs : List V) (Q : VK) (E : XK),
      Room k (A.deeper (envOfC qual (defScope st) s.heap.objs.size f cdv)) → A.guards = some [] → sp vs H Q E →
      ∃ t, PSs (cxOf CX0 P w K mg base N qual (defScope st) f cdv A above s H E).nox (defBody st) t ∧
        t { nx := fun _ H' => Q .non H', rt := Q } (start N vs) H) : FnG P w K mg base (k + 1) f fd ps sp := by
  obtain ⟨oc, od, kV, doc, pm, an, cdv, ct, osl, rfl, lk, hcd⟩ := F.ex
  constructor
  · exact many
  · intro A above s H args us vs Q E room gd env bt rv hs
    have inK : K.In s.heap := env.mod.kin.keeps fun b o e => (env.bs b o e).1
    have noLim : s.heap.NoLimit := env.mod.nolimit.keeps fun b o e => (env.bs b o e).1
    have kinds : ∀ y ∈ ps.zip us, (defScope st).names.lookup y.1 = some .local ∨
        ((defScope st).names.lookup y.1 = some .cell ∧ ((cellsFrom (s.heap.objs.size + 1) (defScope st).names []).lookup y.1).isSome = true) := by
      rintro ⟨n, v⟩ hy
      cases S.par n (List.of_mem_zip hy).1 with
      | inl q => exact .inl q
      | inr q => exact .inr ⟨q, PySem.W.cellsFrom_some _ _ _ (.inl q)⟩
    refine codeAny_call_function room.depth (inK _ _ lk) rfl S.co S.gen rfl (PySem.W.codeRec_of inK hcd) (bt _ _ _ _ ?_)
    refine wpAny_newFunctionEnv_cells S.kind kinds fun e2 he s2 x => ?_
    subst he
    refine ⟨noLim.keeps x.toInCall.keep, codeAny_func ?_⟩
    obtain ⟨t, ht, hq⟩ := body cdv rfl A above s H vs Q E (room.deeper _) gd hs
    have inv := inv_start (CX := CX0) (E := E) S room.hd env (many _ _ _ _ hs) rv x
    refine wpAny_mono (ht.nox.run [] s2 (start N vs) H _ inv hq) (fun fl s3 h3 => ?_) fun e s3 h3 => h3
    cases fl with
    | ret u =>
      obtain ⟨v, σ3, H3, J, rr, q⟩ := h3
      exact ⟨v, H3, J.os, J.bare, J.base, J.hok, rr, q⟩
    | next =>
      obtain ⟨σ3, H3, J, q⟩ := h3
      exact ⟨.non, H3, J.os, J.bare, J.base, J.hok, rfl, q⟩
    | brk =>
      obtain ⟨_, _, _, z⟩ := h3
      exact False.elim z
    | cont =>
      obtain ⟨_, _, _, z⟩ := h3
      exact False.elim z
theorem fng_of {x qual : Str} {st : Stmt} {f : Addr} {fd : FuncData} {N ps : List Str} {k : Nat} {sp : Sp} (F : Fun K x qual st f fd)
    (S : FnScope N ps (defScope st)) (many : ∀ vs H Q E, sp vs H Q E → vs.length = ps.length)
    (body : ∀ (cdv : Value) (A : Around) (above : List Env) (s : Shared) (H : Hp) (vs : List V) (Q : VK) (E : XK),
      Room k (A.deeper (envOfC qual (defScope st) s.heap.objs.size f cdv)) → A.guards = some [] → sp vs H Q E →
      ∃ t, PSs (cxOf CX0 P w K mg base N qual (defScope st) f cdv A above s H E).nox (defBody st) t ∧
        t { nx := fun _ H' => Q .non H', rt := Q } (start N vs) H) : FnG P w K mg base (k + 1) f fd ps sp :=
  fng_code F S many fun cdv _ => body cdv
end
section
variable {X : Cx}
/-- f(e, ..) of such a def -/
theorem pe_callG {k : Nat} {f : Addr} {fd : FuncData} {ps : List Str} {sp : Sp} {E : XK} {x : Str} {p pos : Pos} {e : Expr} {es : List Expr} {t : TA}
    (F : FnG X.prog X.w X.K X.mg X.base k f fd ps sp) (room : Room k X.A) (gd : X.A.guards = some []) (hg : Gl X x)
    (hm : X.mg x = some (.ref f)) (kp : PySem.W.keepIn X.K (.ref f) = true) (hb : Binds X.K fd ps []) (ha : PA X (e :: es) t)
    (hdb : (x == ("__debug__" : Str)) = false := by decide)
    (he : starEach (e :: es) X.env = (false, eval e X.env) :: starEach es X.env := by rfl)
    (hpl : (backTo pos (starEach es X.env)).any (·.1) = false := by rfl) :
    PE X (.Call (.Name x p) (e :: es) [] pos) (tCall sp [] E t) := by
  constructor
  intro pins s σ H Q I h
  refine wpAny_Call_Name_kw (ld_glob I hg hm ?_ hdb)
  refine PySem.W.callWith_K (h₀ := X.base) I.ok.mod.kin kp (thn (ha.run pos pins s σ H _ I h) fun us s1 d => ?_) he hpl
  obtain ⟨vs, H1, I1, rv, q⟩ := d
  refine ⟨I1.kIn, ?_⟩
  have q : sp vs H1 Q E := by
    have q' : sp (vs ++ []) H1 Q E := q
    rw [List.append_nil] at q'
    exact q'
  have hl : us.length = ps.length := rv.length.symm.trans (F.many _ _ _ _ q)
  have bt := hb s1 us I1.kIn (by rw [List.append_nil]; exact hl)
  rw [List.append_nil] at bt
  refine wpAny_call (codeAny_mono (F.goes X.A X.stack s1 H1 ⟨us, []⟩ us vs Q E room gd I1.env0 bt rv q) fun r s2 h2 => ?_)
  cases r with
  | error e => exact False.elim h2
  | ok fl =>
    cases fl with
    | ret u => exact I1.after h2
    | next => exact False.elim h2
    | brk => exact False.elim h2
    | cont => exact False.elim h2
/-- repr of data, where none is under way -/
def rRepr (K : PySem.W.Frag) : List V → Hp → VK → Prop := fun xs H Q => ∃ (a : Addr) (d : PyData), xs = [.ref a] ∧ Dp K H (.ref a) d ∧
  d.showable = true ∧ d.hasDict = false ∧ d.depth ≤ 32 ∧ d.shown.length ≤ sizeLine ∧ Q (.str d.shown) H
theorem call_repr (gd : X.A.guards = some []) (hu : X.A.units + 64 < cLine) : CallR X (.builtin "repr") (rRepr X.K) := by
  intro pins s σ H xs us Q I r h
  obtain ⟨a, d, rfl, hd, h1, h2, h3, h4, q⟩ := h
  cases r with
  | cons r1 r2 =>
    cases r2
    cases r1
    obtain ⟨as, rd⟩ := Dp.reads I d (.ref a) (.ref a) hd rfl
    exact repr_of_reads' rd h1 (fun z => by rw [h2] at z; cases z) gd (by omega) (fun _ _ e => e)
      (fun h' u tk hk => ⟨.str d.shown, H, I.kept hk, ⟨u, rfl⟩, q⟩) h4
end
/-! ### the law's own call -/
section
variable {P : Program} {w : World} {K : PySem.W.Frag} {mg mb : Str → Option Value}
theorem law_callG {k : Nat} {fa a : Addr} {fd : FuncData} {x : Str} {sp : Sp} {s : Shared} {vs : List Value} {ns : List Int}
    (inK : K.In s.heap) (ns1 : s.heap.Ns mainGlobals mg) (ns2 : s.heap.Ns builtinsNs mb) (blt : ∀ x : Str, x ≠ "__name__" → mb x = bootBuiltins x)
    (noLim : s.heap.NoLimit) (hg : s.gens = #[]) (ha : s.heap.get? a = some { cls := .type "list", data := .seq vs.toArray })
    (hi : IntsAre vs ns) (hl : ns.length ≤ sizeLine) (hr : Room k callerA)
    (F : ∀ base : Heap, K.In base → base.Ns mainGlobals mg → FnG P w K mg base k fa fd [x] sp)
    (bt : ∀ (s : Shared) (u : Value), BindsTo s fd ⟨[u], []⟩ [(x, u)])
    (hsp : ∀ H : Hp, SqL K H a (ns.map V.int) → sp [.ref a] H (fun v _ => v = .bl true) fun _ _ _ => False) :
    codeAny (model P w) callerA (.call (.ref fa) ⟨[.ref a], []⟩)
      (fun r s' => r = .ok (.ret (.bool true)) ∧ OldK s.heap s'.heap ∧ s'.os = s.os ∧ AllBare s'.gens) s := by
  have rv := vals_ints hi
  have lv := hi.length
  have key : ∀ H : Hp, (∀ b u, H b = some u → b = a ∧ K.lookup a = none ∧ u = .frz { cls := .type "list", data := .seq vs.toArray } (.lst (ns.map V.int))) →
      SqL K H a (ns.map V.int) → codeAny (model P w) callerA (.call (.ref fa) ⟨[.ref a], []⟩)
        (fun r s' => r = .ok (.ret (.bool true)) ∧ OldK s.heap s'.heap ∧ s'.os = s.os ∧ AllBare s'.gens) s := by
    intro H only sq
    have ok : HOk P w H s.heap := by
      intro b u e
      obtain ⟨rfl, _, rfl⟩ := only b u e
      exact ⟨ha, by rw [List.length_map]; exact hl, vs, _, rv, ha⟩
    have plain : ∀ {b : Addr} {o : Obj} {es : Array DictEntry} {n : Nat}, s.heap.get? b = some o → o.data = .dict es n → H b = none := by
      intro b o es n e d
      cases q : H b with
      | none => rfl
      | some u =>
        obtain ⟨rfl, _, _⟩ := only b u q
        rw [ha] at e
        cases e
        exact nomatch d
    have names : ∀ {b : Addr} {m : Str → Option Value}, s.heap.Ns b m → (hidT s.heap H).Ns b m := by
      rintro b m ⟨o, es, n, e, d, r⟩
      exact ⟨o, es, n, hidT_get e (plain e d), d, r⟩
    have inB : K.In (hidT s.heap H) := by
      intro b o e
      refine hidT_get (inK b o e) ?_
      cases q : H b with
      | none => rfl
      | some u =>
        obtain ⟨rfl, n, _⟩ := only b u q
        rw [n] at e
        cases e
    obtain ⟨mc, l1, l2⟩ := noLim
    have md : Mod K mg (hidT s.heap H) := ⟨inB, names ns1, ⟨mb, names ns2, blt⟩, ⟨mc, names l1, l2⟩⟩
    have env : Env0 P w K mg (hidT s.heap H) callerA [] s H :=
      ⟨rfl, md, fun b o e => of_hidT e, Nat.le_of_eq (hidT_size _ _), trivial, (fun b hb => by cases hb), ok, .of_eq hg⟩
    have go := (F _ inB (names ns1)).goes callerA [] s H ⟨[.ref a], []⟩ [.ref a] [.ref a] _ _ hr rfl env (bt s (.ref a)) (.cons rfl .nil) (hsp H sq)
    refine codeAny_mono go fun r s2 h2 => ?_
    cases r with
    | error e => exact False.elim h2
    | ok fl =>
      cases fl with
      | next => exact False.elim h2
      | brk => exact False.elim h2
      | cont => exact False.elim h2
      | ret u =>
        obtain ⟨v, H2, os, bare, un, ok2, rr, q⟩ := h2
        obtain rfl : v = V.bl true := q
        obtain rfl : u = Value.bool true := rr
        refine ⟨rfl, OldK.of_keep fun b o e => ?_, os, bare⟩
        cases q : H b with
        | none => exact un.keep b o e q (by intro z; cases z) (by simp)
        | some u =>
          obtain ⟨rfl, _, rfl⟩ := only b u q
          obtain ⟨e1, _⟩ := ok b _ q
          obtain ⟨e2, _⟩ := ok2 b _ (un.frzs b _ _ q)
          rw [e] at e1
          cases e1
          exact e2
  cases hk : K.lookup a with
  | none =>
    refine key (fun b => if b = a then some (.frz { cls := .type "list", data := .seq vs.toArray } (.lst (ns.map V.int))) else none) (fun b u e => ?_) (.inl (.inr ⟨_, if_pos rfl⟩))
    by_cases z : b = a
    · rw [if_pos z] at e
      cases e
      exact ⟨z, hk, rfl⟩
    · rw [if_neg z] at e
      cases e
  | some o =>
    have e := inK a o hk
    rw [ha] at e
    cases e
    refine key (fun _ => none) (fun b u e => by cases e) (.inr ⟨_, vs.toArray, _, hk, rfl, rfl, rfl, ?_, by simpa using rv⟩)
    rw [List.size_toArray, lv]
    exact hl
end
theorem walk_ofG {l : PySem.W.OpenLaw} {n k : Nat} {q : Program} {loose : List Str} {XP : (Str → Option Value) → Heap → Prop} {YP : World → Heap → Prop}
    {d : DefRec} {K : Params → PySem.W.Frag} {sp : World → Sp} {x : Str} (hn : l.most = some n) (hn2 : n ≤ sizeLine) (hdf : d.params.defaults = [])
    (hr : Room k callerA) (hY : ∀ (w : World) (h : Heap), YP w h → (K w.params).In h)
    (F : ∀ (w : World) (mg : Str → Option Value) (fa : Addr) (h : Heap), (K w.params).In h → h.Ns mainGlobals mg → mg d.name = some (.ref fa) →
      ∃ fd : FuncData, (∀ (s : Shared) (u : Value), BindsTo s fd ⟨[u], []⟩ [(x, u)]) ∧
        ∀ base : Heap, (K w.params).In base → base.Ns mainGlobals mg → FnG l.prog w (K w.params) mg base k fa fd [x] (sp w))
    (hsp : ∀ (w : World) (H : Hp) (a : Addr) (ns : List Int), ns.length ≤ n → SqL (K w.params) H a (ns.map V.int) → sp w [.ref a] H (fun v _ => v = .bl true) fun _ _ _ => False) :
    PySem.W.WalkO q loose XP YP l.row.toRowW d [] (fun f vs => PySem.call f vs) := by
  refine Att.attach_call hn hdf fun w s0 s1 mg mb fa o pm cd doc a vs ns G Y h1 h2 h3 h4 h5 h6 h7 h8 => ?_
  obtain ⟨fd, bt, hF⟩ := F w mg fa _ (hY w _ Y) G.T.g h4
  exact law_callG (hY w _ Y) G.T.g G.T.b G.T.builtins G.T.nolimit h8 h5 h6 (Nat.le_trans h7 hn2) hr hF bt (fun H sq => hsp w H a ns h7 sq)
end Ev
namespace Ev
open PySem L2 PySem.Spec PyProof.Rows
theorem walk_ofGE {l : PySem.W.OpenLaw} {n k : Nat} {q : Program} {loose : List Str} {XP : (Str → Option Value) → Heap → Prop} {YP : World → Heap → Prop}
    {d : DefRec} {x : Str} (hn : l.most = some n) (hn2 : n ≤ sizeLine) (hdf : d.params.defaults = []) (hr : Room k callerA)
    (F : ∀ (w : World) (mg : Str → Option Value) (fa : Addr) (h : Heap), YP w h → h.Ns mainGlobals mg → mg d.name = some (.ref fa) →
      ∃ (K : PySem.W.Frag) (fd : FuncData) (sp : Sp), K.In h ∧ (∀ (s : Shared) (u : Value), BindsTo s fd ⟨[u], []⟩ [(x, u)]) ∧
        (∀ (H : Hp) (a : Addr) (ns : List Int), ns.length ≤ n → SqL K H a (ns.map V.int) → sp [.ref a] H (fun v _ => v = .bl true) fun _ _ _ => False) ∧
        ∀ base : Heap, K.In base → base.Ns mainGlobals mg → FnG l.prog w K mg base k fa fd [x] sp) :
    PySem.W.WalkO q loose XP YP l.row.toRowW d [] (fun f vs => PySem.call f vs) := by
  refine Att.attach_call hn hdf fun w s0 s1 mg mb fa o pm cd doc a vs ns G Y h1 h2 h3 h4 h5 h6 h7 h8 => ?_
  obtain ⟨K, fd, sp, inK, bt, hsp, hF⟩ := F w mg fa _ Y G.T.g h4
  exact law_callG inK G.T.g G.T.b G.T.builtins G.T.nolimit h8 h5 h6 (Nat.le_trans h7 hn2) hr hF bt (fun H sq => hsp H a ns h7 sq)
end Ev
namespace Ev
open PySem L2 PySem.Spec PyProof.Rows
/-- an error of the class C with the field n is told -/
def TellE (C : Addr) (n : Str) (v : V) (H : Hp) (E : XK) : Prop := ∀ (d : Addr) (H' : Hp), Same H H' → H d = none → H' d = some (.xd [(n, v)]) → E (.ref C) (some d) H'
def spErrI (C : Addr) (n : Str) : Sp := fun vs H Q _ => ∃ (a : Addr) (v : V) (T : String), vs = [.ref a, v] ∧ Flat v T ∧ H a = some (exo a C none) ∧
  ∀ (d : Addr) (H' : Hp), H d = none → H' a = some (exo a C (some d)) → H' d = some (exd d [(n, v)]) → (∀ b o, b ≠ a → H b = some o → H' b = some o) → Q .non H'
/-- an error class of the package with one field n -/
structure ErrC (P : Program) (w : World) (K : PySem.W.Frag) (mg : Str → Option Value) (base : Heap) (x n : Str) (C : Addr) : Prop where
  cl : OexC K C
  g : mg x = some (.ref C)
  ex : ∃ (f : Addr) (fd : FuncData), PySem.W.findIn K (.ref C) "__init__" = some (some (.ref f)) ∧ PySem.W.typeIn K (.ref f) = some (.type "function") ∧ FnOk P w K mg base CX0 3 f fd ["self", n] (spErrI C n) ∧ Binds K fd ["self", n] []
inductive Out
  | ok
  | rule (m : Str)
  | halves (w : Int)
def OutK (B N : Addr) (H : Hp) (E : XK) (good : Prop) : Out → Prop
  | .ok => good
  | .rule m => ∀ H1, Same H H1 → TellE B "part" (.str m) H1 E
  | .halves w => ∀ H1, Same H H1 → TellE N "weight" (.int w) H1 E
theorem OutK.mono {B N : Addr} {H H2 : Hp} {E : XK} {g g' : Prop} {o : Out} (h : OutK B N H E g o) (k : Same H H2) (f : g → g') : OutK B N H2 E g' o := by
  cases o with
  | ok => exact f h
  | rule m => exact fun H1 s => h H1 (k.trans s)
  | halves w => exact fun H1 s => h H1 (k.trans s)
def halvesO (p q k : Int) : Out := if p + k < q then .halves 2 else if 2 * q ≤ p + k then .ok else .halves 3
def outH : Option (List V) → V → Out
  | some [.int p, .int q], .int k => halvesO p q k
  | _, _ => .ok
def outP (o : Option (List V)) (k : V) : Out := if timesB o = false then .rule "times" else if inB (-6) 6 k = false then .rule "plus" else .ok
def Out.then : Out → Out → Out
  | .ok, y => y
  | x, _ => x
def outT (o : Option (List V)) (k : V) : Out := (outP o k).then (outH o k)
def outQ (o2 : Option (List V)) (c : V) : Out := if pairB 8 o2 = false then .rule "turn" else if inB (-6) 6 c = false then .rule "turn_plus" else .ok
def outN (o : Option (List V)) (k : V) (o2 : Option (List V)) (c : V) : Out := (outP o k).then ((outQ o2 c).then (outH o k))
def spNeedT (B : Addr) : Sp := fun vs H Q E => ∃ (tv kv : V) (o : Option (List V)) (N : Addr), vs = [tv, kv] ∧ PairQ H tv o ∧ IntQ H kv ∧ OutK B N H E (∀ H', Same H H' → Q .non H') (outP o kv)
def spHalves : Sp := fun vs H Q _ => ∃ (a : Addr) (p q k : Int), vs = [.ref a, .int k] ∧ H a = some (.tup [.int p, .int q]) ∧ Q (.bl (decide (2 * q ≤ p + k))) H
def spNeedH (N : Addr) : Sp := fun vs H Q E => ∃ (a : Addr) (p q k : Int) (B : Addr), vs = [.ref a, .int k] ∧ H a = some (.tup [.int p, .int q]) ∧ OutK B N H E (Q .non H) (halvesO p q k)
def tryV (tv kv : V) : List (Str × V) := [("times", tv), ("plus", kv)]
def turnV (tv kv uv cv : V) : List (Str × V) := [("times", tv), ("plus", kv), ("turn", uv), ("turn_plus", cv)]
def spTryInit (C B N : Addr) : Sp := fun vs H Q E => ∃ (x dx : Addr) (tv kv : V) (o : Option (List V)), vs = [.ref x, tv, kv] ∧ H x = some (.ins C dx []) ∧ PairQ H tv o ∧ IntQ H kv ∧ OutK B N H E (∀ H', But x H H' → H' x = some (.ins C dx (tryV tv kv)) → Q .non H') (outT o kv)
def spTurnInit (C B N : Addr) : Sp := fun vs H Q E => ∃ (x dx : Addr) (tv kv uv cv : V) (o o2 : Option (List V)), vs = [.ref x, tv, kv, uv, cv] ∧ H x = some (.ins C dx []) ∧ PairQ H tv o ∧ IntQ H kv ∧ PairQ H uv o2 ∧ IntQ H cv ∧ OutK B N H E (∀ H', But x H H' → H' x = some (.ins C dx (turnV tv kv uv cv)) → Q .non H') (outN o kv o2 cv)
/-- what the raising of such an error comes to -/
theorem raised {C : Addr} {n : Str} {H : Hp} {v : V} {T : String} {E : XK} (hv : Flat v T) (k : TellE C n v H E) (a' : Addr) (na : H a' = none) :
    spErrI C n [.ref a', v] (upd H a' (exo a' C none)) (fun v' H2 => v' = .non ∧ ∃ (d : Addr) (fs : List (Str × V)), H2 a' = some (exo a' C (some d)) ∧ H2 d = some (exd d fs) ∧ H d = none ∧ E (.ref C) (some d) (upd (del H2 a') d (.xd fs))) (fun _ _ _ => False) := by
  refine ⟨a', v, T, rfl, hv, upd_same, fun d H' nd ha' hd bt => ⟨rfl, d, _, ha', hd, ?_, ?_⟩⟩
  · have dne : d ≠ a' := fun z => by rw [z, upd_same] at nd; cases nd
    rw [upd_ne dne] at nd
    exact nd
  · have dne : d ≠ a' := fun z => by rw [z, upd_same] at nd; cases nd
    rw [upd_ne dne] at nd
    refine k d _ (fun b o e => ?_) nd upd_same
    rw [upd_ne (ne_of_none e nd), del_ne (ne_of_none e na)]
    exact bt b o (ne_of_none e na) (by rw [upd_ne (ne_of_none e na)]; exact e)
section
variable {P : Program} {w : World} {K : PySem.W.Frag} {mg : Str → Option Value} {base : Heap}
theorem scBR : FnScope ["self", "part"] ["self", "part"] (defScope sBRInit) := ⟨rfl, rfl, rfl, by decide +kernel, rfl, by decide +kernel, by decide +kernel⟩
theorem ok_br {f C : Addr} {fd : FuncData} (F : Fun K "__init__" "BadRule.__init__" sBRInit f fd) (T : OexC K C) (no : PySem.W.findIn K (.ref C) "part" = some none) (D : Df P w K mg base 2 "kept" ["value"] spKept) : FnOk P w K mg base CX0 3 f fd ["self", "part"] (spErrI C "part") := by
  obtain ⟨f1, fd1, G1, g1, k1, b1⟩ := D.ex
  refine F.ok scBR (fun vs H Q E h => ?_) (fun cdv A outer s H vs Q E hr h => ?_)
  · obtain ⟨a, v, TT, rfl, _⟩ := h
    rfl
  · obtain ⟨a, v, TT, rfl, fl, ha, kk⟩ := h
    refine ⟨_, pss_one (ps_ost (pv 0) (pe_call G1 hr (by rfl) g1 k1 b1 .nil pass0 (pa_cons (pv 1) pa_nil))), ?_⟩
    refine ⟨_, rfl, v, TT, rfl, fl, fun H1 s1 => ⟨_, rfl, a, C, rfl, T, no, .inl ⟨s1 _ _ ha, fun dx nd dne => ?_⟩⟩⟩
    refine kk dx _ (Same.gone s1 nd) upd_same (by rw [upd_ne dne]; exact upd_same) fun b o nb e => ?_
    rw [upd_ne nb, upd_ne (ne_of_none (s1 _ _ e) nd)]
    exact s1 _ _ e
theorem scNH : FnScope ["self", "weight"] ["self", "weight"] (defScope sNHInit) := ⟨rfl, rfl, rfl, by decide +kernel, rfl, by decide +kernel, by decide +kernel⟩
theorem ok_nh {f C : Addr} {fd : FuncData} (F : Fun K "__init__" "NoHalves.__init__" sNHInit f fd) (T : OexC K C) (no : PySem.W.findIn K (.ref C) "weight" = some none) (D : Df P w K mg base 2 "kept" ["value"] spKept) : FnOk P w K mg base CX0 3 f fd ["self", "weight"] (spErrI C "weight") := by
  obtain ⟨f1, fd1, G1, g1, k1, b1⟩ := D.ex
  refine F.ok scNH (fun vs H Q E h => ?_) (fun cdv A outer s H vs Q E hr h => ?_)
  · obtain ⟨a, v, TT, rfl, _⟩ := h
    rfl
  · obtain ⟨a, v, TT, rfl, fl, ha, kk⟩ := h
    refine ⟨_, pss_one (ps_ost (pv 0) (pe_call G1 hr (by rfl) g1 k1 b1 .nil pass0 (pa_cons (pv 1) pa_nil))), ?_⟩
    refine ⟨_, rfl, v, TT, rfl, fl, fun H1 s1 => ⟨_, rfl, a, C, rfl, T, no, .inl ⟨s1 _ _ ha, fun dx nd dne => ?_⟩⟩⟩
    refine kk dx _ (Same.gone s1 nd) upd_same (by rw [upd_ne dne]; exact upd_same) fun b o nb e => ?_
    rw [upd_ne nb, upd_ne (ne_of_none (s1 _ _ e) nd)]
    exact s1 _ _ e
theorem scHalves : FnScope ["times", "plus", "over", "under"] ["times", "plus"] (defScope sHalves) := ⟨rfl, rfl, rfl, by decide +kernel, rfl, by decide +kernel, by decide +kernel⟩
theorem ok_halves {f : Addr} {fd : FuncData} (F : Fun K "has_halves" "has_halves" sHalves f fd) : FnOk P w K mg base CX0 1 f fd ["times", "plus"] spHalves := by
  refine F.ok scHalves (fun vs H Q E h => ?_) (fun cdv A outer s H vs Q E hr h => ?_)
  · obtain ⟨a, p, q, k, rfl, _⟩ := h
    rfl
  · obtain ⟨a, p, q, k, rfl, ha, kk⟩ := h
    refine ⟨_, pss_cons (ps_asg (pv 0) (pg_tup (by rfl) (pgs_cons (pg_name (i := 2) scHalves.nd rfl (.inl rfl)) (pgs_cons (pg_name (i := 3) scHalves.nd rfl (.inl rfl)) pgs_nil))))
      (pss_one (ps_ret (pe_cmpR op_ge (pe_op op_add (pv 2) (pv 1)) (pe_op op_mul pe_int (pv 3)) (nomark _)))), ?_⟩
    refine ⟨_, rfl, a, _, rfl, SqT.of ha, rfl, _, _, rfl, _, _, rfl, rfl, ?_⟩
    exact ⟨_, rfl, _, rfl, _, _, rfl, rfl, _, rfl, _, _, rfl, rfl, .inl ⟨by decide, by decide⟩, _, _, rfl, rfl, kk⟩
/-- a def that may raise, under its name -/
structure DfX (P : Program) (w : World) (K : PySem.W.Frag) (mg : Str → Option Value) (base : Heap) (k : Nat) (x : Str) (ps : List Str) (sp : Sp) : Prop where
  ex : ∃ (f : Addr) (fd : FuncData), FnOk P w K mg base (L2.CX P w) k f fd ps sp ∧ mg x = some (.ref f) ∧ PySem.W.keepIn K (.ref f) = true ∧ Binds K fd ps []
theorem scNeedT : FnScope ["times", "plus"] ["times", "plus"] (defScope sNeedT) := ⟨rfl, rfl, rfl, by decide +kernel, rfl, by decide +kernel, by decide +kernel⟩
theorem ok_needT {f B : Addr} {fd : FuncData} (F : Fun K "need_times" "need_times" sNeedT f fd) (D1 : Df P w K mg base 4 "is_times" ["value"] spTimesA) (D2 : Df P w K mg base 3 "is_plus" ["value"] spPlusA) (EB : ErrC P w K mg base "BadRule" "part" B) : FnOk P w K mg base (L2.CX P w) 5 f fd ["times", "plus"] (spNeedT B) := by
  obtain ⟨f1, fd1, G1, g1, k1, b1⟩ := D1.ex
  obtain ⟨f2, fd2, G2, g2, k2, b2⟩ := D2.ex
  obtain ⟨TC, gC, fi, fdi, iC, tI, GI, bI⟩ := id EB
  refine F.okX scNeedT (fun vs H Q E h => ?_) (fun cdv A outer s H vs Q E hr h => ?_)
  · obtain ⟨tv, kv, o, N, rfl, _⟩ := h
    rfl
  · obtain ⟨tv, kv, o, N, rfl, hp, hk, h⟩ := h
    refine ⟨_, pss_cons (ps_if (pt_not (pt_val (pe_call G1 hr (by rfl) g1 k1 b1 .nil pass0 (pa_cons (pv 0) pa_nil)))) (pss_one (ps_raise rfl (takes_of rfl rfl rfl rfl) (pmk_oex TC iC tI GI (hr.mono (by decide)) bI .nil pass0 (by rfl) gC (pa_cons pe_str pa_nil)))) pss_nil)
      (pss_one (ps_if (pt_not (pt_val (pe_call G2 (hr.mono (by decide)) (by rfl) g2 k2 b2 .nil pass0 (pa_cons (pv 1) pa_nil)))) (pss_one (ps_raise rfl (takes_of rfl rfl rfl rfl) (pmk_oex TC iC tI GI (hr.mono (by decide)) bI .nil pass0 (by rfl) gC (pa_cons pe_str pa_nil)))) pss_nil)), ?_⟩
    refine ⟨_, rfl, tv, o, rfl, hp, fun H1 s1 => ?_⟩
    unfold outP at h
    cases z : timesB o with
    | false =>
      rw [if_pos z] at h
      exact ⟨false, rfl, iteT ⟨(by show 1 ≤ 1000; decide), fun a' na => raised (flat_str "times") (h H1 s1) a' na⟩⟩
    | true =>
      rw [if_neg (by rw [z]; simp)] at h
      refine ⟨true, rfl, iteF ⟨_, rfl, kv, rfl, hk.keep s1, ?_⟩⟩
      cases z2 : inB (-6) 6 kv with
      | false =>
        rw [if_pos z2] at h
        exact ⟨false, rfl, iteT ⟨(by show 1 ≤ 1000; decide), fun a' na => raised (flat_str "plus") (h H1 s1) a' na⟩⟩
      | true =>
        rw [if_neg (by rw [z2]; simp)] at h
        exact ⟨true, rfl, iteF (h H1 s1)⟩
theorem scNeedH : FnScope ["times", "plus", "over", "under"] ["times", "plus"] (defScope sNeedH) := ⟨rfl, rfl, rfl, by decide +kernel, rfl, by decide +kernel, by decide +kernel⟩
theorem ok_needH {f N : Addr} {fd : FuncData} (F : Fun K "need_halves" "need_halves" sNeedH f fd) (D : Df P w K mg base 1 "has_halves" ["times", "plus"] spHalves) (EN : ErrC P w K mg base "NoHalves" "weight" N) : FnOk P w K mg base (L2.CX P w) 5 f fd ["times", "plus"] (spNeedH N) := by
  obtain ⟨f1, fd1, G1, g1, k1, b1⟩ := D.ex
  obtain ⟨TC, gC, fi, fdi, iC, tI, GI, bI⟩ := id EN
  refine F.okX scNeedH (fun vs H Q E h => ?_) (fun cdv A outer s H vs Q E hr h => ?_)
  · obtain ⟨a, p, q, k, B, rfl, _⟩ := h
    rfl
  · obtain ⟨a, p, q, k, B, rfl, ha, h⟩ := h
    refine ⟨_, pss_cons (ps_asg (pv 0) (pg_tup (by rfl) (pgs_cons (pg_name (i := 2) scNeedH.nd rfl (.inl rfl)) (pgs_cons (pg_name (i := 3) scNeedH.nd rfl (.inl rfl)) pgs_nil))))
      (pss_cons (ps_if (pt_cmpR op_lt (pe_op op_add (pv 2) (pv 1)) (pv 3) (nomark _)) (pss_one (ps_raise rfl (takes_of rfl rfl rfl rfl) (pmk_oex TC iC tI GI hr bI .nil pass0 (by rfl) gC (pa_cons pe_int pa_nil)))) pss_nil)
      (pss_one (ps_if (pt_not (pt_val (pe_call G1 (hr.mono (by decide)) (by rfl) g1 k1 b1 .nil pass0 (pa_cons (pv 0) (pa_cons (pv 1) pa_nil))))) (pss_one (ps_raise rfl (takes_of rfl rfl rfl rfl) (pmk_oex TC iC tI GI hr bI .nil pass0 (by rfl) gC (pa_cons pe_int pa_nil)))) pss_nil))), ?_⟩
    refine ⟨_, rfl, a, _, rfl, SqT.of ha, rfl, _, _, rfl, _, _, rfl, rfl, ?_⟩
    unfold halvesO at h
    refine ⟨_, rfl, _, rfl, _, _, rfl, rfl, _, rfl, _, _, rfl, rfl, _, rfl, ite2 (fun e => ?_) (fun e => ?_)⟩
    · rw [if_pos (of_decide_eq_true e)] at h
      exact ⟨by decide, fun a' na => raised (flat_int 2) (h H (Same.refl H)) a' na⟩
    · rw [if_neg (fun z => e (decide_eq_true z))] at h
      refine ⟨_, rfl, _, rfl, a, p, q, k, rfl, ha, _, rfl, ?_⟩
      by_cases z : 2 * q ≤ p + k
      · rw [if_pos z] at h
        rw [decide_eq_true z]
        exact iteF h
      · rw [if_neg z] at h
        rw [decide_eq_false z]
        exact iteT ⟨by decide, fun a' na => raised (flat_int 3) (h H (Same.refl H)) a' na⟩
end
end Ev
namespace Ev
open PySem L2 PySem.Spec PyProof.Rows
/-! ### repr of a value that holds nothing but scalars -/
def sclr : V → PyData → Bool
  | .non, .none => true
  | .bl a, .bool b => a == b
  | .int a, .int b => decide (a = b)
  | .str a, .str b => a == b
  | _, _ => false
def keyD : Key → PyData
  | .inl i => .int i
  | .inr x => .str x
inductive Vd (K : PySem.W.Frag) (H : Hp) : V → PyData → Prop
  | plain {v : V} {d : PyData} : Dp K H v d → d.hasDict = false → Vd K H v d
  | dct {a : Addr} {kvs : List (Key × V)} {ds : List (PyData × PyData)} : H a = some (.dK kvs) → ds.map (·.1) = kvs.map (fun p => keyD p.1) → Paired (fun v d => sclr v d = true) (kvs.map (·.2)) (ds.map (·.2)) → Vd K H (.ref a) (.dict ds)
theorem reads_sc {h : Heap} {v : V} {d : PyData} {u : Value} (e : sclr v d = true) (r : RelV v u) : Reads h u d [] := by
  cases v <;> cases d <;> first | cases e | skip
  · cases (show u = Value.none from r); exact .none
  · obtain rfl := beq_iff_eq.mp e
    cases (show u = Value.bool _ from r); exact .bool _
  · obtain rfl := of_decide_eq_true e
    obtain ⟨t, q⟩ := (show ∃ t, u = Value.int _ t from r); cases q; exact .int _ _
  · obtain rfl := beq_iff_eq.mp e
    obtain ⟨t, q⟩ := (show ∃ t, u = Value.str _ t from r); cases q; exact .str _ _
theorem reads_scs {h : Heap} : ∀ {vs : List V} {ds : List PyData} {us : List Value}, Paired (fun v d => sclr v d = true) vs ds → Vals vs us → ReadsAll h us ds []
  | _, _, _, .nil, .nil => .nil
  | _, _, _, .cons e t, .cons r q => .cons (as := []) (bs := []) (reads_sc e r) (reads_scs t q)
theorem pair_vals {P : Program} {w : World} : ∀ {es : List DictEntry} {vs : List (Key × Value)}, Pairs (mixKind P w) es vs → es.map (·.val) = vs.map (·.2)
  | _, _, .nil => rfl
  | _, _, .cons h1 h2 t => by
    rw [List.map_cons, List.map_cons, h2, pair_vals t]
theorem reads_keys {P : Program} {w : World} {h : Heap} : ∀ {es : List DictEntry} {kvs : List (Key × V)} {vs : List (Key × Value)}, Pairs (mixKind P w) es vs → KV kvs vs → ReadsAll h (es.map (·.key)) (kvs.map fun p => keyD p.1) []
  | _, _, _, .nil, .nil => .nil
  | _, _, _, .cons h1 h2 t, .cons r q => by
    refine .cons (as := []) (bs := []) ?_ (reads_keys t q)
    dsimp only
    rw [r.1]
    rcases keyIs_shape (show keyIs _ _ = true from h1) with ⟨i, tk, e1, e2⟩ | ⟨x, tk, e1, e2⟩
    · rw [e1, e2]; exact .int _ _
    · rw [e1, e2]; exact .str _ _
theorem vals_snd : ∀ {kvs : List (Key × V)} {vs : List (Key × Value)}, KV kvs vs → Vals (kvs.map (·.2)) (vs.map (·.2))
  | _, _, .nil => .nil
  | _, _, .cons h t => .cons h.2 (vals_snd t)
section
variable {X : Cx}
/-- repr of such a value, where none is under way -/
def rReprV (K : PySem.W.Frag) : List V → Hp → VK → Prop := fun xs H Q => ∃ (v : V) (d : PyData), xs = [v] ∧ Vd K H v d ∧
  d.showable = true ∧ d.depth ≤ 32 ∧ d.shown.length ≤ sizeLine ∧ Q (.str d.shown) H
theorem call_reprV (gd : X.A.guards = some []) (hu : X.A.units + 64 < cLine) : CallR X (.builtin "repr") (rReprV X.K) := by
  intro pins s σ H xs us Q I r h
  obtain ⟨v, d, rfl, hd, h1, h3, h4, q⟩ := h
  obtain ⟨u, rfl, ru⟩ := vals1 r
  have fin : ∀ (h' : Heap) (t : Tok) (tk : Nat), (∀ b o, s.heap.get? b = some o → h'.get? b = some o) → EP X pins σ Q (.str d.shown t) { s with heap := h', toks := tk } := fun h' t tk hk => ⟨.str d.shown, H, I.kept hk, ⟨t, rfl⟩, q⟩
  have byRef : ∀ (a : Addr) (as : List Addr), u = .ref a → Reads s.heap (.ref a) d as → (d.hasDict = true → sysModules ∉ as) → wpAny (model X.prog X.w) X.A (call (.builtin "repr") [u]) (EP X pins σ Q) X.xe s := by
    intro a as eu rd hm
    subst eu
    exact repr_of_reads' rd h1 hm gd (by omega) (fun _ _ e => e) (fun h' t tk hk => fin h' t tk hk) h4
  cases hd with
  | plain dp nd =>
    cases dp with
    | non => cases ru; exact PySem.P.repr_of_none (fin s.heap _ _ fun _ _ e => e)
    | bl b => cases ru; exact PySem.P.repr_of_bool (fin s.heap _ _ fun _ _ e => e)
    | int i => obtain ⟨t, rfl⟩ := ru; exact PySem.P.repr_of_int (of_decide_eq_true h1) (fin s.heap _ _ fun _ _ e => e)
    | str x => obtain ⟨t, rfl⟩ := ru; exact PySem.P.repr_of_str (fin s.heap _ _ fun _ _ e => e) h4
    | lst sq al =>
      cases ru
      obtain ⟨as, rd⟩ := Dp.reads I _ _ _ (.lst sq al) rfl
      exact byRef _ as rfl rd fun z => by rw [nd] at z; cases z
    | tup sq al =>
      cases ru
      obtain ⟨as, rd⟩ := Dp.reads I _ _ _ (.tup sq al) rfl
      exact byRef _ as rfl rd fun z => by rw [nd] at z; cases z
  | @dct a kvs ds e ek ev =>
    cases ru
    obtain ⟨hz, hs0, vs, kv, hdo⟩ := (show ObjOk X.prog X.w H s.heap a (.dK kvs) from I.hok a _ e)
    obtain ⟨ep, ob, es, ho, ex, hdat, hko, hpr, hnd⟩ := hdo.dictAt
    have e1 : ReadsAll s.heap (es.toList.map (·.key)) (ds.map (·.1)) [] := by
      rw [ek]; exact reads_keys hpr kv
    have e2 : ReadsAll s.heap (es.toList.map (·.val)) (ds.map (·.2)) [] := by
      refine reads_scs ev ?_
      have e3 : es.toList.map (·.val) = vs.map (·.2) := pair_vals hpr
      rw [e3]; exact vals_snd kv
    refine byRef a (a :: [] ++ []) rfl (.dict ho ex.1 hdat e1 e2) fun _ z => ?_
    simp at z
    rw [← z] at hs0
    simp at hs0
end
end Ev
namespace Ev
open PySem L2 PySem.Spec PyProof.Rows
/-! An error that was caught stays in a local behind its suite: its object is told of from then on. -/
def Held (cls : Value) (d : Option Addr) (a : Addr) : HO := .ext fun h => ∃ oe : Obj, h.get? a = some oe ∧ Zc cls d oe ∧ ∃ vs : Array Value, oe.data = .fields vs
theorem held_ok {P : Program} {w : World} {H : Hp} {h : Heap} {a : Addr} {cls : Value} {d : Option Addr} {oe : Obj}
    (e : h.get? a = some oe) (z : Zc cls d oe) (f : ∃ vs : Array Value, oe.data = .fields vs) : ObjOk P w H h a (Held cls d a) :=
  ⟨⟨oe, e, z, f⟩, ⟨oe, e⟩, fun _ _ t k => by obtain ⟨o, q, r⟩ := t; exact ⟨o, k _ q, r⟩⟩
section
variable {X : Cx} {pins : List (Addr × Obj)} {σ : L2.St} {H : Hp} {s : Shared} {a : Addr} {cls : Value} {d : Option Addr} {oe : Obj}
theorem inv_hold (I : Inv X pins σ H s) (e : s.heap.get? a = some oe) (z : Zc cls d oe) (f : ∃ vs : Array Value, oe.data = .fields vs) (n : H a = none)
    (n0 : X.s_0.heap.get? a = none) (nL : a ≠ X.env.locals) (np : ∀ p ∈ X.pn ++ pins, p.1 ≠ a) : Inv X pins σ (upd H a (Held cls d a)) s := by
  have other : ∀ {b : Addr} {o : HO}, H b = some o → upd H a (Held cls d a) b = some o := fun {b o} q => by rw [upd_ne (ne_of_none q n)]; exact q
  constructor
  · exact I.ok
  · exact I.os
  · exact I.bare
  · constructor
    · exact I.base.keep
    · exact I.base.slot
    · intro b o q1 q2 q3
      have nb : b ≠ a := fun t => by rw [t, n0] at q1; cases q1
      rw [upd_ne nb]; exact I.base.free b o q1 q2 q3
    · exact I.base.there
    · exact fun b xs q => other (I.base.tups b xs q)
    · exact fun b o u q => other (I.base.frzs b o u q)
    · intro b ps q
      obtain ⟨more, t⟩ := I.base.tbls b ps q
      exact ⟨more, other t⟩
  · exact I.loc
  · exact I.cell
  · rw [upd_ne nL.symm]; exact I.free
  · intro x c q
    have nb : c ≠ a := fun t => by
      obtain ⟨v, o, q1, q2⟩ := I.cell x c q
      obtain ⟨vs, q3⟩ := f
      rw [t, e] at q1; cases q1
      rw [q3] at q2; cases q2
    rw [upd_ne nb]; exact I.freeC x c q
  · intro p hp
    obtain ⟨q1, q2, q3⟩ := I.pin p hp
    exact ⟨q1, by rw [upd_ne (np p hp)]; exact q2, q3⟩
  · intro b o q
    by_cases nb : b = a
    · subst nb
      rw [upd_same] at q
      cases q
      exact held_ok e z f
    · rw [upd_ne nb] at q
      exact (I.hok b o q).stay (fun _ _ _ t => t) (fun _ t => other t) (fun _ _ t => other t)
  · exact I.len
end
/-- what the clause wishes: the suite reads the error in slot i; behind it the error is told of, slot i is empty -/
def wHeld (K : PySem.W.Frag) (c : Value) (i : Nat) (ts : Addr → Value → Option Addr → TS) (Wout : WX) (n : Nat) (D : Ends) : WX := fun cls d σ H => σ.length = n →
  ∃ b, PySem.W.exmOne K cls c = some b ∧ (b = false → Wout cls d σ H) ∧ (b = true → ∀ a, H a = none →
    ts a cls d { nx := fun τ G => G a = none → D.nx (τ.set i none) (upd G a (Held cls d a)), rt := fun v G => D.rt v G, bk := fun τ G => D.bk (τ.set i none) G, ct := fun τ G => D.ct (τ.set i none) G } (σ.set i (some (.ref a))) H)
section
variable {X : Cx} {x n : Str} {c : Value} {i : Nat} {body suite : List Stmt} {b₀ : Stmt} {np pos pos' : Pos} {tb : WX → TS} {ts : Addr → Value → Option Addr → TS} {Wout : WX}
theorem ps_try_held (hs : X.stack = X.env :: X.outer) (hf : X.env.frame = some X.env.locals) (hex : X.ex = []) (hN : X.N.Nodup) (hi : X.N[i]? = some n) (hln : X.env.kindOf n = some .local) (hc : Names X x c) (tk : Takes X Wout)
    (hb : ∀ (W : WX) (pn : List (Addr × Obj)) (xe : Value → Shared → Prop), Takes (X.tr pn xe) W → PSs (X.tr pn xe) body (tb W))
    (hsu : ∀ (a : Addr) (oe : Obj) (cls : Value) (d : Option Addr) (pn : List (Addr × Obj)), Zc cls d oe → (∃ vs, oe.data = .fields vs) → PSs (X.suite a ((a, oe) :: pn)) (b₀ :: suite) (ts a cls d)) :
    PS X (.Try body [.ExceptHandler (some (.Name x np)) (some n) (b₀ :: suite) pos'] [] [] pos) (fun D σ H => tb (wHeld X.K c i ts Wout X.N.length D) D σ H) := by
  constructor
  intro pins s σ H D I h
  have ok := I.ok
  have frames : X.A.frames = some (X.env :: X.outer) := by rw [ok.frames, hs]
  have isLoc : Loc X.env.scope n := .inl hln
  let hands : List ExceptHandler := [.ExceptHandler (some (.Name x np)) (some n) (b₀ :: suite) pos']
  let land : Value → Shared → Prop := fun e s1 => wpAny (model X.prog X.w) X.A (noteFrame e X.env) (fun _ s2 => wpAny (model X.prog X.w) X.A (setFlight e none)
    (fun _ s3 => wpAny (model X.prog X.w) X.A (handleBy e X.env hands) (SP X pins D) X.xe s3) X.xe s2) X.xe s1
  have caught : Takes (X.tr (X.pn ++ pins) land) (wHeld X.K c i ts Wout X.N.length D) := by
    rintro u s' ⟨a, B, sI, pins', σ', H', cls, d, rfl, J', nb, up, sky, na, os, ag, wish⟩
    obtain ⟨b, hb1, hno, hyes⟩ := wish J'.len
    have J : Inv X pins σ' H' sI := J'.ofTry ok
    have sky2 : Sky B (X.env :: X.outer) a (Zc cls d) X.env.locals s'.heap := by rw [← hs]; exact sky
    refine Sky.land Zc.steady frames hf sky2 fun h3 fl3 up3 => ?_
    have J3 : Inv X pins σ' H' { s' with heap := h3 } := J.landed nb fl3.1 (up.trans up3) os ag
    obtain ⟨oe3, vs3, he3, hz3, hd3⟩ := fl3.there
    have nfr : a ∉ frs (X.env :: X.outer) := by
      intro hm
      obtain ⟨_, o2, e2, nf⟩ := fl3.2.2.1.mem hm
      rw [he3] at e2; cases e2
      exact nf _ hd3
    have nfr2 : a ∉ frs X.stack := by rw [hs]; exact nfr
    have nL : a ≠ X.env.locals := fun z => nfr (List.mem_filterMap.mpr ⟨_, List.mem_cons_self, by rw [hf, z]⟩)
    have nF : a ∉ X.fs := by
      intro hm
      obtain ⟨e, he, q⟩ := List.mem_filterMap.mp hm
      exact nfr (List.mem_filterMap.mpr ⟨e, List.mem_cons_of_mem _ he, q⟩)
    have nI : sI.heap.get? a = none := by
      cases q : sI.heap.get? a with
      | none => rfl
      | some o =>
        have z := nb a o q nfr2
        rw [fl3.2.1] at z; cases z
    have n0 : X.s_0.heap.get? a = none := by
      cases q : X.s_0.heap.get? a with
      | none => rfl
      | some o =>
        obtain ⟨o2, z⟩ := J.base.there a o q (by rw [hex]; simp)
        rw [nI] at z; cases z
    have npin : ∀ p ∈ X.pn ++ pins, p.1 ≠ a := fun p hp z => by
      have q := (J.pin p hp).1
      rw [z, nI] at q; cases q
    have S3 := J3.suite he3 hd3 na nL nF
    refine wpAny_handleBy_cons (codeAny_handlers_test ?_) (fun q => nomatch q)
    have LT : PySem.W.Looks (model X.prog X.w) h3 (typeOf (.ref a)) cls := by
      intro A Q E s k q
      exact wpAny_typeOf_ref (k _ _ he3) (by rw [hz3.1]; exact q)
    have LM := PySem.W.exm_one (M := model X.prog X.w) J3.kIn LT hb1
    have named : ∀ {Q E : Value → Shared → Prop}, Q c { s' with heap := h3 } → wpAny (model X.prog X.w) (X.A.mark (some (.ref a))) (eval (.Name x np) X.env) Q E { s' with heap := h3 } := by
      intro Q E q
      obtain ⟨g1, g2, g3⟩ := hc
      rcases g3 with m | ⟨m, v, nn⟩
      · exact ld_glob (X := X.suite a ((a, oe3) :: (X.pn ++ pins))) S3 g1 m q g2
      · exact ld_blt (X := X.suite a ((a, oe3) :: (X.pn ++ pins))) S3 g1 m v q nn g2
    refine named (LM.here ?_)
    cases b with
    | false =>
      refine wpAny_handleBy_nil (e := .ref a) (env := X.env) ?_
      obtain ⟨k1, k2, k3, oe, vs, T, oT, ts', he, hz, hd, h1, hr⟩ := id fl3
      unfold PySem.passOn
      refine wpAny_bind (wpAny_field he hd h1 ?_)
      rw [if_neg (by simp : ¬ ((Value.ref T == Value.none) = true))]
      have on : wpAny (model X.prog X.w) X.A (setFlight (.ref a) X.env.frame) (fun _ s4 => wpAny (model X.prog X.w) X.A (throw (.ref a) : Sem Flow) (SP X pins D) X.xe s4) X.xe { s' with heap := h3 } := by
        rw [hf]
        refine HandSPX.setFlight_upZ fl3 fun h4 hh4 up4 => ?_
        refine wpAny_throw (tk _ _ ⟨a, B, sI, pins, σ', H', cls, d, rfl, J, nb, (up.trans up3).trans up4, ?_, na, os, ag, hno rfl⟩)
        rw [hs]; exact .inr (.inr hh4)
      first
        | exact wpAny_bind (wpAny_pure (wpAny_bind on))
        | exact wpAny_bind on
    | true =>
      refine codeAny_handlers_suite_as (HandSPX.lands_againZ fl3 fun h4 fl4 up4 => ?_)
      have J4 : Inv X pins σ' H' { s' with heap := h4 } := J.landed nb fl4.1 ((up.trans up3).trans up4) os ag
      obtain ⟨oe4, vs4, he4, hz4, hd4⟩ := fl4.there
      refine store_ok (X := X.suite a ((a, oe4) :: (X.pn ++ pins))) (v := .ref a) (J4.suite he4 hd4 na nL nF) hN hi isLoc rfl (fun s5 S5 => ?_) (.inr hln)
      have suite := (hsu a oe4 cls d (X.pn ++ pins) hz4 ⟨_, hd4⟩).run [] s5 _ H' _ S5 (hyes rfl a na)
      refine wpAny_mono suite (fun f s6 hsp => ?_) (fun _ _ z => False.elim z)
      have gone : ∀ {τ : L2.St} {G : Hp} {Q : Shared → Prop}, Inv X pins τ G s6 → (∀ s7, Inv X pins (τ.set i none) G s7 → Q s7) →
          wpAny (model X.prog X.w) X.A (do bindName X.env n .none; unbindBehindTheSuite X.env n pos') (fun _ s7 => Q s7) X.xe s6 := by
        intro τ G Q S6 hq
        exact gone_ok S6 hN hi hln hq
      cases f with
      | next =>
        obtain ⟨τ, G, S6, q6⟩ := hsp
        obtain ⟨p1, p2, _⟩ := S6.pin (a, oe4) (List.mem_append_left _ List.mem_cons_self)
        exact gone (inv_hold (S6.unsuite ok) p1 hz4 ⟨_, hd4⟩ p2 n0 nL npin) fun s7 J7 => ⟨_, _, J7, q6 p2⟩
      | brk =>
        obtain ⟨τ, G, S6, q6⟩ := hsp
        exact gone (S6.unsuite ok) fun s7 J7 => ⟨_, _, J7, q6⟩
      | cont =>
        obtain ⟨τ, G, S6, q6⟩ := hsp
        exact gone (S6.unsuite ok) fun s7 J7 => ⟨_, _, J7, q6⟩
      | ret u =>
        obtain ⟨v, τ, G, S6, r6, q6⟩ := hsp
        exact gone (S6.unsuite ok) fun s7 J7 => ⟨_, _, _, J7, r6, q6⟩
  refine wpAny_Try_except (wpAny_mono ((hb _ (X.pn ++ pins) land caught).run [] s σ H D (I.toTry _) h) (fun f s1 hsp => ?_) (fun e s1 he => he))
  cases f with
  | next =>
    obtain ⟨τ, G, J, q⟩ := hsp
    exact wpAny_execs_nil ⟨τ, G, J.ofTry ok, q⟩
  | brk =>
    obtain ⟨τ, G, J, q⟩ := hsp
    exact ⟨τ, G, J.ofTry ok, q⟩
  | cont =>
    obtain ⟨τ, G, J, q⟩ := hsp
    exact ⟨τ, G, J.ofTry ok, q⟩
  | ret u =>
    obtain ⟨v, τ, G, J, r, q⟩ := hsp
    exact ⟨v, τ, G, J.ofTry ok, r, q⟩
end
/-- what the class of such an error says -/
structure HeldC (K : PySem.W.Frag) (C : Addr) : Prop where
  cl : (PySem.W.clsIn K C).isSome = true
  ga : PySem.W.findIn K (.ref C) "__getattribute__" = some (some (.builtin "BaseException.__getattribute__"))
  gg : PySem.W.findIn K (.ref C) "__getattr__" = some none
  ex : PySem.W.subIn K (.ref C) (.type "BaseException") = some true
  hd : PySem.W.hasDictIn K C = true
  ca : PySem.W.findIn K (.ref C) "__class__" = some (some (.builtin "object.__class__"))
  sp : PySem.W.specialIn K (.builtin "object.__class__") "__get__" = some (some (.builtin "getset_descriptor.__get__"))
  tk : PySem.W.takesIn K (.builtin "object.__class__") = some true
  mo : PySem.W.mroIn K C (.type "object") = some true
section
variable {X : Cx}
theorem held_at {pins : List (Addr × Obj)} {σ : L2.St} {H : Hp} {s : Shared} {a : Addr} {cls : Value} {d : Option Addr} (I : Inv X pins σ H s) (e : H a = some (Held cls d a)) :
    ∃ oe : Obj, s.heap.get? a = some oe ∧ Zc cls d oe ∧ ∃ vs : Array Value, oe.data = .fields vs := by
  have x : ObjOk X.prog X.w H s.heap a (.ext fun h => ∃ oe : Obj, h.get? a = some oe ∧ Zc cls d oe ∧ ∃ vs : Array Value, oe.data = .fields vs) := I.hok a _ e
  exact x.1
theorem held_inst {pins : List (Addr × Obj)} {σ : L2.St} {H : Hp} {s : Shared} {a C dd : Addr} {fs : List (Str × V)} (I : Inv X pins σ H s) (e : H a = some (Held (.ref C) (some dd) a)) (ed : H dd = some (.xd fs)) :
    ∃ (oe od : Obj) (mA : Str → Option Value), PySem.W.InstAt s.heap a oe C (some od) ∧ (∀ f, RelO (fs.lookup f) (mA f)) ∧ ∀ n, PySem.W.lookIn n od = some (mA n) := by
  obtain ⟨oe, he, hz, vs, hd⟩ := held_at I e
  obtain ⟨mA, hns, hr⟩ := (show ObjOk X.prog X.w H s.heap dd (.xd fs) from I.hok dd _ ed)
  obtain ⟨od, ho, hl⟩ := lookIn_ns hns
  exact ⟨oe, od, mA, ⟨he, hz.1, by unfold PySem.W.notCls; rw [hd] <;> rfl, by rw [hz.2]; exact ho⟩, hr, hl⟩
/-- isinstance(e, c), e such an error -/
def rIsHeld (K : PySem.W.Frag) : List V → Hp → VK → Prop := fun xs H Q => ∃ (a C dd : Addr) (fs : List (Str × V)) (c : V) (u : Value) (b : Bool),
  xs = [.ref a, c] ∧ H a = some (Held (.ref C) (some dd) a) ∧ H dd = some (.xd fs) ∧ HeldC K C ∧ ClsV c u ∧ PySem.W.kitOne K (.ref C) u = some b ∧ Q (.bl b) H
theorem call_isHeld : CallR X (.builtin "isinstance") (rIsHeld X.K) := by
  intro pins s σ H xs us Q I r h
  obtain ⟨a, C, dd, fs, c, u, b, rfl, ea, ed, T, k, e, q⟩ := h
  obtain ⟨u1, u2, rfl, r1, r2⟩ := vals2 r
  have e2 := k.eq r2
  subst e2
  cases r1
  obtain ⟨oe, od, mA, J, _, _⟩ := held_inst I ea ed
  exact PySem.W.kia_one (PySem.W.kitx_exc T.cl T.ga T.gg T.ex T.ca T.sp T.tk T.mo) I.kIn J e (fun z => nomatch z) fun tk => ⟨.bl b, H, I.tok tk, rfl, q⟩
/-- e.n, e such an error -/
def tHeldFld (K : PySem.W.Frag) (n : Str) (te : TE) : TE := fun σ H Q => te σ H fun x H1 => ∃ (a C dd : Addr) (fs : List (Str × V)) (v : V),
  x = .ref a ∧ H1 a = some (Held (.ref C) (some dd) a) ∧ H1 dd = some (.xd fs) ∧ HeldC K C ∧ PySem.W.findIn K (.ref C) n = some none ∧ fs.lookup n = some v ∧ Q v H1
theorem pe_heldFld {e : Expr} {te : TE} {pos : Pos} {n : Str} (he : PE X e te) (hb : attributeBase e n X.env (eval e X.env) = eval e X.env := by rfl) : PE X (.Attribute e n pos) (tHeldFld X.K n te) := by
  constructor
  intro pins s σ H Q I h
  refine attr_of hb (thn (he.run pins s σ H _ I h) fun u s1 hh => ?_)
  obtain ⟨x, H1, I1, rx, a, C, dd, fs, v, rfl, ea, ed, T, hno, l, q⟩ := hh
  obtain rfl : u = Value.ref a := rx
  obtain ⟨oe, od, mA, J, hr, hl⟩ := held_inst I1 ea ed
  obtain ⟨u, hu, ru⟩ := RelO.some_of (v := v) (o := mA n) (by rw [← l]; exact hr n)
  exact HandSPX.exc_get I1.kIn J T.ga T.gg T.ex (PySem.W.findObj_own T.hd hno rfl (by rw [hl, hu])) (handed_of ru) ⟨v, H1, I1.tok _, ru, q⟩
end
end Ev
namespace Ev
open PySem L2 PySem.Spec PyProof.Rows LamX
/-! The law's own call, where the law makes lambdas: the table of its code object is told of. -/
section
variable {P : Program} {w : World} {K : PySem.W.Frag} {mg mb : Str → Option Value}
theorem law_callT {k : Nat} {fa a c T : Addr} {fd : FuncData} {x : Str} {sp : Sp} {s : Shared} {vs : List Value} {ns : List Int}
    (inK : K.In s.heap) (ns1 : s.heap.Ns mainGlobals mg) (ns2 : s.heap.Ns builtinsNs mb) (blt : ∀ x : Str, x ≠ "__name__" → mb x = bootBuiltins x)
    (noLim : s.heap.NoLimit) (hg : s.gens = #[]) (hT : s.heap.get? T = some { cls := .none, data := .fields #[] }) (nT : K.lookup T = none) (hc : PySem.W.CodeHd s.heap c T)
    (hbm : ∃ (bm : Addr) (ob : Obj), mg "__builtins__" = some (.ref bm) ∧ bm ≠ builtinsNs ∧ s.heap.get? bm = some ob ∧ ob.cls = .type "module" ∧ ob.dict = some builtinsNs ∧ ob.data = .plain)
    (ha : s.heap.get? a = some { cls := .type "list", data := .seq vs.toArray }) (hi : IntsAre vs ns) (hl : ns.length ≤ sizeLine) (hr : Room k callerA)
    (F : ∀ base : Heap, K.In base → base.Ns mainGlobals mg → TabB base mg c T → FnG P w K mg base k fa fd [x] sp)
    (bt : ∀ (s : Shared) (u : Value), BindsTo s fd ⟨[u], []⟩ [(x, u)])
    (hsp : ∀ H : Hp, H T = some (.tbl #[]) → SqL K H a (ns.map V.int) → sp [.ref a] H (fun v _ => v = .bl true) fun _ _ _ => False) :
    codeAny (model P w) callerA (.call (.ref fa) ⟨[.ref a], []⟩)
      (fun r s' => r = .ok (.ret (.bool true)) ∧ OldK s.heap s'.heap ∧ s'.os = s.os ∧ AllBare s'.gens) s := by
  have rv := vals_ints hi
  have lv := hi.length
  have aT : a ≠ T := fun z => by
    rw [z, hT] at ha
    cases ha
  have key : ∀ H : Hp, H T = some (.tbl #[]) → (∀ b u, H b = some u → b ≠ T → b = a ∧ K.lookup a = none ∧ u = .frz { cls := .type "list", data := .seq vs.toArray } (.lst (ns.map V.int))) →
      SqL K H a (ns.map V.int) → codeAny (model P w) callerA (.call (.ref fa) ⟨[.ref a], []⟩)
        (fun r s' => r = .ok (.ret (.bool true)) ∧ OldK s.heap s'.heap ∧ s'.os = s.os ∧ AllBare s'.gens) s := by
    intro H eT only sq
    have ok : HOk P w H s.heap := by
      intro b u e
      by_cases zb : b = T
      · subst zb
        rw [eT] at e
        cases e
        exact hT
      · obtain ⟨rfl, _, rfl⟩ := only b u e zb
        exact ⟨ha, by rw [List.length_map]; exact hl, vs, _, rv, ha⟩
    have plain : ∀ {b : Addr} {o : Obj}, s.heap.get? b = some o → (∀ vs n, o.data ≠ .seq vs n) → o.data ≠ .fields #[] → H b = none := by
      intro b o e d1 d2
      cases q : H b with
      | none => rfl
      | some u =>
        by_cases zb : b = T
        · subst zb
          rw [hT] at e
          cases e
          exact absurd rfl d2
        · obtain ⟨rfl, _, _⟩ := only b u q zb
          rw [ha] at e
          cases e
          exact absurd rfl (d1 _ _)
    have names : ∀ {b : Addr} {m : Str → Option Value}, s.heap.Ns b m → (hidT s.heap H).Ns b m := by
      rintro b m ⟨o, es, n, e, d, r⟩
      exact ⟨o, es, n, hidT_get e (plain e (fun _ _ z => by rw [d] at z; cases z) fun z => by rw [d] at z; cases z), d, r⟩
    have inB : K.In (hidT s.heap H) := by
      intro b o e
      refine hidT_get (inK b o e) ?_
      cases q : H b with
      | none => rfl
      | some u =>
        by_cases zb : b = T
        · rw [zb, nT] at e
          cases e
        · obtain ⟨rfl, n, _⟩ := only b u q zb
          rw [n] at e
          cases e
    have tb : TabB (hidT s.heap H) mg c T := by
      obtain ⟨bm, ob, b1, b2, b3, b4, b5, b6⟩ := hbm
      refine ⟨?_, ⟨bm, ob, b1, b2, fun q => ?_, fun q => ?_, hidT_get b3 (plain b3 (fun _ _ z => by rw [b6] at z; cases z) fun z => by rw [b6] at z; cases z), b4, b5, b6⟩, fun z => ?_⟩
      · obtain ⟨o, us, file, tf, flags, tg, inF, text, tt, e1, r1, r2, r3, rest⟩ := hc
        refine ⟨o, us, file, tf, flags, tg, inF, text, tt, hidT_get e1 (plain e1 (fun _ _ z => by rw [r2] at z; cases z) fun z => ?_), r1, r2, r3, rest⟩
        rw [r2] at z
        cases z
        simp at r3
      · obtain ⟨o, es, n, e, d, _⟩ := ns1
        rw [q, e] at b3
        cases b3
        rw [d] at b6
        cases b6
      · rw [q, hT] at b3
        cases b3
        cases b6
      · obtain ⟨o, es, n, e, d, _⟩ := ns1
        rw [z, hT] at e
        cases e
        cases d
    obtain ⟨mc, l1, l2⟩ := noLim
    have md : Mod K mg (hidT s.heap H) := ⟨inB, names ns1, ⟨mb, names ns2, blt⟩, ⟨mc, names l1, l2⟩⟩
    have env : Env0 P w K mg (hidT s.heap H) callerA [] s H :=
      ⟨rfl, md, fun b o e => of_hidT e, Nat.le_of_eq (hidT_size _ _), trivial, (fun b hb => by cases hb), ok, .of_eq hg⟩
    have go := (F _ inB (names ns1) tb).goes callerA [] s H ⟨[.ref a], []⟩ [.ref a] [.ref a] _ _ hr rfl env (bt s (.ref a)) (.cons rfl .nil) (hsp H eT sq)
    refine codeAny_mono go fun r s2 h2 => ?_
    cases r with
    | error e => exact False.elim h2
    | ok fl =>
      cases fl with
      | next => exact False.elim h2
      | brk => exact False.elim h2
      | cont => exact False.elim h2
      | ret u =>
        obtain ⟨v, H2, os, bare, un, ok2, rr, q⟩ := h2
        obtain rfl : v = V.bl true := q
        obtain rfl : u = Value.bool true := rr
        have others : ∀ b o, b ≠ T → s.heap.get? b = some o → s2.heap.get? b = some o := by
          intro b o nb e
          cases q : H b with
          | none => exact un.keep b o e q (by intro z; cases z) (by simp)
          | some u =>
            obtain ⟨rfl, _, rfl⟩ := only b u q nb
            obtain ⟨e1, _⟩ := ok b _ q
            obtain ⟨e2, _⟩ := ok2 b _ (un.frzs b _ _ q)
            rw [e] at e1
            cases e1
            exact e2
        obtain ⟨more, eM⟩ := un.tbls T #[] eT
        have grown : s2.heap.get? T = some { cls := .none, data := .fields (#[] ++ more) } := ok2 T _ eM
        refine ⟨rfl, ⟨fun b o e => ?_, fun b o e => ?_⟩, os, bare⟩
        · by_cases nb : b = T
          · subst nb
            rw [hT] at e
            cases e
            exact .inr (.inl ⟨(hc.tab hT).isCodeTable, rfl, #[], more, rfl, grown⟩)
          · exact .inl (others b o nb e)
        · by_cases nb : b = T
          · subst nb
            exact ⟨_, grown⟩
          · exact ⟨o, others b o nb e⟩
  cases hk : K.lookup a with
  | none =>
    refine key (fun b => if b = T then some (.tbl #[]) else if b = a then some (.frz { cls := .type "list", data := .seq vs.toArray } (.lst (ns.map V.int))) else none) (if_pos rfl) (fun b u e nb => ?_)
      (.inl (.inr ⟨_, (if_neg aT).trans (if_pos rfl)⟩))
    rw [if_neg nb] at e
    by_cases z : b = a
    · rw [if_pos z] at e
      cases e
      exact ⟨z, hk, rfl⟩
    · rw [if_neg z] at e
      cases e
  | some o =>
    have e := inK a o hk
    rw [ha] at e
    cases e
    refine key (fun b => if b = T then some (.tbl #[]) else none) (if_pos rfl) (fun b u e nb => by rw [if_neg nb] at e; cases e) (.inr ⟨_, vs.toArray, _, hk, rfl, rfl, rfl, ?_, by simpa using rv⟩)
    rw [List.size_toArray, lv]
    exact hl
end
/-- the law's call, the table of another def's code object told -/
theorem walk_ofGT {l : PySem.W.OpenLaw} {n k : Nat} {q : Program} {loose : List Str} {XP : (Str → Option Value) → Heap → Prop} {YP : World → Heap → Prop}
    {d : DefRec} {x xr : Str} (hn : l.most = some n) (hn2 : n ≤ sizeLine) (hdf : d.params.defaults = []) (hr : Room k callerA) (hrec : ((recsOf q).any fun e => e.name == xr) = true)
    (F : ∀ (w : World) (mg : Str → Option Value) (fa : Addr) (h : Heap), YP w h → h.Ns mainGlobals mg → mg d.name = some (.ref fa) →
      ∃ (K : PySem.W.Frag) (fd fdr : FuncData) (sp : Sp) (fr c T : Addr) (o : Obj), K.In h ∧ (∀ (s : Shared) (u : Value), BindsTo s fd ⟨[u], []⟩ [(x, u)]) ∧
        mg xr = some (.ref fr) ∧ K.lookup fr = some o ∧ o.data = .func fdr ∧ fdr.code = .ref c ∧ PySem.W.codeHdIn K c T = true ∧ K.lookup T = none ∧
        (∀ (H : Hp) (a : Addr) (ns : List Int), ns.length ≤ n → H T = some (.tbl #[]) → SqL K H a (ns.map V.int) → sp [.ref a] H (fun v _ => v = .bl true) fun _ _ _ => False) ∧
        ∀ base : Heap, K.In base → base.Ns mainGlobals mg → TabB base mg c T → FnG l.prog w K mg base k fa fd [x] sp) :
    PySem.W.WalkO q loose XP YP l.row.toRowW d [] (fun f vs => PySem.call f vs) := by
  refine Att.attach_callB hn hdf fun w s0 s1 mg mb fa o pm cd doc a vs ns G Y h1 h2 h3 h4 h5 h6 h7 hbits h8 => ?_
  obtain ⟨K, fd, fdr, sp, fr, c, T, o1, inK, bt, k0, k1, k2, k3, kc, kT, hsp, hF⟩ := F w mg fa _ Y G.T.g h4
  have hc := PySem.W.codeHd_of_K inK kc
  have hT : s1.heap.get? T = some { cls := .none, data := .fields #[] } := by
    obtain ⟨dL, hm, e1⟩ := List.any_eq_true.mp hrec
    obtain ⟨a2, o2, fd2, c2, P2, g1, g2, g3, g4, g5, g6⟩ := G.T.tab dL hm
    rw [beq_iff_eq.mp e1, k0] at g1
    cases g1
    rw [inK _ _ k1] at g2
    cases g2
    rw [k2] at g3
    cases g3
    rw [k3] at g4
    cases g4
    obtain ⟨⟨oc, vc, e1, _, e3, e4⟩, hP⟩ := g6
    obtain ⟨oc', vs', file, tf, flags, tg, inF, text, tt, f1, f2, f3, f4, _⟩ := id hc
    rw [f1] at e1
    cases e1
    rw [f3] at e3
    cases e3
    rw [f4] at e4
    cases e4
    exact hP
  exact law_callT inK G.T.g G.T.b G.T.builtins G.T.nolimit h8 hT kT hc G.T.bmain h5 h6 (Nat.le_trans h7 hn2) hr hF bt (fun H eT sq => hsp H a ns h7 eT sq)
end Ev
namespace Ev
open PySem L2 PySem.Spec PyProof.Rows
theorem lk_hit {k : Str} {v : V} {l : List (Str × V)} : List.lookup k ((k, v) :: l) = some v := by simp [List.lookup]
theorem lk_miss {k k' : Str} {v : V} {l : List (Str × V)} (h : ¬ k = k') : List.lookup k ((k', v) :: l) = List.lookup k l := by
  have : (k == k') = false := by simpa using h
  simp [List.lookup, this]
theorem try_times (t k : V) : (tryV t k).lookup ("times" : Str) = some t := lk_hit
theorem try_plus (t k : V) : (tryV t k).lookup ("plus" : Str) = some k := (lk_miss (by decide +kernel)).trans lk_hit
theorem turn_times (t k u c : V) : (turnV t k u c).lookup ("times" : Str) = some t := lk_hit
theorem turn_plus (t k u c : V) : (turnV t k u c).lookup ("plus" : Str) = some k := (lk_miss (by decide +kernel)).trans lk_hit
theorem turn_turn (t k u c : V) : (turnV t k u c).lookup ("turn" : Str) = some u := (lk_miss (by decide +kernel)).trans ((lk_miss (by decide +kernel)).trans lk_hit)
theorem turn_tp (t k u c : V) : (turnV t k u c).lookup ("turn_plus" : Str) = some c := (lk_miss (by decide +kernel)).trans ((lk_miss (by decide +kernel)).trans ((lk_miss (by decide +kernel)).trans lk_hit))
theorem put_try (t k : V) : putF "plus" k (putF "times" t []) = tryV t k := by
  show (if ("times" : Str) = "plus" then _ else _) = _
  rw [if_neg (by decide +kernel)]
  rfl
theorem put_turn1 (t k u : V) : putF "turn" u (tryV t k) = ([("times", t), ("plus", k), ("turn", u)] : List (Str × V)) := by
  show (if ("times" : Str) = "turn" then _ else _ :: (if ("plus" : Str) = "turn" then _ else _)) = _
  rw [if_neg (by decide +kernel), if_neg (by decide +kernel)]
  rfl
theorem put_turn2 (t k u c : V) : putF "turn_plus" c (putF "turn" u (tryV t k)) = turnV t k u c := by
  rw [put_turn1]
  show (if ("times" : Str) = "turn_plus" then _ else _ :: (if ("plus" : Str) = "turn_plus" then _ else _ :: (if ("turn" : Str) = "turn_plus" then _ else _))) = _
  rw [if_neg (by decide +kernel), if_neg (by decide +kernel), if_neg (by decide +kernel)]
  rfl
/-- a class of rules -/
structure RCls (K : PySem.W.Frag) (C : Addr) : Prop where
  cl : Cls K C
  n1 : NoAttr K C "times"
  n2 : NoAttr K C "plus"
  n3 : NoAttr K C "turn"
  n4 : NoAttr K C "turn_plus"
theorem times_is {o : Option (List V)} (h : timesB o = true) : ∃ p q : Int, o = some [.int p, .int q] ∧ 1 ≤ q ∧ q ≤ p ∧ p ≤ 6 := by
  rcases pair_cases 6 o with ⟨i, j, rfl, h1, h2, e⟩ | e
  · have h : ((inB 1 6 (.int i) && inB 1 6 (.int j)) && decide (j ≤ i)) = true := h
    have e : (inB 1 6 (.int i) && inB 1 6 (.int j)) = true := e
    rw [e, Bool.true_and] at h
    exact ⟨i, j, rfl, h2.1, of_decide_eq_true h, h1.2⟩
  · rw [times_no e] at h
    cases h
/-- numbers that passed the first checks -/
theorem outP_ok {o : Option (List V)} {k : V} (h : outP o k = .ok) : (∃ p q : Int, o = some [.int p, .int q] ∧ 1 ≤ q ∧ q ≤ p ∧ p ≤ 6) ∧ ∃ i, k = .int i ∧ -6 ≤ i ∧ i ≤ 6 := by
  unfold outP at h
  cases z : timesB o with
  | false => rw [if_pos z] at h; cases h
  | true =>
    rw [if_neg (by rw [z]; simp)] at h
    cases z2 : inB (-6) 6 k with
    | false => rw [if_pos z2] at h; cases h
    | true => exact ⟨times_is z, inB_int z2⟩
section
variable {P : Program} {w : World} {K : PySem.W.Frag} {mg : Str → Option Value} {base : Heap}
theorem scTryInit : FnScope ["self", "times", "plus"] ["self", "times", "plus"] (defScope sTryInit) := ⟨rfl, rfl, rfl, by decide +kernel, rfl, by decide +kernel, by decide +kernel⟩
theorem ok_tryInit {f C B N : Addr} {fd : FuncData} {dvs : List V} {kws : List (Str × V)} (F : FunD K "__init__" "TryRule.__init__" (defArgs sTryInit) (defBody sTryInit) (defScope sTryInit) dvs kws f fd) (T : RCls K C) (D1 : DfX P w K mg base 5 "need_times" ["times", "plus"] (spNeedT B))
    (D2 : DfX P w K mg base 5 "need_halves" ["times", "plus"] (spNeedH N)) : FnOk P w K mg base (L2.CX P w) 6 f fd ["self", "times", "plus"] (spTryInit C B N) := by
  obtain ⟨f1, fd1, G1, g1, k1, bb1⟩ := D1.ex
  obtain ⟨f2, fd2, G2, g2, k2, bb2⟩ := D2.ex
  refine F.ok scTryInit (fun vs H Q E h => ?_) (fun cdv A outer s H vs Q E hr h => ?_)
  · obtain ⟨x, dx, tv, kv, o, rfl, _⟩ := h
    rfl
  · obtain ⟨x, dx, tv, kv, o, rfl, hx, hp, hk, h⟩ := h
    refine ⟨_, pss_cons (ps_expr (pe_callS G1 hr (by rfl) g1 k1 bb1 (fun σ => passAt (takes_of rfl rfl rfl rfl) σ) (pa_cons (pv 1) (pa_cons (pv 2) pa_nil))))
      (pss_cons (ps_expr (pe_callS G2 hr (by rfl) g2 k2 bb2 (fun σ => passAt (takes_of rfl rfl rfl rfl) σ) (pa_cons (pv 1) (pa_cons (pv 2) pa_nil))))
      (pss_cons (ps_fld (pv 0) (pv 1) rfl) (pss_one (ps_fld (pv 0) (pv 2) rfl)))), ?_⟩
    refine ⟨_, rfl, _, rfl, tv, kv, o, N, rfl, hp, hk, ?_⟩
    unfold outT at h
    cases z : outP o kv with
    | rule m => rw [z] at h; exact h
    | halves m => rw [z] at h; exact h
    | ok =>
      rw [z] at h
      obtain ⟨⟨p, q, rfl, q1, q2, q3⟩, k, rfl, k1, k2⟩ := outP_ok z
      obtain ⟨a, rfl, ha, _⟩ := hp
      have h : OutK B N H E (∀ H', But x H H' → H' x = some (.ins C dx (tryV (.ref a) (.int k))) → Q .non H') (halvesO p q k) := h
      intro H1 s1
      refine ⟨_, rfl, _, rfl, a, p, q, k, B, rfl, s1 _ _ ha, h.mono s1 fun kk => ?_⟩
      refine ⟨_, rfl, _, rfl, x, C, dx, _, rfl, s1 _ _ hx, T.cl, T.n1, (by show 0 < 1000; decide), _, rfl, _, rfl, x, C, dx, _, rfl, upd_same, T.cl, T.n2, (by show 1 < 1000; decide), ?_⟩
      refine kk _ ((Same.but s1).trans (But.upd_at.trans But.upd_at)) ?_
      rw [upd_same, put_try]
theorem scTurnInit : FnScope ["self", "times", "plus", "turn", "turn_plus"] ["self", "times", "plus", "turn", "turn_plus"] (defScope sTurnInit) := ⟨rfl, rfl, rfl, by decide +kernel, rfl, by decide +kernel, by decide +kernel⟩
theorem ok_turnInit {f C B N : Addr} {fd : FuncData} {dvs : List V} {kws : List (Str × V)} (F : FunD K "__init__" "TurnRule.__init__" (defArgs sTurnInit) (defBody sTurnInit) (defScope sTurnInit) dvs kws f fd) (T : RCls K C) (D1 : DfX P w K mg base 5 "need_times" ["times", "plus"] (spNeedT B))
    (D2 : DfX P w K mg base 5 "need_halves" ["times", "plus"] (spNeedH N)) (D3 : Df P w K mg base 4 "is_turn" ["value"] spTurnA) (D4 : Df P w K mg base 3 "is_plus" ["value"] spPlusA) (EB : ErrC P w K mg base "BadRule" "part" B) : FnOk P w K mg base (L2.CX P w) 6 f fd ["self", "times", "plus", "turn", "turn_plus"] (spTurnInit C B N) := by
  obtain ⟨f1, fd1, G1, g1, k1, bb1⟩ := D1.ex
  obtain ⟨f2, fd2, G2, g2, k2, bb2⟩ := D2.ex
  obtain ⟨f3, fd3, G3, g3, k3, bb3⟩ := D3.ex
  obtain ⟨f4, fd4, G4, g4, k4, bb4⟩ := D4.ex
  obtain ⟨TC, gC, fi, fdi, iC, tI, GI, bI⟩ := id EB
  refine F.ok scTurnInit (fun vs H Q E h => ?_) (fun cdv A outer s H vs Q E hr h => ?_)
  · obtain ⟨x, dx, tv, kv, uv, cv, o, o2, rfl, _⟩ := h
    rfl
  · obtain ⟨x, dx, tv, kv, uv, cv, o, o2, rfl, hx, hp, hk, hu, hc, h⟩ := h
    refine ⟨_, pss_cons (ps_expr (pe_callS G1 hr (by rfl) g1 k1 bb1 (fun σ => passAt (takes_of rfl rfl rfl rfl) σ) (pa_cons (pv 1) (pa_cons (pv 2) pa_nil))))
      (pss_cons (ps_if (pt_not (pt_val (pe_call G3 (hr.mono (by decide)) (by rfl) g3 k3 bb3 .nil pass0 (pa_cons (pv 3) pa_nil)))) (pss_one (ps_raise rfl (takes_of rfl rfl rfl rfl) (pmk_oex TC iC tI GI (hr.mono (by decide)) bI .nil pass0 (by rfl) gC (pa_cons pe_str pa_nil)))) pss_nil)
      (pss_cons (ps_if (pt_not (pt_val (pe_call G4 (hr.mono (by decide)) (by rfl) g4 k4 bb4 .nil pass0 (pa_cons (pv 4) pa_nil)))) (pss_one (ps_raise rfl (takes_of rfl rfl rfl rfl) (pmk_oex TC iC tI GI (hr.mono (by decide)) bI .nil pass0 (by rfl) gC (pa_cons pe_str pa_nil)))) pss_nil)
      (pss_cons (ps_expr (pe_callS G2 hr (by rfl) g2 k2 bb2 (fun σ => passAt (takes_of rfl rfl rfl rfl) σ) (pa_cons (pv 1) (pa_cons (pv 2) pa_nil))))
      (pss_cons (ps_fld (pv 0) (pv 1) rfl) (pss_cons (ps_fld (pv 0) (pv 2) rfl) (pss_cons (ps_fld (pv 0) (pv 3) rfl) (pss_one (ps_fld (pv 0) (pv 4) rfl)))))))), ?_⟩
    refine ⟨_, rfl, _, rfl, tv, kv, o, N, rfl, hp, hk, ?_⟩
    unfold outN at h
    cases z : outP o kv with
    | rule m => rw [z] at h; exact h
    | halves m => rw [z] at h; exact h
    | ok =>
      rw [z] at h
      obtain ⟨⟨p, q, rfl, q1, q2, q3⟩, k, rfl, k1, k2⟩ := outP_ok z
      obtain ⟨a, rfl, ha, _⟩ := hp
      have h : OutK B N H E (∀ H', But x H H' → H' x = some (.ins C dx (turnV (.ref a) (.int k) uv cv)) → Q .non H') ((outQ o2 cv).then (halvesO p q k)) := h
      intro H1 s1
      unfold outQ at h
      refine ⟨_, rfl, uv, o2, rfl, hu.keep s1, fun H2 s2 => ?_⟩
      have s2 := s1.trans s2
      cases z : pairB 8 o2 with
      | false =>
        rw [if_pos z] at h
        exact ⟨false, rfl, iteT ⟨(by show 1 ≤ 1000; decide), fun a' na => raised (flat_str "turn") (h H2 s2) a' na⟩⟩
      | true =>
        rw [if_neg (by rw [z]; simp)] at h
        refine ⟨true, rfl, iteF ⟨_, rfl, cv, rfl, hc.keep s2, ?_⟩⟩
        cases z2 : inB (-6) 6 cv with
        | false =>
          rw [if_pos z2] at h
          exact ⟨false, rfl, iteT ⟨(by show 1 ≤ 1000; decide), fun a' na => raised (flat_str "turn_plus") (h H2 s2) a' na⟩⟩
        | true =>
          rw [if_neg (by rw [z2]; simp)] at h
          have h : OutK B N H E (∀ H', But x H H' → H' x = some (.ins C dx (turnV (.ref a) (.int k) uv cv)) → Q .non H') (halvesO p q k) := h
          refine ⟨true, rfl, iteF ?_⟩
          refine ⟨_, rfl, _, rfl, a, p, q, k, B, rfl, s2 _ _ ha, h.mono s2 fun kk => ?_⟩
          refine ⟨_, rfl, _, rfl, x, C, dx, _, rfl, s2 _ _ hx, T.cl, T.n1, (by show 0 < 1000; decide), _, rfl, _, rfl, x, C, dx, _, rfl, upd_same, T.cl, T.n2, (by show 1 < 1000; decide), ?_⟩
          refine ⟨_, rfl, _, rfl, x, C, dx, _, rfl, upd_same, T.cl, T.n3, (by rw [put_try]; show 2 < 1000; decide), _, rfl, _, rfl, x, C, dx, _, rfl, upd_same, T.cl, T.n4, (by rw [put_try, put_turn1]; show 3 < 1000; decide), ?_⟩
          refine kk _ ((Same.but s2).trans (But.upd_at.trans (But.upd_at.trans (But.upd_at.trans But.upd_at)))) ?_
          rw [upd_same, put_try, put_turn2]
end
end Ev
namespace Ev
open PySem L2 PySem.Spec PyProof.Rows
theorem Pen.new {L : Addr} {H : Hp} {p q : Addr} {B : Int} {o : HO} (h : Pen L H p B) (n : H q = none) : Pen L (upd H q o) p B := h.keep (fun b u e => by rw [upd_ne (ne_of_none e n)]; exact e)
theorem Pen.some {L : Addr} {H : Hp} {p : Addr} {B : Int} (h : Pen L H p B) : ∃ xs, H p = some (.lst xs) := by
  obtain ⟨ns, t, c, h1, _⟩ := h
  exact ⟨_, h1⟩
theorem Pen.ne {L : Addr} {H : Hp} {p q : Addr} {B : Int} (h : Pen L H p B) (n : H q = none) : q ≠ p := by
  obtain ⟨xs, e⟩ := h.some
  exact (ne_of_none e n).symm
theorem But.free {L p a : Addr} {H H' : Hp} {B : Int} (t : But p H H') (h : Pen L H' p B) (n : H' a = none) : H a = none := by
  cases e : H a with
  | none => rfl
  | some o =>
    have := t a o (h.ne n) e
    rw [n] at this
    cases this
def spPick : Sp := fun vs H Q _ => ∃ (p l L : Addr) (xs : List V) (B : Int), vs = [.ref p, .ref l] ∧ H l = some (.lst xs) ∧ l ≠ p ∧ 1 ≤ xs.length ∧ xs.length ≤ 1000 ∧ B ≤ 1000000 ∧ Pen L H p B ∧
  ∀ (d : V) (H' : Hp), d ∈ xs → But p H H' → Pen L H' p (B + 1) → Q d H'
inductive Row
  | tr (p q k : Int)
  | tn (p q k t s c : Int)
def Row.vs : Row → List V
  | .tr p q k => [.int p, .int q, .int k]
  | .tn p q k t s c => [.int p, .int q, .int k, .int t, .int s, .int c]
def Row.p : Row → Int
  | .tr p _ _ => p
  | .tn p _ _ _ _ _ => p
def Row.q : Row → Int
  | .tr _ q _ => q
  | .tn _ q _ _ _ _ => q
def Row.k : Row → Int
  | .tr _ _ k => k
  | .tn _ _ k _ _ _ => k
def okN (p q k : Int) : Prop := 1 ≤ q ∧ q ≤ p ∧ p ≤ 6 ∧ -6 ≤ k ∧ k ≤ 6 ∧ 2 * q ≤ p + k
def okT (t s c : Int) : Prop := (1 ≤ t ∧ t ≤ 8) ∧ (1 ≤ s ∧ s ≤ 8) ∧ -6 ≤ c ∧ c ≤ 6
def Row.ok : Row → Prop
  | .tr p q k => okN p q k
  | .tn p q k t s c => okN p q k ∧ okT t s c
def spNums : Sp := fun vs H Q _ => ∃ (p L : Addr) (B : Int), vs = [.ref p] ∧ B ≤ 900000 ∧ Pen L H p B ∧
  ∀ (a : Addr) (p' q k t s c : Int) (H' : Hp), okN p' q k → okT t s c → H a = none → H' a = some (.tup (Row.tn p' q k t s c).vs) → But p H H' → Pen L H' p (B + 8) → Q (.ref a) H'
section
variable {P : Program} {w : World} {K : PySem.W.Frag} {mg : Str → Option Value} {base : Heap}
theorem scPick : FnScope ["_law_pen_here", "_law_some"] ["_law_pen_here", "_law_some"] (defScope sPick) := ⟨rfl, rfl, rfl, by decide +kernel, rfl, by decide +kernel, by decide +kernel⟩
theorem ok_pick {f : Addr} {fd : FuncData} (F : Fun K "_law_pick" "_law_pick" sPick f fd) (T : Blt mg) (D : Df P w K mg base 1 "_law_draw" ["_law_pen_here", "_law_many"] spDraw) : FnOk P w K mg base CX0 2 f fd ["_law_pen_here", "_law_some"] spPick := by
  obtain ⟨f1, fd1, G1, g1, k1, b1⟩ := D.ex
  refine F.ok scPick (fun vs H Q E h => ?_) (fun cdv A outer s H vs Q E hr h => ?_)
  · obtain ⟨p, l, L, xs, B, rfl, _⟩ := h
    rfl
  · obtain ⟨p, l, L, xs, B, rfl, hl, hne, x1, x2, hB, hp, kk⟩ := h
    refine ⟨_, pss_one (ps_ret (pe_ix ix_list (pv 1) (pe_call G1 hr (by rfl) g1 k1 b1 .nil pass0 (pa_cons (pv 0) (pa_cons (pe_callB call_len_seq (by rfl) T.len PySem.boot_len (pa_cons (pv 1) pa_nil)) pa_nil))) (fun _ _ => rfl))), ?_⟩
    refine ⟨_, rfl, _, rfl, _, rfl, l, _, rfl, .inl (SqL.of hl), p, L, _, B, rfl, by omega, by omega, hB, hp, fun d H1 bt pn d0 d1 => ?_⟩
    obtain ⟨j, rfl⟩ := Int.eq_ofNat_of_zero_le d0
    have hj : j < xs.length := by omega
    refine ⟨l, xs, _, xs[j], rfl, rfl, SqL.of (bt _ _ hne hl), atI_nat (List.getElem?_eq_getElem hj), ?_⟩
    exact kk _ _ (List.getElem_mem hj) bt pn
theorem scNums : FnScope ["_law_pen_here", "_law_q", "_law_p", "_law_k", "_law_s", "_law_t"] ["_law_pen_here"] (defScope sNums) := ⟨rfl, rfl, rfl, by decide +kernel, rfl, by decide +kernel, by decide +kernel⟩
theorem min2 {i j : Int} : (if j < i then j else i) = min i j := by
  by_cases h : j < i
  · rw [if_pos h]; omega
  · rw [if_neg h]; omega
theorem ok_nums {f : Addr} {fd : FuncData} (F : Fun K "_law_numbers" "_law_numbers" sNums f fd) (T : Blt mg) (D1 : Df P w K mg base 1 "_law_draw" ["_law_pen_here", "_law_many"] spDraw) (D2 : Df P w K mg base 2 "_law_pick" ["_law_pen_here", "_law_some"] spPick) :
    FnOk P w K mg base CX0 3 f fd ["_law_pen_here"] spNums := by
  obtain ⟨f1, fd1, G1, g1, k1, b1⟩ := D1.ex
  obtain ⟨f2, fd2, G2, g2, k2, b2⟩ := D2.ex
  refine F.ok scNums (fun vs H Q E h => ?_) (fun cdv A outer s H vs Q E hr h => ?_)
  · obtain ⟨p, L, B, rfl, _⟩ := h
    rfl
  · obtain ⟨p, L, B, rfl, hB, hp, kk⟩ := h
    have hr1 : Room 1 _ := hr.mono (by decide)
    refine ⟨_, pss_cons (ps_set (i := 1) scNums.nd rfl (.inl rfl) (pe_op op_add pe_int (pe_call G1 hr1 (by rfl) g1 k1 b1 .nil pass0 (pa_cons (pv 0) (pa_cons pe_int pa_nil)))))
      (pss_cons (ps_set (i := 2) scNums.nd rfl (.inl rfl) (pe_callB (call_min2 rfl) (by rfl) T.min (by decide +kernel) (pa_cons pe_int (pa_cons (pe_op op_add (pv 1) (pe_call G1 hr1 (by rfl) g1 k1 b1 .nil pass0 (pa_cons (pv 0) (pa_cons (pe_op op_add pe_int (pe_op op_mul pe_int (pv 1))) pa_nil)))) pa_nil))))
      (pss_cons (ps_set (i := 3) scNums.nd rfl (.inl rfl) (pe_call G2 hr (by rfl) g2 k2 b2 .nil pass0 (pa_cons (pv 0) (pa_cons (pe_lst (pa_cons pe_int (pa_cons pe_int (pa_cons pe_int (pa_cons (pe_op op_sub (pe_call G1 hr1 (by rfl) g1 k1 b1 .nil pass0 (pa_cons (pv 0) (pa_cons pe_int pa_nil))) pe_int) (pa_cons pe_int (pa_cons (pe_un un_neg pe_int) pa_nil))))))) pa_nil))))
      (pss_cons (ps_if (pt_cmpR op_lt (pe_op op_add (pv 2) (pv 3)) (pe_op op_mul pe_int (pv 1)) (nomark _)) (pss_one (ps_set (i := 3) scNums.nd rfl (.inl rfl) (pe_op op_sub (pe_op op_mul pe_int (pv 1)) (pv 2)))) pss_nil)
      (pss_cons (ps_set (i := 4) scNums.nd rfl (.inl rfl) (pe_op op_add pe_int (pe_call G1 hr1 (by rfl) g1 k1 b1 .nil pass0 (pa_cons (pv 0) (pa_cons pe_int pa_nil)))))
      (pss_cons (ps_set (i := 5) scNums.nd rfl (.inl rfl) (pe_callB (call_min2 rfl) (by rfl) T.min (by decide +kernel) (pa_cons pe_int (pa_cons (pe_op op_add (pv 4) (pe_call G1 hr1 (by rfl) g1 k1 b1 .nil pass0 (pa_cons (pv 0) (pa_cons (pe_op op_add (pe_op op_mul pe_int (pv 4)) pe_int) pa_nil)))) pa_nil))))
      (pss_one (ps_ret (pe_tup (pa_cons (pv 2) (pa_cons (pv 1) (pa_cons (pe_callB (call_min2 rfl) (by rfl) T.min (by decide +kernel) (pa_cons pe_int (pa_cons (pv 3) pa_nil))) (pa_cons (pv 5) (pa_cons (pv 4)
        (pa_cons (pe_call G2 hr (by rfl) g2 k2 b2 .nil pass0 (pa_cons (pv 0) (pa_cons (pe_lst (pa_cons pe_int (pa_cons (pe_un un_neg pe_int) (pa_cons (pe_un un_neg (pv 4)) (pa_cons (pe_op op_sub (pe_call G1 hr1 (by rfl) g1 k1 b1 .nil pass0 (pa_cons (pv 0) (pa_cons pe_int pa_nil))) pe_int) pa_nil))))) pa_nil))) pa_nil)))))))))))))), ?_⟩
    -- q, p
    refine ⟨_, rfl, p, L, _, B, rfl, by decide, by decide, by omega, hp, fun d1 H1 t1 p1 a1 c1 => ⟨_, _, rfl, rfl, ?_⟩⟩
    refine ⟨_, rfl, _, rfl, _, rfl, _, _, rfl, rfl, .inl ⟨by decide, by decide⟩, _, _, rfl, rfl, p, L, _, _, rfl, by omega, by omega, by omega, p1, fun d2 H2 t2 p2 a2 c2 => ⟨_, _, rfl, rfl, _, _, rfl, ?_⟩⟩
    rw [min2]
    -- k
    refine ⟨_, rfl, _, rfl, p, L, _, _, rfl, by decide, by decide, by omega, p2, fun d3 H3 t3 p3 a3 c3 => ⟨_, _, rfl, rfl, _, rfl, (by show 6 ≤ sizeLine; decide), fun l hl => ⟨p, l, L, _, _, rfl, upd_same, p3.ne hl, (by show 1 ≤ 6; decide), (by show 6 ≤ 1000; decide), by omega, p3.new hl, fun d4 H4 m4 t4 p4 => ?_⟩⟩⟩
    obtain ⟨k0, rfl, k0lo, k0hi⟩ : ∃ k0 : Int, d4 = .int k0 ∧ -6 ≤ k0 ∧ k0 ≤ 6 := by
      simp only [List.mem_cons, List.not_mem_nil, or_false] at m4
      rcases m4 with e | e | e | e | e | e
      · exact ⟨_, e, by decide, by decide⟩
      · exact ⟨_, e, by decide, by decide⟩
      · exact ⟨_, e, by decide, by decide⟩
      · exact ⟨_, e, by omega, by omega⟩
      · exact ⟨_, e, by decide, by decide⟩
      · exact ⟨_, e, by decide, by decide⟩
    have t04 : But p H H4 := ((t1.trans t2).trans t3).trans ((Same.but (same_new hl)).trans t4)
    refine ⟨_, rfl, _, rfl, _, _, rfl, rfl, _, rfl, _, _, rfl, rfl, .inl ⟨by decide, by decide⟩, _, _, rfl, rfl, _, rfl, ite2 (fun e => ?_) (fun e => ?_)⟩
    · have e := of_decide_eq_true e
      refine ⟨_, rfl, _, _, rfl, rfl, .inl ⟨by decide, by decide⟩, _, rfl, _, _, rfl, rfl, ?_⟩
      refine ⟨_, rfl, p, L, _, _, rfl, by decide, by decide, by omega, p4, fun d5 H5 t5 p5 a5 c5 => ⟨_, _, rfl, rfl, ?_⟩⟩
      refine ⟨_, rfl, _, rfl, _, rfl, _, _, rfl, rfl, .inl ⟨by decide, by decide⟩, _, _, rfl, rfl, p, L, _, _, rfl, by omega, by omega, by omega, p5, fun d6 H6 t6 p6 a6 c6 => ⟨_, _, rfl, rfl, _, _, rfl, ?_⟩⟩
      refine ⟨_, rfl, _, rfl, _, rfl, _, _, rfl, _, rfl, _, rfl, _, rfl, _, rfl, _, rfl, _, rfl, _, rfl, p, L, _, _, rfl, by decide, by decide, by omega, p6, fun d7 H7 t7 p7 a7 c7 => ⟨_, _, rfl, rfl, (by show 4 ≤ sizeLine; decide), fun l2 hl2 => ⟨p, l2, L, _, _, rfl, upd_same, p7.ne hl2, (by show 1 ≤ 4; decide), (by show 4 ≤ 1000; decide), by omega, p7.new hl2, fun d8 H8 m8 t8 p8 => ⟨(by show 6 ≤ sizeLine; decide), fun a na => ?_⟩⟩⟩⟩
      obtain ⟨c0, rfl, c0lo, c0hi⟩ : ∃ c0 : Int, d8 = .int c0 ∧ -6 ≤ c0 ∧ c0 ≤ 6 := by
        simp only [List.mem_cons, List.not_mem_nil, or_false] at m8
        rcases m8 with e | e | e | e
        · exact ⟨_, e, by decide, by decide⟩
        · exact ⟨_, e, by decide, by decide⟩
        · exact ⟨_, e, by omega, by omega⟩
        · exact ⟨_, e, by omega, by omega⟩
      have t08 : But p H H8 := t04.trans (((t5.trans t6).trans t7).trans ((Same.but (same_new hl2)).trans t8))
      refine kk a _ _ _ _ _ _ _ ?_ ?_ (t08.free p8 na) upd_same (t08.trans (Same.but (same_new na))) ((p8.new na).mono (by omega))
      · rw [min2]
        exact ⟨by omega, by omega, by omega, by omega, by omega, by omega⟩
      · rw [min2]
        exact ⟨⟨by omega, by omega⟩, ⟨by omega, by omega⟩, by omega, by omega⟩
    · have e : ¬ (min 6 (1 + d1 + d2) + k0 < 2 * (1 + d1)) := fun z => e (decide_eq_true z)
      refine ⟨_, rfl, p, L, _, _, rfl, by decide, by decide, by omega, p4, fun d5 H5 t5 p5 a5 c5 => ⟨_, _, rfl, rfl, ?_⟩⟩
      refine ⟨_, rfl, _, rfl, _, rfl, _, _, rfl, rfl, .inl ⟨by decide, by decide⟩, _, _, rfl, rfl, p, L, _, _, rfl, by omega, by omega, by omega, p5, fun d6 H6 t6 p6 a6 c6 => ⟨_, _, rfl, rfl, _, _, rfl, ?_⟩⟩
      refine ⟨_, rfl, _, rfl, _, rfl, _, _, rfl, _, rfl, _, rfl, _, rfl, _, rfl, _, rfl, _, rfl, _, rfl, p, L, _, _, rfl, by decide, by decide, by omega, p6, fun d7 H7 t7 p7 a7 c7 => ⟨_, _, rfl, rfl, (by show 4 ≤ sizeLine; decide), fun l2 hl2 => ⟨p, l2, L, _, _, rfl, upd_same, p7.ne hl2, (by show 1 ≤ 4; decide), (by show 4 ≤ 1000; decide), by omega, p7.new hl2, fun d8 H8 m8 t8 p8 => ⟨(by show 6 ≤ sizeLine; decide), fun a na => ?_⟩⟩⟩⟩
      obtain ⟨c0, rfl, c0lo, c0hi⟩ : ∃ c0 : Int, d8 = .int c0 ∧ -6 ≤ c0 ∧ c0 ≤ 6 := by
        simp only [List.mem_cons, List.not_mem_nil, or_false] at m8
        rcases m8 with e | e | e | e
        · exact ⟨_, e, by decide, by decide⟩
        · exact ⟨_, e, by decide, by decide⟩
        · exact ⟨_, e, by omega, by omega⟩
        · exact ⟨_, e, by omega, by omega⟩
      have t08 : But p H H8 := t04.trans (((t5.trans t6).trans t7).trans ((Same.but (same_new hl2)).trans t8))
      refine kk a _ _ _ _ _ _ _ ?_ ?_ (t08.free p8 na) upd_same (t08.trans (Same.but (same_new na))) ((p8.new na).mono (by omega))
      · rw [min2]
        exact ⟨by omega, by omega, by omega, by omega, by omega, by omega⟩
      · rw [min2]
        exact ⟨⟨by omega, by omega⟩, ⟨by omega, by omega⟩, by omega, by omega⟩
end
end Ev
namespace Ev
open PySem L2 PySem.Spec PyProof.Rows
def ObjAt (Ct Cn : Addr) (H : Hp) (r : Addr) : Row → Prop
  | .tr p q k => ∃ dx a : Addr, H r = some (.ins Ct dx (tryV (.ref a) (.int k))) ∧ H a = some (.tup [.int p, .int q])
  | .tn p q k t s c => ∃ dx a b : Addr, H r = some (.ins Cn dx (turnV (.ref a) (.int k) (.ref b) (.int c))) ∧ H a = some (.tup [.int p, .int q]) ∧ H b = some (.tup [.int t, .int s])
theorem ObjAt.keep {Ct Cn : Addr} {H H' : Hp} {r : Addr} {row : Row} (h : ObjAt Ct Cn H r row) (k : Same H H') : ObjAt Ct Cn H' r row := by
  cases row with
  | tr p q kk =>
    obtain ⟨dx, a, h1, h2⟩ := h
    exact ⟨dx, a, k _ _ h1, k _ _ h2⟩
  | tn p q kk t s c =>
    obtain ⟨dx, a, b, h1, h2, h3⟩ := h
    exact ⟨dx, a, b, k _ _ h1, k _ _ h2, k _ _ h3⟩
theorem ObjAt.but {Ct Cn p : Addr} {H H' : Hp} {r : Addr} {row : Row} {xs : List V} (h : ObjAt Ct Cn H r row) (hp : H p = some (.lst xs)) (k : But p H H') : ObjAt Ct Cn H' r row := by
  cases row with
  | tr p q kk =>
    obtain ⟨dx, a, h1, h2⟩ := h
    exact ⟨dx, a, k _ _ (ne_of h1 hp (by intro z; cases z)) h1, k _ _ (ne_of h2 hp (by intro z; cases z)) h2⟩
  | tn p q kk t s c =>
    obtain ⟨dx, a, b, h1, h2, h3⟩ := h
    exact ⟨dx, a, b, k _ _ (ne_of h1 hp (by intro z; cases z)) h1, k _ _ (ne_of h2 hp (by intro z; cases z)) h2, k _ _ (ne_of h3 hp (by intro z; cases z)) h3⟩
def Row.out : Row → Out
  | .tr p q k => outT (some [.int p, .int q]) (.int k)
  | .tn p q k t s c => outN (some [.int p, .int q]) (.int k) (some [.int t, .int s]) (.int c)
def spRule (Ct Cn B N : Addr) : Sp := fun vs H Q E => ∃ (l : Addr) (row : Row), vs = [.ref l] ∧ H l = some (.tup row.vs) ∧ OutK B N H E (∀ (r : Addr) (H' : Hp), Same H H' → ObjAt Ct Cn H' r row → Q (.ref r) H') row.out
theorem pairQ_int {H : Hp} {a : Addr} {i j : Int} (h : H a = some (.tup [.int i, .int j])) : PairQ H (.ref a) (some [.int i, .int j]) := ⟨a, rfl, h, (by show 2 ≤ 1000; decide), fun x m => by
  simp only [List.mem_cons, List.not_mem_nil, or_false] at m
  rcases m with rfl | rfl <;> exact .inl ⟨_, rfl⟩⟩
theorem OutK.imp {B N : Addr} {H : Hp} {E : XK} {g g' : Prop} {o : Out} (h : OutK B N H E g o) (f : g → g') : OutK B N H E g' o := h.mono (Same.refl H) f
theorem slice3 {K : PySem.W.Frag} {l : Addr} {row : Row} {H : Hp} {Q : VK} (h : H l = some (.tup row.vs)) (k : ∀ (a : Addr) (H' : Hp), Same H H' → H' a = some (.tup [.int row.p, .int row.q, .int row.k]) → Q (.ref a) H') :
    rSlA K (.ref l) none (some 3) H Q := by
  refine ⟨l, _, rfl, SqT.of h, fun z => ?_, fun z a na => ?_⟩
  · cases row with
    | tr p q kk => exact k l H (Same.refl H) h
    | tn p q kk t s c => exact absurd z.2 (by show ¬ (HT.sIx 6 6 (some 3) = 6); decide)
  · cases row with
    | tr p q kk => exact absurd (show HT.sIx 3 0 none = 0 ∧ HT.sIx 3 3 (some 3) = 3 by decide) z
    | tn p q kk t s c => exact k a _ (same_new na) upd_same

section
variable {P : Program} {w : World} {K : PySem.W.Frag} {mg : Str → Option Value} {base : Heap}
theorem scRule : FnScope ["_law_some", "_law_p", "_law_q", "_law_k"] ["_law_some"] (defScope sRule) := ⟨rfl, rfl, rfl, by decide +kernel, rfl, by decide +kernel, by decide +kernel⟩
theorem ok_rule {f Ct Cn B N fT fN : Addr} {fd fdT fdN : FuncData} {g : List Value → List Value → List Value} (F : Fun K "_law_rule" "_law_rule" sRule f fd) (T : Blt mg) (gT : mg "TryRule" = some (.ref Ct)) (gN : mg "TurnRule" = some (.ref Cn)) (MT : Mk K Ct fT) (MN : Mk K Cn fN)
    (GT : FnOk P w K mg base (L2.CX P w) 6 fT fdT ["self", "times", "plus"] (spTryInit Ct B N)) (bT : Binds K fdT ["self", "times", "plus"] [])
    (GN : FnOk P w K mg base (L2.CX P w) 6 fN fdN ["self", "times", "plus", "turn", "turn_plus"] (spTurnInit Cn B N)) (bN : KBn K fdN ["self", "times", "plus", "turn", "turn_plus"] 3 ["turn", "turn_plus"] g (fun vs zs => vs ++ zs)) :
    FnOk P w K mg base (L2.CX P w) 8 f fd ["_law_some"] (spRule Ct Cn B N) := by
  refine F.okX scRule (fun vs H Q E h => ?_) (fun cdv A outer s H vs Q E hr h => ?_)
  · obtain ⟨l, row, rfl, _⟩ := h
    rfl
  · obtain ⟨l, row, rfl, hl, kk⟩ := h
    refine ⟨_, pss_cons (ps_asg (pe_slice sl_tupA (pv 0) po_none (po_some pe_int)) (pg_tup (by rfl) (pgs_cons (pg_name (i := 1) scRule.nd rfl (.inl rfl)) (pgs_cons (pg_name (i := 2) scRule.nd rfl (.inl rfl)) (pgs_cons (pg_name (i := 3) scRule.nd rfl (.inl rfl)) pgs_nil)))))
      (pss_cons (ps_if (pt_cmpR op_eq (pe_callB call_len_seq (by rfl) T.len PySem.boot_len (pa_cons (pv 0) pa_nil)) pe_int (nomark _))
        (pss_one (ps_ret (pe_make MT GT hr (by rfl) gT bT .nil (E := E) (passes_call (takes_of rfl rfl rfl rfl) (fun _ _ _ _ h => h)) (pa_cons (pe_tup (pa_cons (pv 1) (pa_cons (pv 2) pa_nil))) (pa_cons (pv 3) pa_nil))))) pss_nil)
      (pss_one (ps_ret (pe_makeN (n := 2) MN GN hr (by rfl) gN bN (E := E) (passes_call (takes_of rfl rfl rfl rfl) (fun _ _ _ _ h => h)) (pa_cons (pe_tup (pa_cons (pv 1) (pa_cons (pv 2) pa_nil))) (pa_cons (pv 3) pa_nil))
        (pk_cons (pe_tup (pa_cons (pe_ix ix_tup (pv 0) pe_int (fun _ _ => rfl)) (pa_cons (pe_ix ix_tup (pv 0) pe_int (fun _ _ => rfl)) pa_nil))) (pk_cons (pe_ix ix_tup (pv 0) pe_int (fun _ _ => rfl)) pk_nil)))))), ?_⟩
    refine ⟨_, rfl, _, rfl, slice3 hl fun a H1 s1 ha => ⟨a, _, rfl, SqT.of ha, rfl, _, _, rfl, _, _, rfl, _, _, rfl, rfl, ?_⟩⟩
    have hl1 := s1 _ _ hl
    refine ⟨_, rfl, l, _, rfl, .inr (SqT.of hl1), rfl, _, rfl, ite2 (fun e => ?_) (fun e => ?_)⟩
    · cases row with
      | tn p q k t s c => exact absurd (V.int.inj (of_decide_eq_true e)) (show ¬ (((6 : Nat) : Int) = 3) by decide)
      | tr p q k =>
        refine ⟨_, rfl, _, rfl, (by show 2 ≤ sizeLine; decide), fun tp ntp => ⟨_, rfl, fun x dx nx ndx nex => ?_⟩⟩
        have hp : upd H1 tp (.tup [.int p, .int q]) tp = some (.tup [.int p, .int q]) := upd_same
        have s2 := s1.trans (same_new (o := .tup [.int p, .int q]) ntp)
        have hq : Same (upd H1 tp (.tup [.int p, .int q])) (upd (upd (upd H1 tp (.tup [.int p, .int q])) dx (.own x)) x (.ins Ct dx [])) := fun b u e => by rw [upd_ne (ne_of_none e nx), upd_ne (ne_of_none e ndx)]; exact e
        refine ⟨x, dx, .ref tp, .int k, _, rfl, upd_same, (pairQ_int hp).keep hq, .inl ⟨k, rfl⟩, kk.mono (s2.trans hq) fun kk H2 t2 hx2 => ⟨rfl, ?_⟩⟩
        have s3 : ∀ b u, upd H1 tp (.tup [.int p, .int q]) b = some u → H2 b = some u := fun b u e => t2 _ _ (ne_of_none e nx) (hq _ _ e)
        exact kk x H2 (fun b u e => s3 _ _ (s2 _ _ e)) ⟨dx, tp, hx2, s3 _ _ hp⟩
    · cases row with
      | tr p q k => exact absurd (decide_eq_true (show V.int ((3 : Nat) : Int) = V.int 3 from rfl)) e
      | tn p q k t s c =>
        refine ⟨_, rfl, _, rfl, (by show 2 ≤ sizeLine; decide), fun tp ntp => ⟨_, rfl, ?_⟩⟩
        have hl2 : upd H1 tp (.tup [.int p, .int q]) l = some (.tup (Row.tn p q k t s c).vs) := same_new ntp _ _ hl1
        refine ⟨_, rfl, l, _, 3, .int t, rfl, rfl, SqT.of hl2, atI_nat (j := 3) rfl, _, rfl, l, _, 4, .int s, rfl, rfl, SqT.of hl2, atI_nat (j := 4) rfl, (by show 2 ≤ sizeLine; decide), fun tq ntq => ?_⟩
        have hl3 : upd (upd H1 tp (.tup [.int p, .int q])) tq (.tup [.int t, .int s]) l = some (.tup (Row.tn p q k t s c).vs) := same_new ntq _ _ hl2
        refine ⟨_, rfl, l, _, 5, .int c, rfl, rfl, SqT.of hl3, atI_nat (j := 5) rfl, rfl, rfl, fun x dx nx ndx nex => ?_⟩
        have f1 : upd (upd H1 tp (.tup [.int (Row.tn p q k t s c).p, .int (Row.tn p q k t s c).q])) tq (.tup [.int t, .int s]) tp = some (.tup [.int p, .int q]) := same_new ntq _ _ upd_same
        have f2 : upd (upd H1 tp (.tup [.int (Row.tn p q k t s c).p, .int (Row.tn p q k t s c).q])) tq (.tup [.int t, .int s]) tq = some (.tup [.int t, .int s]) := upd_same
        have s2 : Same H (upd (upd H1 tp (.tup [.int (Row.tn p q k t s c).p, .int (Row.tn p q k t s c).q])) tq (.tup [.int t, .int s])) := s1.trans ((same_new ntp).trans (same_new ntq))
        generalize upd (upd H1 tp (.tup [.int (Row.tn p q k t s c).p, .int (Row.tn p q k t s c).q])) tq (.tup [.int t, .int s]) = H2 at f1 f2 s2 nx ndx ⊢
        have keep : Same H2 (upd (upd H2 dx (.own x)) x (.ins Cn dx [])) := fun b u e => by
          rw [upd_ne (ne_of_none e nx), upd_ne (ne_of_none e ndx)]; exact e
        refine ⟨x, dx, .ref tp, .int k, .ref tq, .int c, _, _, rfl, upd_same, (pairQ_int f1).keep keep, .inl ⟨k, rfl⟩, (pairQ_int f2).keep keep, .inl ⟨c, rfl⟩, kk.mono (s2.trans keep) fun kk H3 t3 hx3 => ⟨rfl, ?_⟩⟩
        have s3 : ∀ b u, H2 b = some u → H3 b = some u := fun b u e => t3 _ _ (ne_of_none e nx) (keep _ _ e)
        exact kk x H3 (fun b u e => s3 _ _ (s2 _ _ e)) ⟨dx, tp, tq, hx3, s3 _ _ f1, s3 _ _ f2⟩
end
end Ev
namespace Ev
open PySem L2 PySem.Spec PyProof.Rows
/-! == and != by an own __eq__, both answers, beside values of other types. -/
section
variable {prog : Program} {w : World} {A : Around} {E : Value → Shared → Prop} {s : Shared} {K : PySem.W.Frag} {x C f : Addr} {ox : Obj} {od : Option Obj} {y : Value}
theorem neEntry {Q : Fin → Shared → Prop} (room : A.units < cLine) (X : K.In s.heap) (I : PySem.W.InstAt s.heap x ox C od) (he : PySem.W.findIn K (.ref C) "__eq__" = some (some (.ref f))) (hf : PySem.W.isFn K (.ref f) = true)
    (h : wpAny (model prog w) A (call (.ref f) [.ref x, y]) (fun v s' => ∃ b, v = .bool b ∧ Q (.done (.ret (.bool (!b)))) s') E s) : wpAny (model prog w) A (Builtin.«object.__ne__» ⟨[.ref x, y], []⟩) Q E s := by
  have asked : wpAny (model prog w) A (callSpecialIfBound? (.ref x) (Str.ofString "__eq__") [y]) (fun r s' => ∃ b, r = some (.bool b) ∧ Q (.done (.ret (.bool (!b)))) s') E s := by
    refine PySem.W.ifBound_K X I he hf (wpAny_mono h (fun v s' hv => ?_) fun _ _ z => z)
    obtain ⟨b, rfl, q⟩ := hv
    exact ⟨b, rfl, q⟩
  unfold Builtin.«object.__ne__»
  repeat (first
    | (with_reducible refine wpAny_cRoomFor room ?_)
    | (refine wpAny_bind (m := callSpecialIfBound? (.ref x) (Str.ofString "__eq__") [y]) (wpAny_mono asked (fun r s' hr => ?_) fun _ _ z => z)
       obtain ⟨b, rfl, q⟩ := hr)
    | exact q
    | (exact wpAny_truthy_bool q)
    | wp_step)
theorem neCall {Q : Value → Shared → Prop} (room : A.in1.units < cLine) (X : K.In s.heap) (I : PySem.W.InstAt s.heap x ox C od) (hm : PySem.W.mroIn K C (.type "object") = some true) (he : PySem.W.findIn K (.ref C) "__eq__" = some (some (.ref f))) (hf : PySem.W.isFn K (.ref f) = true)
    (h : wpAny (model prog w) A.in1 (call (.ref f) [.ref x, y]) (fun v s' => ∃ b, v = .bool b ∧ Q (.bool (!b)) s') E s) : wpAny (model prog w) A (call (.builtin "object.__ne__") [.ref x, y]) Q E s :=
  wpAny_call (codeAny_call_builtin F.cmp_object.ne.plain F.cmpEntry_ne (PySem.W.check_slot F.cmpKind_ne F.cmpSplit_ne (I.type.andThen (PySem.W.looks_mroIn X hm)) (F.cmpArgs_ne _ _)
    (neEntry room X I he hf h)))
theorem neBound {Q : Option Value → Shared → Prop} {M : Model} (X : K.In s.heap) (I : PySem.W.InstAt s.heap x ox C od) (hn : PySem.W.findIn K (.ref C) "__ne__" = some (some (.builtin "object.__ne__")))
    (h : wpAny M A (call (.builtin "object.__ne__") [.ref x, y]) (fun v => Q (some v)) E s) : wpAny M A (callSpecialIfBound? (.ref x) "__ne__" [y]) Q E s := by
  have last : wpAny M A (call (.builtin "object.__ne__") ([.ref x] ++ [y]) >>= fun v => pure (some v)) Q E s := by
    refine wpAny_bind (wpAny_mono h (fun v s' z => ?_) fun _ _ z => z)
    exact wpAny_pure z
  simp only [callSpecialIfBound?, bindSpecialIfBound?]
  refine wpAny_holding (wpAny_bind (wpAny_bind (wpAny_bind (I.type.here ?_))))
  refine (PySem.W.looks_findIn X hn).here (wpAny_bind (wpAny_askSetting (wpAny_ite ?_)))
  have bd := F.cmp_object.ne.bind (.ref x)
  split
  · refine wpAny_bind (wpAny_of_eq bd ?_)
    exact wpAny_pure (by exact last)
  · refine wpAny_tryCatch (wpAny_bind (wpAny_of_eq bd ?_))
    exact wpAny_pure (by exact last)
theorem neRich {Q : Value → Shared → Prop} {tb : Value} (room : A.units + 1 < cLine) (X : K.In s.heap) (I : PySem.W.InstAt s.heap x ox C od) (hb : PySem.W.Looks (model prog w) s.heap (typeOf y) tb) (nf : PySem.W.notFirst K C tb = true)
    (hm : PySem.W.mroIn K C (.type "object") = some true) (hn : PySem.W.findIn K (.ref C) "__ne__" = some (some (.builtin "object.__ne__"))) (he : PySem.W.findIn K (.ref C) "__eq__" = some (some (.ref f))) (hf : PySem.W.isFn K (.ref f) = true)
    (h : wpAny (model prog w) A.in1 (call (.ref f) [.ref x, y]) (fun v s' => ∃ b, v = .bool b ∧ Q (.bool (!b)) s') E s) : wpAny (model prog w) A (richCompare .NotEq (.ref x) y) Q E s := by
  have one : wpAny (model prog w) A (tryCompare (.ref x) "__ne__" y) (fun r s' => ∃ b, r = some (.bool b) ∧ Q (.bool b) s') E s := by
    unfold tryCompare
    refine wpAny_bind (neBound X I hn (neCall (show A.in1.units < cLine from room) X I hm he hf (wpAny_mono h (fun v s' z => ?_) fun _ _ z => z)))
    obtain ⟨b, rfl, q⟩ := z
    exact ⟨b, rfl, wpAny_pure ⟨_, rfl, q⟩⟩
  unfold richCompare
  simp only [oneThing_ref]
  rw [cmpInfo_NotEq]
  refine wpAny_holding (wpAny_bind (wpAny_cRoomFor (Nat.lt_of_succ_lt room) ?_))
  refine wpAny_bind (I.type.here ?_)
  refine wpAny_bind (hb.here ?_)
  split
  · rename_i q
    have sub : PySem.W.subIn K tb (.ref C) = some false := by
      rcases Bool.or_eq_true_iff.mp nf with z | z
      · rw [beq_iff_eq.mp z] at q
        simp at q
      · exact beq_iff_eq.mp z
    refine wpAny_bind ((PySem.W.looks_subIn X sub).here ?_)
    simp only [Bool.false_eq_true, if_false]
    refine wpAny_bind (wpAny_mono one (fun r s' z => ?_) fun _ _ z => z)
    obtain ⟨b, rfl, q2⟩ := z
    exact wpAny_pure q2
  · refine wpAny_bind (wpAny_pure ?_)
    simp only [Bool.false_eq_true, if_false]
    refine wpAny_bind (wpAny_mono one (fun r s' z => ?_) fun _ _ z => z)
    obtain ⟨b, rfl, q2⟩ := z
    exact wpAny_pure q2
end
/-- which types come behind an own class -/
theorem nf_own {K : PySem.W.Frag} {C : Addr} : PySem.W.notFirst K C (.ref C) = true := by
  unfold PySem.W.notFirst
  simp
theorem nf_sub {K : PySem.W.Frag} {C : Addr} {t : Value} (h : PySem.W.subIn K t (.ref C) = some false) : PySem.W.notFirst K C t = true := by
  unfold PySem.W.notFirst
  rw [h]
  simp
theorem nf_ty {K : PySem.W.Frag} {C : Addr} {T : String} {l : List String} (h : fastBuiltinMro T = some (l.map Value.type)) : PySem.W.notFirst K C (.type T) = true := by
  refine nf_sub ?_
  show (fastBuiltinMro T).map (·.contains (.ref C)) = some false
  rw [h]
  have z : (l.map Value.type).contains (.ref C) = false := by
    rw [Bool.eq_false_iff]
    intro z
    have m := List.contains_iff_mem.mp z
    simp at m
  exact congrArg some z
section
variable {X : Cx} {CX : CXT} {C g : Addr} {n : Nat} {sp : Sp} {E : XK}
/-- what an own == promises for such values: a truth -/
def rOwnB (K : PySem.W.Frag) (C : Addr) (sp : Sp) (E : XK) (neg : Bool) : R2 := fun x y H Q => ∃ (a dx : Addr) (fs : List (Str × V)) (t : Value), x = .ref a ∧ H a = some (.ins C dx fs) ∧ TyX K H y t ∧ PySem.W.notFirst K C t = true ∧ sp [x, y] H (fun z H' => ∃ b, z = .bl b ∧ Q (.bl (neg ^^ b)) H') E
theorem op_eqO (he : PySem.W.findIn X.K (.ref C) "__eq__" = some (some (.ref g))) (hf : PySem.W.isFn X.K (.ref g) = true) (F : FnR X.prog X.w X.K X.mg X.base CX n g sp) (hr : Room n X.A) (hx : Passes CX X E) : OpR X (compareOp .Eq) (rOwnB X.K C sp E false) := by
  intro pins s σ H x y v u Q I rx ry h
  obtain ⟨a, dx, fs, t, rfl, ha, ty, nf, q⟩ := h
  cases (show v = Value.ref a from rx)
  obtain ⟨mA, J, _⟩ := ins_get I.hok ha
  obtain ⟨od, J, _⟩ := J.look
  obtain ⟨m, hF⟩ := I.fr
  obtain ⟨P, Z, hP, _⟩ := kit_of I ry ty
  show wpAny _ _ (richCompare .Eq (.ref a) u) _ _ s
  refine PySem.W.cmp_K (op := .Eq) hr.units0 hF I.ok.mod.kin J (Z.ty _ _ I.kIn hP) nf he hf ?_
  refine wpAny_mono (wpAny_call (SlX.run_at (us := [.ref a, u]) (ws := [.ref a, y]) F hr I.env0 hx I (.cons rfl (.cons ry .nil)) q)) (fun w' s' z => ?_) fun _ _ z => z
  obtain ⟨z', H', I', rz, b, rfl, q'⟩ := z
  cases (show w' = Value.bool b from rz)
  have q' : Q (.bl b) H' := by simpa using q'
  exact ⟨.bl b, H', I', rfl, q'⟩
theorem op_neO (he : PySem.W.findIn X.K (.ref C) "__eq__" = some (some (.ref g))) (hn : PySem.W.findIn X.K (.ref C) "__ne__" = some (some (.builtin "object.__ne__"))) (hm : PySem.W.mroIn X.K C (.type "object") = some true) (hf : PySem.W.isFn X.K (.ref g) = true)
    (F : FnR X.prog X.w X.K X.mg X.base CX n g sp) (hr : Room (n + 1) X.A) (hx : Passes CX X E) : OpR X (compareOp .NotEq) (rOwnB X.K C sp E true) := by
  intro pins s σ H x y v u Q I rx ry h
  obtain ⟨a, dx, fs, t, rfl, ha, ty, nf, q⟩ := h
  cases (show v = Value.ref a from rx)
  obtain ⟨mA, J, _⟩ := ins_get I.hok ha
  obtain ⟨od, J, _⟩ := J.look
  obtain ⟨P, Z, hP, _⟩ := kit_of I ry ty
  have hr1 : Room n X.A.in1 := hr.in1
  show wpAny _ _ (richCompare .NotEq (.ref a) u) _ _ s
  refine neRich (by have := hr1.units0; exact this) I.kIn J (Z.ty _ _ I.kIn hP) nf hm hn he hf ?_
  refine wpAny_mono (wpAny_call (SlX.run_at (us := [.ref a, u]) (ws := [.ref a, y]) F hr1 I.env0.in1 hx I (.cons rfl (.cons ry .nil)) q)) (fun w' s' z => ?_) fun _ _ z => z
  obtain ⟨z', H', I', rz, b, rfl, q'⟩ := z
  cases (show w' = Value.bool b from rz)
  have q' : Q (.bl (!b)) H' := by simpa using q'
  exact ⟨b, rfl, .bl (!b), H', I', rfl, q'⟩
end
end Ev
namespace Ev
open PySem L2 PySem.Spec PyProof.Rows
theorem sh_intsT (ns : List Int) : SeqAt.shaped (.tuple (ns.map PyData.int)) = true := by
  have h := sh_ints ns
  unfold SeqAt.shaped at h ⊢
  simpa [PyData.canLay0, PyData.depth] using h
theorem eqv_tupI (ps qs : List Int) : PyData.eqv (.tuple (ps.map PyData.int)) (.tuple (qs.map PyData.int)) = decide (ps = qs) := by
  have h : ∀ ps qs : List Int, PyData.eqvAll (ps.map PyData.int) (qs.map PyData.int) = decide (ps = qs) := by
    intro ps
    induction ps with
    | nil => intro qs; cases qs <;> simp [PyData.eqvAll]
    | cons a r ih =>
      intro qs
      cases qs with
      | nil => simp [PyData.eqvAll]
      | cons c t =>
        simp only [List.map_cons, PyData.eqvAll, ih t, PyData.eqv]
        by_cases e1 : a = c <;> by_cases e2 : r = t <;> simp [e1, e2]
  simp only [PyData.eqv, h]
/-- an instance's kind -/
structure InsT (K : PySem.W.Frag) (C : Addr) : Prop where
  ha : PySem.W.findIn K (.ref C) "__class__" = some (some (.builtin "object.__class__"))
  hn : PySem.W.specialIn K (.builtin "object.__class__") "__get__" = some (some (.builtin "getset_descriptor.__get__"))
  htk : PySem.W.takesIn K (.builtin "object.__class__") = some true
  hm : PySem.W.mroIn K C (.type "object") = some true
  ic : PySem.W.isClsIn K C = true
  tt : PySem.W.typeIn K (.ref C) = some (.type "type")
theorem sub_no {K : PySem.W.Frag} {C : Addr} {T : String} {l : List String} (h : fastBuiltinMro T = some (l.map Value.type)) : PySem.W.subIn K (.type T) (.ref C) = some false := by
  show (fastBuiltinMro T).map (·.contains (.ref C)) = some false
  rw [h]
  have z : (l.map Value.type).contains (.ref C) = false := by
    rw [Bool.eq_false_iff]
    intro z
    have m := List.contains_iff_mem.mp z
    simp at m
  exact congrArg some z
theorem kit_self {K : PySem.W.Frag} {C : Addr} : PySem.W.kitOne K (.ref C) (.ref C) = some true := by
  unfold PySem.W.kitOne
  rw [if_pos (by simp)]
def rowB : Row → Row → Bool
  | .tr p q k, .tr p' q' k' => decide ([p, q] = [p', q']) && decide (V.int k = V.int k')
  | .tn p q k t s c, .tn p' q' k' t' s' c' => decide ([p, q] = [p', q']) && (decide (V.int k = V.int k') && (decide ([t, s] = [t', s']) && decide (V.int c = V.int c')))
  | _, _ => false
theorem rowB_self (r : Row) : rowB r r = true := by cases r <;> simp [rowB]
/-- the two classes of rules -/
structure RTwo (K : PySem.W.Frag) (Ct Cn : Addr) : Prop where
  t : RCls K Ct
  n : RCls K Cn
  it : InsT K Ct
  ins : InsT K Cn
  tn : PySem.W.kitOne K (.ref Ct) (.ref Cn) = some false
  nt : PySem.W.kitOne K (.ref Cn) (.ref Ct) = some false
  sub1 : PySem.W.subIn K (.ref Ct) (.ref Cn) = some false
  sub2 : PySem.W.subIn K (.ref Cn) (.ref Ct) = some false
theorem tyIns {K : PySem.W.Frag} {C : Addr} {H : Hp} {x dx : Addr} {fs : List (Str × V)} (TC : RCls K C) (IT : InsT K C) (h : H x = some (.ins C dx fs)) : TyX K H (.ref x) (.ref C) := .base (.ins h TC.cl IT.ha IT.hn IT.htk IT.hm)
def Row.isT : Row → Bool
  | .tr _ _ _ => false
  | .tn _ _ _ _ _ _ => true
def Row.cls (Ct Cn : Addr) : Row → Addr
  | .tr _ _ _ => Ct
  | .tn _ _ _ _ _ _ => Cn
def spEqR (Ct Cn : Addr) (turn : Bool) : Sp := fun vs H Q _ => ∃ (x y : Addr) (r1 r2 : Row), vs = [.ref x, .ref y] ∧ ObjAt Ct Cn H x r1 ∧ ObjAt Ct Cn H y r2 ∧ r1.isT = turn ∧ Q (.bl (rowB r1 r2)) H
section
variable {P : Program} {w : World} {K : PySem.W.Frag} {mg : Str → Option Value} {base : Heap}
theorem scTryEq : FnScope ["self", "other"] ["self", "other"] (defScope sTryEq) := ⟨rfl, rfl, rfl, by decide +kernel, rfl, by decide +kernel, by decide +kernel⟩
theorem ok_tryEq {f Ct Cn : Addr} {fd : FuncData} (F : Fun K "__eq__" "TryRule.__eq__" sTryEq f fd) (T : Blt mg) (R : RTwo K Ct Cn) (gC : mg "TryRule" = some (.ref Ct)) : FnOk P w K mg base CX0 1 f fd ["self", "other"] (spEqR Ct Cn false) := by
  refine F.ok scTryEq (fun vs H Q E h => ?_) (fun cdv A outer s H vs Q E hr h => ?_)
  · obtain ⟨x, y, r1, r2, rfl, _⟩ := h
    rfl
  · obtain ⟨x, y, r1, r2, rfl, h1, h2, hm, k⟩ := h
    refine ⟨_, pss_one (ps_ret (pe_and (pe_callB call_isi (by rfl) T.isi (by decide +kernel) (pa_cons (pv 1) (pa_cons (pe_glob (v := .ref Ct) rfl gC rfl) pa_nil)))
      (pe_and (pe_cmpR (op_eqD (Room.units hr)) (pe_fld (pv 0) rfl) (pe_fld (pv 1) rfl) (nomark _)) (pe_one (pe_cmpR op_eq (pe_fld (pv 0) rfl) (pe_fld (pv 1) rfl) (nomark _)))))), ?_⟩
    cases r1 with
    | tn p q k t s c => cases hm
    | tr p q kk =>
      obtain ⟨dx, a, hx, ha⟩ := h1
      cases r2 with
      | tn p' q' k' t' s' c' =>
        obtain ⟨dy, a', b', hy, ha', hb'⟩ := h2
        exact ⟨_, rfl, _, _, _, _, false, rfl, .own Ct, tyIns R.n R.ins hy, R.nt, _, rfl, iteF k⟩
      | tr p' q' k' =>
        obtain ⟨dy, a', hy, ha'⟩ := h2
        refine ⟨_, rfl, _, _, _, _, true, rfl, .own Ct, tyIns R.t R.it hy, kit_self, true, rfl, iteT ?_⟩
        refine ⟨_, rfl, x, Ct, dx, _, _, rfl, hx, R.t.cl, R.t.n1, try_times _ _, _, rfl, y, Ct, dy, _, _, rfl, hy, R.t.cl, R.t.n1, try_times _ _, _, _, .tup (SqT.of ha) (dpInts [p, q]), .tup (SqT.of ha') (dpInts [p', q']), sh_intsT _, sh_intsT _, _, rfl, ?_⟩
        rw [eqv_tupI]
        have k : Q (.bl (decide ([p, q] = [p', q']) && decide (V.int kk = V.int k'))) H := k
        by_cases e : [p, q] = [p', q']
        · rw [decide_eq_true e] at k ⊢
          refine iteT ⟨_, rfl, x, Ct, dx, _, _, rfl, hx, R.t.cl, R.t.n2, try_plus _ _, _, rfl, y, Ct, dy, _, _, rfl, hy, R.t.cl, R.t.n2, try_plus _ _, rfl, ?_⟩
          simpa using k
        · rw [decide_eq_false e] at k ⊢
          exact iteF (by simpa using k)
theorem scTurnEq : FnScope ["self", "other"] ["self", "other"] (defScope sTurnEq) := ⟨rfl, rfl, rfl, by decide +kernel, rfl, by decide +kernel, by decide +kernel⟩
theorem ok_turnEq {f Ct Cn : Addr} {fd : FuncData} (F : Fun K "__eq__" "TurnRule.__eq__" sTurnEq f fd) (T : Blt mg) (R : RTwo K Ct Cn) (gC : mg "TurnRule" = some (.ref Cn)) : FnOk P w K mg base CX0 1 f fd ["self", "other"] (spEqR Ct Cn true) := by
  refine F.ok scTurnEq (fun vs H Q E h => ?_) (fun cdv A outer s H vs Q E hr h => ?_)
  · obtain ⟨x, y, r1, r2, rfl, _⟩ := h
    rfl
  · obtain ⟨x, y, r1, r2, rfl, h1, h2, hm, k⟩ := h
    refine ⟨_, pss_one (ps_ret (pe_and (pe_callB call_isi (by rfl) T.isi (by decide +kernel) (pa_cons (pv 1) (pa_cons (pe_glob (v := .ref Cn) rfl gC rfl) pa_nil)))
      (pe_and (pe_cmpR (op_eqD (Room.units hr)) (pe_fld (pv 0) rfl) (pe_fld (pv 1) rfl) (nomark _)) (pe_and (pe_cmpR op_eq (pe_fld (pv 0) rfl) (pe_fld (pv 1) rfl) (nomark _))
      (pe_and (pe_cmpR (op_eqD (Room.units hr)) (pe_fld (pv 0) rfl) (pe_fld (pv 1) rfl) (nomark _)) (pe_one (pe_cmpR op_eq (pe_fld (pv 0) rfl) (pe_fld (pv 1) rfl) (nomark _)))))))), ?_⟩
    cases r1 with
    | tr p q kk => cases hm
    | tn p q kk t s c =>
      obtain ⟨dx, a, b, hx, ha, hb⟩ := h1
      cases r2 with
      | tr p' q' k' =>
        obtain ⟨dy, a', hy, ha'⟩ := h2
        exact ⟨_, rfl, _, _, _, _, false, rfl, .own Cn, tyIns R.t R.it hy, R.tn, _, rfl, iteF k⟩
      | tn p' q' k' t' s' c' =>
        obtain ⟨dy, a', b', hy, ha', hb'⟩ := h2
        refine ⟨_, rfl, _, _, _, _, true, rfl, .own Cn, tyIns R.n R.ins hy, kit_self, true, rfl, iteT ?_⟩
        refine ⟨_, rfl, x, Cn, dx, _, _, rfl, hx, R.n.cl, R.n.n1, turn_times _ _ _ _, _, rfl, y, Cn, dy, _, _, rfl, hy, R.n.cl, R.n.n1, turn_times _ _ _ _, _, _, .tup (SqT.of ha) (dpInts [p, q]), .tup (SqT.of ha') (dpInts [p', q']), sh_intsT _, sh_intsT _, _, rfl, ?_⟩
        rw [eqv_tupI]
        have k : Q (.bl (decide ([p, q] = [p', q']) && (decide (V.int kk = V.int k') && (decide ([t, s] = [t', s']) && decide (V.int c = V.int c'))))) H := k
        by_cases e : [p, q] = [p', q']
        · rw [decide_eq_true e] at k ⊢
          refine iteT ⟨_, rfl, x, Cn, dx, _, _, rfl, hx, R.n.cl, R.n.n2, turn_plus _ _ _ _, _, rfl, y, Cn, dy, _, _, rfl, hy, R.n.cl, R.n.n2, turn_plus _ _ _ _, rfl, _, rfl, ?_⟩
          by_cases e2 : V.int kk = V.int k'
          · rw [decide_eq_true e2] at k ⊢
            refine iteT ⟨_, rfl, x, Cn, dx, _, _, rfl, hx, R.n.cl, R.n.n3, turn_turn _ _ _ _, _, rfl, y, Cn, dy, _, _, rfl, hy, R.n.cl, R.n.n3, turn_turn _ _ _ _, _, _, .tup (SqT.of hb) (dpInts [t, s]), .tup (SqT.of hb') (dpInts [t', s']), sh_intsT _, sh_intsT _, _, rfl, ?_⟩
            rw [eqv_tupI]
            by_cases e3 : [t, s] = [t', s']
            · rw [decide_eq_true e3] at k ⊢
              refine iteT ⟨_, rfl, x, Cn, dx, _, _, rfl, hx, R.n.cl, R.n.n4, turn_tp _ _ _ _, _, rfl, y, Cn, dy, _, _, rfl, hy, R.n.cl, R.n.n4, turn_tp _ _ _ _, rfl, ?_⟩
              simpa using k
            · rw [decide_eq_false e3] at k ⊢
              exact iteF (by simpa using k)
          · rw [decide_eq_false e2] at k ⊢
            exact iteF (by simpa using k)
        · rw [decide_eq_false e] at k ⊢
          exact iteF (by simpa using k)
end
end Ev
namespace Ev
open PySem L2 PySem.Spec PyProof.Rows LamX
/-- v shows as x -/
def Shows (K : PySem.W.Frag) (H : Hp) (v : V) (x : Str) : Prop := ∃ d : PyData, Vd K H v d ∧ d.showable = true ∧ d.depth ≤ 32 ∧ d.shown.length ≤ sizeLine ∧ d.shown = x
/-- what is heard of a call: what it returns, or the word and the field of its error -/
def EHeard (K : PySem.W.Frag) (B N : Addr) (QQ : Addr → Hp → Prop) : XK := fun cls d H' => ∃ (dd : Addr) (v : V) (n w x : Str), d = some dd ∧ H' dd = some (.xd [(n, v)]) ∧ Shows K H' v x ∧ ((cls = .ref B ∧ n = "part" ∧ w = "rule") ∨ (cls = .ref N ∧ n = "weight" ∧ w = "halves")) ∧
    ∀ (r : Addr) (G : Hp), Same H' G → H' r = none → G r = some (.tup [.str w, .str x]) → QQ r G
def THeard (K : PySem.W.Frag) (B N : Addr) : (XK → Hp → VK → Prop) → Hp → VK → Prop := fun tl H Q => ∀ (G0 : Hp) (Qn : VK), Same H G0 → (∀ v H', (∀ r, H' r = none → Q (.ref r) (upd H' r (.lst [v]))) → Qn v H') →
  tl (EHeard K B N fun r G => Q (.ref r) G) G0 Qn
theorem held_lst {cls : Value} {d : Option Addr} {a : Addr} {xs : List V} : HO.lst xs ≠ Held cls d a := fun z => by
  have z : HO.lst xs = HO.ext _ := z
  cases z
theorem five {σ : L2.St} (h : σ.length = 5) : ∃ x0 x1 x2 x3 x4, σ = [x0, x1, x2, x3, x4] := by
  match σ, h with
  | [x0, x1, x2, x3, x4], _ => exact ⟨x0, x1, x2, x3, x4, rfl⟩
theorem scHeard : FnScope ["_law_ask", "_law_caught", "_law_found", "error", "_law_some"] ["_law_ask"] (defScope sHeard) := ⟨rfl, rfl, rfl, by decide +kernel, rfl, by decide +kernel, by decide +kernel⟩
theorem sqL_keep {K : PySem.W.Frag} {H H' : Hp} {a : Addr} {xs : List V} (k : Same H H') (h : SqL K H a xs) : SqL K H' a xs := by
  rcases h with (e | ⟨o, e⟩) | e
  · exact .inl (.inl (k _ _ e))
  · exact .inl (.inr ⟨o, k _ _ e⟩)
  · exact .inr e
theorem sqT_keep {K : PySem.W.Frag} {H H' : Hp} {a : Addr} {xs : List V} (k : Same H H') (h : SqT K H a xs) : SqT K H' a xs := by
  rcases h with (e | ⟨o, e⟩) | e
  · exact .inl (.inl (k _ _ e))
  · exact .inl (.inr ⟨o, k _ _ e⟩)
  · exact .inr e
mutual
theorem dp_keep {K : PySem.W.Frag} {H H' : Hp} (k : Same H H') : ∀ (v : V) (d : PyData), Dp K H v d → Dp K H' v d
  | _, _, .non => .non
  | _, _, .bl b => .bl b
  | _, _, .int i => .int i
  | _, _, .str x => .str x
  | _, _, .lst s a => .lst (sqL_keep k s) (dps_keep k _ _ a)
  | _, _, .tup s a => .tup (sqT_keep k s) (dps_keep k _ _ a)
theorem dps_keep {K : PySem.W.Frag} {H H' : Hp} (k : Same H H') : ∀ (vs : List V) (ds : List PyData), DpAll K H vs ds → DpAll K H' vs ds
  | _, _, .nil => .nil
  | _, _, .cons h t => .cons (dp_keep k _ _ h) (dps_keep k _ _ t)
end
theorem Shows.keep {K : PySem.W.Frag} {H H' : Hp} {v : V} {x : Str} (h : Shows K H v x) (k : Same H H') : Shows K H' v x := by
  obtain ⟨d, hd, sh⟩ := h
  refine ⟨d, ?_, sh⟩
  cases hd with
  | plain dp nd => exact .plain (dp_keep k _ _ dp) nd
  | dct e ek ev => exact .dct (k _ _ e) ek ev
section
variable {X : Cx}
theorem heard_gives {B N FE : Addr} {q : Str} {g : Addr} {cdg : Value} (gd : X.A.guards = some []) {k : Nat} (hr : Room (k + 1) X.A) (T : Blt X.mg) (mv : X.mg "ValueError" = none) (mr : X.mg "repr" = none) (gF : X.mg "FairError" = some (.ref FE)) (gB : X.mg "BadRule" = some (.ref B)) (gN : X.mg "NoHalves" = some (.ref N)) (HB' : HeldC X.K B) (HN : HeldC X.K N)
    (noB : PySem.W.findIn X.K (.ref B) "part" = some none) (noN : PySem.W.findIn X.K (.ref N) "weight" = some none) (teB : PySem.W.exmOne X.K (.ref B) (.ref FE) = some true) (teN : PySem.W.exmOne X.K (.ref N) (.ref FE) = some true)
    (iBB : PySem.W.kitOne X.K (.ref B) (.ref B) = some true) (iBN : PySem.W.kitOne X.K (.ref B) (.ref N) = some false) (iNB : PySem.W.kitOne X.K (.ref N) (.ref B) = some false) (iNN : PySem.W.kitOne X.K (.ref N) (.ref N) = some true) (vB : PySem.W.kitOne X.K (.ref B) (.type "ValueError") = some true) (vN : PySem.W.kitOne X.K (.ref N) (.type "ValueError") = some true) :
    GivesTo X ["_law_ask", "_law_caught", "_law_found", "error", "_law_some"] "_law_heard" (defScope sHeard) g cdg (defBody sHeard) "_law_ask" q (THeard X.K B N) := by
  intro f c' s H Q tl act hc h
  refine ⟨_, pss_cons (ps_asg (pe_tup (pa_cons pe_non (pa_cons pe_non pa_nil))) (pg_tup (by rfl) (pgs_cons (pg_name (i := 1) scHeard.nd rfl (.inl rfl)) (pgs_cons (pg_name (i := 2) scHeard.nd rfl (.inl rfl)) pgs_nil))))
    (pss_cons (ps_try_held (X := (cxOf C8.CX0 X.prog X.w X.K X.mg X.base ["_law_ask", "_law_caught", "_law_found", "error", "_law_some"] "_law_heard" (defScope sHeard) g cdg X.A X.stack s H C8.E0).nox) (c := .ref FE) (i := 3) (Wout := fun _ _ _ _ => False)
      (tb := fun W D σ H => ∃ Ech : XK, (∀ cls d σ' H', Ech cls d H' → W cls d σ' H') ∧ σ[0]? = some (some (.ref f)) ∧ H c' = some (CodeO c' q) ∧ tl Ech H fun v H' => D.nx (σ.set 2 (some v)) H')
      (ts := fun a cls d => tAsg (tVar 3) (gName 1)) rfl rfl rfl scHeard.nd rfl rfl ⟨rfl, by decide, .inl gF⟩ L2.takes0 (fun W pn xe tk => ?_) (fun a oe cls d pn _ _ => pss_one (ps_set (i := 1) scHeard.nd rfl (.inl rfl) (pv 3))))
    (pss_cons (ps_if (pt_cmpR op_isN (pv 1) pe_non (nomark _)) (pss_one (ps_ret (pe_lst (pa_cons (pv 2) pa_nil)))) pss_nil)
    (pss_cons (ps_set (i := 4) scHeard.nd rfl (.inl rfl) (pe_lst pa_nil))
    (pss_cons (ps_if (pt_val (pe_callB call_isHeld (by rfl) T.isi (by decide +kernel) (pa_cons (pv 1) (pa_cons (pe_glob (v := .ref B) rfl gB rfl) pa_nil))))
      (pss_one (ps_expr (pe_bm PySem.F.plainAttrs_list PySem.F.slot_list_append PySem.F.type_list_append mt_append (pv 4) (pa_cons (pe_tup (pa_cons pe_str (pa_cons (pe_callB (call_reprV gd (Room.units (hr.deeper _))) (by rfl) mr (by decide +kernel) (pa_cons (pe_heldFld (pv 1)) pa_nil)) pa_nil))) pa_nil)))) pss_nil)
    (pss_cons (ps_if (pt_val (pe_callB call_isHeld (by rfl) T.isi (by decide +kernel) (pa_cons (pv 1) (pa_cons (pe_glob (v := .ref N) rfl gN rfl) pa_nil))))
      (pss_one (ps_expr (pe_bm PySem.F.plainAttrs_list PySem.F.slot_list_append PySem.F.type_list_append mt_append (pv 4) (pa_cons (pe_tup (pa_cons pe_str (pa_cons (pe_callB (call_reprV gd (Room.units (hr.deeper _))) (by rfl) mr (by decide +kernel) (pa_cons (pe_heldFld (pv 1)) pa_nil)) pa_nil))) pa_nil)))) pss_nil)
    (pss_one (ps_ret (pe_ifExp (PW.pt (pw_and (pt_cmpR op_eq (pe_callB call_len_seq (by rfl) T.len PySem.boot_len (pa_cons (pv 4) pa_nil)) pe_int (nomark _))
      (pw_and1 (pt_val (pe_callB call_isHeld (by rfl) T.isi (by decide +kernel) (pa_cons (pv 1) (pa_cons (pe_bltn (v := .ty "ValueError") (by rfl) mv (by decide +kernel) rfl) pa_nil)))))))
      (pe_ix ix_list (pv 4) pe_int (fun _ _ => rfl)) pe_never)))))))), ?_⟩
  · refine ⟨fun pins s' σ H' D I h' => ?_⟩
    obtain ⟨Ech, hW, h1, h2, h3⟩ := h'
    exact (pss_one (ps_set (i := 2) scHeard.nd rfl (.inl rfl) (act W pn xe Ech _ _ tk hW))).run pins s' σ H' D I ⟨h1, h2, h3⟩
  · refine ⟨(by show 2 ≤ sizeLine; decide), fun tp ntp => ⟨tp, _, rfl, SqT.of upd_same, rfl, _, _, rfl, _, _, rfl, rfl, ?_⟩⟩
    refine ⟨_, fun cls d σ' H' z hlen => ?_, rfl, same_new ntp _ _ hc, h _ _ (same_new ntp) fun v H' k => ⟨_, rfl, rfl, _, rfl, iteT ⟨_, rfl, (by show 1 ≤ sizeLine; decide), fun r nr => k r nr⟩⟩⟩
    obtain ⟨dd, v, n, w, x, rfl, ed, sh, hcls, fin⟩ := z
    obtain ⟨x0, x1, x2, x3, x4, rfl⟩ := five hlen
    have te : PySem.W.exmOne X.K cls (.ref FE) = some true := by rcases hcls with ⟨rfl, _⟩ | ⟨rfl, _⟩ <;> assumption
    refine ⟨true, te, (fun z => by cases z), fun _ a na => ⟨_, rfl, fun _ => ?_⟩⟩
    have sA : Same H' (upd H' a (Held cls (some dd) a)) := same_new na
    have hA : upd H' a (Held cls (some dd) a) a = some (Held cls (some dd) a) := upd_same
    have hD := sA _ _ ed
    have shA := sh.keep sA
    generalize upd H' a (Held cls (some dd) a) = HA at sA hA hD shA
    refine ⟨_, rfl, rfl, _, rfl, iteF ?_⟩
    refine ⟨(by show 0 ≤ sizeLine; decide), fun l nl => ?_⟩
    have hA1 := same_new (o := .lst []) nl _ _ hA
    have hD1 := same_new (o := .lst []) nl _ _ hD
    have shB := shA.keep (same_new (o := .lst []) nl)
    have sB := sA.trans (same_new (o := .lst []) nl)
    have hl : upd HA l (.lst []) l = some (.lst []) := upd_same
    generalize upd HA l (.lst []) = HB at hA1 hD1 shB sB hl
    have nlH : H' l = none := Same.gone sA nl
    have tail : ∀ (tq : Addr), HB tq = none → True → ∀ C, cls = .ref C →
        upd (upd HB tq (.tup [.str w, .str x])) l (.lst [.ref tq]) a = some (Held cls (some dd) a) ∧ upd (upd HB tq (.tup [.str w, .str x])) l (.lst [.ref tq]) dd = some (.xd [(n, v)]) ∧ upd (upd HB tq (.tup [.str w, .str x])) l (.lst [.ref tq]) l = some (.lst [.ref tq]) ∧
        Q (.ref tq) (upd (upd HB tq (.tup [.str w, .str x])) l (.lst [.ref tq])) ∧ HB tq = none := by
      intro tq ntq _ C _
      have ltq : l ≠ tq := ne_of_none hl ntq
      have hq : upd (upd HB tq (.tup [.str w, .str x])) l (.lst [.ref tq]) tq = some (.tup [.str w, .str x]) := by rw [upd_ne ltq.symm]; exact upd_same
      refine ⟨?_, ?_, upd_same, ?_, ntq⟩
      · rw [upd_ne (fun z => by rw [z, hl] at hA1; exact held_lst (Option.some.inj hA1)), upd_ne (ne_of_none hA1 ntq)]; exact hA1
      · rw [upd_ne (fun z => by rw [z, hl] at hD1; cases hD1), upd_ne (ne_of_none hD1 ntq)]; exact hD1
      · refine fin tq _ (fun b o e => ?_) (Same.gone sB ntq) hq
        rw [upd_ne (ne_of_none e nlH), upd_ne (ne_of_none (sB _ _ e) ntq)]; exact sB _ _ e
    obtain ⟨d, vd, v1, v2, v3, v4⟩ := shB
    rcases hcls with ⟨rfl, rfl, rfl⟩ | ⟨rfl, rfl, rfl⟩
    · refine ⟨_, rfl, a, B, dd, _, _, _, true, rfl, hA1, hD1, HB', .own B, iBB, _, rfl, iteT ?_⟩
      refine ⟨_, rfl, .inl ⟨rfl, _, SqL.of hl⟩, _, rfl, a, B, dd, _, v, rfl, hA1, hD1, HB', noB, rfl, v, d, rfl, vd, v1, v2, v3, (by show 2 ≤ sizeLine; decide), fun tq ntq => ?_⟩
      rw [v4]
      obtain ⟨hA3, hD3, hl3, hQ, _⟩ := tail tq ntq trivial B rfl
      refine ⟨l, _, _, rfl, rfl, same_new ntq _ _ hl, (by show 0 < sizeLine; decide), ?_⟩
      refine ⟨_, rfl, a, B, dd, _, _, _, false, rfl, hA3, hD3, HB', .own N, iBN, _, rfl, iteF ?_⟩
      refine ⟨_, rfl, l, _, rfl, .inl (SqL.of hl3), rfl, _, rfl, iteT ?_⟩
      exact ⟨_, rfl, a, B, dd, _, _, _, true, rfl, hA3, hD3, HB', .ty _, vB, _, rfl, iteT ⟨_, rfl, l, _, 0, _, rfl, rfl, SqL.of hl3, atI_nat (j := 0) rfl, hQ⟩⟩
    · refine ⟨_, rfl, a, N, dd, _, _, _, false, rfl, hA1, hD1, HN, .own B, iNB, _, rfl, iteF ?_⟩
      refine ⟨_, rfl, a, N, dd, _, _, _, true, rfl, hA1, hD1, HN, .own N, iNN, _, rfl, iteT ?_⟩
      refine ⟨_, rfl, .inl ⟨rfl, _, SqL.of hl⟩, _, rfl, a, N, dd, _, v, rfl, hA1, hD1, HN, noN, rfl, v, d, rfl, vd, v1, v2, v3, (by show 2 ≤ sizeLine; decide), fun tq ntq => ?_⟩
      rw [v4]
      obtain ⟨hA3, hD3, hl3, hQ, _⟩ := tail tq ntq trivial N rfl
      refine ⟨l, _, _, rfl, rfl, same_new ntq _ _ hl, (by show 0 < sizeLine; decide), ?_⟩
      refine ⟨_, rfl, l, _, rfl, .inl (SqL.of hl3), rfl, _, rfl, iteT ?_⟩
      exact ⟨_, rfl, a, N, dd, _, _, _, true, rfl, hA3, hD3, HN, .ty _, vN, _, rfl, iteT ⟨_, rfl, l, _, 0, _, rfl, rfl, SqL.of hl3, atI_nat (j := 0) rfl, hQ⟩⟩
end
end Ev
namespace Ev
open PySem L2 PySem.Spec PyProof.Rows
def Big (n : Int) : Prop := n.natAbs < 2 ^ 100
theorem big_log {n : Int} (h : Big n) : n.natAbs.log2 < 1920 := by
  by_cases z : n.natAbs = 0
  · rw [z]; decide
  · exact (Nat.log2_lt z).mpr (Nat.lt_of_lt_of_le h (by decide +kernel))
theorem big_weight {n : Int} (h : Big n) : (PyData.int n).weight ≤ 1002 := by
  have e : n = 0 ∨ n.natAbs.log2 < 1000 := by
    by_cases z : n.natAbs = 0
    · exact .inl (Int.natAbs_eq_zero.mp z)
    · exact .inr ((Nat.log2_lt z).mpr (Nat.lt_of_lt_of_le h (by decide +kernel)))
  simp only [PyData.weight]
  split
  · omega
  · rename_i z
    have : ¬ n = 0 := by simpa using z
    omega
theorem big_show {n : Int} (h : Big n) : (PyData.int n).showable = true := decide_eq_true (big_log h)
theorem big_leaf {n : Int} (h : Big n) : (PyData.int n).leavesShort 2000 = true := by
  have e := int_text_length_le (k := 1920) (by decide) (big_log h)
  refine decide_eq_true ?_
  show (Str.ofString (toString n)).length ≤ 2000
  rw [PySem.ofString_length]
  omega
theorem show_len {d : PyData} (h : d.leavesShort 2000 = true) (hw : d.weight ≤ 8000) : d.shown.length ≤ sizeLine := by
  have := PyData.shown_le 2000 (by decide) d h
  rw [sizeLine_eq]
  omega
def nd (p q k : Int) : PyData := .tuple [.tuple [.int p, .int q], .int k]
theorem nd_show {p q k : Int} (h1 : Big p) (h2 : Big q) (h3 : Big k) : (nd p q k).showable = true ∧ (nd p q k).hasDict = false ∧ (nd p q k).depth ≤ 32 ∧ (nd p q k).shown.length ≤ sizeLine := by
  have a1 := big_show h1
  have a2 := big_show h2
  have a3 := big_show h3
  have l1 := big_leaf h1
  have l2 := big_leaf h2
  have l3 := big_leaf h3
  have w1 := big_weight h1
  have w2 := big_weight h2
  have w3 := big_weight h3
  refine ⟨?_, rfl, by simp [nd, PyData.depth, PyData.depthAll], show_len ?_ ?_⟩
  · simp only [nd, PyData.showable, PyData.showableAll] at a1 a2 a3 ⊢
    simp [a1, a2, a3]
  · simp only [nd, PyData.leavesShort, PyData.leavesShortAll] at l1 l2 l3 ⊢
    simp [l1, l2, l3]
  · simp only [nd, PyData.weight, PyData.weightAll] at w1 w2 w3 ⊢
    omega
def Row.big : Row → Prop
  | .tr p q k => Big p ∧ Big q ∧ Big k
  | .tn p q k t s c => Big p ∧ Big q ∧ Big k ∧ Big t ∧ Big s ∧ Big c
theorem slA {K : PySem.W.Frag} {l : Addr} {xs : List V} {lo hi : Option Int} {H : Hp} {Q : VK} (h : H l = some (.tup xs)) (k : ∀ (a : Addr) (H' : Hp), Same H H' → H' a = some (.tup (cutV xs lo hi)) → Q (.ref a) H') : rSlA K (.ref l) lo hi H Q := by
  refine ⟨l, _, rfl, SqT.of h, fun z => k l H (Same.refl H) ?_, fun z a na => k a _ (same_new na) upd_same⟩
  unfold cutV
  rw [z.1, z.2]
  simpa using h
/-- the parts of the law that look at rules -/
structure InsR (K : PySem.W.Frag) (Ct Cn R0 CW : Addr) : Prop where
  two : RTwo K Ct Cn
  t0 : PySem.W.kitOne K (.ref Ct) (.ref R0) = some true
  n0 : PySem.W.kitOne K (.ref Cn) (.ref R0) = some true
  tw : PySem.W.kitOne K (.ref Ct) (.ref CW) = some true
  nw : PySem.W.kitOne K (.ref Cn) (.ref CW) = some true
def wS (w : Int) : Str := if w = 2 then "2" else "3"
def spDue : Sp := fun vs H Q _ => ∃ (l : Addr) (row : Row), vs = [.ref l] ∧ H l = some (.tup row.vs) ∧ (match halvesO row.p row.q row.k with
  | .halves w => ∀ r H', Same H H' → H' r = some (.tup [.str "halves", .str (wS w)]) → Q (.ref r) H'
  | _ => ∀ H', Same H H' → Q .non H')
def spTells (Ct Cn : Addr) : Sp := fun vs H Q _ => ∃ (x l : Addr) (row : Row), vs = [.ref x, .ref l] ∧ ObjAt Ct Cn H x row ∧ H l = some (.tup row.vs) ∧ row.big ∧ ∀ H', Same H H' → Q (.bl true) H'
def spLPair : Sp := fun vs H Q _ => ∃ (v : V) (o : Option (List V)) (m : Int), vs = [v, .int m] ∧ PairQ H v o ∧ ∀ H', Same H H' → Q (.bl (pairB m o)) H'
def spLPlus : Sp := fun vs H Q _ => ∃ v : V, vs = [v] ∧ IntQ H v ∧ Q (.bl (inB (-6) 6 v)) H
section
variable {P : Program} {w : World} {K : PySem.W.Frag} {mg : Str → Option Value} {base : Heap}
theorem scDue : FnScope ["_law_some", "_law_p", "_law_q", "_law_k"] ["_law_some"] (defScope sDue) := ⟨rfl, rfl, rfl, by decide +kernel, rfl, by decide +kernel, by decide +kernel⟩
theorem ok_due {f : Addr} {fd : FuncData} (F : Fun K "_law_halves_due" "_law_halves_due" sDue f fd) : FnOk P w K mg base CX0 1 f fd ["_law_some"] spDue := by
  refine F.ok scDue (fun vs H Q E h => ?_) (fun cdv A outer s H vs Q E hr h => ?_)
  · obtain ⟨l, row, rfl, _⟩ := h
    rfl
  · obtain ⟨l, row, rfl, hl, kk⟩ := h
    refine ⟨_, pss_cons (ps_asg (pe_slice sl_tupA (pv 0) po_none (po_some pe_int)) (pg_tup (by rfl) (pgs_cons (pg_name (i := 1) scDue.nd rfl (.inl rfl)) (pgs_cons (pg_name (i := 2) scDue.nd rfl (.inl rfl)) (pgs_cons (pg_name (i := 3) scDue.nd rfl (.inl rfl)) pgs_nil)))))
      (pss_cons (ps_if (pt_cmpR op_gt (pv 2) (pe_op op_add (pv 1) (pv 3)) (nomark _)) (pss_one (ps_ret (pe_tup (pa_cons pe_str (pa_cons pe_str pa_nil))))) pss_nil)
      (pss_one (ps_ret (pe_ifExp (pt_cmpR op_gt (pe_op op_mul pe_int (pv 2)) (pe_op op_add (pv 1) (pv 3)) (nomark _)) (pe_tup (pa_cons pe_str (pa_cons pe_str pa_nil))) pe_non)))), ?_⟩
    refine ⟨_, rfl, _, rfl, slice3 hl fun a H1 s1 ha => ⟨a, _, rfl, SqT.of ha, rfl, _, _, rfl, _, _, rfl, _, _, rfl, rfl, ?_⟩⟩
    unfold halvesO at kk
    refine ⟨_, rfl, _, rfl, _, rfl, _, _, rfl, rfl, _, _, rfl, rfl, _, rfl, ite2 (fun e => ?_) (fun e => ?_)⟩
    · rw [if_pos (of_decide_eq_true e)] at kk
      exact ⟨(by show 2 ≤ sizeLine; decide), fun r nr => kk r _ (s1.trans (same_new nr)) upd_same⟩
    · rw [if_neg (fun z => e (decide_eq_true z))] at kk
      refine ⟨_, rfl, _, _, rfl, rfl, .inl ⟨by decide, by decide⟩, _, rfl, _, rfl, _, _, rfl, rfl, _, _, rfl, rfl, _, rfl, ite2 (fun e => ?_) (fun e => ?_)⟩
      · rw [if_neg (show ¬ 2 * row.q ≤ row.p + row.k by have := of_decide_eq_true e; omega)] at kk
        exact ⟨(by show 2 ≤ sizeLine; decide), fun r nr => kk r _ (s1.trans (same_new nr)) upd_same⟩
      · rw [if_pos (show 2 * row.q ≤ row.p + row.k by
          refine Int.not_lt.mp fun z => e (decide_eq_true z))] at kk
        exact kk _ s1
theorem scLPlus : FnScope ["_law_value"] ["_law_value"] (defScope sLPlus) := ⟨rfl, rfl, rfl, by decide +kernel, rfl, by decide +kernel, by decide +kernel⟩
theorem ok_lplus {f : Addr} {fd : FuncData} (F : Fun K "_law_is_plus" "_law_is_plus" sLPlus f fd) (T : Blt mg) : FnOk P w K mg base CX0 1 f fd ["_law_value"] spLPlus := by
  refine F.ok scLPlus (fun vs H Q E h => ?_) (fun cdv A outer s H vs Q E hr h => ?_)
  · obtain ⟨v, rfl, _⟩ := h
    rfl
  · obtain ⟨v, rfl, h, k⟩ := h
    refine ⟨_, pss_one (ps_ret (pe_and (pe_callB call_isi (by rfl) T.isi (by decide +kernel) (pa_cons (pv 0) (pa_cons (pe_bltn (v := .ty "int") (by rfl) T.int (by decide +kernel) rfl) pa_nil)))
      (pe_and (pe_not (pe_callB call_isi (by rfl) T.isi (by decide +kernel) (pa_cons (pv 0) (pa_cons (pe_bltn (v := .ty "bool") (by rfl) T.bool (by decide +kernel) rfl) pa_nil)))) (pe_one (pe_chain op_le op_le (pe_un un_neg pe_int) (pv 0) pe_int))))), ?_⟩
    rcases h with ⟨i, rfl⟩ | no
    · refine ⟨_, rfl, _, _, _, _, true, rfl, .ty _, .base (.int i), kit_ty (by decide +kernel), true, rfl, iteT ⟨_, rfl, _, _, _, _, false, rfl, .ty _, .base (.int i), kit_ty (by decide +kernel), _, rfl, _, rfl, iteT ?_⟩⟩
      have k : Q (.bl (decide (-6 ≤ i) && decide (i ≤ 6))) H := k
      refine ⟨_, rfl, _, rfl, _, _, rfl, rfl, _, rfl, ?_⟩
      by_cases z : -6 ≤ i
      · rw [decide_eq_true z] at k ⊢
        exact iteT ⟨_, _, rfl, rfl, k⟩
      · rw [decide_eq_false z] at k ⊢
        exact iteF k
    · rw [inB_no no] at k
      obtain ⟨_, TT, b, c, ty, e1, e2, e3⟩ := no
      refine ⟨_, rfl, _, _, _, _, b, rfl, .ty _, ty _ _ (extN_refl H), kit_ty e1, b, rfl, ?_⟩
      cases b with
      | false => exact iteF k
      | true => exact iteT ⟨_, rfl, _, _, _, _, true, rfl, .ty _, ty _ _ (extN_refl H), kit_ty (by rw [e2, e3 rfl]), _, rfl, _, rfl, iteF k⟩
theorem pt_imp {X : Cx} {e : Expr} {t t' : TT} (h : PT X e t) (k : ∀ σ H Q, t' σ H Q → t σ H Q) : PT X e t' := ⟨fun pins s σ H Q I q => h.run pins s σ H Q I (k σ H Q q)⟩
def dS : V → PyData
  | .int i => .int i
  | .bl b => .bool b
  | .str x => .str x
  | _ => .none
theorem dp_scal {H : Hp} : ∀ xs : List V, (∀ x ∈ xs, Scal x) → DpAll K H xs (xs.map dS)
  | [], _ => .nil
  | x :: r, h => by
    have t := dp_scal (H := H) r fun y m => h y (List.mem_cons_of_mem _ m)
    rcases h x List.mem_cons_self with ⟨i, rfl⟩ | ⟨b, rfl⟩ | rfl
    · exact .cons (.int i) t
    · exact .cons (.bl b) t
    · exact .cons (.str _) t
theorem lay_scal : ∀ xs : List V, (∀ x ∈ xs, Scal x) → PyData.canLayAll0 (xs.map dS) = true ∧ PyData.depthAll (xs.map dS) ≤ 1
  | [], _ => ⟨rfl, by simp [PyData.depthAll]⟩
  | x :: r, h => by
    obtain ⟨a, b⟩ := lay_scal r fun y m => h y (List.mem_cons_of_mem _ m)
    rcases h x List.mem_cons_self with ⟨i, rfl⟩ | ⟨c, rfl⟩ | rfl
    · exact ⟨by simp [PyData.canLayAll0, PyData.canLay0, dS, a], by simp [PyData.depthAll, PyData.depth, dS]; omega⟩
    · exact ⟨by simp [PyData.canLayAll0, PyData.canLay0, dS, a], by simp [PyData.depthAll, PyData.depth, dS]; omega⟩
    · refine ⟨?_, by simp [PyData.depthAll, PyData.depth, dS]; omega⟩
      have e : PyData.canLay0 (.str "2") = true := by decide +kernel
      rw [List.map_cons, PyData.canLayAll0]
      show (PyData.canLay0 (.str "2") && _) = true
      rw [e, a]
      rfl
theorem sh_scal {xs : List V} (h : ∀ x ∈ xs, Scal x) : SeqAt.shaped (.list (xs.map dS)) = true := by
  obtain ⟨a, b⟩ := lay_scal xs h
  unfold SeqAt.shaped
  rw [Bool.and_eq_true]
  refine ⟨by simp [PyData.canLay0, a], decide_eq_true ?_⟩
  simp [PyData.depth]
  omega
theorem eqv_ds (xs : List V) : PyData.eqv (.list (xs.map dS)) (.list []) = xs.isEmpty := by
  cases xs <;> simp [PyData.eqv, PyData.eqvAll]
def tBadV : TT := fun σ H Q => ∃ (v : V) (m : Int), σ[2]? = some (some v) ∧ σ[1]? = some (some (.int m)) ∧ Scal v ∧ Q (!inB 1 m v) H
theorem scLPair : FnScope ["_law_value", "_law_most", "_law_one"] ["_law_value", "_law_most"] (defScope sLPair) := ⟨rfl, rfl, rfl, by decide +kernel, rfl, by decide +kernel, by decide +kernel⟩
theorem ok_lpair {f : Addr} {fd : FuncData} (F : Fun K "_law_is_pair" "_law_is_pair" sLPair f fd) (T : Blt mg) : FnOk P w K mg base CX0 1 f fd ["_law_value", "_law_most"] spLPair := by
  refine F.ok scLPair (fun vs H Q E h => ?_) (fun cdv A outer s H vs Q E hr h => ?_)
  · obtain ⟨v, o, m, rfl, _⟩ := h
    rfl
  · obtain ⟨v, o, m, rfl, hv, k⟩ := h
    refine ⟨_, pss_cons (ps_if (PW.pt (pw_or (pt_not (pt_val (pe_callB call_isi (by rfl) T.isi (by decide +kernel) (pa_cons (pv 0) (pa_cons (pe_bltn (v := .ty "tuple") (by rfl) T.tuple (by decide +kernel) rfl) pa_nil)))))
        (pw_or1 (pt_cmpR op_ne (pe_callB call_len_seq (by rfl) T.len PySem.boot_len (pa_cons (pv 0) pa_nil)) pe_int (nomark _))))) (pss_one (ps_ret pe_bl)) pss_nil)
      (pss_one (ps_ret (pe_cmpR (op_eqD (Room.units hr)) (pe_lc (own := [("_law_one", 2)]) (g := gName 2) (tt := tBadV) (te := tVar 2) (by rfl) scLPair.nd (pi_tup (pv 0)) (blkOk_by (own := [("_law_one", 2)]) (N := ["_law_value", "_law_most", "_law_one"]) (sc := defScope sLPair) (by decide +kernel))
          (fun _ _ _ _ _ => pg_name (i := 2) scLPair.nd rfl (.inl rfl)) (fun _ _ _ _ _ => pts_one (pt_imp (PW.pt (pw_or (pt_val (pe_callB call_isi (by rfl) T.isi (by decide +kernel) (pa_cons (pv 2) (pa_cons (pe_bltn (v := .ty "bool") (by rfl) T.bool (by decide +kernel) rfl) pa_nil))))
            (pw_or (pt_not (pt_val (pe_callB call_isi (by rfl) T.isi (by decide +kernel) (pa_cons (pv 2) (pa_cons (pe_bltn (v := .ty "int") (by rfl) T.int (by decide +kernel) rfl) pa_nil))))) (pw_or1 (pt_not (pt_chain op_le op_le pe_int (pv 2) (pv 1))))))) (fun σ H Q h => ?_))) (fun _ _ _ _ _ => pv 2)) (pe_lst pa_nil) (nomark _)))), ?_⟩
    · obtain ⟨v, m, e2, e1, sc, k⟩ := h
      rcases sc with ⟨i, rfl⟩ | ⟨b, rfl⟩ | rfl
      · refine ⟨_, e2, _, _, _, _, false, rfl, .ty _, .base (.int i), kit_ty (by decide +kernel), false, rfl, _, e2, _, _, _, _, true, rfl, .ty _, .base (.int i), kit_ty (by decide +kernel), true, rfl, ?_⟩
        have k : Q (!(decide (1 ≤ i) && decide (i ≤ m))) H := k
        refine ⟨_, e2, _, _, rfl, rfl, _, rfl, ?_⟩
        by_cases z : 1 ≤ i
        · rw [decide_eq_true z] at k ⊢
          exact iteT ⟨_, e1, _, _, rfl, rfl, _, rfl, k⟩
        · rw [decide_eq_false z] at k ⊢
          exact iteF ⟨_, rfl, k⟩
      · exact ⟨_, e2, _, _, _, _, true, rfl, .ty _, .base (.bl b), kit_ty (by decide +kernel), true, rfl, k⟩
      · exact ⟨_, e2, _, _, _, _, false, rfl, .ty _, .base (.str _), kit_ty (by decide +kernel), false, rfl, _, e2, _, _, _, _, false, rfl, .ty _, .base (.str _), kit_ty (by decide +kernel), false, rfl, k⟩
    cases o with
    | none =>
      obtain ⟨TT, ty, e⟩ := hv
      exact ⟨_, rfl, _, _, _, _, false, rfl, .ty _, ty _ _ (extN_refl H), kit_ty e, false, rfl, k H (Same.refl H)⟩
    | some xs =>
      obtain ⟨a, rfl, ha, hl, hq⟩ := hv
      refine ⟨_, rfl, _, _, _, _, true, rfl, .ty _, .base (.tup ha), kit_ty (by decide +kernel), true, rfl, ?_⟩
      refine ⟨_, rfl, a, _, rfl, .inr (SqT.of ha), rfl, _, rfl, ite2 (fun e => ?_) (fun e => ?_)⟩
      · have e : xs.length ≠ 2 := by
          have e' : ¬ (xs.length : Int) = 2 := by simpa using e
          omega
        have := k H (Same.refl H)
        rw [pairB_len e] at this
        exact this
      · have e : xs.length = 2 := by
          have e' : (xs.length : Int) = 2 := by simpa using e
          omega
        refine ⟨_, rfl, a, rfl, ⟨_, SqT.of ha⟩, fun D nD => ?_⟩
        have aD := ne_of_none ha nD
        refine lc_it (n := xs.length) (walk_tup (xs := xs)) (fun i H' => H' D = some (.lst ((xs.take i).filter fun x => !inB 1 m x)) ∧ But D H H') ⟨upd_same, But.upd_at⟩ (fun i H' _ h => SqT.of (h.2 _ _ aD ha)) (fun i v H2 H' hi h y => ?_) (fun H' h => ?_)
        · obtain ⟨rfl, hv⟩ := y
          obtain ⟨e1, e2⟩ := h
          have ft : (xs.take (i + 1)).filter (fun x => !inB 1 m x) = (xs.take i).filter (fun x => !inB 1 m x) ++ [v].filter (fun x => !inB 1 m x) := by rw [List.take_add_one, hv, List.filter_append]; rfl
          refine ⟨rfl, v, m, rfl, rfl, hq v (List.mem_of_getElem? hv), ?_⟩
          cases z : inB 1 m v with
          | true =>
            refine iteF ⟨?_, e2⟩
            rw [ft]
            simpa [z] using e1
          | false =>
            refine iteT ⟨_, rfl, _, e1, ?_, ?_, e2.trans But.upd_at⟩
            · refine Nat.lt_of_le_of_lt (Nat.le_trans (List.length_filter_le _ _) (List.length_take_le' _ _)) ?_
              exact Nat.lt_of_le_of_lt hl (by decide)
            · rw [ft]
              have : [v].filter (fun x => !inB 1 m x) = [v] := by simp [z]
              rw [this]
              exact upd_same
        · obtain ⟨e1, e2⟩ := h
          rw [List.take_length] at e1
          have s1 : Same H H' := fun c o e => e2 c o (ne_of_none e nD) e
          have hs : ∀ x ∈ xs.filter (fun x => !inB 1 m x), Scal x := fun x mm => hq x (List.mem_filter.mp mm).1
          refine ⟨(by show 0 ≤ sizeLine; decide), fun D2 nD2 => ⟨.list ((xs.filter fun x => !inB 1 m x).map dS), .list [], .lst (SqL.of (same_new nD2 _ _ e1)) (dp_scal _ hs), .lst (SqL.of upd_same) .nil, sh_scal hs, sh_ints [], ?_⟩⟩
          rw [eqv_ds]
          have kk := k _ (s1.trans (same_new (o := .lst []) nD2))
          have : (xs.filter fun x => !inB 1 m x).isEmpty = pairB m (some xs) := by
            match xs, e with
            | [x, y], _ =>
              show _ = (inB 1 m x && inB 1 m y)
              cases z1 : inB 1 m x <;> cases z2 : inB 1 m y <;> simp [z1, z2]
          rw [this]
          exact kk
end
end Ev
namespace Ev
open PySem L2 PySem.Spec PyProof.Rows
section
variable {P : Program} {w : World} {K : PySem.W.Frag} {mg : Str → Option Value} {base : Heap}
theorem scTells : FnScope ["_law_rule_so", "_law_some"] ["_law_rule_so", "_law_some"] (defScope sTells) := ⟨rfl, rfl, rfl, by decide +kernel, rfl, by decide +kernel, by decide +kernel⟩
theorem ok_tells {f Ct Cn R0 CW : Addr} {fd : FuncData} (F : Fun K "_law_tells" "_law_tells" sTells f fd) (T : Blt mg) (mr : mg "repr" = none) (I : InsR K Ct Cn R0 CW) (gT : mg "TryRule" = some (.ref Ct)) (gN : mg "TurnRule" = some (.ref Cn)) (gR : mg "Rule" = some (.ref R0)) (gW : mg "WeightRule" = some (.ref CW)) :
    FnG P w K mg base 1 f fd ["_law_rule_so", "_law_some"] (spTells Ct Cn) := by
  obtain ⟨R, t0, n0, tw, nw⟩ := I
  refine fng_of F scTells (fun vs H Q E h => ?_) (fun cdv A outer s H vs Q E hr gd h => ?_)
  · obtain ⟨x, l, row, rfl, _⟩ := h
    rfl
  · obtain ⟨x, l, row, rfl, hx, hl, bg, kk⟩ := h
    have hu : (cxOf CX0 P w K mg base ["_law_rule_so", "_law_some"] "_law_tells" (defScope sTells) f cdv A outer s H E).nox.A.units + 64 < cLine := Room.units hr
    refine ⟨_, pss_cons (ps_if (PW.pt (pw_or (pt_not (pt_val (pe_callB call_isi (by rfl) T.isi (by decide +kernel) (pa_cons (pv 0) (pa_cons (pe_glob (v := .ref R0) rfl gR rfl) pa_nil)))))
        (pw_or1 (pt_not (pt_val (pe_callB call_isi (by rfl) T.isi (by decide +kernel) (pa_cons (pv 0) (pa_cons (pe_glob (v := .ref CW) rfl gW rfl) pa_nil)))))))) (pss_one (ps_ret pe_bl)) pss_nil)
      (pss_cons (ps_if (PW.pt (pw_or (pt_cmpR op_ne (pe_callB call_isi (by rfl) T.isi (by decide +kernel) (pa_cons (pv 0) (pa_cons (pe_glob (v := .ref Ct) rfl gT rfl) pa_nil))) (pe_cmpR op_eq (pe_callB call_len_seq (by rfl) T.len PySem.boot_len (pa_cons (pv 1) pa_nil)) pe_int (nomark _)) (nomark _))
        (pw_or1 (pt_cmpR op_ne (pe_callB call_isi (by rfl) T.isi (by decide +kernel) (pa_cons (pv 0) (pa_cons (pe_glob (v := .ref Cn) rfl gN rfl) pa_nil))) (pe_cmpR op_eq (pe_callB call_len_seq (by rfl) T.len PySem.boot_len (pa_cons (pv 1) pa_nil)) pe_int (nomark _)) (nomark _))))) (pss_one (ps_ret pe_bl)) pss_nil)
      (pss_cons (ps_if (pt_cmpR op_ne (pe_callB (call_repr gd hu) (by rfl) mr (by decide +kernel) (pa_cons (pe_tup (pa_cons (pe_fld (pv 0) rfl) (pa_cons (pe_fld (pv 0) rfl) pa_nil))) pa_nil))
        (pe_callB (call_repr gd hu) (by rfl) mr (by decide +kernel) (pa_cons (pe_tup (pa_cons (pe_slice sl_tupA (pv 1) po_none (po_some pe_int)) (pa_cons (pe_ix ix_tup (pv 1) pe_int (fun _ _ => rfl)) pa_nil))) pa_nil)) (nomark _)) (pss_one (ps_ret pe_bl)) pss_nil)
      (pss_one (ps_ret (L2.pe_or (pe_cmpR op_eq (pe_callB call_len_seq (by rfl) T.len PySem.boot_len (pa_cons (pv 1) pa_nil)) pe_int (nomark _))
        (pe_one (pe_cmpR op_eq (pe_callB (call_repr gd hu) (by rfl) mr (by decide +kernel) (pa_cons (pe_tup (pa_cons (pe_fld (pv 0) rfl) (pa_cons (pe_fld (pv 0) rfl) pa_nil))) pa_nil))
          (pe_callB (call_repr gd hu) (by rfl) mr (by decide +kernel) (pa_cons (pe_tup (pa_cons (pe_slice sl_tupA (pv 1) (po_some pe_int) (po_some pe_int)) (pa_cons (pe_ix ix_tup (pv 1) pe_int (fun _ _ => rfl)) pa_nil))) pa_nil)) (nomark _)))))))), ?_⟩
    cases row with
    | tr p q k =>
      obtain ⟨dx, a, h1, h2⟩ := hx
      obtain ⟨b1, b2, b3⟩ := bg
      have ty : ∀ {G : Hp}, Same H G → TyX K G (.ref x) (.ref Ct) := fun s => tyIns R.t R.it (s _ _ h1)
      refine ⟨_, rfl, _, _, _, _, true, rfl, .own R0, ty (Same.refl H), t0, true, rfl, _, rfl, _, _, _, _, true, rfl, .own CW, ty (Same.refl H), tw, true, rfl, ?_⟩
      refine ⟨_, rfl, _, _, _, _, true, rfl, .own Ct, ty (Same.refl H), kit_self, _, rfl, l, _, rfl, .inr (SqT.of hl), rfl, rfl, _, rfl, ite2 (fun e => absurd e (by simp [Row.vs])) (fun _ => ?_)⟩
      refine ⟨_, rfl, _, _, _, _, false, rfl, .own Cn, ty (Same.refl H), R.tn, _, rfl, l, _, rfl, .inr (SqT.of hl), rfl, rfl, _, rfl, ite2 (fun e => absurd e (by simp [Row.vs])) (fun _ => ?_)⟩
      obtain ⟨w1, w2, w3, w4⟩ := nd_show b1 b2 b3
      refine ⟨_, rfl, x, Ct, dx, _, _, rfl, h1, R.t.cl, R.t.n1, try_times _ _, _, rfl, x, Ct, dx, _, _, rfl, h1, R.t.cl, R.t.n2, try_plus _ _, (by show 2 ≤ sizeLine; decide), fun t1 nt1 => ?_⟩
      have s1 := same_new (o := .tup [.ref a, .int k]) nt1
      refine ⟨t1, nd p q k, rfl, .tup (SqT.of upd_same) (.cons (.tup (SqT.of (s1 _ _ h2)) (dpInts [p, q])) (.cons (.int k) .nil)), w1, w2, w3, w4, ?_⟩
      refine ⟨_, rfl, _, rfl, slA (s1 _ _ hl) fun a2 H2 s2 ha2 => ?_⟩
      have s2 := s1.trans s2
      have ha2 : H2 a2 = some (.tup ([p, q].map V.int)) := ha2
      refine ⟨_, rfl, l, _, 2, .int k, rfl, rfl, SqT.of (s2 _ _ hl), atI_nat (j := 2) rfl, (by show 2 ≤ sizeLine; decide), fun t2 nt2 => ?_⟩
      have s3 := same_new (o := .tup [.ref a2, .int k]) nt2
      refine ⟨t2, nd p q k, rfl, .tup (SqT.of upd_same) (.cons (.tup (SqT.of (s3 _ _ ha2)) (dpInts [p, q])) (.cons (.int k) .nil)), w1, w2, w3, w4, rfl, _, rfl, ite2 (fun e => absurd e (by simp)) (fun _ => ?_)⟩
      have s4 := s2.trans s3
      exact ⟨_, rfl, l, _, rfl, .inr (SqT.of (s4 _ _ hl)), rfl, true, by simp [Row.vs], iteT (kk _ s4)⟩
    | tn p q k t s c =>
      obtain ⟨dx, a, b, h1, h2, h3⟩ := hx
      obtain ⟨b1, b2, b3, b4, b5, b6⟩ := bg
      have ty : ∀ {G : Hp}, Same H G → TyX K G (.ref x) (.ref Cn) := fun s => tyIns R.n R.ins (s _ _ h1)
      refine ⟨_, rfl, _, _, _, _, true, rfl, .own R0, ty (Same.refl H), n0, true, rfl, _, rfl, _, _, _, _, true, rfl, .own CW, ty (Same.refl H), nw, true, rfl, ?_⟩
      refine ⟨_, rfl, _, _, _, _, false, rfl, .own Ct, ty (Same.refl H), R.nt, _, rfl, l, _, rfl, .inr (SqT.of hl), rfl, rfl, _, rfl, ite2 (fun e => absurd e (by simp [Row.vs])) (fun _ => ?_)⟩
      refine ⟨_, rfl, _, _, _, _, true, rfl, .own Cn, ty (Same.refl H), kit_self, _, rfl, l, _, rfl, .inr (SqT.of hl), rfl, rfl, _, rfl, ite2 (fun e => absurd e (by simp [Row.vs])) (fun _ => ?_)⟩
      obtain ⟨w1, w2, w3, w4⟩ := nd_show b1 b2 b3
      obtain ⟨y1, y2, y3, y4⟩ := nd_show b4 b5 b6
      refine ⟨_, rfl, x, Cn, dx, _, _, rfl, h1, R.n.cl, R.n.n1, turn_times _ _ _ _, _, rfl, x, Cn, dx, _, _, rfl, h1, R.n.cl, R.n.n2, turn_plus _ _ _ _, (by show 2 ≤ sizeLine; decide), fun t1 nt1 => ?_⟩
      have s1 := same_new (o := .tup [.ref a, .int k]) nt1
      refine ⟨t1, nd p q k, rfl, .tup (SqT.of upd_same) (.cons (.tup (SqT.of (s1 _ _ h2)) (dpInts [p, q])) (.cons (.int k) .nil)), w1, w2, w3, w4, ?_⟩
      refine ⟨_, rfl, _, rfl, slA (s1 _ _ hl) fun a2 H2 s2 ha2 => ?_⟩
      have s2 := s1.trans s2
      have ha2 : H2 a2 = some (.tup ([p, q].map V.int)) := ha2
      refine ⟨_, rfl, l, _, 2, .int k, rfl, rfl, SqT.of (s2 _ _ hl), atI_nat (j := 2) rfl, (by show 2 ≤ sizeLine; decide), fun t2 nt2 => ?_⟩
      have s3 := same_new (o := .tup [.ref a2, .int k]) nt2
      refine ⟨t2, nd p q k, rfl, .tup (SqT.of upd_same) (.cons (.tup (SqT.of (s3 _ _ ha2)) (dpInts [p, q])) (.cons (.int k) .nil)), w1, w2, w3, w4, rfl, _, rfl, ite2 (fun e => absurd e (by simp)) (fun _ => ?_)⟩
      have s4 := s2.trans s3
      clear s3 ha2 s2 s1
      generalize upd H2 t2 (.tup [.ref a2, .int k]) = H3 at s4 ⊢
      refine ⟨_, rfl, l, _, rfl, .inr (SqT.of (s4 _ _ hl)), rfl, false, by simp [Row.vs], iteF ?_⟩
      refine ⟨_, rfl, x, Cn, dx, _, _, rfl, s4 _ _ h1, R.n.cl, R.n.n3, turn_turn _ _ _ _, _, rfl, x, Cn, dx, _, _, rfl, s4 _ _ h1, R.n.cl, R.n.n4, turn_tp _ _ _ _, (by show 2 ≤ sizeLine; decide), fun t3 nt3 => ?_⟩
      have s5 := s4.trans (same_new (o := .tup [.ref b, .int c]) nt3)
      refine ⟨t3, nd t s c, rfl, .tup (SqT.of upd_same) (.cons (.tup (SqT.of (s5 _ _ h3)) (dpInts [t, s])) (.cons (.int c) .nil)), y1, y2, y3, y4, ?_⟩
      refine ⟨_, rfl, _, rfl, _, rfl, slA (s5 _ _ hl) fun a3 H4 s6 ha3 => ?_⟩
      have s6 := s5.trans s6
      have ha3 : H4 a3 = some (.tup ([t, s].map V.int)) := ha3
      refine ⟨_, rfl, l, _, 5, .int c, rfl, rfl, SqT.of (s6 _ _ hl), atI_nat (j := 5) rfl, (by show 2 ≤ sizeLine; decide), fun t4 nt4 => ?_⟩
      have s7 := same_new (o := .tup [.ref a3, .int c]) nt4
      refine ⟨t4, nd t s c, rfl, .tup (SqT.of upd_same) (.cons (.tup (SqT.of (s7 _ _ ha3)) (dpInts [t, s])) (.cons (.int c) .nil)), y1, y2, y3, y4, rfl, ?_⟩
      rw [decide_eq_true rfl]
      exact kk _ (s6.trans s7)
end
end Ev
namespace Ev
open PySem L2 PySem.Spec PyProof.Rows LamX
/-! The law's own call, where two other defs make lambdas: the tables of both code objects are told of. -/
section
variable {P : Program} {w : World} {K : PySem.W.Frag} {mg mb : Str → Option Value}
theorem law_callT2 {k : Nat} {fa a c c2 T T2 : Addr} {fd : FuncData} {x : Str} {sp : Sp} {s : Shared} {vs : List Value} {ns : List Int}
    (inK : K.In s.heap) (ns1 : s.heap.Ns mainGlobals mg) (ns2 : s.heap.Ns builtinsNs mb) (blt : ∀ x : Str, x ≠ "__name__" → mb x = bootBuiltins x)
    (noLim : s.heap.NoLimit) (hg : s.gens = #[]) (hT : s.heap.get? T = some { cls := .none, data := .fields #[] }) (nT : K.lookup T = none) (hc : PySem.W.CodeHd s.heap c T)
    (hT2 : s.heap.get? T2 = some { cls := .none, data := .fields #[] }) (nT2 : K.lookup T2 = none) (hc2 : PySem.W.CodeHd s.heap c2 T2) (TT : T ≠ T2)
    (hbm : ∃ (bm : Addr) (ob : Obj), mg "__builtins__" = some (.ref bm) ∧ bm ≠ builtinsNs ∧ s.heap.get? bm = some ob ∧ ob.cls = .type "module" ∧ ob.dict = some builtinsNs ∧ ob.data = .plain)
    (ha : s.heap.get? a = some { cls := .type "list", data := .seq vs.toArray }) (hi : IntsAre vs ns) (hl : ns.length ≤ sizeLine) (hr : Room k callerA)
    (F : ∀ base : Heap, K.In base → base.Ns mainGlobals mg → TabB base mg c T → TabB base mg c2 T2 → FnG P w K mg base k fa fd [x] sp)
    (bt : ∀ (s : Shared) (u : Value), BindsTo s fd ⟨[u], []⟩ [(x, u)])
    (hsp : ∀ H : Hp, H T = some (.tbl #[]) → H T2 = some (.tbl #[]) → SqL K H a (ns.map V.int) → sp [.ref a] H (fun v _ => v = .bl true) fun _ _ _ => False) :
    codeAny (model P w) callerA (.call (.ref fa) ⟨[.ref a], []⟩)
      (fun r s' => r = .ok (.ret (.bool true)) ∧ OldK s.heap s'.heap ∧ s'.os = s.os ∧ AllBare s'.gens) s := by
  have rv := vals_ints hi
  have lv := hi.length
  have aT : a ≠ T := fun z => by
    rw [z, hT] at ha
    cases ha
  have aT2 : a ≠ T2 := fun z => by
    rw [z, hT2] at ha
    cases ha
  have key : ∀ H : Hp, H T = some (.tbl #[]) → H T2 = some (.tbl #[]) → (∀ b u, H b = some u → b ≠ T → b ≠ T2 → b = a ∧ K.lookup a = none ∧ u = .frz { cls := .type "list", data := .seq vs.toArray } (.lst (ns.map V.int))) →
      SqL K H a (ns.map V.int) → codeAny (model P w) callerA (.call (.ref fa) ⟨[.ref a], []⟩)
        (fun r s' => r = .ok (.ret (.bool true)) ∧ OldK s.heap s'.heap ∧ s'.os = s.os ∧ AllBare s'.gens) s := by
    intro H eT eT2 only sq
    have ok : HOk P w H s.heap := by
      intro b u e
      by_cases zb : b = T
      · subst zb
        rw [eT] at e
        cases e
        exact hT
      · by_cases zb2 : b = T2
        · subst zb2
          rw [eT2] at e
          cases e
          exact hT2
        · obtain ⟨rfl, _, rfl⟩ := only b u e zb zb2
          exact ⟨ha, by rw [List.length_map]; exact hl, vs, _, rv, ha⟩
    have plain : ∀ {b : Addr} {o : Obj}, s.heap.get? b = some o → (∀ vs n, o.data ≠ .seq vs n) → o.data ≠ .fields #[] → H b = none := by
      intro b o e d1 d2
      cases q : H b with
      | none => rfl
      | some u =>
        by_cases zb : b = T
        · subst zb
          rw [hT] at e
          cases e
          exact absurd rfl d2
        · by_cases zb2 : b = T2
          · subst zb2
            rw [hT2] at e
            cases e
            exact absurd rfl d2
          · obtain ⟨rfl, _, _⟩ := only b u q zb zb2
            rw [ha] at e
            cases e
            exact absurd rfl (d1 _ _)
    have names : ∀ {b : Addr} {m : Str → Option Value}, s.heap.Ns b m → (hidT s.heap H).Ns b m := by
      rintro b m ⟨o, es, n, e, d, r⟩
      exact ⟨o, es, n, hidT_get e (plain e (fun _ _ z => by rw [d] at z; cases z) fun z => by rw [d] at z; cases z), d, r⟩
    have inB : K.In (hidT s.heap H) := by
      intro b o e
      refine hidT_get (inK b o e) ?_
      cases q : H b with
      | none => rfl
      | some u =>
        by_cases zb : b = T
        · rw [zb, nT] at e
          cases e
        · by_cases zb2 : b = T2
          · rw [zb2, nT2] at e
            cases e
          · obtain ⟨rfl, n, _⟩ := only b u q zb zb2
            rw [n] at e
            cases e
    have tab : ∀ {c T : Addr}, PySem.W.CodeHd s.heap c T → s.heap.get? T = some { cls := .none, data := .fields #[] } → TabB (hidT s.heap H) mg c T := by
      intro c T hc hT
      obtain ⟨bm, ob, b1, b2, b3, b4, b5, b6⟩ := hbm
      refine ⟨?_, ⟨bm, ob, b1, b2, fun q => ?_, fun q => ?_, hidT_get b3 (plain b3 (fun _ _ z => by rw [b6] at z; cases z) fun z => by rw [b6] at z; cases z), b4, b5, b6⟩, fun z => ?_⟩
      · obtain ⟨o, us, file, tf, flags, tg, inF, text, tt, e1, r1, r2, r3, rest⟩ := hc
        refine ⟨o, us, file, tf, flags, tg, inF, text, tt, hidT_get e1 (plain e1 (fun _ _ z => by rw [r2] at z; cases z) fun z => ?_), r1, r2, r3, rest⟩
        rw [r2] at z
        cases z
        simp at r3
      · obtain ⟨o, es, n, e, d, _⟩ := ns1
        rw [q, e] at b3
        cases b3
        rw [d] at b6
        cases b6
      · rw [q, hT] at b3
        cases b3
        cases b6
      · obtain ⟨o, es, n, e, d, _⟩ := ns1
        rw [z, hT] at e
        cases e
        cases d
    obtain ⟨mc, l1, l2⟩ := noLim
    have md : Mod K mg (hidT s.heap H) := ⟨inB, names ns1, ⟨mb, names ns2, blt⟩, ⟨mc, names l1, l2⟩⟩
    have env : Env0 P w K mg (hidT s.heap H) callerA [] s H :=
      ⟨rfl, md, fun b o e => of_hidT e, Nat.le_of_eq (hidT_size _ _), trivial, (fun b hb => by cases hb), ok, .of_eq hg⟩
    have go := (F _ inB (names ns1) (tab hc hT) (tab hc2 hT2)).goes callerA [] s H ⟨[.ref a], []⟩ [.ref a] [.ref a] _ _ hr rfl env (bt s (.ref a)) (.cons rfl .nil) (hsp H eT eT2 sq)
    refine codeAny_mono go fun r s2 h2 => ?_
    cases r with
    | error e => exact False.elim h2
    | ok fl =>
      cases fl with
      | next => exact False.elim h2
      | brk => exact False.elim h2
      | cont => exact False.elim h2
      | ret u =>
        obtain ⟨v, H2, os, bare, un, ok2, rr, q⟩ := h2
        obtain rfl : v = V.bl true := q
        obtain rfl : u = Value.bool true := rr
        have others : ∀ b o, b ≠ T → b ≠ T2 → s.heap.get? b = some o → s2.heap.get? b = some o := by
          intro b o nb nb2 e
          cases q : H b with
          | none => exact un.keep b o e q (by intro z; cases z) (by simp)
          | some u =>
            obtain ⟨rfl, _, rfl⟩ := only b u q nb nb2
            obtain ⟨e1, _⟩ := ok b _ q
            obtain ⟨e2, _⟩ := ok2 b _ (un.frzs b _ _ q)
            rw [e] at e1
            cases e1
            exact e2
        obtain ⟨more, eM⟩ := un.tbls T #[] eT
        have grown : s2.heap.get? T = some { cls := .none, data := .fields (#[] ++ more) } := ok2 T _ eM
        obtain ⟨more2, eM2⟩ := un.tbls T2 #[] eT2
        have grown2 : s2.heap.get? T2 = some { cls := .none, data := .fields (#[] ++ more2) } := ok2 T2 _ eM2
        refine ⟨rfl, ⟨fun b o e => ?_, fun b o e => ?_⟩, os, bare⟩
        · by_cases nb : b = T
          · subst nb
            rw [hT] at e
            cases e
            exact .inr (.inl ⟨(hc.tab hT).isCodeTable, rfl, #[], more, rfl, grown⟩)
          · by_cases nb2 : b = T2
            · subst nb2
              rw [hT2] at e
              cases e
              exact .inr (.inl ⟨(hc2.tab hT2).isCodeTable, rfl, #[], more2, rfl, grown2⟩)
            · exact .inl (others b o nb nb2 e)
        · by_cases nb : b = T
          · subst nb
            exact ⟨_, grown⟩
          · by_cases nb2 : b = T2
            · subst nb2
              exact ⟨_, grown2⟩
            · exact ⟨o, others b o nb nb2 e⟩
  cases hk : K.lookup a with
  | none =>
    refine key (fun b => if b = T then some (.tbl #[]) else if b = T2 then some (.tbl #[]) else if b = a then some (.frz { cls := .type "list", data := .seq vs.toArray } (.lst (ns.map V.int))) else none) (if_pos rfl) ((if_neg TT.symm).trans (if_pos rfl)) (fun b u e nb nb2 => ?_)
      (.inl (.inr ⟨_, (if_neg aT).trans ((if_neg aT2).trans (if_pos rfl))⟩))
    rw [if_neg nb, if_neg nb2] at e
    by_cases z : b = a
    · rw [if_pos z] at e
      cases e
      exact ⟨z, hk, rfl⟩
    · rw [if_neg z] at e
      cases e
  | some o =>
    have e := inK a o hk
    rw [ha] at e
    cases e
    refine key (fun b => if b = T then some (.tbl #[]) else if b = T2 then some (.tbl #[]) else none) (if_pos rfl) ((if_neg TT.symm).trans (if_pos rfl)) (fun b u e nb nb2 => by rw [if_neg nb, if_neg nb2] at e; cases e) (.inr ⟨_, vs.toArray, _, hk, rfl, rfl, rfl, ?_, by simpa using rv⟩)
    rw [List.size_toArray, lv]
    exact hl
end
/-- the law's call, the tables of two other defs' code objects told -/
theorem walk_ofGT2 {l : PySem.W.OpenLaw} {n k : Nat} {q : Program} {loose : List Str} {XP : (Str → Option Value) → Heap → Prop} {YP : World → Heap → Prop}
    {d : DefRec} {x xr xs : Str} (hn : l.most = some n) (hn2 : n ≤ sizeLine) (hdf : d.params.defaults = []) (hr : Room k callerA) (hrec : ((recsOf q).any fun e => e.name == xr) = true) (hrec2 : ((recsOf q).any fun e => e.name == xs) = true)
    (F : ∀ (w : World) (mg : Str → Option Value) (fa : Addr) (h : Heap), YP w h → h.Ns mainGlobals mg → mg d.name = some (.ref fa) →
      ∃ (K : PySem.W.Frag) (fd fdr fds : FuncData) (sp : Sp) (fr c T fs c2 T2 : Addr) (o o2 : Obj), K.In h ∧ (∀ (s : Shared) (u : Value), BindsTo s fd ⟨[u], []⟩ [(x, u)]) ∧
        (mg xr = some (.ref fr) ∧ K.lookup fr = some o ∧ o.data = .func fdr ∧ fdr.code = .ref c ∧ PySem.W.codeHdIn K c T = true ∧ K.lookup T = none) ∧
        (mg xs = some (.ref fs) ∧ K.lookup fs = some o2 ∧ o2.data = .func fds ∧ fds.code = .ref c2 ∧ PySem.W.codeHdIn K c2 T2 = true ∧ K.lookup T2 = none) ∧ T ≠ T2 ∧
        (∀ (H : Hp) (a : Addr) (ns : List Int), ns.length ≤ n → H T = some (.tbl #[]) → H T2 = some (.tbl #[]) → SqL K H a (ns.map V.int) → sp [.ref a] H (fun v _ => v = .bl true) fun _ _ _ => False) ∧
        ∀ base : Heap, K.In base → base.Ns mainGlobals mg → TabB base mg c T → TabB base mg c2 T2 → FnG l.prog w K mg base k fa fd [x] sp) :
    PySem.W.WalkO q loose XP YP l.row.toRowW d [] (fun f vs => PySem.call f vs) := by
  refine Att.attach_callB hn hdf fun w s0 s1 mg mb fa o pm cd doc a vs ns G Y h1 h2 h3 h4 h5 h6 h7 hbits h8 => ?_
  obtain ⟨K, fd, fdr, fds, sp, fr, c, T, fs, c2, T2, o1, o2, inK, bt, ⟨k0, k1, k2, k3, kc, kT⟩, ⟨m0, m1, m2, m3, mc, mT⟩, TT, hsp, hF⟩ := F w mg fa _ Y G.T.g h4
  have get : ∀ {xr : Str} {fr c T : Addr} {o1 : Obj} {fdr : FuncData}, ((recsOf q).any fun e => e.name == xr) = true → mg xr = some (.ref fr) → K.lookup fr = some o1 → o1.data = .func fdr → fdr.code = .ref c → PySem.W.CodeHd s1.heap c T → s1.heap.get? T = some { cls := .none, data := .fields #[] } := by
    intro xr fr c T o1 fdr hrec k0 k1 k2 k3 hc
    obtain ⟨dL, hm, e1⟩ := List.any_eq_true.mp hrec
    obtain ⟨a2, o2, fd2, c2, P2, g1, g2, g3, g4, g5, g6⟩ := G.T.tab dL hm
    rw [beq_iff_eq.mp e1, k0] at g1
    cases g1
    rw [inK _ _ k1] at g2
    cases g2
    rw [k2] at g3
    cases g3
    rw [k3] at g4
    cases g4
    obtain ⟨⟨oc, vc, e1, _, e3, e4⟩, hP⟩ := g6
    obtain ⟨oc', vs', file, tf, flags, tg, inF, text, tt, f1, f2, f3, f4, _⟩ := id hc
    rw [f1] at e1
    cases e1
    rw [f3] at e3
    cases e3
    rw [f4] at e4
    cases e4
    exact hP
  have hc := PySem.W.codeHd_of_K inK kc
  have hc2 := PySem.W.codeHd_of_K inK mc
  exact law_callT2 inK G.T.g G.T.b G.T.builtins G.T.nolimit h8 (get hrec k0 k1 k2 k3 hc) kT hc (get hrec2 m0 m1 m2 m3 hc2) mT hc2 TT G.T.bmain h5 h6 (Nat.le_trans h7 hn2) hr hF bt (fun H eT eT2 sq => hsp H a ns h7 eT eT2 sq)
end Ev
namespace Ev
open PySem L2 PySem.Spec PyProof.Rows LamX
theorem passX0 {P : Program} {w : World} {X : Cx} : Passes (L2.CX P w) X E0 := fun _ _ _ _ _ _ _ h => by
  obtain ⟨a, B, H', cls, d, _, _, _, _, _, _, _, z⟩ := h
  exact z.elim
/-- all is kept but the list at p and tables -/
def ExtP (p : Addr) (H H' : Hp) : Prop := ∀ b o, b ≠ p → H b = some o → (∀ ps : Array Value, o ≠ HO.tbl ps) → H' b = some o
theorem ExtP.refl (p : Addr) (H : Hp) : ExtP p H H := fun _ _ _ e _ => e
theorem ExtP.trans {p : Addr} {H H1 H2 : Hp} (a : ExtP p H H1) (b : ExtP p H1 H2) : ExtP p H H2 := fun c o n e t => b c o n (a c o n e t) t
theorem ExtN.p {p : Addr} {H H' : Hp} (h : ExtN H H') : ExtP p H H' := fun b o _ e t => h b o e t
theorem But.p {p : Addr} {H H' : Hp} (h : But p H H') : ExtP p H H' := fun b o n e _ => h b o n e
theorem Same.p {p : Addr} {H H' : Hp} (h : Same H H') : ExtP p H H' := fun b o _ e _ => h b o e
theorem Same.extN {H H' : Hp} (k : Same H H') : ExtN H H' := fun b o e _ => k b o e
theorem Tabs.but {T : List (Addr × Str)} {p : Addr} {H H' : Hp} {xs : List V} (t : Tabs T H) (hp : H p = some (.lst xs)) (k : But p H H') : Tabs T H' := by
  intro q hq
  obtain ⟨ps, h1, h2, h3⟩ := t q hq
  refine ⟨ps, k _ _ (fun z => by rw [z, hp] at h1; cases h1) h1, h2, fun pos cv hc => ?_⟩
  obtain ⟨c, e1, e2⟩ := h3 pos cv hc
  refine ⟨c, e1, k _ _ (fun z => ?_) e2⟩
  rw [z, hp] at e2
  have e3 : HO.lst xs = HO.ext _ := Option.some.inj e2
  cases e3
theorem ObjAt.ext {Ct Cn : Addr} {H H' : Hp} {r : Addr} {row : Row} (h : ObjAt Ct Cn H r row) (k : ExtN H H') : ObjAt Ct Cn H' r row := by
  cases row with
  | tr p q kk =>
    obtain ⟨dx, a, h1, h2⟩ := h
    exact ⟨dx, a, k _ _ h1 (fun _ z => by cases z), k _ _ h2 (fun _ z => by cases z)⟩
  | tn p q kk t s c =>
    obtain ⟨dx, a, b, h1, h2, h3⟩ := h
    exact ⟨dx, a, b, k _ _ h1 (fun _ z => by cases z), k _ _ h2 (fun _ z => by cases z), k _ _ h3 (fun _ z => by cases z)⟩
theorem Pen.ext {L : Addr} {H H' : Hp} {p : Addr} {B : Int} (h : Pen L H p B) (k : ExtN H H') : Pen L H' p B := by
  obtain ⟨ns, t, c, h1, h2, r⟩ := h
  exact ⟨ns, t, c, k _ _ h1 (fun _ z => by cases z), k _ _ h2 (fun _ z => by cases z), r⟩
def Out.good : Out → Prop
  | .ok => True
  | .rule m => (PyData.str m).showable = true ∧ (PyData.str m).shown.length ≤ sizeLine
  | .halves w => w = 2 ∨ w = 3
theorem halves_good (p q k : Int) : (halvesO p q k).good := by
  unfold halvesO
  split
  · exact .inl rfl
  · split
    · trivial
    · exact .inr rfl
theorem outP_good (o : Option (List V)) (k : V) : (outP o k).good := by
  unfold outP
  split
  · exact (show (PyData.str "times").showable = true ∧ (PyData.str "times").shown.length ≤ sizeLine by decide +kernel)
  · split
    · exact (show (PyData.str "plus").showable = true ∧ (PyData.str "plus").shown.length ≤ sizeLine by decide +kernel)
    · trivial
theorem outQ_good (o : Option (List V)) (k : V) : (outQ o k).good := by
  unfold outQ
  split
  · exact (show (PyData.str "turn").showable = true ∧ (PyData.str "turn").shown.length ≤ sizeLine by decide +kernel)
  · split
    · exact (show (PyData.str "turn_plus").showable = true ∧ (PyData.str "turn_plus").shown.length ≤ sizeLine by decide +kernel)
    · trivial
theorem outH_good (o : Option (List V)) (k : V) : (outH o k).good := by
  unfold outH
  split
  · exact halves_good _ _ _
  · trivial
theorem then_good {x y : Out} (h1 : x.good) (h2 : y.good) : (x.then y).good := by
  cases x <;> assumption
theorem outT_good (o : Option (List V)) (k : V) : (outT o k).good := then_good (outP_good o k) (outH_good o k)
theorem outN_good (o : Option (List V)) (k : V) (o2 : Option (List V)) (c : V) : (outN o k o2 c).good := then_good (outP_good o k) (then_good (outQ_good o2 c) (outH_good o k))
theorem row_good (r : Row) : r.out.good := by
  cases r
  · exact outT_good _ _
  · exact outN_good _ _ _ _
/-- the word and the text of an outcome -/
def Out.word : Out → Option (Str × Str)
  | .ok => none
  | .rule m => some ("rule", (PyData.str m).shown)
  | .halves w => some ("halves", (PyData.int w).shown)
theorem heard_out {K : PySem.W.Frag} {B N : Addr} {G0 : Hp} {g : Prop} {QQ : Addr → Hp → Prop} {o : Out} (gd : o.good) (hok : o = .ok → g)
    (hno : ∀ w x, o.word = some (w, x) → ∀ r G, Same G0 G → G0 r = none → G r = some (.tup [.str w, .str x]) → QQ r G) : OutK B N G0 (EHeard K B N QQ) g o := by
  cases o with
  | ok => exact hok rfl
  | rule m =>
    intro H1 s1 d H' s2 nd hd
    refine ⟨d, .str m, "part", "rule", _, rfl, hd, ⟨.str m, .plain (.str m) rfl, gd.1, (by show 0 ≤ 32; decide), gd.2, rfl⟩, .inl ⟨rfl, rfl, rfl⟩, fun r G sG nr hr => ?_⟩
    exact hno _ _ rfl r G (s1.trans (s2.trans sG)) (Same.gone s1 (Same.gone s2 nr)) hr
  | halves v =>
    intro H1 s1 d H' s2 nd hd
    have sh : (PyData.int v).showable = true ∧ (PyData.int v).shown.length ≤ sizeLine := by
      rcases gd with rfl | rfl <;> decide +kernel
    refine ⟨d, .int v, "weight", "halves", _, rfl, hd, ⟨.int v, .plain (.int v) rfl, sh.1, (by show 0 ≤ 32; decide), sh.2, rfl⟩, .inr ⟨rfl, rfl, rfl⟩, fun r G sG nr hr => ?_⟩
    exact hno _ _ rfl r G (s1.trans (s2.trans sG)) (Same.gone s1 (Same.gone s2 nr)) hr
/-- == and != of rules -/
def rRule (Ct Cn : Addr) (neg : Bool) : R2 := fun x y H Q => ∃ (a b : Addr) (r1 r2 : Row), x = .ref a ∧ y = .ref b ∧ ObjAt Ct Cn H a r1 ∧ ObjAt Ct Cn H b r2 ∧ Q (.bl (neg ^^ rowB r1 r2)) H
structure REq (P : Program) (w : World) (K : PySem.W.Frag) (mg : Str → Option Value) (base : Heap) (Ct Cn : Addr) : Prop where
  two : RTwo K Ct Cn
  t : ∃ f, FnR P w K mg base CX0 1 f (spEqR Ct Cn false) ∧ PySem.W.findIn K (.ref Ct) "__eq__" = some (some (.ref f)) ∧ PySem.W.isFn K (.ref f) = true
  n : ∃ f, FnR P w K mg base CX0 1 f (spEqR Ct Cn true) ∧ PySem.W.findIn K (.ref Cn) "__eq__" = some (some (.ref f)) ∧ PySem.W.isFn K (.ref f) = true
  tne : PySem.W.findIn K (.ref Ct) "__ne__" = some (some (.builtin "object.__ne__"))
  nne : PySem.W.findIn K (.ref Cn) "__ne__" = some (some (.builtin "object.__ne__"))
theorem obj_ty {K : PySem.W.Frag} {Ct Cn : Addr} {H : Hp} {a : Addr} {r : Row} (R : RTwo K Ct Cn) (h : ObjAt Ct Cn H a r) : (∃ dx fs, H a = some (.ins (r.cls Ct Cn) dx fs)) ∧ TyX K H (.ref a) (.ref (r.cls Ct Cn)) := by
  cases r with
  | tr p q k =>
    obtain ⟨dx, a, h1, h2⟩ := h
    exact ⟨⟨dx, _, h1⟩, tyIns R.t R.it h1⟩
  | tn p q k t s c =>
    obtain ⟨dx, a, b, h1, h2, h3⟩ := h
    exact ⟨⟨dx, _, h1⟩, tyIns R.n R.ins h1⟩
section
variable {X : Cx} {Ct Cn : Addr}
theorem rule_own {neg turn : Bool} {C : Addr} {a b : Addr} {r1 r2 : Row} {H : Hp} {Q : VK} (R : RTwo X.K Ct Cn) (h1 : ObjAt Ct Cn H a r1) (h2 : ObjAt Ct Cn H b r2) (hC : C = (r1.cls Ct Cn)) (hm : r1.isT = turn) (q : Q (.bl (neg ^^ rowB r1 r2)) H) :
    rOwnB X.K C (spEqR Ct Cn turn) E0 neg (.ref a) (.ref b) H Q := by
  obtain ⟨⟨dx, fs, e⟩, _⟩ := obj_ty R h1
  obtain ⟨_, ty⟩ := obj_ty R h2
  refine ⟨a, dx, fs, _, rfl, by rw [hC]; exact e, ty, ?_, a, b, r1, r2, rfl, h1, h2, hm, _, rfl, q⟩
  subst hC
  cases r1 <;> cases r2
  · exact nf_own
  · exact nf_sub R.sub2
  · exact nf_sub R.sub1
  · exact nf_own
theorem op_neR (R : REq X.prog X.w X.K X.mg X.base Ct Cn) (hr : Room 2 X.A) : OpR X (compareOp .NotEq) (rRule Ct Cn true) := by
  intro pins s σ H x y v u Q I rx ry h
  obtain ⟨a, b, r1, r2, rfl, rfl, h1, h2, q⟩ := h
  obtain ⟨f, Ft, ht, hft⟩ := R.t
  obtain ⟨g, Fn, hn, hfn⟩ := R.n
  cases r1 with
  | tr p' q' k' => exact op_neO (E := E0) ht R.tne R.two.it.hm hft Ft hr pass0 pins s σ H _ _ v u Q I rx ry (rule_own R.two h1 h2 rfl rfl q)
  | tn p' q' k' t' s' c' => exact op_neO (E := E0) hn R.nne R.two.ins.hm hfn Fn hr pass0 pins s σ H _ _ v u Q I rx ry (rule_own R.two h1 h2 rfl rfl q)
theorem op_eqR (R : REq X.prog X.w X.K X.mg X.base Ct Cn) (hr : Room 2 X.A) : OpR X (compareOp .Eq) (rRule Ct Cn false) := by
  intro pins s σ H x y v u Q I rx ry h
  obtain ⟨a, b, r1, r2, rfl, rfl, h1, h2, q⟩ := h
  obtain ⟨f, Ft, ht, hft⟩ := R.t
  obtain ⟨g, Fn, hn, hfn⟩ := R.n
  cases r1 with
  | tr p' q' k' => exact op_eqO (E := E0) ht hft Ft (hr.mono (by decide)) pass0 pins s σ H _ _ v u Q I rx ry (rule_own R.two h1 h2 rfl rfl q)
  | tn p' q' k' t' s' c' => exact op_eqO (E := E0) hn hfn Fn (hr.mono (by decide)) pass0 pins s σ H _ _ v u Q I rx ry (rule_own R.two h1 h2 rfl rfl q)
end
def Row.fit : Row → Prop
  | .tr p q k => 1 ≤ q ∧ q ≤ p ∧ p ≤ 6 ∧ -6 ≤ k ∧ k ≤ 6
  | .tn p q k t s c => (1 ≤ q ∧ q ≤ p ∧ p ≤ 6 ∧ -6 ≤ k ∧ k ≤ 6) ∧ okT t s c
theorem small_big {n : Int} (h : -100 ≤ n ∧ n ≤ 100) : Big n := Nat.lt_of_le_of_lt (show n.natAbs ≤ 100 by omega) (by decide +kernel)
theorem fit_big {r : Row} (h : r.fit) : r.big := by
  cases r with
  | tr p q k => 
    obtain ⟨h1, h2, h3, h4, h5⟩ := h
    exact ⟨small_big (by omega), small_big (by omega), small_big (by omega)⟩
  | tn p q k t s c =>
    obtain ⟨⟨h1, h2, h3, h4, h5⟩, ⟨h6, h7⟩, ⟨h8, h9⟩, h10, h11⟩ := h
    exact ⟨small_big (by omega), small_big (by omega), small_big (by omega), small_big (by omega), small_big (by omega), small_big (by omega)⟩
theorem inB_ok {l m i : Int} (h1 : l ≤ i) (h2 : i ≤ m) : inB l m (.int i) = true := by
  show (decide (l ≤ i) && decide (i ≤ m)) = true
  rw [decide_eq_true h1, decide_eq_true h2]
  rfl
theorem outP_fit {p q k : Int} (h : 1 ≤ q ∧ q ≤ p ∧ p ≤ 6 ∧ -6 ≤ k ∧ k ≤ 6) : outP (some [.int p, .int q]) (.int k) = .ok := by
  obtain ⟨h1, h2, h3, h4, h5⟩ := h
  have e : timesB (some [.int p, .int q]) = true := by
    show ((inB 1 6 (.int p) && inB 1 6 (.int q)) && decide (q ≤ p)) = true
    rw [inB_ok (by omega) h3, inB_ok h1 (by omega), decide_eq_true h2]
    rfl
  unfold outP
  rw [if_neg (by rw [e]; simp), if_neg (by rw [inB_ok h4 h5]; simp)]
theorem fit_out {r : Row} (h : r.fit) : r.out = halvesO r.p r.q r.k := by
  cases r with
  | tr p q k => show (outP _ _).then _ = _; rw [outP_fit h]; rfl
  | tn p q k t s c =>
    obtain ⟨h1, ⟨h6, h7⟩, ⟨h8, h9⟩, h10, h11⟩ := h
    show (outP _ _).then ((outQ _ _).then _) = _
    rw [outP_fit h1]
    have e : pairB 8 (some [.int t, .int s]) = true := by
      show (inB 1 8 (.int t) && inB 1 8 (.int s)) = true
      rw [inB_ok h6 h7, inB_ok h8 h9]
      rfl
    unfold outQ
    rw [if_neg (by rw [e]; simp), if_neg (by rw [inB_ok h10 h11]; simp)]
    rfl
end Ev
namespace Ev
open PySem L2 PySem.Spec PyProof.Rows LamX
theorem cut_to {xs : List V} {j : Nat} (h : j ≤ xs.length) : cutV xs none (some (j : Int)) = xs.take j := by
  unfold cutV
  rw [HT.sIx_none, HT.sIx_nat, Nat.min_eq_left h]
  simp
theorem cut_from {xs : List V} {j : Nat} (h : j ≤ xs.length) : cutV xs (some (j : Int)) none = xs.drop j := by
  unfold cutV
  rw [HT.sIx_none, HT.sIx_nat, Nat.min_eq_left h]
  rw [← List.length_drop]
  exact List.take_length
theorem bump (row : Row) (j : Nat) (h : j < row.vs.length) : ∃ (row' : Row) (i : Int), row.vs[j]? = some (.int i) ∧ row'.vs = row.vs.take j ++ [.int (i + 1)] ++ row.vs.drop (j + 1) ∧ rowB row' row = false ∧ rowB row row' = false := by
  cases row with
  | tr p q k =>
    match j, h with
    | 0, _ => exact ⟨.tr (p + 1) q k, p, rfl, rfl, by simp [rowB]; omega, by simp [rowB]; omega⟩
    | 1, _ => exact ⟨.tr p (q + 1) k, q, rfl, rfl, by simp [rowB]; omega, by simp [rowB]; omega⟩
    | 2, _ => exact ⟨.tr p q (k + 1), k, rfl, rfl, by simp [rowB]; omega, by simp [rowB]; omega⟩
    | n + 3, h => exact absurd h (by show ¬ n + 3 < 3; omega)
  | tn p q k t s c =>
    match j, h with
    | 0, _ => exact ⟨.tn (p + 1) q k t s c, p, rfl, rfl, by simp [rowB]; omega, by simp [rowB]; omega⟩
    | 1, _ => exact ⟨.tn p (q + 1) k t s c, q, rfl, rfl, by simp [rowB]; omega, by simp [rowB]; omega⟩
    | 2, _ => exact ⟨.tn p q (k + 1) t s c, k, rfl, rfl, by simp [rowB]; omega, by simp [rowB]; omega⟩
    | 3, _ => exact ⟨.tn p q k (t + 1) s c, t, rfl, rfl, by simp [rowB]; omega, by simp [rowB]; omega⟩
    | 4, _ => exact ⟨.tn p q k t (s + 1) c, s, rfl, rfl, by simp [rowB]; omega, by simp [rowB]; omega⟩
    | 5, _ => exact ⟨.tn p q k t s (c + 1), c, rfl, rfl, by simp [rowB]; omega, by simp [rowB]; omega⟩
    | n + 6, h => exact absurd h (by show ¬ n + 6 < 6; omega)
theorem catA {K : PySem.W.Frag} {a b : Addr} {xs ys : List V} {H : Hp} {Q : VK} (h1 : H a = some (.tup xs)) (h2 : H b = some (.tup ys)) (hl : xs.length + ys.length ≤ 1000) (k : ∀ (r : Addr) (H' : Hp), Same H H' → H' r = some (.tup (xs ++ ys)) → Q (.ref r) H') : rCatA K (.ref a) (.ref b) H Q := by
  refine ⟨a, b, xs, ys, rfl, rfl, SqT.of h1, SqT.of h2, Nat.le_trans hl (by decide), fun e => ?_, fun _ e => ?_, fun _ _ r nr => k r _ (same_new nr) upd_same⟩
  · subst e
    exact k b H (Same.refl H) h2
  · subst e
    exact k a H (Same.refl H) (by rw [List.append_nil]; exact h1)
theorem wS_shown {w : Int} (h : w = 2 ∨ w = 3) : (PyData.int w).shown = wS w := by
  rcases h with rfl | rfl <;> decide +kernel
theorem halves_dp {K : PySem.W.Frag} {G : Hp} {r : Addr} {x : Str} (e : G r = some (.tup [.str "halves", .str x])) : Dp K G (.ref r) (.tuple [.str "halves", .str x]) := .tup (SqT.of e) (.cons (.str _) (.cons (.str _) .nil))
/-- the heard call, the def that makes the lambda apart -/
structure HeardB (P : Program) (w : World) (K : PySem.W.Frag) (mg : Str → Option Value) (B N FE fh : Addr) (fdh : FuncData) : Prop where
  F : Fun K "_law_heard" "_law_heard" sHeard fh fdh
  g : mg "_law_heard" = some (.ref fh)
  b : Binds K fdh ["_law_ask"] []
  mv : mg "ValueError" = none
  mr : mg "repr" = none
  gF : mg "FairError" = some (.ref FE)
  gB : mg "BadRule" = some (.ref B)
  gN : mg "NoHalves" = some (.ref N)
  HB : HeldC K B
  HN : HeldC K N
  noB : PySem.W.findIn K (.ref B) "part" = some none
  noN : PySem.W.findIn K (.ref N) "weight" = some none
  teB : PySem.W.exmOne K (.ref B) (.ref FE) = some true
  teN : PySem.W.exmOne K (.ref N) (.ref FE) = some true
  iBN : PySem.W.kitOne K (.ref B) (.ref N) = some false
  iNB : PySem.W.kitOne K (.ref N) (.ref B) = some false
  vB : PySem.W.kitOne K (.ref B) (.type "ValueError") = some true
  vN : PySem.W.kitOne K (.ref N) (.type "ValueError") = some true
abbrev nMade : List Str := ["_law_pen_here", "_law_some", "_law_heard_here", "_law_due", "_law_at", "_law_other"]
theorem scMade : FnScope nMade ["_law_pen_here", "_law_some"] (defScope sMade) := ⟨rfl, rfl, rfl, by decide +kernel, rfl, by decide +kernel, by decide +kernel⟩
def spMade (TL : List (Addr × Str)) : Sp := fun vs H Q _ => ∃ (p L l : Addr) (row : Row) (b : Int), vs = [.ref p, .ref l] ∧ b ≤ 900000 ∧ Pen L H p b ∧ H l = some (.tup row.vs) ∧ row.fit ∧ Tabs TL H ∧ ∀ H', ExtP p H H' → Pen L H' p (b + 1) → Tabs TL H' → Q (.bl true) H'
section
variable {P : Program} {w : World} {K : PySem.W.Frag} {mg : Str → Option Value} {base : Heap}
theorem ok_made {f Ct Cn B N FE cc TT fh : Addr} {TL : List (Addr × Str)} {fd fdh : FuncData} {q : Str} (F : Fun K "_law_made_right" "_law_made_right" sMade f fd) (T : Blt mg) (hc : fd.code = .ref cc) (TB : TabB base mg cc TT) (hTL : (TT, q) ∈ TL) (hTL2 : ∀ p ∈ TL, p.1 = TT → p.2 = q)
    (hq : q = (envOfC "_law_made_right" (defScope sMade) 0 f (.ref cc)).qual ++ ("<lambda>" : Str)) (HH : HeardB P w K mg B N FE fh fdh) (R : REq P w K mg base Ct Cn)
    (D1 : Df P w K mg base 1 "_law_draw" ["_law_pen_here", "_law_many"] spDraw) (D2 : Df P w K mg base 1 "_law_halves_due" ["_law_some"] spDue)
    {fT : Addr} {fdT : FuncData} (GT : FnG P w K mg base 1 fT fdT ["_law_rule_so", "_law_some"] (spTells Ct Cn)) (gT : mg "_law_tells" = some (.ref fT)) (kT : PySem.W.keepIn K (.ref fT) = true) (bT : Binds K fdT ["_law_rule_so", "_law_some"] [])
    (D3 : DfX P w K mg base 8 "_law_rule" ["_law_some"] (spRule Ct Cn B N)) : FnG P w K mg base 11 f fd ["_law_pen_here", "_law_some"] (spMade TL) := by
  obtain ⟨f1, fd1, G1, g1, k1, b1⟩ := D1.ex
  obtain ⟨f2, fd2, G2, g2, k2, b2⟩ := D2.ex
  obtain ⟨f3, fd3, G3, g3, k3, b3⟩ := D3.ex
  obtain ⟨FH, gh, bh, mv, mr, gF, gB, gN, HB, HN, noB, noN, teB, teN, iBN, iNB, vB, vN⟩ := HH
  have kh := FH.kp
  obtain ⟨och, odh, kVh, doch, pmh, anh, cdvh, cth, oslh, rfl, lkh, hcdh⟩ := FH.ex
  refine fng_code F scMade (fun vs H Q E h => ?_) (fun cdv ecd A outer s H vs Q E hr gd h => ?_)
  · obtain ⟨p, L, l, row, b, rfl, _⟩ := h
    rfl
  · obtain ⟨p, L, l, row, b, rfl, hb, pn, hl, fit, hT, kk⟩ := h
    obtain rfl : cdv = .ref cc := ecd.symm.trans hc
    have hr1 : Room 1 _ := hr.mono (by decide)
    have hr2 : Room 2 _ := hr.mono (by decide)
    have hr8 : Room 8 _ := hr.mono (by decide)
    have hq' : q = (cxOf CX0 P w K mg base nMade "_law_made_right" (defScope sMade) f (.ref cc) A outer s H E).nox.env.qual ++ ("<lambda>" : Str) := hq
    have lam : ∀ {params : Arguments} {body : Expr} {scope : Scope} {lpos pos p : Pos} {t : XK → TE}, LamS (defScope sMade) scope → defaultsOf params (cxOf CX0 P w K mg base nMade "_law_made_right" (defScope sMade) f (.ref cc) A outer s H E).env = ([], []) →
        (∀ (q : Str) (cl : List (Str × Addr)) (pm cv ctv : Value), bindArgs (PySem.W.kla_fn "<lambda>" q params body scope cl pm cv ctv) ⟨[], []⟩ = pure []) →
        (∀ (A' : Around) (outer' : List Env) (s' : Shared) (H' : Hp) (E' : XK) (f' c' : Addr), Room 8 (A'.deeper (lamEnv (cxOf CX0 P w K mg base nMade "_law_made_right" (defScope sMade) f (.ref cc) A outer s H E).nox scope s'.heap.objs.size f' c')) →
          PE (lamCx (cxOf CX0 P w K mg base nMade "_law_made_right" (defScope sMade) f (.ref cc) A outer s H E).nox A' outer' s' H' E' scope f' c') body (t E')) →
        PE (cxOf CX0 P w K mg base nMade "_law_made_right" (defScope sMade) f (.ref cc) A outer s H E).nox (.Call (.Name "_law_heard" p) [.Lambda params body scope lpos] [] pos) (tLam TL (THeard K B N) t) := by
      intro params body scope lpos pos p t LS hdef hbind hbody
      subst hq'
      have h4 : Gl (cxOf CX0 P w K mg base nMade "_law_made_right" (defScope sMade) f (.ref cc) A outer s H E).nox "_law_heard" := by rfl
      refine pe_lamcall (X := (cxOf CX0 P w K mg base nMade "_law_made_right" (defScope sMade) f (.ref cc) A outer s H E).nox) (k := 8) (T := TL) (TT := THeard K B N) (x := "_law_heard") (a := "_law_ask") (g := fh) (c := cc) (P := TT) (pg := defArgs sHeard) (bg := defBody sHeard) (sg := defScope sHeard)
        (Ng := ["_law_ask", "_law_caught", "_law_found", "error", "_law_some"]) h4 gh kh lkh hcdh bh scHeard ?_ ?_ ?_ ?_ ?_ ?_ ?_ ?_ ?_ ?_ ?_ ?_ ?_ ?_ ?_
      · rfl
      · exact .inl rfl
      · exact heard_gives gd hr T mv mr gF gB gN HB HN noB noN teB teN kit_self iBN iNB kit_self vB vN
      · exact TB
      · rfl
      · exact hTL
      · exact hTL2
      · exact hr
      · exact LS
      · exact hdef
      · exact hbind
      · exact hbody
      · decide
      · decide
      · decide
    have hu : (cxOf CX0 P w K mg base nMade "_law_made_right" (defScope sMade) f (.ref cc) A outer s H E).nox.A.units + 64 < cLine := Room.units hr
    refine ⟨_, pss_cons (ps_par (i := 2) (j := 3) rfl scMade.nd rfl rfl (by decide) rfl rfl (pa_cons (lam (t := fun E' => tCall (spRule Ct Cn B N) [] E' (tCons (tVar 1) tNil)) (lamS_by (by decide +kernel)) rfl (fun _ _ _ _ _ => rfl) (fun _ _ _ _ E' _ _ hrL => pe_call G3 hrL (by rfl) g3 k3 b3 .nil (E := E') (passes_call (takes_of rfl rfl rfl rfl) (fun _ _ _ _ h => h)) (pa_cons (pv 1) pa_nil)))
        (pa_cons (pe_call G2 hr1 (by rfl) g2 k2 b2 .nil pass0 (pa_cons (pv 1) pa_nil)) pa_nil)) (by rfl))
      (pss_cons (ps_if (pt_cmpR op_notN (pv 3) pe_non (nomark _)) (pss_one (ps_ret (pe_cmpR (op_eqD hu) (pv 2) (pv 3) (nomark _)))) pss_nil)
      (pss_cons (ps_if (PW.pt (pw_or (pt_not (pt_val (pe_callB call_isi (by rfl) T.isi (by decide +kernel) (pa_cons (pv 2) (pa_cons (pe_bltn (v := .ty "list") (by rfl) T.list (by decide +kernel) rfl) pa_nil)))))
        (pw_or (pt_not (pt_val (pe_callG (E := E0) GT hr1 gd (by rfl) gT kT bT (pa_cons (pe_ix ix_list (pv 2) pe_int (fun _ _ => rfl)) (pa_cons (pv 1) pa_nil)))))
        (pw_or1 (pt_cmpR (op_neR R hr2) (pe_ix ix_list (pv 2) pe_int (fun _ _ => rfl)) (pe_call G3 hr8 (by rfl) g3 k3 b3 .nil passX0 (pa_cons (pv 1) pa_nil)) (nomark _)))))) (pss_one (ps_ret pe_bl)) pss_nil)
      (pss_cons (ps_set (i := 4) scMade.nd rfl (.inl rfl) (pe_call G1 hr1 (by rfl) g1 k1 b1 .nil pass0 (pa_cons (pv 0) (pa_cons (pe_callB call_len_seq (by rfl) T.len PySem.boot_len (pa_cons (pv 1) pa_nil)) pa_nil))))
      (pss_cons (ps_set (i := 5) scMade.nd rfl (.inr rfl) (pe_op op_catA (pe_op op_catA (pe_slice sl_tupA (pv 1) po_none (po_some (pv 4))) (pe_tup (pa_cons (pe_op op_add (pe_ix ix_tup (pv 1) (pv 4) (fun _ _ => rfl)) pe_int) pa_nil))) (pe_slice sl_tupA (pv 1) (po_some (pe_op op_add (pv 4) pe_int)) po_none)))
      (pss_cons (ps_set (i := 2) scMade.nd rfl (.inl rfl) (lam (t := fun E' => tCall (spRule Ct Cn B N) [] E' (tCons (tVar 5) tNil)) (lamS_by (by decide +kernel)) rfl (fun _ _ _ _ _ => rfl) (fun _ _ _ _ E' _ _ hrL => pe_call G3 hrL (by rfl) g3 k3 b3 .nil (E := E') (passes_call (takes_of rfl rfl rfl rfl) (fun _ _ _ _ h => h)) (pa_cons (pv 5) pa_nil))))
      (pss_one (ps_ret (L2.pe_or (pe_not (pe_callB call_isi (by rfl) T.isi (by decide +kernel) (pa_cons (pv 2) (pa_cons (pe_bltn (v := .ty "list") (by rfl) T.list (by decide +kernel) rfl) pa_nil))))
        (pe_one (pe_and (pe_cmpR (op_neR R hr2) (pe_ix ix_list (pv 2) pe_int (fun _ _ => rfl)) (pe_call G3 hr8 (by rfl) g3 k3 b3 .nil passX0 (pa_cons (pv 1) pa_nil)) (nomark _)) (pe_one (pe_cmpR (op_neR R hr2) (pe_call G3 hr8 (by rfl) g3 k3 b3 .nil passX0 (pa_cons (pv 1) pa_nil)) (pe_ix ix_list (pv 2) pe_int (fun _ _ => rfl)) (nomark _))))))))))))), ?_⟩
    have fo := fit_out fit
    have nt : ∀ {xs : List V} (ps : Array Value), HO.tup xs ≠ HO.tbl ps := fun _ z => by cases z
    refine ⟨hT, fun H1 e1 T1 G0 Qn s0 kq => ⟨_, rfl, l, row, rfl, s0 _ _ (e1 _ _ hl nt), heard_out (row_good row) (fun eo r H' s' ob => kq (.ref r) H' fun r2 nr2 => ?_) (fun wd x ew r G sG nr hr => ?_)⟩⟩
    · -- a rule is made
      have s1 : Same H1 H' := s0.trans s'
      have s2 := same_new (o := .lst [.ref r]) nr2
      have h2 : upd H' r2 (.lst [.ref r]) r2 = some (.lst [.ref r]) := upd_same
      have ob2 := ob.keep s2
      have hl2 := (s1.trans s2) _ _ (e1 _ _ hl nt)
      have e2 : ExtN H (upd H' r2 (.lst [.ref r])) := e1.trans (Ev.Same.extN (s1.trans s2))
      have T2 := T1.ext (s1.trans s2)
      clear kq s' ob s2 s1 nr2 T1 e1 s0
      generalize upd H' r2 (.lst [.ref r]) = H2 at h2 ob2 hl2 e2 T2 ⊢
      have ho : halvesO row.p row.q row.k = .ok := fo.symm.trans eo
      refine ⟨_, rfl, l, row, rfl, hl2, ?_⟩
      rw [ho]
      intro H3 s3
      refine ⟨_, _, rfl, ?_⟩
      refine ⟨_, rfl, rfl, _, rfl, iteF ?_⟩
      have hl3 := s3 _ _ hl2
      refine ⟨_, rfl, _, _, _, _, true, rfl, .ty _, .base (.lst (s3 _ _ h2)), kit_ty (by decide +kernel), true, rfl, ?_⟩
      refine ⟨_, rfl, r2, _, 0, _, rfl, rfl, SqL.of (s3 _ _ h2), atI_nat (j := 0) rfl, _, rfl, r, l, row, rfl, ob2.keep s3, hl3, fit_big fit, fun H4 s4 => ⟨true, rfl, ?_⟩⟩
      have s4 := s3.trans s4
      refine ⟨_, rfl, r2, _, 0, _, rfl, rfl, SqL.of (s4 _ _ h2), atI_nat (j := 0) rfl, _, rfl, l, row, rfl, s4 _ _ hl2, ?_⟩
      rw [eo]
      intro r3 H5 s5 ob3
      have s5 := s4.trans s5
      refine ⟨r, r3, row, row, rfl, rfl, ob2.keep s5, ob3, ?_⟩
      rw [rowB_self]
      refine ⟨_, rfl, iteF ?_⟩
      have pn5 := (pn.ext e2).keep s5
      have hl5 := s5 _ _ hl2
      have e5 : ExtN H H5 := e2.trans (Ev.Same.extN s5)
      have T5 := T2.ext s5
      clear s5 s4 s3 hl3 ob3 T2 e2 h2 ob2 hl2
      have lr : 1 ≤ row.vs.length ∧ row.vs.length ≤ 6 := by
        cases row
        · exact ⟨(by show 1 ≤ 3; decide), (by show 3 ≤ 6; decide)⟩
        · exact ⟨(by show 1 ≤ 6; decide), (by show 6 ≤ 6; decide)⟩
      refine ⟨_, rfl, _, rfl, l, _, rfl, .inr (SqT.of hl5), p, L, _, _, rfl, by omega, by omega, by omega, pn5, fun d H6 t6 p6 d0 d1 => ?_⟩
      obtain ⟨j, rfl⟩ := Int.eq_ofNat_of_zero_le d0
      have hj : j < row.vs.length := by omega
      obtain ⟨row', i, hi, hv, nb1, nb2⟩ := bump row j hj
      obtain ⟨px, hpx⟩ := pn5.some
      have lp : l ≠ p := ne_of hl5 hpx (by intro z; cases z)
      have hl6 := t6 _ _ lp hl5
      have T6 := Ev.Tabs.but T5 hpx t6
      have x6 : ExtP p H H6 := (ExtN.p e5).trans (But.p t6)
      clear T5 e5 hl5 pn5 hpx
      refine ⟨_, rfl, _, rfl, _, rfl, slA hl6 fun a1 H7 s7 h7 => ?_⟩
      rw [cut_to (by omega)] at h7
      refine ⟨_, rfl, _, rfl, l, _, _, _, rfl, rfl, SqT.of (s7 _ _ hl6), atI_nat hi, _, _, rfl, rfl, (by show 1 ≤ sizeLine; decide), fun a2 na2 => ?_⟩
      have s8 := s7.trans (same_new (o := .tup [.int (i + 1)]) na2)
      refine catA (same_new na2 _ _ h7) upd_same (by rw [List.length_take]; show _ + 1 ≤ 1000; omega) fun a3 H8 s9 h8 => ?_
      have s9 := s8.trans s9
      refine ⟨_, rfl, _, rfl, _, _, rfl, rfl, _, rfl, ?_⟩
      unfold L2.tNoPart
      refine slA (s9 _ _ hl6) fun a4 H9 s10 h9 => ?_
      rw [show ((j : Int) + 1) = ((j + 1 : Nat) : Int) by omega, cut_from (by omega)] at h9
      refine catA (s10 _ _ h8) h9 (by rw [List.length_append, List.length_take, List.length_drop]; show _ + 1 + _ ≤ 1000; omega) fun a5 Ha sa ha => ?_
      rw [← hv] at ha
      have sb := s9.trans (s10.trans sa)
      have hla := sb _ _ hl6
      have obx := sb
      have pna := p6.keep sb
      have Ta := T6.ext sb
      have xa : ExtP p H Ha := x6.trans (Ev.Same.p sb)
      clear s7 h7 na2 s8 s9 h8 s10 h9 sa sb T6 x6 hl6 obx
      -- the second lambda
      refine ⟨Ta, fun H1 e1 T1 G0 Qn s0 kq => ⟨_, rfl, a5, row', rfl, s0 _ _ (e1 _ _ ha nt), heard_out (row_good row') (fun eo' r' H' s' ob' => kq (.ref r') H' fun r6 nr6 => ?_) (fun wd x ew r6 G sG nr hr => ?_)⟩⟩
      · have s1 : Same H1 (upd H' r6 (.lst [.ref r'])) := s0.trans (s'.trans (same_new nr6))
        have h6 : upd H' r6 (.lst [.ref r']) r6 = some (.lst [.ref r']) := upd_same
        have obb := ob'.keep (same_new (o := .lst [.ref r']) nr6)
        have hlb := s1 _ _ (e1 _ _ hla nt)
        have pnb := (pna.ext e1).keep s1
        have Tb := T1.ext s1
        have xb : ExtP p H (upd H' r6 (.lst [.ref r'])) := xa.trans ((ExtN.p e1).trans (Ev.Same.p s1))
        clear kq s' ob' s1 nr6 T1 e1 s0 xa pna Ta
        generalize upd H' r6 (.lst [.ref r']) = Hb at h6 obb hlb pnb Tb xb ⊢
        refine ⟨_, rfl, _, _, _, _, true, rfl, .ty _, .base (.lst h6), kit_ty (by decide +kernel), _, rfl, false, rfl, iteF ?_⟩
        refine ⟨_, rfl, r6, _, 0, _, rfl, rfl, SqL.of h6, atI_nat (j := 0) rfl, _, rfl, l, row, rfl, hlb, ?_⟩
        rw [eo]
        intro r7 Hc s2 ob7
        refine ⟨r', r7, row', row, rfl, rfl, obb.keep s2, ob7, ?_⟩
        rw [nb1]
        refine ⟨true, rfl, iteT ⟨_, rfl, l, row, rfl, s2 _ _ hlb, ?_⟩⟩
        rw [eo]
        intro r8 Hd s3 ob8
        have s3 := s2.trans s3
        refine ⟨_, rfl, r6, _, 0, _, rfl, rfl, SqL.of (s3 _ _ h6), atI_nat (j := 0) rfl, r8, r', row, row', rfl, rfl, ob8, obb.keep s3, ?_⟩
        rw [nb2]
        exact kk _ (xb.trans (Ev.Same.p s3)) (pnb.keep s3) (Tb.ext s3)
      · have s1 : Same H1 G := s0.trans sG
        refine ⟨_, rfl, _, _, _, _, false, rfl, .ty _, .base (.tup hr), kit_ty (by decide +kernel), _, rfl, true, rfl, iteT ?_⟩
        exact kk _ (xa.trans ((ExtN.p e1).trans (Ev.Same.p s1))) ((pna.ext e1).keep s1) (T1.ext s1)
    · -- no halves
      have s1 : Same H1 G := s0.trans sG
      have hlG := s1 _ _ (e1 _ _ hl nt)
      obtain ⟨v, ev⟩ : ∃ v, halvesO row.p row.q row.k = .halves v := by
        cases z : halvesO row.p row.q row.k with
        | halves v => exact ⟨v, rfl⟩
        | ok => rw [fo, z] at ew; cases ew
        | rule m =>
          unfold halvesO at z
          split at z
          · cases z
          · split at z <;> cases z
      rw [fo, ev] at ew
      have ew := Option.some.inj ew
      obtain ⟨rfl, rfl⟩ := Prod.mk.inj ew
      have gv : v = 2 ∨ v = 3 := by have := halves_good row.p row.q row.k; rw [ev] at this; exact this
      rw [wS_shown gv] at hr
      refine ⟨_, rfl, l, row, rfl, hlG, ?_⟩
      rw [ev]
      intro r9 H3 s3 h9
      refine ⟨_, _, rfl, ?_⟩
      refine ⟨_, rfl, rfl, _, rfl, iteT ?_⟩
      have sh : SeqAt.shaped (.tuple [.str "halves", .str (wS v)]) = true := by rcases gv with rfl | rfl <;> decide +kernel
      refine ⟨_, rfl, _, rfl, _, _, halves_dp (s3 _ _ hr), halves_dp h9, sh, sh, ?_⟩
      rw [SeqAt.eqv_refl_plain _ (by rfl)]
      have s4 := s1.trans s3
      exact kk _ ((ExtN.p e1).trans (Ev.Same.p s4)) (((pn.ext e1).keep s4).mono (by omega)) (T1.ext s4)
end
end Ev
namespace Ev
open PySem L2 PySem.Spec PyProof.Rows LamX
def bT (b : Bool) (s : Str) : List Str := if b = true then [] else [s]
theorem repB {a : Addr} {s : Str} {b : Bool} {H : Hp} {Q : VK} (h : H a = some (.lst [.str s])) (k : ∀ (p : Addr) (H' : Hp), Same H H' → H' p = some (.lst ((bT b s).map V.str)) → Q (.ref p) H') : rRep (.ref a) (.int (if (!b) = true then 1 else 0)) H Q := by
  cases b with
  | true => exact ⟨a, 0, _, rfl, rfl, h, by decide, by decide, (by show 1 * 0 ≤ sizeLine; decide), fun p np => k p _ (same_new np) upd_same⟩
  | false => exact ⟨a, 1, _, rfl, rfl, h, by decide, by decide, (by show 1 * 1 ≤ sizeLine; decide), fun p np => k p _ (same_new np) upd_same⟩
theorem catL {a b : Addr} {xs ys : List Str} {H : Hp} {Q : VK} (h1 : H a = some (.lst (xs.map V.str))) (h2 : H b = some (.lst (ys.map V.str))) (hl : xs.length + ys.length ≤ 10) (k : ∀ (r : Addr) (H' : Hp), Same H H' → H' r = some (.lst ((xs ++ ys).map V.str)) → Q (.ref r) H') : rCat (.ref a) (.ref b) H Q := by
  refine ⟨a, b, _, _, rfl, rfl, h1, h2, ?_, fun r nr => k r _ (same_new nr) (by rw [List.map_append]; exact upd_same)⟩
  rw [List.length_map, List.length_map]
  exact Nat.le_trans hl (by decide)
theorem bT_len (b : Bool) (s : Str) : (bT b s).length ≤ 1 := by cases b <;> simp [bT]
def badL1 (o : Option (List V)) (k : V) : List Str := bT (timesB o) "times" ++ bT (inB (-6) 6 k) "plus"
def badL2 (o2 : Option (List V)) (c : V) : List Str := bT (pairB 8 o2) "turn" ++ bT (inB (-6) 6 c) "turn_plus"
theorem badL1_len (o : Option (List V)) (k : V) : (badL1 o k).length ≤ 2 := by
  have := bT_len (timesB o) "times"
  have := bT_len (inB (-6) 6 k) "plus"
  unfold badL1
  rw [List.length_append]
  omega
def goodS (b : Str) : Prop := b = "times" ∨ b = "plus" ∨ b = "turn" ∨ b = "turn_plus"
theorem bT_good {b : Bool} {s : Str} (h : goodS s) : ∀ x ∈ bT b s, goodS x := by
  intro x m
  cases b
  · rw [show bT false s = [s] from rfl, List.mem_singleton] at m
    rw [m]; exact h
  · exact (nomatch m)
theorem badL1_good (o : Option (List V)) (k : V) : ∀ x ∈ badL1 o k, goodS x := fun x m => by
  rcases List.mem_append.mp m with m | m
  · exact bT_good (.inl rfl) x m
  · exact bT_good (.inr (.inl rfl)) x m
theorem badL2_good (o : Option (List V)) (k : V) : ∀ x ∈ badL2 o k, goodS x := fun x m => by
  rcases List.mem_append.mp m with m | m
  · exact bT_good (.inr (.inr (.inl rfl))) x m
  · exact bT_good (.inr (.inr (.inr rfl))) x m
theorem good_show {b : Str} (h : goodS b) : (PyData.str b).showable = true ∧ (PyData.str b).shown.length ≤ sizeLine := by
  rcases h with rfl | rfl | rfl | rfl <;> decide +kernel
def tBad1 : TE := fun σ H Q => ∃ (one : V) (o : Option (List V)) (two : V), σ[4]? = some (some one) ∧ PairQ H one o ∧ σ[5]? = some (some two) ∧ IntQ H two ∧ ∀ a H', Same H H' → H' a = some (.lst ((badL1 o two).map V.str)) → Q (.ref a) H'
def tBad2 : TE := fun σ H Q => ∃ (l : Addr) (bs : List Str) (thr : V) (o : Option (List V)) (last : V), σ[8]? = some (some (.ref l)) ∧ H l = some (.lst (bs.map V.str)) ∧ bs.length ≤ 2 ∧ σ[6]? = some (some thr) ∧ PairQ H thr o ∧ σ[7]? = some (some last) ∧ IntQ H last ∧ ∀ a H', Same H H' → H' a = some (.lst ((bs ++ badL2 o last).map V.str)) → Q (.ref a) H'
def tDueV : TE := fun σ H Q => ∃ (l : Addr) (bs : List Str), σ[8]? = some (some (.ref l)) ∧ H l = some (.lst (bs.map V.str)) ∧ bs.length ≤ 4 ∧ (∀ b ∈ bs, goodS b) ∧
  ((∃ b r, bs = b :: r ∧ ∀ t H', Same H H' → H' t = some (.tup [.str "rule", .str (PyData.str b).shown]) → Q (.ref t) H') ∨
   (bs = [] ∧ ∃ (a : Addr) (p q k : Int), σ[4]? = some (some (.ref a)) ∧ H a = some (.tup [.int p, .int q]) ∧ σ[5]? = some (some (.int k)) ∧
     (match halvesO p q k with | .halves w => ∀ t H', Same H H' → H' t = some (.tup [.str "halves", .str (wS w)]) → Q (.ref t) H' | _ => ∀ H', Same H H' → Q .non H')))
theorem lay_good : ∀ bs : List Str, (∀ b ∈ bs, goodS b) → PyData.canLayAll0 (bs.map PyData.str) = true ∧ PyData.depthAll (bs.map PyData.str) ≤ 1
  | [], _ => ⟨rfl, by simp [PyData.depthAll]⟩
  | x :: r, h => by
    obtain ⟨a, b⟩ := lay_good r fun y m => h y (List.mem_cons_of_mem _ m)
    have e : PyData.canLay0 (.str x) = true := by rcases h x List.mem_cons_self with rfl | rfl | rfl | rfl <;> decide +kernel
    refine ⟨?_, by simp [PyData.depthAll, PyData.depth]; omega⟩
    rw [List.map_cons, PyData.canLayAll0, e, a]
    rfl
theorem sh_good {bs : List Str} (h : ∀ b ∈ bs, goodS b) : SeqAt.shaped (.list (bs.map PyData.str)) = true := by
  obtain ⟨a, b⟩ := lay_good bs h
  unfold SeqAt.shaped
  rw [Bool.and_eq_true]
  refine ⟨by simp [PyData.canLay0, a], decide_eq_true ?_⟩
  simp [PyData.depth]
  omega
theorem dp_strs {K : PySem.W.Frag} {H : Hp} : ∀ bs : List Str, DpAll K H (bs.map V.str) (bs.map PyData.str)
  | [] => .nil
  | b :: r => .cons (.str b) (dp_strs r)
theorem eqv_strs (bs : List Str) : PyData.eqv (.list (bs.map PyData.str)) (.list []) = bs.isEmpty := by
  cases bs <;> simp [PyData.eqv, PyData.eqvAll]
abbrev nRefu : List Str := ["_law_pen_here", "_law_pairs", "_law_adds", "_law_turns_so", "_law_one", "_law_two", "_law_three", "_law_last", "_law_bad", "_law_heard_here", "_law_due"]
theorem scRefu : FnScope nRefu ["_law_pen_here"] (defScope sRefu) := ⟨rfl, rfl, rfl, by decide +kernel, rfl, by decide +kernel, by decide +kernel⟩
/-- what is heard of an outcome -/
def hO : Out → Addr → HO
  | .ok, x => .lst [.ref x]
  | .rule m, _ => .tup [.str "rule", .str (PyData.str m).shown]
  | .halves w, _ => .tup [.str "halves", .str (PyData.int w).shown]
theorem lam_out {TL : List (Addr × Str)} {K : PySem.W.Frag} {B N : Addr} {t : XK → TE} {σ : L2.St} {H : Hp} {Q : VK} {out : Out} {ex : Addr → Hp → Prop} (gd : out.good) (hT : Tabs TL H)
    (ht : ∀ (H1 : Hp) (E' : XK) (G0 : Hp) (Q' : VK), ExtN H H1 → Same H1 G0 → (∀ Hx, Same G0 Hx → OutK B N Hx E' (∀ x H', Same G0 H' → ex x H' → Q' (.ref x) H') out) → t E' σ G0 Q') (hex : ∀ x H H', Same H H' → ex x H → ex x H')
    (k : ∀ (r x : Addr) (H1 G : Hp), ExtN H H1 → Tabs TL H1 → Same H1 G → G r = some (hO out x) → (out = .ok → ex x G) → Q (.ref r) G) : tLam TL (THeard K B N) t σ H Q := by
  refine ⟨hT, fun H1 e1 T1 G0 Qn s0 kq => ht H1 _ G0 Qn e1 s0 fun Hx sx => heard_out gd (fun eo x H' s' e => kq (.ref x) H' fun r2 nr2 => ?_) (fun wd xx ew r G sG nr hr => ?_)⟩
  · exact k r2 x H1 _ e1 T1 (s0.trans (s'.trans (same_new nr2))) (by rw [eo]; exact upd_same) fun _ => hex _ _ _ (same_new nr2) e
  · refine k r r H1 G e1 T1 (s0.trans (sx.trans sG)) ?_ (fun eo => by rw [eo] at ew; cases ew)
    cases out with
    | ok => cases ew
    | rule m =>
      obtain ⟨rfl, rfl⟩ := Prod.mk.inj (Option.some.inj ew)
      exact hr
    | halves v =>
      obtain ⟨rfl, rfl⟩ := Prod.mk.inj (Option.some.inj ew)
      exact hr
theorem dueP (o : Option (List V)) (k : V) : (∃ m r, badL1 o k = m :: r ∧ outP o k = .rule m) ∨ (badL1 o k = [] ∧ outP o k = .ok) := by
  unfold badL1 outP
  cases timesB o with
  | false => exact .inl ⟨"times", _, rfl, rfl⟩
  | true =>
    cases inB (-6) 6 k with
    | false => exact .inl ⟨"plus", _, rfl, rfl⟩
    | true => exact .inr ⟨rfl, rfl⟩
theorem dueQ (o : Option (List V)) (k : V) : (∃ m r, badL2 o k = m :: r ∧ outQ o k = .rule m) ∨ (badL2 o k = [] ∧ outQ o k = .ok) := by
  unfold badL2 outQ
  cases pairB 8 o with
  | false => exact .inl ⟨"turn", _, rfl, rfl⟩
  | true =>
    cases inB (-6) 6 k with
    | false => exact .inl ⟨"turn_plus", _, rfl, rfl⟩
    | true => exact .inr ⟨rfl, rfl⟩
theorem outQ_ok {o : Option (List V)} {k : V} (h : outQ o k = .ok) : (∃ p q : Int, o = some [.int p, .int q] ∧ (1 ≤ p ∧ p ≤ 8) ∧ (1 ≤ q ∧ q ≤ 8)) ∧ ∃ i, k = .int i ∧ -6 ≤ i ∧ i ≤ 6 := by
  unfold outQ at h
  rcases pair_cases 8 o with ⟨p, q, rfl, h1, h2, e⟩ | e
  · rw [if_neg (by rw [e]; simp)] at h
    cases z2 : inB (-6) 6 k with
    | false => rw [if_pos z2] at h; cases h
    | true => exact ⟨⟨p, q, rfl, h1, h2⟩, inB_int z2⟩
  · rw [if_pos e] at h; cases h
theorem dueT (o : Option (List V)) (k : V) : (∃ m r, badL1 o k = m :: r ∧ outT o k = .rule m) ∨ (badL1 o k = [] ∧ ∃ p q i : Int, o = some [.int p, .int q] ∧ k = .int i ∧ outT o k = halvesO p q i) := by
  rcases dueP o k with ⟨m, r, e1, e2⟩ | ⟨e1, e2⟩
  · exact .inl ⟨m, r, e1, by unfold outT; rw [e2]; rfl⟩
  · obtain ⟨⟨p, q, rfl, _⟩, i, rfl, _⟩ := outP_ok e2
    exact .inr ⟨e1, p, q, i, rfl, rfl, by unfold outT; rw [e2]; rfl⟩
theorem dueN (o : Option (List V)) (k : V) (o2 : Option (List V)) (c : V) : (∃ m r, badL1 o k ++ badL2 o2 c = m :: r ∧ outN o k o2 c = .rule m) ∨
    (badL1 o k ++ badL2 o2 c = [] ∧ ∃ p q i t s d : Int, o = some [.int p, .int q] ∧ k = .int i ∧ o2 = some [.int t, .int s] ∧ c = .int d ∧ (Row.tn p q i t s d).fit ∧ outN o k o2 c = halvesO p q i) := by
  rcases dueP o k with ⟨m, r, e1, e2⟩ | ⟨e1, e2⟩
  · exact .inl ⟨m, _, by rw [e1]; rfl, by unfold outN; rw [e2]; rfl⟩
  · rcases dueQ o2 c with ⟨m, r, e3, e4⟩ | ⟨e3, e4⟩
    · exact .inl ⟨m, r, by rw [e1, e3]; rfl, by unfold outN; rw [e2, e4]; rfl⟩
    · obtain ⟨⟨p, q, rfl, h1, h2, h3⟩, i, rfl, h4, h5⟩ := outP_ok e2
      obtain ⟨⟨t, s, rfl, h6, h7⟩, d, rfl, h8, h9⟩ := outQ_ok e4
      exact .inr ⟨by rw [e1, e3]; rfl, p, q, i, t, s, d, rfl, rfl, rfl, rfl, ⟨⟨h1, h2, h3, h4, h5⟩, h6, h7, h8, h9⟩, by unfold outN; rw [e2, e4]; rfl⟩
theorem rule_dp {K : PySem.W.Frag} {G : Hp} {r : Addr} {x : Str} (e : G r = some (.tup [.str "rule", .str x])) : Dp K G (.ref r) (.tuple [.str "rule", .str x]) := .tup (SqT.of e) (.cons (.str _) (.cons (.str _) .nil))
theorem rule_sh {m : Str} (h : goodS m) : SeqAt.shaped (.tuple [.str "rule", .str (PyData.str m).shown]) = true := by
  rcases h with rfl | rfl | rfl | rfl <;> decide +kernel
theorem halves_sh {w : Int} (h : w = 2 ∨ w = 3) : SeqAt.shaped (.tuple [.str "halves", .str (wS w)]) = true := by
  rcases h with rfl | rfl <;> decide +kernel
theorem halves_no {p q k : Int} {m : Str} (h : halvesO p q k = .rule m) : False := by
  unfold halvesO at h
  split at h
  · cases h
  · split at h <;> cases h
end Ev
namespace Ev
open PySem L2 PySem.Spec PyProof.Rows LamX
theorem pe_imp {X : Cx} {e : Expr} {t t' : TE} (h : PE X e t) (k : ∀ σ H Q, t' σ H Q → t σ H Q) : PE X e t' := ⟨fun pins s σ H Q I q => h.run pins s σ H Q I (k σ H Q q)⟩
def spRefu (TL : List (Addr × Str)) : Sp := fun vs H Q _ => ∃ (p L : Addr) (b : Int), vs = [.ref p] ∧ b ≤ 900000 ∧ Pen L H p b ∧ Tabs TL H ∧ ∀ H', ExtP p H H' → Pen L H' p (b + 4) → Tabs TL H' → Q (.bl true) H'
section
variable {P : Program} {w : World} {K : PySem.W.Frag} {mg : Str → Option Value} {base : Heap}
theorem ok_refu {f Ct Cn B N FE cc TT fh : Addr} {TL : List (Addr × Str)} {fd fdh : FuncData} {q : Str} (F : Fun K "_law_refused_right" "_law_refused_right" sRefu f fd) (T : Blt mg) (hc : fd.code = .ref cc) (TB : TabB base mg cc TT) (hTL : (TT, q) ∈ TL) (hTL2 : ∀ p ∈ TL, p.1 = TT → p.2 = q)
    (hq : q = (envOfC "_law_refused_right" (defScope sRefu) 0 f (.ref cc)).qual ++ ("<lambda>" : Str)) (HH : HeardB P w K mg B N FE fh fdh)
    (D1 : Df P w K mg base 2 "_law_pick" ["_law_pen_here", "_law_some"] spPick) (D2 : Df P w K mg base 1 "_law_halves_due" ["_law_some"] spDue) (D4 : Df P w K mg base 1 "_law_is_pair" ["_law_value", "_law_most"] spLPair) (D5 : Df P w K mg base 1 "_law_is_plus" ["_law_value"] spLPlus)
    {f6 : Addr} {fd6 : FuncData} (G6 : FnG P w K mg base 1 f6 fd6 ["_law_rule_so", "_law_some"] (spTells Ct Cn)) (g6 : mg "_law_tells" = some (.ref f6)) (k6 : PySem.W.keepIn K (.ref f6) = true) (b6 : Binds K fd6 ["_law_rule_so", "_law_some"] [])
    {fT fN : Addr} {fdT fdN : FuncData} {g : List Value → List Value → List Value} (gT : mg "TryRule" = some (.ref Ct)) (gN : mg "TurnRule" = some (.ref Cn)) (MT : Mk K Ct fT) (MN : Mk K Cn fN)
    (GT : FnOk P w K mg base (L2.CX P w) 6 fT fdT ["self", "times", "plus"] (spTryInit Ct B N)) (bT : Binds K fdT ["self", "times", "plus"] [])
    (GN : FnOk P w K mg base (L2.CX P w) 6 fN fdN ["self", "times", "plus", "turn", "turn_plus"] (spTurnInit Cn B N)) (bN : KBn K fdN ["self", "times", "plus", "turn", "turn_plus"] 3 ["turn", "turn_plus"] g (fun vs zs => vs ++ zs)) :
    FnG P w K mg base 11 f fd ["_law_pen_here"] (spRefu TL) := by
  obtain ⟨f1, fd1, G1, g1, k1, b1⟩ := D1.ex
  obtain ⟨f2, fd2, G2, g2, k2, b2⟩ := D2.ex
  obtain ⟨f4, fd4, G4, g4, k4, b4⟩ := D4.ex
  obtain ⟨f5, fd5, G5, g5, k5, b5⟩ := D5.ex
  obtain ⟨FH, gh, bh, mv, mr, gF, gB, gN', HB, HN, noB, noN, teB, teN, iBN, iNB, vB, vN⟩ := id HH
  have kh := FH.kp
  obtain ⟨och, odh, kVh, doch, pmh, anh, cdvh, cth, oslh, rfl, lkh, hcdh⟩ := FH.ex
  refine fng_code F scRefu (fun vs H Q E h => ?_) (fun cdv ecd A outer s H vs Q E hr gd h => ?_)
  · obtain ⟨p, L, b, rfl, _⟩ := h
    rfl
  · obtain ⟨p, L, b, rfl, hb, pn, hT, kk⟩ := h
    obtain rfl : cdv = .ref cc := ecd.symm.trans hc
    have hr1 : Room 1 _ := hr.mono (by decide)
    have hr2 : Room 2 _ := hr.mono (by decide)
    have hq' : q = (cxOf CX0 P w K mg base nRefu "_law_refused_right" (defScope sRefu) f (.ref cc) A outer s H E).nox.env.qual ++ ("<lambda>" : Str) := hq
    have lam : ∀ {params : Arguments} {body : Expr} {scope : Scope} {lpos pos p : Pos} {t : XK → TE}, LamS (defScope sRefu) scope → defaultsOf params (cxOf CX0 P w K mg base nRefu "_law_refused_right" (defScope sRefu) f (.ref cc) A outer s H E).env = ([], []) →
        (∀ (q : Str) (cl : List (Str × Addr)) (pm cv ctv : Value), bindArgs (PySem.W.kla_fn "<lambda>" q params body scope cl pm cv ctv) ⟨[], []⟩ = pure []) →
        (∀ (A' : Around) (outer' : List Env) (s' : Shared) (H' : Hp) (E' : XK) (f' c' : Addr), Room 8 (A'.deeper (lamEnv (cxOf CX0 P w K mg base nRefu "_law_refused_right" (defScope sRefu) f (.ref cc) A outer s H E).nox scope s'.heap.objs.size f' c')) →
          PE (lamCx (cxOf CX0 P w K mg base nRefu "_law_refused_right" (defScope sRefu) f (.ref cc) A outer s H E).nox A' outer' s' H' E' scope f' c') body (t E')) →
        PE (cxOf CX0 P w K mg base nRefu "_law_refused_right" (defScope sRefu) f (.ref cc) A outer s H E).nox (.Call (.Name "_law_heard" p) [.Lambda params body scope lpos] [] pos) (tLam TL (THeard K B N) t) := by
      intro params body scope lpos pos p t LS hdef hbind hbody
      subst hq'
      have h4 : Gl (cxOf CX0 P w K mg base nRefu "_law_refused_right" (defScope sRefu) f (.ref cc) A outer s H E).nox "_law_heard" := by rfl
      refine pe_lamcall (X := (cxOf CX0 P w K mg base nRefu "_law_refused_right" (defScope sRefu) f (.ref cc) A outer s H E).nox) (k := 8) (T := TL) (TT := THeard K B N) (x := "_law_heard") (a := "_law_ask") (g := fh) (c := cc) (P := TT) (pg := defArgs sHeard) (bg := defBody sHeard) (sg := defScope sHeard)
        (Ng := ["_law_ask", "_law_caught", "_law_found", "error", "_law_some"]) h4 gh kh lkh hcdh bh scHeard ?_ ?_ ?_ ?_ ?_ ?_ ?_ ?_ ?_ ?_ ?_ ?_ ?_ ?_ ?_
      · rfl
      · exact .inl rfl
      · exact heard_gives gd hr T mv mr gF gB gN' HB HN noB noN teB teN kit_self iBN iNB kit_self vB vN
      · exact TB
      · rfl
      · exact hTL
      · exact hTL2
      · exact hr
      · exact LS
      · exact hdef
      · exact hbind
      · exact hbody
      · decide
      · decide
      · decide
    have hu : (cxOf CX0 P w K mg base nRefu "_law_refused_right" (defScope sRefu) f (.ref cc) A outer s H E).nox.A.units + 64 < cLine := Room.units hr
    obtain ⟨tR, hR, qR⟩ : ∃ t : TS, PSs (cxOf CX0 P w K mg base nRefu "_law_refused_right" (defScope sRefu) f (.ref cc) A outer s H E).nox ((defBody sRefu).drop 8) t ∧ ∀ (D : Ends) (G : Hp) (one two thr last : V) (o o2 : Option (List V)) (lb : Addr) (v1 v2 v3 v9 v10 : Option V), PairQ G one o → IntQ G two → PairQ G thr o2 → IntQ G last → G lb = some (.lst ((badL1 o two).map V.str)) → Pen L G p (b + 4) → ExtP p H G → Tabs TL G →
        (∀ G', ExtP p H G' → Pen L G' p (b + 4) → Tabs TL G' → D.rt (.bl true) G') → t D [some (.ref p), v1, v2, v3, some one, some two, some thr, some last, some (.ref lb), v9, v10] G := by
      refine ⟨_, (pss_cons (ps_set (i := 8) scRefu.nd rfl (.inl rfl) (pe_imp (t' := tBad2) (pe_op op_cat (pe_op op_cat (pv 8) (pe_op op_rep (pe_lst (pa_cons pe_str pa_nil)) (pe_callTy call_int1 (by rfl) T.int (by decide +kernel) (pa_cons (pe_not (pe_call G4 hr1 (by rfl) g4 k4 b4 .nil pass0 (pa_cons (pv 6) (pa_cons pe_int pa_nil)))) pa_nil)))) (pe_op op_rep (pe_lst (pa_cons pe_str pa_nil)) (pe_callTy call_int1 (by rfl) T.int (by decide +kernel) (pa_cons (pe_not (pe_call G5 hr1 (by rfl) g5 k5 b5 .nil pass0 (pa_cons (pv 7) pa_nil))) pa_nil)))) (fun σ H Q h => ?_)))
      (pss_cons (ps_set (i := 9) scRefu.nd rfl (.inl rfl) (lam (lamS_by (by decide +kernel)) rfl (fun _ _ _ _ _ => rfl) (fun _ _ _ _ E' _ _ hrL => pe_makeN (n := 2) MN GN (hrL.mono (by decide)) (by rfl) gN bN (E := E') (passes_call (takes_of rfl rfl rfl rfl) (fun _ _ _ _ h => h)) (pa_cons (pv 4) (pa_cons (pv 5) pa_nil)) (pk_cons (pv 6) (pk_cons (pv 7) pk_nil)))))
      (pss_cons (ps_set (i := 10) scRefu.nd rfl (.inl rfl) (pe_imp (t' := tDueV) (pe_ifExp (pt_cmpR (op_neD hu) (pv 8) (pe_lst pa_nil) (nomark _)) (pe_tup (pa_cons pe_str (pa_cons (pe_callB (call_reprV gd hu) (by rfl) HH.mr (by decide +kernel) (pa_cons (pe_ix ix_list (pv 8) pe_int (fun _ _ => rfl)) pa_nil)) pa_nil))) (pe_call G2 hr1 (by rfl) g2 k2 b2 .nil pass0 (pa_cons (pe_op op_catA (pv 4) (pe_tup (pa_cons (pv 5) pa_nil))) pa_nil))) (fun σ H Q h => ?_)))
      (pss_cons (ps_if (pt_cmpR op_notN (pv 10) pe_non (nomark _)) (pss_one (ps_ret (pe_cmpR (op_eqD hu) (pv 9) (pv 10) (nomark _)))) pss_nil)
      (pss_one (ps_ret (pe_and (pe_callB call_isi (by rfl) T.isi (by decide +kernel) (pa_cons (pv 9) (pa_cons (pe_bltn (v := .ty "list") (by rfl) T.list (by decide +kernel) rfl) pa_nil))) (pe_one (pe_callG (E := E0) G6 hr1 gd (by rfl) g6 k6 b6 (pa_cons (pe_ix ix_list (pv 9) pe_int (fun _ _ => rfl)) (pa_cons (pe_op op_catA (pe_op op_catA (pe_op op_catA (pv 4) (pe_tup (pa_cons (pv 5) pa_nil))) (pv 6)) (pe_tup (pa_cons (pv 7) pa_nil))) pa_nil))))))))))), ?_⟩
      · obtain ⟨l, bs, thr, o, last, e8, hl, ln, e6, hp, e7, hk, k⟩ := h
        refine ⟨_, e8, (by show 1 ≤ sizeLine; decide), fun l1 n1 => ?_⟩
        have s1 := same_new (o := .lst [.str "turn"]) n1
        have h1 : upd H l1 (.lst [.str "turn"]) l1 = some (.lst [.str "turn"]) := upd_same
        generalize upd H l1 (.lst [.str "turn"]) = H1 at s1 h1 ⊢
        refine ⟨_, e6, thr, o, 8, rfl, hp.keep s1, fun H2 s2 => ⟨_, rfl, .inr ⟨_, rfl, repB (s2 _ _ h1) fun p1 H3 s3 h3 => ?_⟩⟩⟩
        have s3 := s1.trans (s2.trans s3)
        have b1' := bT_len (pairB 8 o) "turn"
        have b2' := bT_len (inB (-6) 6 last) "turn_plus"
        refine catL (s3 _ _ hl) h3 (by omega) fun r1 H4 s4 h4 => ?_
        have s4 := s3.trans s4
        refine ⟨(by show 1 ≤ sizeLine; decide), fun l3 n3 => ?_⟩
        have s5 := s4.trans (same_new (o := .lst [.str "turn_plus"]) n3)
        refine ⟨_, e7, last, rfl, hk.keep s5, _, rfl, .inr ⟨_, rfl, repB upd_same fun p2 H5 s6 h6 => ?_⟩⟩
        have s7 := s5.trans s6
        refine catL (s6 _ _ (same_new n3 _ _ h4)) h6 (by rw [List.length_append]; omega) fun r H6 s8 h8 => k r H6 (s7.trans s8) ?_
        rw [h8, List.append_assoc]
        rfl
      · obtain ⟨l, bs, e8, hl, ln, gs, h⟩ := h
        refine ⟨_, e8, (by show 0 ≤ sizeLine; decide), fun l2 n2 => ?_⟩
        have s1 := same_new (o := .lst []) n2
        refine ⟨.list (bs.map .str), .list [], .lst (SqL.of (s1 _ _ hl)) (dp_strs bs), .lst (SqL.of upd_same) .nil, sh_good gs, sh_ints [], ?_⟩
        rw [eqv_strs]
        rcases h with ⟨c, r, rfl, k⟩ | ⟨rfl, a, p1, q1, k1, e4, ha, e5, k⟩
        · refine ⟨_, rfl, iteT ?_⟩
          obtain ⟨w1, w2⟩ := good_show (gs c List.mem_cons_self)
          exact ⟨_, e8, l, _, 0, .str c, rfl, rfl, SqL.of (s1 _ _ hl), atI_nat (j := 0) rfl, .str c, .str c, rfl, .plain (.str c) rfl, w1, (by show 0 ≤ 32; decide), w2, (by show 2 ≤ sizeLine; decide), fun t nt => k t _ (s1.trans (same_new nt)) upd_same⟩
        · refine ⟨_, rfl, iteF ?_⟩
          refine ⟨_, e4, _, e5, (by show 1 ≤ sizeLine; decide), fun t nt => ?_⟩
          have s2 := s1.trans (same_new (o := .tup [.int k1]) nt)
          refine catA (xs := [.int p1, .int q1]) (ys := [.int k1]) (s2 _ _ ha) upd_same (by show 2 + 1 ≤ 1000; decide) fun r H3 s3 h3 => ?_
          have s3 := s2.trans s3
          refine ⟨r, .tr p1 q1 k1, rfl, h3, ?_⟩
          have e : halvesO (Row.tr p1 q1 k1).p (Row.tr p1 q1 k1).q (Row.tr p1 q1 k1).k = halvesO p1 q1 k1 := rfl
          rw [e]
          revert k
          cases halvesO p1 q1 k1 with
          | ok => exact fun k H' s => k H' (s3.trans s)
          | rule m => exact fun k H' s => k H' (s3.trans s)
          | halves v => exact fun k t H' s ht => k t H' (s3.trans s) ht
      · intro D G one two thr last o o2 lb v1 v2 v3 v9 v10 hone htwo hthr hlast hb pz xz Tz fin
        refine ⟨lb, badL1 o two, thr, o2, last, rfl, hb, badL1_len _ _, rfl, hthr, rfl, hlast, fun l2 Ga sa h2 => ?_⟩
        refine lam_out (out := outN o two o2 last) (ex := fun x H' => ∃ dx, H' x = some (.ins Cn dx (turnV one two thr last))) (outN_good _ _ _ _) (Tz.ext sa) (fun H1 E' G0 Q' e1 s0 hO' => ?_) (fun x H1 H2 s e => ?_) (fun r x H1 Gb e1 T1 s1 hr hx => ?_)
        · refine ⟨_, rfl, _, rfl, _, rfl, _, rfl, rfl, rfl, fun x dx nx ndx nex => ?_⟩
          have keep : Same G0 (upd (upd G0 dx (.own x)) x (.ins Cn dx [])) := fun b u e => by rw [upd_ne (ne_of_none e nx), upd_ne (ne_of_none e ndx)]; exact e
          have sk := s0.trans keep
          exact ⟨x, dx, one, two, thr, last, o, o2, rfl, upd_same, ((hone.keep sa).ext e1).keep sk, ((htwo.keep sa).ext e1).keep sk, ((hthr.keep sa).ext e1).keep sk, ((hlast.keep sa).ext e1).keep sk, (hO' _ keep).imp fun kk H' bt hx => ⟨rfl, kk x H' (fun b u e => bt _ _ (ne_of_none e nx) (keep _ _ e)) ⟨dx, hx⟩⟩⟩
        · obtain ⟨dx, e⟩ := e
          exact ⟨dx, s _ _ e⟩
        · have h2' := s1 _ _ (e1 _ _ h2 (fun _ z => by cases z))
          have fin2 : ∀ G', Same Gb G' → D.rt (.bl true) G' := fun G' s => fin G' (xz.trans ((Ev.Same.p sa).trans ((ExtN.p e1).trans (Ev.Same.p (s1.trans s))))) (((pz.keep sa).ext e1).keep (s1.trans s)) (T1.ext (s1.trans s))
          have hone' := ((hone.keep sa).ext e1).keep s1
          have hthr' := ((hthr.keep sa).ext e1).keep s1
          have gs : ∀ x ∈ badL1 o two ++ badL2 o2 last, goodS x := fun x m => by
            rcases List.mem_append.mp m with m | m
            · exact badL1_good _ _ x m
            · exact badL2_good _ _ x m
          have ln : (badL1 o two ++ badL2 o2 last).length ≤ 4 := by
            have := badL1_len o two
            have := bT_len (pairB 8 o2) "turn"
            have := bT_len (inB (-6) 6 last) "turn_plus"
            unfold badL2
            rw [List.length_append, List.length_append]
            omega
          refine ⟨l2, _, rfl, h2', ln, gs, ?_⟩
          rcases dueN o two o2 last with ⟨m, rr, e3, e4⟩ | ⟨e3, p', q', i, t, s, d, rfl, rfl, rfl, rfl, fit, e4⟩
          · rw [e4] at hr
            refine .inl ⟨m, rr, e3, fun t9 G9 s9 h9 => ?_⟩
            have gm : goodS m := gs m (by rw [e3]; exact List.mem_cons_self)
            refine ⟨_, rfl, rfl, _, rfl, iteT ?_⟩
            refine ⟨_, rfl, _, rfl, _, _, rule_dp (s9 _ _ hr), rule_dp h9, rule_sh gm, rule_sh gm, ?_⟩
            rw [SeqAt.eqv_refl_plain _ (by rfl)]
            exact fin2 _ s9
          · obtain ⟨a, rfl, ha, _⟩ := hone'
            obtain ⟨b', rfl, hb', _⟩ := hthr'
            refine .inr ⟨e3, a, p', q', i, rfl, ha, rfl, ?_⟩
            rw [e4] at hr hx
            cases z : halvesO p' q' i with
            | rule m => exact (halves_no z).elim
            | halves v =>
              rw [z] at hr
              intro t9 G9 s9 h9
              have gv : v = 2 ∨ v = 3 := by have := halves_good p' q' i; rw [z] at this; exact this
              have hr : Gb r = some (.tup [.str "halves", .str (wS v)]) := by rw [← wS_shown gv]; exact hr
              refine ⟨_, rfl, rfl, _, rfl, iteT ?_⟩
              refine ⟨_, rfl, _, rfl, _, _, halves_dp (s9 _ _ hr), halves_dp h9, halves_sh gv, halves_sh gv, ?_⟩
              rw [SeqAt.eqv_refl_plain _ (by rfl)]
              exact fin2 _ s9
            | ok =>
              rw [z] at hr hx
              intro G9 s9
              obtain ⟨dx, hx⟩ := hx rfl
              refine ⟨_, rfl, rfl, _, rfl, iteF ?_⟩
              refine ⟨_, rfl, _, _, _, _, true, rfl, .ty _, .base (.lst (s9 _ _ hr)), kit_ty (by decide +kernel), true, rfl, iteT ?_⟩
              refine ⟨_, rfl, r, _, 0, _, rfl, rfl, SqL.of (s9 _ _ hr), atI_nat (j := 0) rfl, ?_⟩
              refine ⟨_, rfl, _, rfl, (by show 1 ≤ sizeLine; decide), fun t1 n1 => ?_⟩
              have u1 := s9.trans (same_new (o := .tup [.int i]) n1)
              refine catA (xs := [.int p', .int q']) (ys := [.int i]) (u1 _ _ ha) upd_same (by show 2 + 1 ≤ 1000; decide) fun r1 J1 k1 f1 => ?_
              have u2 := u1.trans k1
              refine ⟨_, rfl, ?_⟩
              refine catA (xs := [.int p', .int q', .int i]) (ys := [.int t, .int s]) f1 (u2 _ _ hb') (by show 3 + 2 ≤ 1000; decide) fun r2 J2 k2 f2 => ?_
              have u3 := u2.trans k2
              refine ⟨_, rfl, (by show 1 ≤ sizeLine; decide), fun t2 n2 => ?_⟩
              have u4 := u3.trans (same_new (o := .tup [.int d]) n2)
              refine catA (xs := [.int p', .int q', .int i, .int t, .int s]) (ys := [.int d]) (same_new n2 _ _ f2) upd_same (by show 5 + 1 ≤ 1000; decide) fun r3 J3 k3 f3 => ?_
              have u5 := u4.trans k3
              exact ⟨x, r3, .tn p' q' i t s d, rfl, ⟨dx, a, b', u5 _ _ hx, u5 _ _ ha, u5 _ _ hb'⟩, f3, fit_big fit, fun J4 k4 => fin2 _ (u5.trans k4)⟩
    refine ⟨_, (pss_cons (ps_set (i := 1) scRefu.nd rfl (.inl rfl) (pe_lst (pa_cons (pe_tup (pa_cons pe_int (pa_cons pe_int pa_nil))) (pa_cons (pe_tup (pa_cons pe_int (pa_cons pe_int pa_nil))) (pa_cons (pe_tup (pa_cons pe_int (pa_cons pe_int pa_nil))) (pa_cons (pe_tup (pa_cons pe_int (pa_cons pe_int pa_nil))) (pa_cons (pe_tup (pa_cons pe_int (pa_cons pe_int pa_nil))) (pa_cons (pe_tup (pa_cons pe_int (pa_cons pe_int pa_nil))) (pa_cons (pe_lst (pa_cons pe_int (pa_cons pe_int pa_nil))) (pa_cons (pe_tup (pa_cons pe_int pa_nil)) (pa_cons (pe_tup (pa_cons pe_int (pa_cons pe_int (pa_cons pe_int pa_nil)))) (pa_cons pe_int (pa_cons pe_non (pa_cons pe_str (pa_cons (pe_tup (pa_cons pe_bl (pa_cons pe_int pa_nil))) (pa_cons pe_dnewK pa_nil))))))))))))))))
      (pss_cons (ps_set (i := 2) scRefu.nd rfl (.inl rfl) (pe_lst (pa_cons pe_int (pa_cons pe_int (pa_cons (pe_un un_neg pe_int) (pa_cons pe_int (pa_cons (pe_un un_neg pe_int) (pa_cons pe_non (pa_cons pe_str (pa_cons pe_bl (pa_cons (pe_tup (pa_cons pe_int pa_nil)) (pa_cons (pe_lst pa_nil) (pa_cons (pe_op op_pow pe_int pe_int) pa_nil)))))))))))))
      (pss_cons (ps_set (i := 3) scRefu.nd rfl (.inl rfl) (pe_lst (pa_cons (pe_tup (pa_cons pe_int (pa_cons pe_int pa_nil))) (pa_cons (pe_tup (pa_cons pe_int (pa_cons pe_int pa_nil))) (pa_cons (pe_tup (pa_cons pe_int (pa_cons pe_int pa_nil))) (pa_cons (pe_tup (pa_cons pe_int (pa_cons pe_int pa_nil))) (pa_cons (pe_tup (pa_cons pe_int (pa_cons pe_int pa_nil))) (pa_cons (pe_tup (pa_cons pe_int (pa_cons pe_int pa_nil))) (pa_cons pe_non (pa_cons pe_int (pa_cons (pe_lst (pa_cons pe_int (pa_cons pe_int pa_nil))) (pa_cons (pe_tup (pa_cons pe_int (pa_cons pe_bl pa_nil))) (pa_cons (pe_tup (pa_cons pe_str (pa_cons pe_int pa_nil))) pa_nil)))))))))))))
      (pss_cons (ps_asg (pe_tup (pa_cons (pe_call G1 hr2 (by rfl) g1 k1 b1 .nil pass0 (pa_cons (pv 0) (pa_cons (pv 1) pa_nil))) (pa_cons (pe_call G1 hr2 (by rfl) g1 k1 b1 .nil pass0 (pa_cons (pv 0) (pa_cons (pv 2) pa_nil))) (pa_cons (pe_call G1 hr2 (by rfl) g1 k1 b1 .nil pass0 (pa_cons (pv 0) (pa_cons (pv 3) pa_nil))) (pa_cons (pe_call G1 hr2 (by rfl) g1 k1 b1 .nil pass0 (pa_cons (pv 0) (pa_cons (pv 2) pa_nil))) pa_nil))))) (pg_tup (by rfl) (pgs_cons (pg_name (i := 4) scRefu.nd rfl (.inr rfl)) (pgs_cons (pg_name (i := 5) scRefu.nd rfl (.inr rfl)) (pgs_cons (pg_name (i := 6) scRefu.nd rfl (.inr rfl)) (pgs_cons (pg_name (i := 7) scRefu.nd rfl (.inr rfl)) pgs_nil))))))
      (pss_cons (ps_set (i := 8) scRefu.nd rfl (.inl rfl) (pe_imp (t' := tBad1) (pe_op op_cat (pe_op op_rep (pe_lst (pa_cons pe_str pa_nil)) (pe_callTy call_int1 (by rfl) T.int (by decide +kernel) (pa_cons (L2.pe_or (pe_not (pe_call G4 hr1 (by rfl) g4 k4 b4 .nil pass0 (pa_cons (pv 4) (pa_cons pe_int pa_nil)))) (pe_one (pe_cmpR op_gt (pe_ix ix_tup (pv 4) pe_int (fun _ _ => rfl)) (pe_ix ix_tup (pv 4) pe_int (fun _ _ => rfl)) (nomark _)))) pa_nil))) (pe_op op_rep (pe_lst (pa_cons pe_str pa_nil)) (pe_callTy call_int1 (by rfl) T.int (by decide +kernel) (pa_cons (pe_not (pe_call G5 hr1 (by rfl) g5 k5 b5 .nil pass0 (pa_cons (pv 5) pa_nil))) pa_nil)))) (fun σ H Q h => ?_)))
      (pss_cons (ps_set (i := 9) scRefu.nd rfl (.inl rfl) (lam (t := fun E' => tMake Ct (spTryInit Ct B N) [] E' (tCons (tVar 4) (tCons (tVar 5) tNil))) (lamS_by (by decide +kernel)) rfl (fun _ _ _ _ _ => rfl) (fun _ _ _ _ E' _ _ hrL => pe_make MT GT (hrL.mono (by decide)) (by rfl) gT bT .nil (E := E') (passes_call (takes_of rfl rfl rfl rfl) (fun _ _ _ _ h => h)) (pa_cons (pv 4) (pa_cons (pv 5) pa_nil)))))
      (pss_cons (ps_set (i := 10) scRefu.nd rfl (.inl rfl) (pe_imp (t' := tDueV) (pe_ifExp (pt_cmpR (op_neD hu) (pv 8) (pe_lst pa_nil) (nomark _)) (pe_tup (pa_cons pe_str (pa_cons (pe_callB (call_reprV gd hu) (by rfl) HH.mr (by decide +kernel) (pa_cons (pe_ix ix_list (pv 8) pe_int (fun _ _ => rfl)) pa_nil)) pa_nil))) (pe_call G2 hr1 (by rfl) g2 k2 b2 .nil pass0 (pa_cons (pe_op op_catA (pv 4) (pe_tup (pa_cons (pv 5) pa_nil))) pa_nil))) (fun σ H Q h => ?_)))
      (pss_cons (ps_if (PW.pt (pw_or (PW.pt (pw_and (pt_cmpR op_notN (pv 10) pe_non (nomark _)) (pw_and1 (pt_cmpR (op_neD hu) (pv 9) (pv 10) (nomark _))))) (pw_or1 (PW.pt (pw_and (pt_cmpR op_isN (pv 10) pe_non (nomark _)) (pw_and1 (pt_not (pt_val (pe_callB call_isi (by rfl) T.isi (by decide +kernel) (pa_cons (pv 9) (pa_cons (pe_bltn (v := .ty "list") (by rfl) T.list (by decide +kernel) rfl) pa_nil))))))))))) (pss_one (ps_ret pe_bl)) pss_nil)
      hR)))))))), ?_⟩
    · obtain ⟨one, o, two, e4, hp, e5, hk, k⟩ := h
      refine ⟨(by show 1 ≤ sizeLine; decide), fun l1 n1 => ?_⟩
      have s1 := same_new (o := .lst [.str "times"]) n1
      have h1 : upd H l1 (.lst [.str "times"]) l1 = some (.lst [.str "times"]) := upd_same
      generalize upd H l1 (.lst [.str "times"]) = H1 at s1 h1 ⊢
      refine ⟨_, e4, one, o, 6, rfl, hp.keep s1, fun H2 s2 => ?_⟩
      have s2' := s1.trans s2
      have h12 := s2 _ _ h1
      have key : ∀ (H3 : Hp) (l2 : Addr) (z : Bool), Same H H3 → z = (!timesB o) → H3 l1 = some (.lst [.str "times"]) → tCB (fun xs H Q => (∃ i, xs = [V.int i] ∧ Q (V.int i) H) ∨ ∃ k, xs = [V.bl k] ∧ Q (V.int (if k = true then 1 else 0)) H) (fun σ H Q => Q [V.bl z] H) σ H3 (fun y H4 => rRep (.ref l1) y H4 fun x H5 => (tOp rRep (tLst (tCons (tC (V.str "plus")) tNil)) (tCB (fun xs H Q => (∃ i, xs = [V.int i] ∧ Q (V.int i) H) ∨ ∃ k, xs = [V.bl k] ∧ Q (V.int (if k = true then 1 else 0)) H) (tCons (tNotV (tCall spLPlus [] E0 (tCons (tVar 5) tNil))) tNil))) σ H5 fun y H6 => rCat x y H6 Q) := by
        intro H3 l2 z s3 hz h3
        refine .inr ⟨_, rfl, ?_⟩
        subst hz
        refine repB h3 fun p1 H4 s4 h4 => ?_
        have s4' := s3.trans s4
        refine ⟨(by show 1 ≤ sizeLine; decide), fun l3 n3 => ?_⟩
        have s5 := s4'.trans (same_new (o := .lst [.str "plus"]) n3)
        refine ⟨_, e5, two, rfl, hk.keep s5, _, rfl, .inr ⟨_, rfl, repB upd_same fun p2 H5 s6 h6 => ?_⟩⟩
        have s7 := s5.trans s6
        refine catL (s6 _ _ (same_new n3 _ _ h4)) h6 ?_ fun r H6 s8 h8 => k r H6 (s7.trans s8) h8
        have := bT_len (timesB o) "times"
        have := bT_len (inB (-6) 6 two) "plus"
        omega
      rcases pair_cases 6 o with ⟨i, j, rfl, q1, q2, e⟩ | e
      · rw [e]
        obtain ⟨a, rfl, ha, _⟩ := hp
        refine ⟨_, rfl, _, rfl, iteF ?_⟩
        refine ⟨_, e4, a, _, 1, _, rfl, rfl, SqT.of (s2' _ _ ha), tup1, _, e4, a, _, 0, _, rfl, rfl, SqT.of (s2' _ _ ha), tup0, _, _, rfl, rfl, ?_⟩
        refine key H2 l1 _ s2' ?_ h12
        have e' : (inB 1 6 (.int i) && inB 1 6 (.int j)) = true := e
        show decide (i < j) = !((inB 1 6 (.int i) && inB 1 6 (.int j)) && decide (j ≤ i))
        rw [e', Bool.true_and]
        by_cases z : j ≤ i
        · rw [decide_eq_true z, decide_eq_false (by omega)]; rfl
        · rw [decide_eq_false z, decide_eq_true (by omega)]; rfl
      · rw [e]
        refine ⟨_, rfl, _, rfl, iteT ?_⟩
        refine key H2 l1 _ s2' ?_ h12
        rw [times_no e]
        rfl
    · obtain ⟨l, bs, e8, hl, ln, gs, h⟩ := h
      refine ⟨_, e8, (by show 0 ≤ sizeLine; decide), fun l2 n2 => ?_⟩
      have s1 := same_new (o := .lst []) n2
      refine ⟨.list (bs.map .str), .list [], .lst (SqL.of (s1 _ _ hl)) (dp_strs bs), .lst (SqL.of upd_same) .nil, sh_good gs, sh_ints [], ?_⟩
      rw [eqv_strs]
      rcases h with ⟨c, r, rfl, k⟩ | ⟨rfl, a, p1, q1, k1, e4, ha, e5, k⟩
      · refine ⟨_, rfl, iteT ?_⟩
        obtain ⟨w1, w2⟩ := good_show (gs c List.mem_cons_self)
        exact ⟨_, e8, l, _, 0, .str c, rfl, rfl, SqL.of (s1 _ _ hl), atI_nat (j := 0) rfl, .str c, .str c, rfl, .plain (.str c) rfl, w1, (by show 0 ≤ 32; decide), w2, (by show 2 ≤ sizeLine; decide), fun t nt => k t _ (s1.trans (same_new nt)) upd_same⟩
      · refine ⟨_, rfl, iteF ?_⟩
        refine ⟨_, e4, _, e5, (by show 1 ≤ sizeLine; decide), fun t nt => ?_⟩
        have s2 := s1.trans (same_new (o := .tup [.int k1]) nt)
        refine catA (xs := [.int p1, .int q1]) (ys := [.int k1]) (s2 _ _ ha) upd_same (by show 2 + 1 ≤ 1000; decide) fun r H3 s3 h3 => ?_
        have s3 := s2.trans s3
        refine ⟨r, .tr p1 q1 k1, rfl, h3, ?_⟩
        have e : halvesO (Row.tr p1 q1 k1).p (Row.tr p1 q1 k1).q (Row.tr p1 q1 k1).k = halvesO p1 q1 k1 := rfl
        rw [e]
        revert k
        cases halvesO p1 q1 k1 with
        | ok => exact fun k H' s => k H' (s3.trans s)
        | rule m => exact fun k H' s => k H' (s3.trans s)
        | halves v => exact fun k t H' s ht => k t H' (s3.trans s) ht
    · refine ⟨(by show 2 ≤ sizeLine; decide), fun t0 n0 => ?_⟩
      have ss0 := Same.trans (Same.refl H) (same_new (o := .tup [.int 3, .int 1]) n0)
      have pn0 := pn.new (o := .tup [.int 3, .int 1]) n0
      have e0 := pn.ne n0
      have f0 : upd H t0 (.tup [.int 3, .int 1]) t0 = some (.tup [.int 3, .int 1]) := upd_same
      generalize upd H t0 (.tup [.int 3, .int 1]) = Q0 at ss0 pn0  f0 ⊢
      clear n0
      refine ⟨(by show 2 ≤ sizeLine; decide), fun t1 n1 => ?_⟩
      have ss1 := Same.trans ss0 (same_new (o := .tup [.int 6, .int 6]) n1)
      have pn1 := pn0.new (o := .tup [.int 6, .int 6]) n1
      have e1 := pn0.ne n1
      replace f0 := same_new (o := .tup [.int 6, .int 6]) n1 _ _ f0
      have f1 : upd Q0 t1 (.tup [.int 6, .int 6]) t1 = some (.tup [.int 6, .int 6]) := upd_same
      generalize upd Q0 t1 (.tup [.int 6, .int 6]) = Q1 at ss1 pn1 f0 f1 ⊢
      clear ss0 pn0
      clear n1
      refine ⟨(by show 2 ≤ sizeLine; decide), fun t2 n2 => ?_⟩
      have ss2 := Same.trans ss1 (same_new (o := .tup [.int 7, .int 1]) n2)
      have pn2 := pn1.new (o := .tup [.int 7, .int 1]) n2
      have e2 := pn1.ne n2
      replace f0 := same_new (o := .tup [.int 7, .int 1]) n2 _ _ f0
      replace f1 := same_new (o := .tup [.int 7, .int 1]) n2 _ _ f1
      have f2 : upd Q1 t2 (.tup [.int 7, .int 1]) t2 = some (.tup [.int 7, .int 1]) := upd_same
      generalize upd Q1 t2 (.tup [.int 7, .int 1]) = Q2 at ss2 pn2 f0 f1 f2 ⊢
      clear ss1 pn1
      clear n2
      refine ⟨(by show 2 ≤ sizeLine; decide), fun t3 n3 => ?_⟩
      have ss3 := Same.trans ss2 (same_new (o := .tup [.int 2, .int 3]) n3)
      have pn3 := pn2.new (o := .tup [.int 2, .int 3]) n3
      have e3 := pn2.ne n3
      replace f0 := same_new (o := .tup [.int 2, .int 3]) n3 _ _ f0
      replace f1 := same_new (o := .tup [.int 2, .int 3]) n3 _ _ f1
      replace f2 := same_new (o := .tup [.int 2, .int 3]) n3 _ _ f2
      have f3 : upd Q2 t3 (.tup [.int 2, .int 3]) t3 = some (.tup [.int 2, .int 3]) := upd_same
      generalize upd Q2 t3 (.tup [.int 2, .int 3]) = Q3 at ss3 pn3 f0 f1 f2 f3 ⊢
      clear ss2 pn2
      clear n3
      refine ⟨(by show 2 ≤ sizeLine; decide), fun t4 n4 => ?_⟩
      have ss4 := Same.trans ss3 (same_new (o := .tup [.int 0, .int 1]) n4)
      have pn4 := pn3.new (o := .tup [.int 0, .int 1]) n4
      have e4 := pn3.ne n4
      replace f0 := same_new (o := .tup [.int 0, .int 1]) n4 _ _ f0
      replace f1 := same_new (o := .tup [.int 0, .int 1]) n4 _ _ f1
      replace f2 := same_new (o := .tup [.int 0, .int 1]) n4 _ _ f2
      replace f3 := same_new (o := .tup [.int 0, .int 1]) n4 _ _ f3
      have f4 : upd Q3 t4 (.tup [.int 0, .int 1]) t4 = some (.tup [.int 0, .int 1]) := upd_same
      generalize upd Q3 t4 (.tup [.int 0, .int 1]) = Q4 at ss4 pn4 f0 f1 f2 f3 f4 ⊢
      clear ss3 pn3
      clear n4
      refine ⟨(by show 2 ≤ sizeLine; decide), fun t5 n5 => ?_⟩
      have ss5 := Same.trans ss4 (same_new (o := .tup [.int 3, .int 0]) n5)
      have pn5 := pn4.new (o := .tup [.int 3, .int 0]) n5
      have e5 := pn4.ne n5
      replace f0 := same_new (o := .tup [.int 3, .int 0]) n5 _ _ f0
      replace f1 := same_new (o := .tup [.int 3, .int 0]) n5 _ _ f1
      replace f2 := same_new (o := .tup [.int 3, .int 0]) n5 _ _ f2
      replace f3 := same_new (o := .tup [.int 3, .int 0]) n5 _ _ f3
      replace f4 := same_new (o := .tup [.int 3, .int 0]) n5 _ _ f4
      have f5 : upd Q4 t5 (.tup [.int 3, .int 0]) t5 = some (.tup [.int 3, .int 0]) := upd_same
      generalize upd Q4 t5 (.tup [.int 3, .int 0]) = Q5 at ss5 pn5 f0 f1 f2 f3 f4 f5 ⊢
      clear ss4 pn4
      clear n5
      refine ⟨(by show 2 ≤ sizeLine; decide), fun t6 n6 => ?_⟩
      have ss6 := Same.trans ss5 (same_new (o := .lst [.int 3, .int 1]) n6)
      have pn6 := pn5.new (o := .lst [.int 3, .int 1]) n6
      have e6 := pn5.ne n6
      replace f0 := same_new (o := .lst [.int 3, .int 1]) n6 _ _ f0
      replace f1 := same_new (o := .lst [.int 3, .int 1]) n6 _ _ f1
      replace f2 := same_new (o := .lst [.int 3, .int 1]) n6 _ _ f2
      replace f3 := same_new (o := .lst [.int 3, .int 1]) n6 _ _ f3
      replace f4 := same_new (o := .lst [.int 3, .int 1]) n6 _ _ f4
      replace f5 := same_new (o := .lst [.int 3, .int 1]) n6 _ _ f5
      have f6 : upd Q5 t6 (.lst [.int 3, .int 1]) t6 = some (.lst [.int 3, .int 1]) := upd_same
      generalize upd Q5 t6 (.lst [.int 3, .int 1]) = Q6 at ss6 pn6 f0 f1 f2 f3 f4 f5 f6 ⊢
      clear ss5 pn5
      clear n6
      refine ⟨(by show 1 ≤ sizeLine; decide), fun t7 n7 => ?_⟩
      have ss7 := Same.trans ss6 (same_new (o := .tup [.int 3]) n7)
      have pn7 := pn6.new (o := .tup [.int 3]) n7
      have e7 := pn6.ne n7
      replace f0 := same_new (o := .tup [.int 3]) n7 _ _ f0
      replace f1 := same_new (o := .tup [.int 3]) n7 _ _ f1
      replace f2 := same_new (o := .tup [.int 3]) n7 _ _ f2
      replace f3 := same_new (o := .tup [.int 3]) n7 _ _ f3
      replace f4 := same_new (o := .tup [.int 3]) n7 _ _ f4
      replace f5 := same_new (o := .tup [.int 3]) n7 _ _ f5
      replace f6 := same_new (o := .tup [.int 3]) n7 _ _ f6
      have f7 : upd Q6 t7 (.tup [.int 3]) t7 = some (.tup [.int 3]) := upd_same
      generalize upd Q6 t7 (.tup [.int 3]) = Q7 at ss7 pn7 f0 f1 f2 f3 f4 f5 f6 f7 ⊢
      clear ss6 pn6
      clear n7
      refine ⟨(by show 3 ≤ sizeLine; decide), fun t8 n8 => ?_⟩
      have ss8 := Same.trans ss7 (same_new (o := .tup [.int 3, .int 1, .int 1]) n8)
      have pn8 := pn7.new (o := .tup [.int 3, .int 1, .int 1]) n8
      have e8 := pn7.ne n8
      replace f0 := same_new (o := .tup [.int 3, .int 1, .int 1]) n8 _ _ f0
      replace f1 := same_new (o := .tup [.int 3, .int 1, .int 1]) n8 _ _ f1
      replace f2 := same_new (o := .tup [.int 3, .int 1, .int 1]) n8 _ _ f2
      replace f3 := same_new (o := .tup [.int 3, .int 1, .int 1]) n8 _ _ f3
      replace f4 := same_new (o := .tup [.int 3, .int 1, .int 1]) n8 _ _ f4
      replace f5 := same_new (o := .tup [.int 3, .int 1, .int 1]) n8 _ _ f5
      replace f6 := same_new (o := .tup [.int 3, .int 1, .int 1]) n8 _ _ f6
      replace f7 := same_new (o := .tup [.int 3, .int 1, .int 1]) n8 _ _ f7
      have f8 : upd Q7 t8 (.tup [.int 3, .int 1, .int 1]) t8 = some (.tup [.int 3, .int 1, .int 1]) := upd_same
      generalize upd Q7 t8 (.tup [.int 3, .int 1, .int 1]) = Q8 at ss8 pn8 f0 f1 f2 f3 f4 f5 f6 f7 f8 ⊢
      clear ss7 pn7
      clear n8
      refine ⟨(by show 2 ≤ sizeLine; decide), fun t9 n9 => ?_⟩
      have ss9 := Same.trans ss8 (same_new (o := .tup [.bl true, .int 1]) n9)
      have pn9 := pn8.new (o := .tup [.bl true, .int 1]) n9
      have e9 := pn8.ne n9
      replace f0 := same_new (o := .tup [.bl true, .int 1]) n9 _ _ f0
      replace f1 := same_new (o := .tup [.bl true, .int 1]) n9 _ _ f1
      replace f2 := same_new (o := .tup [.bl true, .int 1]) n9 _ _ f2
      replace f3 := same_new (o := .tup [.bl true, .int 1]) n9 _ _ f3
      replace f4 := same_new (o := .tup [.bl true, .int 1]) n9 _ _ f4
      replace f5 := same_new (o := .tup [.bl true, .int 1]) n9 _ _ f5
      replace f6 := same_new (o := .tup [.bl true, .int 1]) n9 _ _ f6
      replace f7 := same_new (o := .tup [.bl true, .int 1]) n9 _ _ f7
      replace f8 := same_new (o := .tup [.bl true, .int 1]) n9 _ _ f8
      have f9 : upd Q8 t9 (.tup [.bl true, .int 1]) t9 = some (.tup [.bl true, .int 1]) := upd_same
      generalize upd Q8 t9 (.tup [.bl true, .int 1]) = Q9 at ss9 pn9 f0 f1 f2 f3 f4 f5 f6 f7 f8 f9 ⊢
      clear ss8 pn8
      clear n9
      intro t10 n10
      have ss10 := Same.trans ss9 (same_new (o := .dK []) n10)
      have pn10 := pn9.new (o := .dK []) n10
      have e10 := pn9.ne n10
      replace f0 := same_new (o := .dK []) n10 _ _ f0
      replace f1 := same_new (o := .dK []) n10 _ _ f1
      replace f2 := same_new (o := .dK []) n10 _ _ f2
      replace f3 := same_new (o := .dK []) n10 _ _ f3
      replace f4 := same_new (o := .dK []) n10 _ _ f4
      replace f5 := same_new (o := .dK []) n10 _ _ f5
      replace f6 := same_new (o := .dK []) n10 _ _ f6
      replace f7 := same_new (o := .dK []) n10 _ _ f7
      replace f8 := same_new (o := .dK []) n10 _ _ f8
      replace f9 := same_new (o := .dK []) n10 _ _ f9
      have f10 : upd Q9 t10 (.dK []) t10 = some (.dK []) := upd_same
      generalize upd Q9 t10 (.dK []) = Q10 at ss10 pn10 f0 f1 f2 f3 f4 f5 f6 f7 f8 f9 f10 ⊢
      clear ss9 pn9
      clear n10
      refine ⟨(by show 14 ≤ sizeLine; decide), fun t11 n11 => ?_⟩
      have ss11 := Same.trans ss10 (same_new (o := .lst [.ref t0, .ref t1, .ref t2, .ref t3, .ref t4, .ref t5, .ref t6, .ref t7, .ref t8, .int 3, .non, .str "3/1", .ref t9, .ref t10]) n11)
      have pn11 := pn10.new (o := .lst [.ref t0, .ref t1, .ref t2, .ref t3, .ref t4, .ref t5, .ref t6, .ref t7, .ref t8, .int 3, .non, .str "3/1", .ref t9, .ref t10]) n11
      have e11 := pn10.ne n11
      replace f0 := same_new (o := .lst [.ref t0, .ref t1, .ref t2, .ref t3, .ref t4, .ref t5, .ref t6, .ref t7, .ref t8, .int 3, .non, .str "3/1", .ref t9, .ref t10]) n11 _ _ f0
      replace f1 := same_new (o := .lst [.ref t0, .ref t1, .ref t2, .ref t3, .ref t4, .ref t5, .ref t6, .ref t7, .ref t8, .int 3, .non, .str "3/1", .ref t9, .ref t10]) n11 _ _ f1
      replace f2 := same_new (o := .lst [.ref t0, .ref t1, .ref t2, .ref t3, .ref t4, .ref t5, .ref t6, .ref t7, .ref t8, .int 3, .non, .str "3/1", .ref t9, .ref t10]) n11 _ _ f2
      replace f3 := same_new (o := .lst [.ref t0, .ref t1, .ref t2, .ref t3, .ref t4, .ref t5, .ref t6, .ref t7, .ref t8, .int 3, .non, .str "3/1", .ref t9, .ref t10]) n11 _ _ f3
      replace f4 := same_new (o := .lst [.ref t0, .ref t1, .ref t2, .ref t3, .ref t4, .ref t5, .ref t6, .ref t7, .ref t8, .int 3, .non, .str "3/1", .ref t9, .ref t10]) n11 _ _ f4
      replace f5 := same_new (o := .lst [.ref t0, .ref t1, .ref t2, .ref t3, .ref t4, .ref t5, .ref t6, .ref t7, .ref t8, .int 3, .non, .str "3/1", .ref t9, .ref t10]) n11 _ _ f5
      replace f6 := same_new (o := .lst [.ref t0, .ref t1, .ref t2, .ref t3, .ref t4, .ref t5, .ref t6, .ref t7, .ref t8, .int 3, .non, .str "3/1", .ref t9, .ref t10]) n11 _ _ f6
      replace f7 := same_new (o := .lst [.ref t0, .ref t1, .ref t2, .ref t3, .ref t4, .ref t5, .ref t6, .ref t7, .ref t8, .int 3, .non, .str "3/1", .ref t9, .ref t10]) n11 _ _ f7
      replace f8 := same_new (o := .lst [.ref t0, .ref t1, .ref t2, .ref t3, .ref t4, .ref t5, .ref t6, .ref t7, .ref t8, .int 3, .non, .str "3/1", .ref t9, .ref t10]) n11 _ _ f8
      replace f9 := same_new (o := .lst [.ref t0, .ref t1, .ref t2, .ref t3, .ref t4, .ref t5, .ref t6, .ref t7, .ref t8, .int 3, .non, .str "3/1", .ref t9, .ref t10]) n11 _ _ f9
      replace f10 := same_new (o := .lst [.ref t0, .ref t1, .ref t2, .ref t3, .ref t4, .ref t5, .ref t6, .ref t7, .ref t8, .int 3, .non, .str "3/1", .ref t9, .ref t10]) n11 _ _ f10
      have f11 : upd Q10 t11 (.lst [.ref t0, .ref t1, .ref t2, .ref t3, .ref t4, .ref t5, .ref t6, .ref t7, .ref t8, .int 3, .non, .str "3/1", .ref t9, .ref t10]) t11 = some (.lst [.ref t0, .ref t1, .ref t2, .ref t3, .ref t4, .ref t5, .ref t6, .ref t7, .ref t8, .int 3, .non, .str "3/1", .ref t9, .ref t10]) := upd_same
      generalize upd Q10 t11 (.lst [.ref t0, .ref t1, .ref t2, .ref t3, .ref t4, .ref t5, .ref t6, .ref t7, .ref t8, .int 3, .non, .str "3/1", .ref t9, .ref t10]) = Q11 at ss11 pn11 f0 f1 f2 f3 f4 f5 f6 f7 f8 f9 f10 f11 ⊢
      clear ss10 pn10
      clear n11
      refine ⟨_, rfl, _, rfl, (by show 1 ≤ sizeLine; decide), fun t12 n12 => ?_⟩
      have ss12 := Same.trans ss11 (same_new (o := .tup [.int 0]) n12)
      have pn12 := pn11.new (o := .tup [.int 0]) n12
      have e12 := pn11.ne n12
      replace f0 := same_new (o := .tup [.int 0]) n12 _ _ f0
      replace f1 := same_new (o := .tup [.int 0]) n12 _ _ f1
      replace f2 := same_new (o := .tup [.int 0]) n12 _ _ f2
      replace f3 := same_new (o := .tup [.int 0]) n12 _ _ f3
      replace f4 := same_new (o := .tup [.int 0]) n12 _ _ f4
      replace f5 := same_new (o := .tup [.int 0]) n12 _ _ f5
      replace f6 := same_new (o := .tup [.int 0]) n12 _ _ f6
      replace f7 := same_new (o := .tup [.int 0]) n12 _ _ f7
      replace f8 := same_new (o := .tup [.int 0]) n12 _ _ f8
      replace f9 := same_new (o := .tup [.int 0]) n12 _ _ f9
      replace f10 := same_new (o := .tup [.int 0]) n12 _ _ f10
      replace f11 := same_new (o := .tup [.int 0]) n12 _ _ f11
      have f12 : upd Q11 t12 (.tup [.int 0]) t12 = some (.tup [.int 0]) := upd_same
      generalize upd Q11 t12 (.tup [.int 0]) = Q12 at ss12 pn12 f0 f1 f2 f3 f4 f5 f6 f7 f8 f9 f10 f11 f12 ⊢
      clear ss11 pn11
      clear n12
      refine ⟨(by show 0 ≤ sizeLine; decide), fun t13 n13 => ?_⟩
      have ss13 := Same.trans ss12 (same_new (o := .lst []) n13)
      have pn13 := pn12.new (o := .lst []) n13
      have e13 := pn12.ne n13
      replace f0 := same_new (o := .lst []) n13 _ _ f0
      replace f1 := same_new (o := .lst []) n13 _ _ f1
      replace f2 := same_new (o := .lst []) n13 _ _ f2
      replace f3 := same_new (o := .lst []) n13 _ _ f3
      replace f4 := same_new (o := .lst []) n13 _ _ f4
      replace f5 := same_new (o := .lst []) n13 _ _ f5
      replace f6 := same_new (o := .lst []) n13 _ _ f6
      replace f7 := same_new (o := .lst []) n13 _ _ f7
      replace f8 := same_new (o := .lst []) n13 _ _ f8
      replace f9 := same_new (o := .lst []) n13 _ _ f9
      replace f10 := same_new (o := .lst []) n13 _ _ f10
      replace f11 := same_new (o := .lst []) n13 _ _ f11
      replace f12 := same_new (o := .lst []) n13 _ _ f12
      have f13 : upd Q12 t13 (.lst []) t13 = some (.lst []) := upd_same
      generalize upd Q12 t13 (.lst []) = Q13 at ss13 pn13 f0 f1 f2 f3 f4 f5 f6 f7 f8 f9 f10 f11 f12 f13 ⊢
      clear ss12 pn12
      clear n13
      refine ⟨_, _, rfl, rfl, ⟨by decide, by decide, by decide⟩, (by show 11 ≤ sizeLine; decide), fun t14 n14 => ?_⟩
      have ss14 := Same.trans ss13 (same_new (o := .lst [.int 0, .int 6, .int (-6), .int 7, .int (-7), .non, .str "0", .bl true, .ref t12, .ref t13, .int (10 ^ Int.toNat 30)]) n14)
      have pn14 := pn13.new (o := .lst [.int 0, .int 6, .int (-6), .int 7, .int (-7), .non, .str "0", .bl true, .ref t12, .ref t13, .int (10 ^ Int.toNat 30)]) n14
      have e14 := pn13.ne n14
      replace f0 := same_new (o := .lst [.int 0, .int 6, .int (-6), .int 7, .int (-7), .non, .str "0", .bl true, .ref t12, .ref t13, .int (10 ^ Int.toNat 30)]) n14 _ _ f0
      replace f1 := same_new (o := .lst [.int 0, .int 6, .int (-6), .int 7, .int (-7), .non, .str "0", .bl true, .ref t12, .ref t13, .int (10 ^ Int.toNat 30)]) n14 _ _ f1
      replace f2 := same_new (o := .lst [.int 0, .int 6, .int (-6), .int 7, .int (-7), .non, .str "0", .bl true, .ref t12, .ref t13, .int (10 ^ Int.toNat 30)]) n14 _ _ f2
      replace f3 := same_new (o := .lst [.int 0, .int 6, .int (-6), .int 7, .int (-7), .non, .str "0", .bl true, .ref t12, .ref t13, .int (10 ^ Int.toNat 30)]) n14 _ _ f3
      replace f4 := same_new (o := .lst [.int 0, .int 6, .int (-6), .int 7, .int (-7), .non, .str "0", .bl true, .ref t12, .ref t13, .int (10 ^ Int.toNat 30)]) n14 _ _ f4
      replace f5 := same_new (o := .lst [.int 0, .int 6, .int (-6), .int 7, .int (-7), .non, .str "0", .bl true, .ref t12, .ref t13, .int (10 ^ Int.toNat 30)]) n14 _ _ f5
      replace f6 := same_new (o := .lst [.int 0, .int 6, .int (-6), .int 7, .int (-7), .non, .str "0", .bl true, .ref t12, .ref t13, .int (10 ^ Int.toNat 30)]) n14 _ _ f6
      replace f7 := same_new (o := .lst [.int 0, .int 6, .int (-6), .int 7, .int (-7), .non, .str "0", .bl true, .ref t12, .ref t13, .int (10 ^ Int.toNat 30)]) n14 _ _ f7
      replace f8 := same_new (o := .lst [.int 0, .int 6, .int (-6), .int 7, .int (-7), .non, .str "0", .bl true, .ref t12, .ref t13, .int (10 ^ Int.toNat 30)]) n14 _ _ f8
      replace f9 := same_new (o := .lst [.int 0, .int 6, .int (-6), .int 7, .int (-7), .non, .str "0", .bl true, .ref t12, .ref t13, .int (10 ^ Int.toNat 30)]) n14 _ _ f9
      replace f10 := same_new (o := .lst [.int 0, .int 6, .int (-6), .int 7, .int (-7), .non, .str "0", .bl true, .ref t12, .ref t13, .int (10 ^ Int.toNat 30)]) n14 _ _ f10
      replace f11 := same_new (o := .lst [.int 0, .int 6, .int (-6), .int 7, .int (-7), .non, .str "0", .bl true, .ref t12, .ref t13, .int (10 ^ Int.toNat 30)]) n14 _ _ f11
      replace f12 := same_new (o := .lst [.int 0, .int 6, .int (-6), .int 7, .int (-7), .non, .str "0", .bl true, .ref t12, .ref t13, .int (10 ^ Int.toNat 30)]) n14 _ _ f12
      replace f13 := same_new (o := .lst [.int 0, .int 6, .int (-6), .int 7, .int (-7), .non, .str "0", .bl true, .ref t12, .ref t13, .int (10 ^ Int.toNat 30)]) n14 _ _ f13
      have f14 : upd Q13 t14 (.lst [.int 0, .int 6, .int (-6), .int 7, .int (-7), .non, .str "0", .bl true, .ref t12, .ref t13, .int (10 ^ Int.toNat 30)]) t14 = some (.lst [.int 0, .int 6, .int (-6), .int 7, .int (-7), .non, .str "0", .bl true, .ref t12, .ref t13, .int (10 ^ Int.toNat 30)]) := upd_same
      generalize upd Q13 t14 (.lst [.int 0, .int 6, .int (-6), .int 7, .int (-7), .non, .str "0", .bl true, .ref t12, .ref t13, .int (10 ^ Int.toNat 30)]) = Q14 at ss14 pn14 f0 f1 f2 f3 f4 f5 f6 f7 f8 f9 f10 f11 f12 f13 f14 ⊢
      clear ss13 pn13
      clear n14
      refine ⟨(by show 2 ≤ sizeLine; decide), fun t15 n15 => ?_⟩
      have ss15 := Same.trans ss14 (same_new (o := .tup [.int 2, .int 1]) n15)
      have pn15 := pn14.new (o := .tup [.int 2, .int 1]) n15
      have e15 := pn14.ne n15
      replace f0 := same_new (o := .tup [.int 2, .int 1]) n15 _ _ f0
      replace f1 := same_new (o := .tup [.int 2, .int 1]) n15 _ _ f1
      replace f2 := same_new (o := .tup [.int 2, .int 1]) n15 _ _ f2
      replace f3 := same_new (o := .tup [.int 2, .int 1]) n15 _ _ f3
      replace f4 := same_new (o := .tup [.int 2, .int 1]) n15 _ _ f4
      replace f5 := same_new (o := .tup [.int 2, .int 1]) n15 _ _ f5
      replace f6 := same_new (o := .tup [.int 2, .int 1]) n15 _ _ f6
      replace f7 := same_new (o := .tup [.int 2, .int 1]) n15 _ _ f7
      replace f8 := same_new (o := .tup [.int 2, .int 1]) n15 _ _ f8
      replace f9 := same_new (o := .tup [.int 2, .int 1]) n15 _ _ f9
      replace f10 := same_new (o := .tup [.int 2, .int 1]) n15 _ _ f10
      replace f11 := same_new (o := .tup [.int 2, .int 1]) n15 _ _ f11
      replace f12 := same_new (o := .tup [.int 2, .int 1]) n15 _ _ f12
      replace f13 := same_new (o := .tup [.int 2, .int 1]) n15 _ _ f13
      replace f14 := same_new (o := .tup [.int 2, .int 1]) n15 _ _ f14
      have f15 : upd Q14 t15 (.tup [.int 2, .int 1]) t15 = some (.tup [.int 2, .int 1]) := upd_same
      generalize upd Q14 t15 (.tup [.int 2, .int 1]) = Q15 at ss15 pn15 f0 f1 f2 f3 f4 f5 f6 f7 f8 f9 f10 f11 f12 f13 f14 f15 ⊢
      clear ss14 pn14
      clear n15
      refine ⟨(by show 2 ≤ sizeLine; decide), fun t16 n16 => ?_⟩
      have ss16 := Same.trans ss15 (same_new (o := .tup [.int 8, .int 8]) n16)
      have pn16 := pn15.new (o := .tup [.int 8, .int 8]) n16
      have e16 := pn15.ne n16
      replace f0 := same_new (o := .tup [.int 8, .int 8]) n16 _ _ f0
      replace f1 := same_new (o := .tup [.int 8, .int 8]) n16 _ _ f1
      replace f2 := same_new (o := .tup [.int 8, .int 8]) n16 _ _ f2
      replace f3 := same_new (o := .tup [.int 8, .int 8]) n16 _ _ f3
      replace f4 := same_new (o := .tup [.int 8, .int 8]) n16 _ _ f4
      replace f5 := same_new (o := .tup [.int 8, .int 8]) n16 _ _ f5
      replace f6 := same_new (o := .tup [.int 8, .int 8]) n16 _ _ f6
      replace f7 := same_new (o := .tup [.int 8, .int 8]) n16 _ _ f7
      replace f8 := same_new (o := .tup [.int 8, .int 8]) n16 _ _ f8
      replace f9 := same_new (o := .tup [.int 8, .int 8]) n16 _ _ f9
      replace f10 := same_new (o := .tup [.int 8, .int 8]) n16 _ _ f10
      replace f11 := same_new (o := .tup [.int 8, .int 8]) n16 _ _ f11
      replace f12 := same_new (o := .tup [.int 8, .int 8]) n16 _ _ f12
      replace f13 := same_new (o := .tup [.int 8, .int 8]) n16 _ _ f13
      replace f14 := same_new (o := .tup [.int 8, .int 8]) n16 _ _ f14
      replace f15 := same_new (o := .tup [.int 8, .int 8]) n16 _ _ f15
      have f16 : upd Q15 t16 (.tup [.int 8, .int 8]) t16 = some (.tup [.int 8, .int 8]) := upd_same
      generalize upd Q15 t16 (.tup [.int 8, .int 8]) = Q16 at ss16 pn16 f0 f1 f2 f3 f4 f5 f6 f7 f8 f9 f10 f11 f12 f13 f14 f15 f16 ⊢
      clear ss15 pn15
      clear n16
      refine ⟨(by show 2 ≤ sizeLine; decide), fun t17 n17 => ?_⟩
      have ss17 := Same.trans ss16 (same_new (o := .tup [.int 9, .int 1]) n17)
      have pn17 := pn16.new (o := .tup [.int 9, .int 1]) n17
      have e17 := pn16.ne n17
      replace f0 := same_new (o := .tup [.int 9, .int 1]) n17 _ _ f0
      replace f1 := same_new (o := .tup [.int 9, .int 1]) n17 _ _ f1
      replace f2 := same_new (o := .tup [.int 9, .int 1]) n17 _ _ f2
      replace f3 := same_new (o := .tup [.int 9, .int 1]) n17 _ _ f3
      replace f4 := same_new (o := .tup [.int 9, .int 1]) n17 _ _ f4
      replace f5 := same_new (o := .tup [.int 9, .int 1]) n17 _ _ f5
      replace f6 := same_new (o := .tup [.int 9, .int 1]) n17 _ _ f6
      replace f7 := same_new (o := .tup [.int 9, .int 1]) n17 _ _ f7
      replace f8 := same_new (o := .tup [.int 9, .int 1]) n17 _ _ f8
      replace f9 := same_new (o := .tup [.int 9, .int 1]) n17 _ _ f9
      replace f10 := same_new (o := .tup [.int 9, .int 1]) n17 _ _ f10
      replace f11 := same_new (o := .tup [.int 9, .int 1]) n17 _ _ f11
      replace f12 := same_new (o := .tup [.int 9, .int 1]) n17 _ _ f12
      replace f13 := same_new (o := .tup [.int 9, .int 1]) n17 _ _ f13
      replace f14 := same_new (o := .tup [.int 9, .int 1]) n17 _ _ f14
      replace f15 := same_new (o := .tup [.int 9, .int 1]) n17 _ _ f15
      replace f16 := same_new (o := .tup [.int 9, .int 1]) n17 _ _ f16
      have f17 : upd Q16 t17 (.tup [.int 9, .int 1]) t17 = some (.tup [.int 9, .int 1]) := upd_same
      generalize upd Q16 t17 (.tup [.int 9, .int 1]) = Q17 at ss17 pn17 f0 f1 f2 f3 f4 f5 f6 f7 f8 f9 f10 f11 f12 f13 f14 f15 f16 f17 ⊢
      clear ss16 pn16
      clear n17
      refine ⟨(by show 2 ≤ sizeLine; decide), fun t18 n18 => ?_⟩
      have ss18 := Same.trans ss17 (same_new (o := .tup [.int 1, .int 9]) n18)
      have pn18 := pn17.new (o := .tup [.int 1, .int 9]) n18
      have e18 := pn17.ne n18
      replace f0 := same_new (o := .tup [.int 1, .int 9]) n18 _ _ f0
      replace f1 := same_new (o := .tup [.int 1, .int 9]) n18 _ _ f1
      replace f2 := same_new (o := .tup [.int 1, .int 9]) n18 _ _ f2
      replace f3 := same_new (o := .tup [.int 1, .int 9]) n18 _ _ f3
      replace f4 := same_new (o := .tup [.int 1, .int 9]) n18 _ _ f4
      replace f5 := same_new (o := .tup [.int 1, .int 9]) n18 _ _ f5
      replace f6 := same_new (o := .tup [.int 1, .int 9]) n18 _ _ f6
      replace f7 := same_new (o := .tup [.int 1, .int 9]) n18 _ _ f7
      replace f8 := same_new (o := .tup [.int 1, .int 9]) n18 _ _ f8
      replace f9 := same_new (o := .tup [.int 1, .int 9]) n18 _ _ f9
      replace f10 := same_new (o := .tup [.int 1, .int 9]) n18 _ _ f10
      replace f11 := same_new (o := .tup [.int 1, .int 9]) n18 _ _ f11
      replace f12 := same_new (o := .tup [.int 1, .int 9]) n18 _ _ f12
      replace f13 := same_new (o := .tup [.int 1, .int 9]) n18 _ _ f13
      replace f14 := same_new (o := .tup [.int 1, .int 9]) n18 _ _ f14
      replace f15 := same_new (o := .tup [.int 1, .int 9]) n18 _ _ f15
      replace f16 := same_new (o := .tup [.int 1, .int 9]) n18 _ _ f16
      replace f17 := same_new (o := .tup [.int 1, .int 9]) n18 _ _ f17
      have f18 : upd Q17 t18 (.tup [.int 1, .int 9]) t18 = some (.tup [.int 1, .int 9]) := upd_same
      generalize upd Q17 t18 (.tup [.int 1, .int 9]) = Q18 at ss18 pn18 f0 f1 f2 f3 f4 f5 f6 f7 f8 f9 f10 f11 f12 f13 f14 f15 f16 f17 f18 ⊢
      clear ss17 pn17
      clear n18
      refine ⟨(by show 2 ≤ sizeLine; decide), fun t19 n19 => ?_⟩
      have ss19 := Same.trans ss18 (same_new (o := .tup [.int 0, .int 0]) n19)
      have pn19 := pn18.new (o := .tup [.int 0, .int 0]) n19
      have e19 := pn18.ne n19
      replace f0 := same_new (o := .tup [.int 0, .int 0]) n19 _ _ f0
      replace f1 := same_new (o := .tup [.int 0, .int 0]) n19 _ _ f1
      replace f2 := same_new (o := .tup [.int 0, .int 0]) n19 _ _ f2
      replace f3 := same_new (o := .tup [.int 0, .int 0]) n19 _ _ f3
      replace f4 := same_new (o := .tup [.int 0, .int 0]) n19 _ _ f4
      replace f5 := same_new (o := .tup [.int 0, .int 0]) n19 _ _ f5
      replace f6 := same_new (o := .tup [.int 0, .int 0]) n19 _ _ f6
      replace f7 := same_new (o := .tup [.int 0, .int 0]) n19 _ _ f7
      replace f8 := same_new (o := .tup [.int 0, .int 0]) n19 _ _ f8
      replace f9 := same_new (o := .tup [.int 0, .int 0]) n19 _ _ f9
      replace f10 := same_new (o := .tup [.int 0, .int 0]) n19 _ _ f10
      replace f11 := same_new (o := .tup [.int 0, .int 0]) n19 _ _ f11
      replace f12 := same_new (o := .tup [.int 0, .int 0]) n19 _ _ f12
      replace f13 := same_new (o := .tup [.int 0, .int 0]) n19 _ _ f13
      replace f14 := same_new (o := .tup [.int 0, .int 0]) n19 _ _ f14
      replace f15 := same_new (o := .tup [.int 0, .int 0]) n19 _ _ f15
      replace f16 := same_new (o := .tup [.int 0, .int 0]) n19 _ _ f16
      replace f17 := same_new (o := .tup [.int 0, .int 0]) n19 _ _ f17
      replace f18 := same_new (o := .tup [.int 0, .int 0]) n19 _ _ f18
      have f19 : upd Q18 t19 (.tup [.int 0, .int 0]) t19 = some (.tup [.int 0, .int 0]) := upd_same
      generalize upd Q18 t19 (.tup [.int 0, .int 0]) = Q19 at ss19 pn19 f0 f1 f2 f3 f4 f5 f6 f7 f8 f9 f10 f11 f12 f13 f14 f15 f16 f17 f18 f19 ⊢
      clear ss18 pn18
      clear n19
      refine ⟨(by show 2 ≤ sizeLine; decide), fun t20 n20 => ?_⟩
      have ss20 := Same.trans ss19 (same_new (o := .tup [.int 1, .int 2]) n20)
      have pn20 := pn19.new (o := .tup [.int 1, .int 2]) n20
      have e20 := pn19.ne n20
      replace f0 := same_new (o := .tup [.int 1, .int 2]) n20 _ _ f0
      replace f1 := same_new (o := .tup [.int 1, .int 2]) n20 _ _ f1
      replace f2 := same_new (o := .tup [.int 1, .int 2]) n20 _ _ f2
      replace f3 := same_new (o := .tup [.int 1, .int 2]) n20 _ _ f3
      replace f4 := same_new (o := .tup [.int 1, .int 2]) n20 _ _ f4
      replace f5 := same_new (o := .tup [.int 1, .int 2]) n20 _ _ f5
      replace f6 := same_new (o := .tup [.int 1, .int 2]) n20 _ _ f6
      replace f7 := same_new (o := .tup [.int 1, .int 2]) n20 _ _ f7
      replace f8 := same_new (o := .tup [.int 1, .int 2]) n20 _ _ f8
      replace f9 := same_new (o := .tup [.int 1, .int 2]) n20 _ _ f9
      replace f10 := same_new (o := .tup [.int 1, .int 2]) n20 _ _ f10
      replace f11 := same_new (o := .tup [.int 1, .int 2]) n20 _ _ f11
      replace f12 := same_new (o := .tup [.int 1, .int 2]) n20 _ _ f12
      replace f13 := same_new (o := .tup [.int 1, .int 2]) n20 _ _ f13
      replace f14 := same_new (o := .tup [.int 1, .int 2]) n20 _ _ f14
      replace f15 := same_new (o := .tup [.int 1, .int 2]) n20 _ _ f15
      replace f16 := same_new (o := .tup [.int 1, .int 2]) n20 _ _ f16
      replace f17 := same_new (o := .tup [.int 1, .int 2]) n20 _ _ f17
      replace f18 := same_new (o := .tup [.int 1, .int 2]) n20 _ _ f18
      replace f19 := same_new (o := .tup [.int 1, .int 2]) n20 _ _ f19
      have f20 : upd Q19 t20 (.tup [.int 1, .int 2]) t20 = some (.tup [.int 1, .int 2]) := upd_same
      generalize upd Q19 t20 (.tup [.int 1, .int 2]) = Q20 at ss20 pn20 f0 f1 f2 f3 f4 f5 f6 f7 f8 f9 f10 f11 f12 f13 f14 f15 f16 f17 f18 f19 f20 ⊢
      clear ss19 pn19
      clear n20
      refine ⟨(by show 2 ≤ sizeLine; decide), fun t21 n21 => ?_⟩
      have ss21 := Same.trans ss20 (same_new (o := .lst [.int 2, .int 1]) n21)
      have pn21 := pn20.new (o := .lst [.int 2, .int 1]) n21
      have e21 := pn20.ne n21
      replace f0 := same_new (o := .lst [.int 2, .int 1]) n21 _ _ f0
      replace f1 := same_new (o := .lst [.int 2, .int 1]) n21 _ _ f1
      replace f2 := same_new (o := .lst [.int 2, .int 1]) n21 _ _ f2
      replace f3 := same_new (o := .lst [.int 2, .int 1]) n21 _ _ f3
      replace f4 := same_new (o := .lst [.int 2, .int 1]) n21 _ _ f4
      replace f5 := same_new (o := .lst [.int 2, .int 1]) n21 _ _ f5
      replace f6 := same_new (o := .lst [.int 2, .int 1]) n21 _ _ f6
      replace f7 := same_new (o := .lst [.int 2, .int 1]) n21 _ _ f7
      replace f8 := same_new (o := .lst [.int 2, .int 1]) n21 _ _ f8
      replace f9 := same_new (o := .lst [.int 2, .int 1]) n21 _ _ f9
      replace f10 := same_new (o := .lst [.int 2, .int 1]) n21 _ _ f10
      replace f11 := same_new (o := .lst [.int 2, .int 1]) n21 _ _ f11
      replace f12 := same_new (o := .lst [.int 2, .int 1]) n21 _ _ f12
      replace f13 := same_new (o := .lst [.int 2, .int 1]) n21 _ _ f13
      replace f14 := same_new (o := .lst [.int 2, .int 1]) n21 _ _ f14
      replace f15 := same_new (o := .lst [.int 2, .int 1]) n21 _ _ f15
      replace f16 := same_new (o := .lst [.int 2, .int 1]) n21 _ _ f16
      replace f17 := same_new (o := .lst [.int 2, .int 1]) n21 _ _ f17
      replace f18 := same_new (o := .lst [.int 2, .int 1]) n21 _ _ f18
      replace f19 := same_new (o := .lst [.int 2, .int 1]) n21 _ _ f19
      replace f20 := same_new (o := .lst [.int 2, .int 1]) n21 _ _ f20
      have f21 : upd Q20 t21 (.lst [.int 2, .int 1]) t21 = some (.lst [.int 2, .int 1]) := upd_same
      generalize upd Q20 t21 (.lst [.int 2, .int 1]) = Q21 at ss21 pn21 f0 f1 f2 f3 f4 f5 f6 f7 f8 f9 f10 f11 f12 f13 f14 f15 f16 f17 f18 f19 f20 f21 ⊢
      clear ss20 pn20
      clear n21
      refine ⟨(by show 2 ≤ sizeLine; decide), fun t22 n22 => ?_⟩
      have ss22 := Same.trans ss21 (same_new (o := .tup [.int 2, .bl false]) n22)
      have pn22 := pn21.new (o := .tup [.int 2, .bl false]) n22
      have e22 := pn21.ne n22
      replace f0 := same_new (o := .tup [.int 2, .bl false]) n22 _ _ f0
      replace f1 := same_new (o := .tup [.int 2, .bl false]) n22 _ _ f1
      replace f2 := same_new (o := .tup [.int 2, .bl false]) n22 _ _ f2
      replace f3 := same_new (o := .tup [.int 2, .bl false]) n22 _ _ f3
      replace f4 := same_new (o := .tup [.int 2, .bl false]) n22 _ _ f4
      replace f5 := same_new (o := .tup [.int 2, .bl false]) n22 _ _ f5
      replace f6 := same_new (o := .tup [.int 2, .bl false]) n22 _ _ f6
      replace f7 := same_new (o := .tup [.int 2, .bl false]) n22 _ _ f7
      replace f8 := same_new (o := .tup [.int 2, .bl false]) n22 _ _ f8
      replace f9 := same_new (o := .tup [.int 2, .bl false]) n22 _ _ f9
      replace f10 := same_new (o := .tup [.int 2, .bl false]) n22 _ _ f10
      replace f11 := same_new (o := .tup [.int 2, .bl false]) n22 _ _ f11
      replace f12 := same_new (o := .tup [.int 2, .bl false]) n22 _ _ f12
      replace f13 := same_new (o := .tup [.int 2, .bl false]) n22 _ _ f13
      replace f14 := same_new (o := .tup [.int 2, .bl false]) n22 _ _ f14
      replace f15 := same_new (o := .tup [.int 2, .bl false]) n22 _ _ f15
      replace f16 := same_new (o := .tup [.int 2, .bl false]) n22 _ _ f16
      replace f17 := same_new (o := .tup [.int 2, .bl false]) n22 _ _ f17
      replace f18 := same_new (o := .tup [.int 2, .bl false]) n22 _ _ f18
      replace f19 := same_new (o := .tup [.int 2, .bl false]) n22 _ _ f19
      replace f20 := same_new (o := .tup [.int 2, .bl false]) n22 _ _ f20
      replace f21 := same_new (o := .tup [.int 2, .bl false]) n22 _ _ f21
      have f22 : upd Q21 t22 (.tup [.int 2, .bl false]) t22 = some (.tup [.int 2, .bl false]) := upd_same
      generalize upd Q21 t22 (.tup [.int 2, .bl false]) = Q22 at ss22 pn22 f0 f1 f2 f3 f4 f5 f6 f7 f8 f9 f10 f11 f12 f13 f14 f15 f16 f17 f18 f19 f20 f21 f22 ⊢
      clear ss21 pn21
      clear n22
      refine ⟨(by show 2 ≤ sizeLine; decide), fun t23 n23 => ?_⟩
      have ss23 := Same.trans ss22 (same_new (o := .tup [.str "2", .int 1]) n23)
      have pn23 := pn22.new (o := .tup [.str "2", .int 1]) n23
      have e23 := pn22.ne n23
      replace f0 := same_new (o := .tup [.str "2", .int 1]) n23 _ _ f0
      replace f1 := same_new (o := .tup [.str "2", .int 1]) n23 _ _ f1
      replace f2 := same_new (o := .tup [.str "2", .int 1]) n23 _ _ f2
      replace f3 := same_new (o := .tup [.str "2", .int 1]) n23 _ _ f3
      replace f4 := same_new (o := .tup [.str "2", .int 1]) n23 _ _ f4
      replace f5 := same_new (o := .tup [.str "2", .int 1]) n23 _ _ f5
      replace f6 := same_new (o := .tup [.str "2", .int 1]) n23 _ _ f6
      replace f7 := same_new (o := .tup [.str "2", .int 1]) n23 _ _ f7
      replace f8 := same_new (o := .tup [.str "2", .int 1]) n23 _ _ f8
      replace f9 := same_new (o := .tup [.str "2", .int 1]) n23 _ _ f9
      replace f10 := same_new (o := .tup [.str "2", .int 1]) n23 _ _ f10
      replace f11 := same_new (o := .tup [.str "2", .int 1]) n23 _ _ f11
      replace f12 := same_new (o := .tup [.str "2", .int 1]) n23 _ _ f12
      replace f13 := same_new (o := .tup [.str "2", .int 1]) n23 _ _ f13
      replace f14 := same_new (o := .tup [.str "2", .int 1]) n23 _ _ f14
      replace f15 := same_new (o := .tup [.str "2", .int 1]) n23 _ _ f15
      replace f16 := same_new (o := .tup [.str "2", .int 1]) n23 _ _ f16
      replace f17 := same_new (o := .tup [.str "2", .int 1]) n23 _ _ f17
      replace f18 := same_new (o := .tup [.str "2", .int 1]) n23 _ _ f18
      replace f19 := same_new (o := .tup [.str "2", .int 1]) n23 _ _ f19
      replace f20 := same_new (o := .tup [.str "2", .int 1]) n23 _ _ f20
      replace f21 := same_new (o := .tup [.str "2", .int 1]) n23 _ _ f21
      replace f22 := same_new (o := .tup [.str "2", .int 1]) n23 _ _ f22
      have f23 : upd Q22 t23 (.tup [.str "2", .int 1]) t23 = some (.tup [.str "2", .int 1]) := upd_same
      generalize upd Q22 t23 (.tup [.str "2", .int 1]) = Q23 at ss23 pn23 f0 f1 f2 f3 f4 f5 f6 f7 f8 f9 f10 f11 f12 f13 f14 f15 f16 f17 f18 f19 f20 f21 f22 f23 ⊢
      clear ss22 pn22
      clear n23
      refine ⟨(by show 11 ≤ sizeLine; decide), fun t24 n24 => ?_⟩
      have ss24 := Same.trans ss23 (same_new (o := .lst [.ref t15, .ref t16, .ref t17, .ref t18, .ref t19, .ref t20, .non, .int 2, .ref t21, .ref t22, .ref t23]) n24)
      have pn24 := pn23.new (o := .lst [.ref t15, .ref t16, .ref t17, .ref t18, .ref t19, .ref t20, .non, .int 2, .ref t21, .ref t22, .ref t23]) n24
      have e24 := pn23.ne n24
      replace f0 := same_new (o := .lst [.ref t15, .ref t16, .ref t17, .ref t18, .ref t19, .ref t20, .non, .int 2, .ref t21, .ref t22, .ref t23]) n24 _ _ f0
      replace f1 := same_new (o := .lst [.ref t15, .ref t16, .ref t17, .ref t18, .ref t19, .ref t20, .non, .int 2, .ref t21, .ref t22, .ref t23]) n24 _ _ f1
      replace f2 := same_new (o := .lst [.ref t15, .ref t16, .ref t17, .ref t18, .ref t19, .ref t20, .non, .int 2, .ref t21, .ref t22, .ref t23]) n24 _ _ f2
      replace f3 := same_new (o := .lst [.ref t15, .ref t16, .ref t17, .ref t18, .ref t19, .ref t20, .non, .int 2, .ref t21, .ref t22, .ref t23]) n24 _ _ f3
      replace f4 := same_new (o := .lst [.ref t15, .ref t16, .ref t17, .ref t18, .ref t19, .ref t20, .non, .int 2, .ref t21, .ref t22, .ref t23]) n24 _ _ f4
      replace f5 := same_new (o := .lst [.ref t15, .ref t16, .ref t17, .ref t18, .ref t19, .ref t20, .non, .int 2, .ref t21, .ref t22, .ref t23]) n24 _ _ f5
      replace f6 := same_new (o := .lst [.ref t15, .ref t16, .ref t17, .ref t18, .ref t19, .ref t20, .non, .int 2, .ref t21, .ref t22, .ref t23]) n24 _ _ f6
      replace f7 := same_new (o := .lst [.ref t15, .ref t16, .ref t17, .ref t18, .ref t19, .ref t20, .non, .int 2, .ref t21, .ref t22, .ref t23]) n24 _ _ f7
      replace f8 := same_new (o := .lst [.ref t15, .ref t16, .ref t17, .ref t18, .ref t19, .ref t20, .non, .int 2, .ref t21, .ref t22, .ref t23]) n24 _ _ f8
      replace f9 := same_new (o := .lst [.ref t15, .ref t16, .ref t17, .ref t18, .ref t19, .ref t20, .non, .int 2, .ref t21, .ref t22, .ref t23]) n24 _ _ f9
      replace f10 := same_new (o := .lst [.ref t15, .ref t16, .ref t17, .ref t18, .ref t19, .ref t20, .non, .int 2, .ref t21, .ref t22, .ref t23]) n24 _ _ f10
      replace f11 := same_new (o := .lst [.ref t15, .ref t16, .ref t17, .ref t18, .ref t19, .ref t20, .non, .int 2, .ref t21, .ref t22, .ref t23]) n24 _ _ f11
      replace f12 := same_new (o := .lst [.ref t15, .ref t16, .ref t17, .ref t18, .ref t19, .ref t20, .non, .int 2, .ref t21, .ref t22, .ref t23]) n24 _ _ f12
      replace f13 := same_new (o := .lst [.ref t15, .ref t16, .ref t17, .ref t18, .ref t19, .ref t20, .non, .int 2, .ref t21, .ref t22, .ref t23]) n24 _ _ f13
      replace f14 := same_new (o := .lst [.ref t15, .ref t16, .ref t17, .ref t18, .ref t19, .ref t20, .non, .int 2, .ref t21, .ref t22, .ref t23]) n24 _ _ f14
      replace f15 := same_new (o := .lst [.ref t15, .ref t16, .ref t17, .ref t18, .ref t19, .ref t20, .non, .int 2, .ref t21, .ref t22, .ref t23]) n24 _ _ f15
      replace f16 := same_new (o := .lst [.ref t15, .ref t16, .ref t17, .ref t18, .ref t19, .ref t20, .non, .int 2, .ref t21, .ref t22, .ref t23]) n24 _ _ f16
      replace f17 := same_new (o := .lst [.ref t15, .ref t16, .ref t17, .ref t18, .ref t19, .ref t20, .non, .int 2, .ref t21, .ref t22, .ref t23]) n24 _ _ f17
      replace f18 := same_new (o := .lst [.ref t15, .ref t16, .ref t17, .ref t18, .ref t19, .ref t20, .non, .int 2, .ref t21, .ref t22, .ref t23]) n24 _ _ f18
      replace f19 := same_new (o := .lst [.ref t15, .ref t16, .ref t17, .ref t18, .ref t19, .ref t20, .non, .int 2, .ref t21, .ref t22, .ref t23]) n24 _ _ f19
      replace f20 := same_new (o := .lst [.ref t15, .ref t16, .ref t17, .ref t18, .ref t19, .ref t20, .non, .int 2, .ref t21, .ref t22, .ref t23]) n24 _ _ f20
      replace f21 := same_new (o := .lst [.ref t15, .ref t16, .ref t17, .ref t18, .ref t19, .ref t20, .non, .int 2, .ref t21, .ref t22, .ref t23]) n24 _ _ f21
      replace f22 := same_new (o := .lst [.ref t15, .ref t16, .ref t17, .ref t18, .ref t19, .ref t20, .non, .int 2, .ref t21, .ref t22, .ref t23]) n24 _ _ f22
      replace f23 := same_new (o := .lst [.ref t15, .ref t16, .ref t17, .ref t18, .ref t19, .ref t20, .non, .int 2, .ref t21, .ref t22, .ref t23]) n24 _ _ f23
      have f24 : upd Q23 t24 (.lst [.ref t15, .ref t16, .ref t17, .ref t18, .ref t19, .ref t20, .non, .int 2, .ref t21, .ref t22, .ref t23]) t24 = some (.lst [.ref t15, .ref t16, .ref t17, .ref t18, .ref t19, .ref t20, .non, .int 2, .ref t21, .ref t22, .ref t23]) := upd_same
      generalize upd Q23 t24 (.lst [.ref t15, .ref t16, .ref t17, .ref t18, .ref t19, .ref t20, .non, .int 2, .ref t21, .ref t22, .ref t23]) = Q24 at ss24 pn24 f0 f1 f2 f3 f4 f5 f6 f7 f8 f9 f10 f11 f12 f13 f14 f15 f16 f17 f18 f19 f20 f21 f22 f23 f24 ⊢
      clear ss23 pn23
      clear n24
      obtain ⟨px0, hx0⟩ := pn24.some
      refine ⟨_, rfl, _, rfl, p, t11, L, _, _, rfl, f11, e11, (by show 1 ≤ 14; decide), (by show 14 ≤ 1000; decide), by omega, pn24, fun w0 W0 m0 b0' pw0 => ?_⟩
      replace f0 := b0' _ _ e0 f0
      replace f1 := b0' _ _ e1 f1
      replace f2 := b0' _ _ e2 f2
      replace f3 := b0' _ _ e3 f3
      replace f4 := b0' _ _ e4 f4
      replace f5 := b0' _ _ e5 f5
      replace f6 := b0' _ _ e6 f6
      replace f7 := b0' _ _ e7 f7
      replace f8 := b0' _ _ e8 f8
      replace f9 := b0' _ _ e9 f9
      replace f10 := b0' _ _ e10 f10
      replace f11 := b0' _ _ e11 f11
      replace f12 := b0' _ _ e12 f12
      replace f13 := b0' _ _ e13 f13
      replace f14 := b0' _ _ e14 f14
      replace f15 := b0' _ _ e15 f15
      replace f16 := b0' _ _ e16 f16
      replace f17 := b0' _ _ e17 f17
      replace f18 := b0' _ _ e18 f18
      replace f19 := b0' _ _ e19 f19
      replace f20 := b0' _ _ e20 f20
      replace f21 := b0' _ _ e21 f21
      replace f22 := b0' _ _ e22 f22
      replace f23 := b0' _ _ e23 f23
      replace f24 := b0' _ _ e24 f24
      refine ⟨_, rfl, _, rfl, p, t14, L, _, _, rfl, f14, e14, (by show 1 ≤ 11; decide), (by show 11 ≤ 1000; decide), by omega, pw0, fun w1 W1 m1 b1' pw1 => ?_⟩
      replace f0 := b1' _ _ e0 f0
      replace f1 := b1' _ _ e1 f1
      replace f2 := b1' _ _ e2 f2
      replace f3 := b1' _ _ e3 f3
      replace f4 := b1' _ _ e4 f4
      replace f5 := b1' _ _ e5 f5
      replace f6 := b1' _ _ e6 f6
      replace f7 := b1' _ _ e7 f7
      replace f8 := b1' _ _ e8 f8
      replace f9 := b1' _ _ e9 f9
      replace f10 := b1' _ _ e10 f10
      replace f11 := b1' _ _ e11 f11
      replace f12 := b1' _ _ e12 f12
      replace f13 := b1' _ _ e13 f13
      replace f14 := b1' _ _ e14 f14
      replace f15 := b1' _ _ e15 f15
      replace f16 := b1' _ _ e16 f16
      replace f17 := b1' _ _ e17 f17
      replace f18 := b1' _ _ e18 f18
      replace f19 := b1' _ _ e19 f19
      replace f20 := b1' _ _ e20 f20
      replace f21 := b1' _ _ e21 f21
      replace f22 := b1' _ _ e22 f22
      replace f23 := b1' _ _ e23 f23
      replace f24 := b1' _ _ e24 f24
      refine ⟨_, rfl, _, rfl, p, t24, L, _, _, rfl, f24, e24, (by show 1 ≤ 11; decide), (by show 11 ≤ 1000; decide), by omega, pw1, fun w2 W2 m2 b2' pw2 => ?_⟩
      replace f0 := b2' _ _ e0 f0
      replace f1 := b2' _ _ e1 f1
      replace f2 := b2' _ _ e2 f2
      replace f3 := b2' _ _ e3 f3
      replace f4 := b2' _ _ e4 f4
      replace f5 := b2' _ _ e5 f5
      replace f6 := b2' _ _ e6 f6
      replace f7 := b2' _ _ e7 f7
      replace f8 := b2' _ _ e8 f8
      replace f9 := b2' _ _ e9 f9
      replace f10 := b2' _ _ e10 f10
      replace f11 := b2' _ _ e11 f11
      replace f12 := b2' _ _ e12 f12
      replace f13 := b2' _ _ e13 f13
      replace f14 := b2' _ _ e14 f14
      replace f15 := b2' _ _ e15 f15
      replace f16 := b2' _ _ e16 f16
      replace f17 := b2' _ _ e17 f17
      replace f18 := b2' _ _ e18 f18
      replace f19 := b2' _ _ e19 f19
      replace f20 := b2' _ _ e20 f20
      replace f21 := b2' _ _ e21 f21
      replace f22 := b2' _ _ e22 f22
      replace f23 := b2' _ _ e23 f23
      replace f24 := b2' _ _ e24 f24
      refine ⟨_, rfl, _, rfl, p, t14, L, _, _, rfl, f14, e14, (by show 1 ≤ 11; decide), (by show 11 ≤ 1000; decide), by omega, pw2, fun w3 W3 m3 b3' pw3 => ?_⟩
      replace f0 := b3' _ _ e0 f0
      replace f1 := b3' _ _ e1 f1
      replace f2 := b3' _ _ e2 f2
      replace f3 := b3' _ _ e3 f3
      replace f4 := b3' _ _ e4 f4
      replace f5 := b3' _ _ e5 f5
      replace f6 := b3' _ _ e6 f6
      replace f7 := b3' _ _ e7 f7
      replace f8 := b3' _ _ e8 f8
      replace f9 := b3' _ _ e9 f9
      replace f10 := b3' _ _ e10 f10
      replace f11 := b3' _ _ e11 f11
      replace f12 := b3' _ _ e12 f12
      replace f13 := b3' _ _ e13 f13
      replace f14 := b3' _ _ e14 f14
      replace f15 := b3' _ _ e15 f15
      replace f16 := b3' _ _ e16 f16
      replace f17 := b3' _ _ e17 f17
      replace f18 := b3' _ _ e18 f18
      replace f19 := b3' _ _ e19 f19
      replace f20 := b3' _ _ e20 f20
      replace f21 := b3' _ _ e21 f21
      replace f22 := b3' _ _ e22 f22
      replace f23 := b3' _ _ e23 f23
      replace f24 := b3' _ _ e24 f24
      refine ⟨(by show 4 ≤ sizeLine; decide), fun tq nq => ⟨tq, _, rfl, SqT.of upd_same, rfl, _, _, rfl, _, _, rfl, _, _, rfl, _, _, rfl, rfl, ?_⟩⟩
      replace f0 := same_new (o := .tup [w0, w1, w2, w3]) nq _ _ f0
      replace f1 := same_new (o := .tup [w0, w1, w2, w3]) nq _ _ f1
      replace f2 := same_new (o := .tup [w0, w1, w2, w3]) nq _ _ f2
      replace f3 := same_new (o := .tup [w0, w1, w2, w3]) nq _ _ f3
      replace f4 := same_new (o := .tup [w0, w1, w2, w3]) nq _ _ f4
      replace f5 := same_new (o := .tup [w0, w1, w2, w3]) nq _ _ f5
      replace f6 := same_new (o := .tup [w0, w1, w2, w3]) nq _ _ f6
      replace f7 := same_new (o := .tup [w0, w1, w2, w3]) nq _ _ f7
      replace f8 := same_new (o := .tup [w0, w1, w2, w3]) nq _ _ f8
      replace f9 := same_new (o := .tup [w0, w1, w2, w3]) nq _ _ f9
      replace f10 := same_new (o := .tup [w0, w1, w2, w3]) nq _ _ f10
      replace f11 := same_new (o := .tup [w0, w1, w2, w3]) nq _ _ f11
      replace f12 := same_new (o := .tup [w0, w1, w2, w3]) nq _ _ f12
      replace f13 := same_new (o := .tup [w0, w1, w2, w3]) nq _ _ f13
      replace f14 := same_new (o := .tup [w0, w1, w2, w3]) nq _ _ f14
      replace f15 := same_new (o := .tup [w0, w1, w2, w3]) nq _ _ f15
      replace f16 := same_new (o := .tup [w0, w1, w2, w3]) nq _ _ f16
      replace f17 := same_new (o := .tup [w0, w1, w2, w3]) nq _ _ f17
      replace f18 := same_new (o := .tup [w0, w1, w2, w3]) nq _ _ f18
      replace f19 := same_new (o := .tup [w0, w1, w2, w3]) nq _ _ f19
      replace f20 := same_new (o := .tup [w0, w1, w2, w3]) nq _ _ f20
      replace f21 := same_new (o := .tup [w0, w1, w2, w3]) nq _ _ f21
      replace f22 := same_new (o := .tup [w0, w1, w2, w3]) nq _ _ f22
      replace f23 := same_new (o := .tup [w0, w1, w2, w3]) nq _ _ f23
      replace f24 := same_new (o := .tup [w0, w1, w2, w3]) nq _ _ f24
      have pz := pw3.new (o := .tup [w0, w1, w2, w3]) nq
      have bb : But p Q24 (upd W3 tq (.tup [w0, w1, w2, w3])) := (((b0'.trans b1').trans b2').trans b3').trans (Same.but (same_new (o := .tup [w0, w1, w2, w3]) nq))
      have xz : ExtP p H (upd W3 tq (.tup [w0, w1, w2, w3])) := (Ev.Same.p ss24).trans (Ev.But.p bb)
      have Tz := Ev.Tabs.but (hT.ext ss24) hx0 bb
      generalize upd W3 tq (.tup [w0, w1, w2, w3]) = Z at f0 f1 f2 f3 f4 f5 f6 f7 f8 f9 f10 f11 f12 f13 f14 f15 f16 f17 f18 f19 f20 f21 f22 f23 f24 pz bb xz Tz ⊢
      have hone : ∃ o, PairQ Z w0 o := by
        simp only [List.mem_cons, List.not_mem_nil, or_false] at m0
        rcases m0 with rfl | rfl | rfl | rfl | rfl | rfl | rfl | rfl | rfl | rfl | rfl | rfl | rfl | rfl
        · refine ⟨some [.int 3, .int 1], t0, rfl, f0, (by show 2 ≤ 1000; decide), fun x mm => ?_⟩
          simp only [List.mem_cons, List.not_mem_nil, or_false] at mm
          rcases mm with rfl | rfl
          · exact .inl ⟨_, rfl⟩
          · exact .inl ⟨_, rfl⟩
        · refine ⟨some [.int 6, .int 6], t1, rfl, f1, (by show 2 ≤ 1000; decide), fun x mm => ?_⟩
          simp only [List.mem_cons, List.not_mem_nil, or_false] at mm
          rcases mm with rfl | rfl
          · exact .inl ⟨_, rfl⟩
          · exact .inl ⟨_, rfl⟩
        · refine ⟨some [.int 7, .int 1], t2, rfl, f2, (by show 2 ≤ 1000; decide), fun x mm => ?_⟩
          simp only [List.mem_cons, List.not_mem_nil, or_false] at mm
          rcases mm with rfl | rfl
          · exact .inl ⟨_, rfl⟩
          · exact .inl ⟨_, rfl⟩
        · refine ⟨some [.int 2, .int 3], t3, rfl, f3, (by show 2 ≤ 1000; decide), fun x mm => ?_⟩
          simp only [List.mem_cons, List.not_mem_nil, or_false] at mm
          rcases mm with rfl | rfl
          · exact .inl ⟨_, rfl⟩
          · exact .inl ⟨_, rfl⟩
        · refine ⟨some [.int 0, .int 1], t4, rfl, f4, (by show 2 ≤ 1000; decide), fun x mm => ?_⟩
          simp only [List.mem_cons, List.not_mem_nil, or_false] at mm
          rcases mm with rfl | rfl
          · exact .inl ⟨_, rfl⟩
          · exact .inl ⟨_, rfl⟩
        · refine ⟨some [.int 3, .int 0], t5, rfl, f5, (by show 2 ≤ 1000; decide), fun x mm => ?_⟩
          simp only [List.mem_cons, List.not_mem_nil, or_false] at mm
          rcases mm with rfl | rfl
          · exact .inl ⟨_, rfl⟩
          · exact .inl ⟨_, rfl⟩
        · exact ⟨none, "list", fun K G q => .base (.lst (q _ _ f6 fun _ z => by cases z)), by decide +kernel⟩
        · refine ⟨some [.int 3], t7, rfl, f7, (by show 1 ≤ 1000; decide), fun x mm => ?_⟩
          simp only [List.mem_cons, List.not_mem_nil, or_false] at mm
          subst mm; exact .inl ⟨_, rfl⟩
        · refine ⟨some [.int 3, .int 1, .int 1], t8, rfl, f8, (by show 3 ≤ 1000; decide), fun x mm => ?_⟩
          simp only [List.mem_cons, List.not_mem_nil, or_false] at mm
          rcases mm with rfl | rfl | rfl
          · exact .inl ⟨_, rfl⟩
          · exact .inl ⟨_, rfl⟩
          · exact .inl ⟨_, rfl⟩
        · exact ⟨none, "int", fun K G q => .base (.int _), by decide +kernel⟩
        · exact ⟨none, "NoneType", fun K G q => .base .non, by decide +kernel⟩
        · exact ⟨none, "str", fun K G q => .base (.str _), by decide +kernel⟩
        · refine ⟨some [.bl true, .int 1], t9, rfl, f9, (by show 2 ≤ 1000; decide), fun x mm => ?_⟩
          simp only [List.mem_cons, List.not_mem_nil, or_false] at mm
          rcases mm with rfl | rfl
          · exact .inr (.inl ⟨_, rfl⟩)
          · exact .inl ⟨_, rfl⟩
        · exact ⟨none, "dict", fun K G q => .base (.dK (q _ _ f10 fun _ z => by cases z)), by decide +kernel⟩
      have htwo : IntQ Z w1 := by
        simp only [List.mem_cons, List.not_mem_nil, or_false] at m1
        rcases m1 with rfl | rfl | rfl | rfl | rfl | rfl | rfl | rfl | rfl | rfl | rfl
        · exact .inl ⟨_, rfl⟩
        · exact .inl ⟨_, rfl⟩
        · exact .inl ⟨_, rfl⟩
        · exact .inl ⟨_, rfl⟩
        · exact .inl ⟨_, rfl⟩
        · exact .inr ⟨fun i z => (by cases z), "NoneType", false, false, fun K G q => .base .non, by decide +kernel, by decide +kernel, fun z => z⟩
        · exact .inr (noInt_str _ _)
        · exact .inr (noInt_bl _ _)
        · exact .inr ⟨fun i z => (by cases z), "tuple", false, false, fun K G q => .base (.tup (q _ _ f12 fun _ z => by cases z)), by decide +kernel, by decide +kernel, fun z => z⟩
        · exact .inr ⟨fun i z => (by cases z), "list", false, false, fun K G q => .base (.lst (q _ _ f13 fun _ z => by cases z)), by decide +kernel, by decide +kernel, fun z => z⟩
        · exact .inl ⟨_, rfl⟩
      have hthr : ∃ o, PairQ Z w2 o := by
        simp only [List.mem_cons, List.not_mem_nil, or_false] at m2
        rcases m2 with rfl | rfl | rfl | rfl | rfl | rfl | rfl | rfl | rfl | rfl | rfl
        · refine ⟨some [.int 2, .int 1], t15, rfl, f15, (by show 2 ≤ 1000; decide), fun x mm => ?_⟩
          simp only [List.mem_cons, List.not_mem_nil, or_false] at mm
          rcases mm with rfl | rfl
          · exact .inl ⟨_, rfl⟩
          · exact .inl ⟨_, rfl⟩
        · refine ⟨some [.int 8, .int 8], t16, rfl, f16, (by show 2 ≤ 1000; decide), fun x mm => ?_⟩
          simp only [List.mem_cons, List.not_mem_nil, or_false] at mm
          rcases mm with rfl | rfl
          · exact .inl ⟨_, rfl⟩
          · exact .inl ⟨_, rfl⟩
        · refine ⟨some [.int 9, .int 1], t17, rfl, f17, (by show 2 ≤ 1000; decide), fun x mm => ?_⟩
          simp only [List.mem_cons, List.not_mem_nil, or_false] at mm
          rcases mm with rfl | rfl
          · exact .inl ⟨_, rfl⟩
          · exact .inl ⟨_, rfl⟩
        · refine ⟨some [.int 1, .int 9], t18, rfl, f18, (by show 2 ≤ 1000; decide), fun x mm => ?_⟩
          simp only [List.mem_cons, List.not_mem_nil, or_false] at mm
          rcases mm with rfl | rfl
          · exact .inl ⟨_, rfl⟩
          · exact .inl ⟨_, rfl⟩
        · refine ⟨some [.int 0, .int 0], t19, rfl, f19, (by show 2 ≤ 1000; decide), fun x mm => ?_⟩
          simp only [List.mem_cons, List.not_mem_nil, or_false] at mm
          rcases mm with rfl | rfl
          · exact .inl ⟨_, rfl⟩
          · exact .inl ⟨_, rfl⟩
        · refine ⟨some [.int 1, .int 2], t20, rfl, f20, (by show 2 ≤ 1000; decide), fun x mm => ?_⟩
          simp only [List.mem_cons, List.not_mem_nil, or_false] at mm
          rcases mm with rfl | rfl
          · exact .inl ⟨_, rfl⟩
          · exact .inl ⟨_, rfl⟩
        · exact ⟨none, "NoneType", fun K G q => .base .non, by decide +kernel⟩
        · exact ⟨none, "int", fun K G q => .base (.int _), by decide +kernel⟩
        · exact ⟨none, "list", fun K G q => .base (.lst (q _ _ f21 fun _ z => by cases z)), by decide +kernel⟩
        · refine ⟨some [.int 2, .bl false], t22, rfl, f22, (by show 2 ≤ 1000; decide), fun x mm => ?_⟩
          simp only [List.mem_cons, List.not_mem_nil, or_false] at mm
          rcases mm with rfl | rfl
          · exact .inl ⟨_, rfl⟩
          · exact .inr (.inl ⟨_, rfl⟩)
        · refine ⟨some [.str "2", .int 1], t23, rfl, f23, (by show 2 ≤ 1000; decide), fun x mm => ?_⟩
          simp only [List.mem_cons, List.not_mem_nil, or_false] at mm
          rcases mm with rfl | rfl
          · exact .inr (.inr rfl)
          · exact .inl ⟨_, rfl⟩
      have hlast : IntQ Z w3 := by
        simp only [List.mem_cons, List.not_mem_nil, or_false] at m3
        rcases m3 with rfl | rfl | rfl | rfl | rfl | rfl | rfl | rfl | rfl | rfl | rfl
        · exact .inl ⟨_, rfl⟩
        · exact .inl ⟨_, rfl⟩
        · exact .inl ⟨_, rfl⟩
        · exact .inl ⟨_, rfl⟩
        · exact .inl ⟨_, rfl⟩
        · exact .inr ⟨fun i z => (by cases z), "NoneType", false, false, fun K G q => .base .non, by decide +kernel, by decide +kernel, fun z => z⟩
        · exact .inr (noInt_str _ _)
        · exact .inr (noInt_bl _ _)
        · exact .inr ⟨fun i z => (by cases z), "tuple", false, false, fun K G q => .base (.tup (q _ _ f12 fun _ z => by cases z)), by decide +kernel, by decide +kernel, fun z => z⟩
        · exact .inr ⟨fun i z => (by cases z), "list", false, false, fun K G q => .base (.lst (q _ _ f13 fun _ z => by cases z)), by decide +kernel, by decide +kernel, fun z => z⟩
        · exact .inl ⟨_, rfl⟩
      obtain ⟨o, hone⟩ := hone
      obtain ⟨o2, hthr⟩ := hthr
      clear m0 m1 m2 m3 f0 f1 f2 f3 f4 f5 f6 f7 f8 f9 f10 f11 f12 f13 f14 f15 f16 f17 f18 f19 f20 f21 f22 f23 f24
      refine ⟨w0, o, w1, rfl, hone, rfl, htwo, fun lb Ga sa hb' => ?_⟩
      refine lam_out (out := outT o w1) (ex := fun x H' => ∃ dx, H' x = some (.ins Ct dx (tryV w0 w1))) (outT_good _ _) (Tz.ext sa) (fun H1 E' G0 Q' e1 s0 hO' => ?_) (fun x H1 H2 s e => ?_) (fun r x H1 Gb e1 T1 s1 hr hx => ?_)
      · refine ⟨_, rfl, _, rfl, fun x dx nx ndx nex => ?_⟩
        have keep : Same G0 (upd (upd G0 dx (.own x)) x (.ins Ct dx [])) := fun b u e => by rw [upd_ne (ne_of_none e nx), upd_ne (ne_of_none e ndx)]; exact e
        have sk := s0.trans keep
        exact ⟨x, dx, w0, w1, o, rfl, upd_same, ((hone.keep sa).ext e1).keep sk, ((htwo.keep sa).ext e1).keep sk, (hO' _ keep).imp fun kk H' bt hx => ⟨rfl, kk x H' (fun b u e => bt _ _ (ne_of_none e nx) (keep _ _ e)) ⟨dx, hx⟩⟩⟩
      · obtain ⟨dx, e⟩ := e
        exact ⟨dx, s _ _ e⟩
      · have hlb := s1 _ _ (e1 _ _ hb' (fun _ z => by cases z))
        have hone' := ((hone.keep sa).ext e1).keep s1
        have next : ∀ (D : Ends) (G9 : Hp) (v1 v2 v3 v9 v10 : Option V), Same Gb G9 → (∀ G', ExtP p H G' → Pen L G' p (b + 4) → Tabs TL G' → D.rt (.bl true) G') → tR D [some (.ref p), v1, v2, v3, some w0, some w1, some w2, some w3, some (.ref lb), v9, v10] G9 := by
          intro D G9 v1 v2 v3 v9 v10 s9 fin
          have s19 := s1.trans s9
          refine qR D G9 w0 w1 w2 w3 o o2 lb _ _ _ _ _ (((hone.keep sa).ext e1).keep s19) (((htwo.keep sa).ext e1).keep s19) (((hthr.keep sa).ext e1).keep s19) (((hlast.keep sa).ext e1).keep s19) (s9 _ _ hlb) ((((pz.mono (by omega)).keep sa).ext e1).keep s19) (xz.trans ((Ev.Same.p sa).trans ((ExtN.p e1).trans (Ev.Same.p s19)))) (T1.ext s19) fin
        refine ⟨lb, _, rfl, hlb, Nat.le_trans (badL1_len o w1) (by decide), badL1_good o w1, ?_⟩
        rcases dueT o w1 with ⟨m, rr, e3, e4⟩ | ⟨e3, p', q', i, rfl, rfl, e4⟩
        · rw [e4] at hr
          refine .inl ⟨m, rr, e3, fun t9 G9 s9 h9 => ?_⟩
          have gm : goodS m := badL1_good o w1 m (by rw [e3]; exact List.mem_cons_self)
          refine ⟨_, rfl, rfl, _, rfl, iteT ?_⟩
          refine ⟨_, rfl, _, rfl, _, _, rule_dp (s9 _ _ hr), rule_dp h9, rule_sh gm, rule_sh gm, ?_⟩
          rw [SeqAt.eqv_refl_plain _ (by rfl)]
          exact ⟨_, rfl, iteF ⟨_, rfl, rfl, _, rfl, iteF (next _ _ _ _ _ _ _ s9 fun G' x9 p9 T9 => kk G' x9 p9 T9)⟩⟩
        · obtain ⟨a, rfl, ha, _⟩ := hone'
          refine .inr ⟨e3, a, p', q', i, rfl, ha, rfl, ?_⟩
          rw [e4] at hr hx
          cases z : halvesO p' q' i with
          | rule m => exact (halves_no z).elim
          | halves v =>
            rw [z] at hr
            intro t9 G9 s9 h9
            have gv : v = 2 ∨ v = 3 := by have := halves_good p' q' i; rw [z] at this; exact this
            have hr : Gb r = some (.tup [.str "halves", .str (wS v)]) := by rw [← wS_shown gv]; exact hr
            refine ⟨_, rfl, rfl, _, rfl, iteT ?_⟩
            refine ⟨_, rfl, _, rfl, _, _, halves_dp (s9 _ _ hr), halves_dp h9, halves_sh gv, halves_sh gv, ?_⟩
            rw [SeqAt.eqv_refl_plain _ (by rfl)]
            exact ⟨_, rfl, iteF ⟨_, rfl, rfl, _, rfl, iteF (next _ _ _ _ _ _ _ s9 fun G' x9 p9 T9 => kk G' x9 p9 T9)⟩⟩
          | ok =>
            rw [z] at hr hx
            intro G9 s9
            refine ⟨_, rfl, rfl, _, rfl, iteF ?_⟩
            refine ⟨_, rfl, rfl, _, rfl, iteT ?_⟩
            exact ⟨_, rfl, _, _, _, _, true, rfl, .ty _, .base (.lst (s9 _ _ hr)), kit_ty (by decide +kernel), _, rfl, iteF (next _ _ _ _ _ _ _ s9 fun G' x9 p9 T9 => kk G' x9 p9 T9)⟩
end
end Ev
namespace Ev
open PySem L2 PySem.Spec PyProof.Rows LamX
def spPen (K : PySem.W.Frag) : Sp := fun vs H Q _ => ∃ (a : Addr) (ns : List Int), vs = [.ref a] ∧ SqL K H a (ns.map V.int) ∧ ns.length ≤ 63 ∧
  ∀ (p L : Addr) (H' : Hp), H p = none → Same H H' → Pen L H' p 0 → Q (.ref p) H'
theorem cut_ints (ns : List Int) (h : Int) : ∃ ms : List Int, cutV (ns.map V.int) none (some h) = ms.map V.int ∧ ms.length ≤ ns.length := by
  unfold cutV
  generalize HT.sIx (ns.map V.int).length 0 none = x
  generalize HT.sIx (ns.map V.int).length (ns.map V.int).length (some h) - x = y
  refine ⟨(ns.drop x).take y, ?_, ?_⟩
  · rw [List.map_take, List.map_drop]
  · rw [List.length_take, List.length_drop]; omega
def spLaw (K : PySem.W.Frag) (T1 T2 : Addr) : Sp := fun vs H Q _ => ∃ (a : Addr) (ns : List Int), vs = [.ref a] ∧ SqL K H a (ns.map V.int) ∧ ns.length ≤ 63 ∧ H T1 = some (.tbl #[]) ∧ H T2 = some (.tbl #[]) ∧ ∀ H', Q (.bl true) H'
abbrev nLaw : List Str := ["_law_script", "_law_pen_here", "_law_lap", "_law_some", "_law_bare", "_law_row", "_law_named"]
theorem scLaw : FnScope nLaw ["_law_script"] (defScope sLaw) := ⟨rfl, rfl, rfl, by decide +kernel, rfl, by decide +kernel, by decide +kernel⟩
abbrev restLaw (n : Nat) : List Stmt := (defBody sLaw).drop n
theorem out_ok {r : Row} (h : r.fit) (h2 : 2 * r.q ≤ r.p + r.k) : r.out = .ok := by
  rw [fit_out h]
  have h1 : 1 ≤ r.q := by
    cases r with
    | tr p q k => exact h.1
    | tn p q k t s c => exact h.1.1
  unfold halvesO
  rw [if_neg (by omega), if_pos h2]
theorem mk_try {Ct Cn B N : Addr} {H : Hp} {tp : Addr} {p q k : Int} {Q : VK} {E : XK} {x dx : Addr} (nx : H x = none) (ndx : H dx = none) (hp : H tp = some (.tup [.int p, .int q])) (ho : (Row.tr p q k).out = .ok) (kk : ∀ H', Same H H' → ObjAt Ct Cn H' x (.tr p q k) → Q .non H') :
    spTryInit Ct B N [.ref x, .ref tp, .int k] (upd (upd H dx (.own x)) x (.ins Ct dx [])) Q E := by
  have keep : Same H (upd (upd H dx (.own x)) x (.ins Ct dx [])) := fun b u e => by rw [upd_ne (ne_of_none e nx), upd_ne (ne_of_none e ndx)]; exact e
  refine ⟨x, dx, .ref tp, .int k, _, rfl, upd_same, (pairQ_int hp).keep keep, .inl ⟨k, rfl⟩, ?_⟩
  have ho : outT (some [.int p, .int q]) (.int k) = .ok := ho
  rw [ho]
  intro H2 t2 hx2
  have s3 : ∀ b u, H b = some u → H2 b = some u := fun b u e => t2 _ _ (ne_of_none e nx) (keep _ _ e)
  exact kk H2 s3 ⟨dx, tp, hx2, s3 _ _ hp⟩
theorem mk_turn {Ct Cn B N : Addr} {H : Hp} {tp tq : Addr} {p q k t s c : Int} {Q : VK} {E : XK} {x dx : Addr} (nx : H x = none) (ndx : H dx = none) (hp : H tp = some (.tup [.int p, .int q])) (hq : H tq = some (.tup [.int t, .int s])) (ho : (Row.tn p q k t s c).out = .ok) (kk : ∀ H', Same H H' → ObjAt Ct Cn H' x (.tn p q k t s c) → Q .non H') :
    spTurnInit Cn B N [.ref x, .ref tp, .int k, .ref tq, .int c] (upd (upd H dx (.own x)) x (.ins Cn dx [])) Q E := by
  have keep : Same H (upd (upd H dx (.own x)) x (.ins Cn dx [])) := fun b u e => by rw [upd_ne (ne_of_none e nx), upd_ne (ne_of_none e ndx)]; exact e
  refine ⟨x, dx, .ref tp, .int k, .ref tq, .int c, _, _, rfl, upd_same, (pairQ_int hp).keep keep, .inl ⟨k, rfl⟩, (pairQ_int hq).keep keep, .inl ⟨c, rfl⟩, ?_⟩
  have ho : outN (some [.int p, .int q]) (.int k) (some [.int t, .int s]) (.int c) = .ok := ho
  rw [ho]
  intro H2 t2 hx2
  have s3 : ∀ b u, H b = some u → H2 b = some u := fun b u e => t2 _ _ (ne_of_none e nx) (keep _ _ e)
  exact kk H2 s3 ⟨dx, tp, tq, hx2, s3 _ _ hp, s3 _ _ hq⟩
theorem ExtP.tup {p t : Addr} {H H' : Hp} {xs : List V} {L : Addr} {b : Int} (x : ExtP p H H') (h : H t = some (.tup xs)) (pn : Pen L H p b) : H' t = some (.tup xs) := by
  obtain ⟨ys, hy⟩ := pn.some
  exact x _ _ (ne_of h hy (by intro z; cases z)) h (fun _ z => by cases z)
theorem But.tup {p t : Addr} {H H' : Hp} {xs : List V} {L : Addr} {b : Int} (x : But p H H') (h : H t = some (.tup xs)) (pn : Pen L H p b) : H' t = some (.tup xs) := by
  obtain ⟨ys, hy⟩ := pn.some
  exact x _ _ (ne_of h hy (by intro z; cases z)) h
theorem Tabs.but' {T : List (Addr × Str)} {p L : Addr} {H H' : Hp} {b : Int} (t : Tabs T H) (pn : Pen L H p b) (k : But p H H') : Tabs T H' := by
  obtain ⟨ys, hy⟩ := pn.some
  exact Tabs.but t hy k
section
variable {P : Program} {w : World} {K : PySem.W.Frag} {mg : Str → Option Value} {base : Heap}
theorem scPen : FnScope ["_law_script"] ["_law_script"] (defScope sPen) := ⟨rfl, rfl, rfl, by decide +kernel, rfl, by decide +kernel, by decide +kernel⟩
theorem ok_pen {f : Addr} {fd : FuncData} (F : Fun K "_law_pen" "_law_pen" sPen f fd) (T : Blt mg) : FnOk P w K mg base CX0 1 f fd ["_law_script"] (spPen K) := by
  refine F.ok scPen (fun vs H Q E h => ?_) (fun cdv A outer s H vs Q E hr h => ?_)
  · obtain ⟨a, ns, rfl, _⟩ := h
    rfl
  · obtain ⟨a, ns, rfl, hS, hlen, kk⟩ := h
    refine ⟨_, pss_one (ps_ret (pe_lst (pa_cons (pe_callTy call_list_of (by rfl) T.list (by decide +kernel) (pa_cons (pe_slice sl_list (pv 0) po_none (po_some pe_int)) pa_nil)) (pa_cons pe_int (pa_cons pe_int pa_nil))))), ?_⟩
    refine ⟨_, rfl, _, rfl, a, _, rfl, hS, fun l1 nl1 => ⟨l1, _, rfl, .inl (SqL.of upd_same), fun l2 nl2 => ⟨(by show 3 ≤ sizeLine; decide), fun p np => ?_⟩⟩⟩
    obtain ⟨ms, e1, e2⟩ := cut_ints ns 63
    rw [e1] at nl2 np ⊢
    have s1 : Same H (upd (upd H l1 (.lst (ms.map V.int))) l2 (.lst (ms.map V.int))) := (same_new nl1).trans (same_new nl2)
    have s2 := s1.trans (same_new (o := .lst [.ref l2, .int 0, .int 0]) np)
    refine kk p l2 _ ?_ s2 ⟨ms, 0, 0, upd_same, by rw [upd_ne (ne_of_none upd_same np)]; exact upd_same, ne_of_none upd_same np, by omega, by decide, by decide, by decide⟩
    cases z : H p with
    | none => rfl
    | some o => rw [s1 _ _ z] at np; cases np
theorem ok_law {f Ct Cn CW B N T1 T2 : Addr} {fd : FuncData} {q1 q2 : Str} {mc u : Value} (F : Fun K "law" "law" sLaw f fd) (T : Blt mg) (mr : mg "repr" = none) (R : REq P w K mg base Ct Cn)
    (gW : mg "WeightRule" = some (.ref CW)) (cr : ClX.CRead K CW mc) (cv : ClX.CVal K CW mc "MOST" (.int 6) u)
    (D1 : Df P w K mg base 1 "_law_pen" ["_law_script"] (spPen K)) (D2 : Df P w K mg base 1 "_law_draw" ["_law_pen_here", "_law_many"] spDraw) (D4 : Df P w K mg base 3 "_law_numbers" ["_law_pen_here"] spNums)
    (D3 : DfX P w K mg base 8 "_law_rule" ["_law_some"] (spRule Ct Cn B N))
    {f5 : Addr} {fd5 : FuncData} (G5 : FnG P w K mg base 1 f5 fd5 ["_law_rule_so", "_law_some"] (spTells Ct Cn)) (g5 : mg "_law_tells" = some (.ref f5)) (k5 : PySem.W.keepIn K (.ref f5) = true) (b5 : Binds K fd5 ["_law_rule_so", "_law_some"] [])
    {f6 : Addr} {fd6 : FuncData} (G6 : FnG P w K mg base 11 f6 fd6 ["_law_pen_here", "_law_some"] (spMade [(T1, q1), (T2, q2)])) (g6 : mg "_law_made_right" = some (.ref f6)) (k6 : PySem.W.keepIn K (.ref f6) = true) (b6 : Binds K fd6 ["_law_pen_here", "_law_some"] [])
    {f7 : Addr} {fd7 : FuncData} (G7 : FnG P w K mg base 11 f7 fd7 ["_law_pen_here"] (spRefu [(T1, q1), (T2, q2)])) (g7 : mg "_law_refused_right" = some (.ref f7)) (k7 : PySem.W.keepIn K (.ref f7) = true) (b7 : Binds K fd7 ["_law_pen_here"] [])
    {fT fN : Addr} {fdT fdN : FuncData} {ga gb gc : List Value → List Value → List Value} (gT : mg "TryRule" = some (.ref Ct)) (gN : mg "TurnRule" = some (.ref Cn)) (MT : Mk K Ct fT) (MN : Mk K Cn fN)
    (GT : FnOk P w K mg base (L2.CX P w) 6 fT fdT ["self", "times", "plus"] (spTryInit Ct B N)) (bT : Binds K fdT ["self", "times", "plus"] []) (bT1 : KBn K fdT ["self", "times", "plus"] 1 ["times"] ga (fun vs zs => vs ++ (zs ++ [.int 0])))
    (GN : FnOk P w K mg base (L2.CX P w) 6 fN fdN ["self", "times", "plus", "turn", "turn_plus"] (spTurnInit Cn B N))
    (bN1 : KBn K fdN ["self", "times", "plus", "turn", "turn_plus"] 2 ["turn"] gb (fun vs zs => vs ++ ([.int 0] ++ (zs ++ [.int 0]))))
    (bN2 : KBn K fdN ["self", "times", "plus", "turn", "turn_plus"] 1 ["turn", "times", "plus"] gc (fun vs zs => vs ++ (zs.drop 1 ++ (zs.take 1 ++ [.int 0])))) : FnG P w K mg base 12 f fd ["_law_script"] (spLaw K T1 T2) := by
  obtain ⟨f1, fd1, G1, g1, k1, b1⟩ := D1.ex
  obtain ⟨f2, fd2, G2, g2, k2, b2⟩ := D2.ex
  obtain ⟨f4, fd4, G4, g4, k4, b4⟩ := D4.ex
  obtain ⟨f3, fd3, G3, g3, k3, b3⟩ := D3.ex
  refine fng_of F scLaw (fun vs H Q E h => ?_) (fun cdv A outer s H vs Q E hr gd h => ?_)
  · obtain ⟨a, ns, rfl, _⟩ := h
    rfl
  · obtain ⟨a, ns, rfl, hS, hlen, hT1, hT2, kk⟩ := h
    have hr1 : Room 1 _ := hr.mono (by decide)
    have hr2 : Room 2 _ := hr.mono (by decide)
    have hr3 : Room 3 _ := hr.mono (by decide)
    have hr7 : Room 7 _ := hr.mono (by decide)
    have hr8 : Room 8 _ := hr.mono (by decide)
    have hu : (cxOf CX0 P w K mg base nLaw "law" (defScope sLaw) f cdv A outer s H E).nox.A.units + 64 < cLine := Room.units hr
    obtain ⟨tE, hE, qE⟩ : ∃ t : TS, PSs (cxOf CX0 P w K mg base nLaw "law" (defScope sLaw) f cdv A outer s H E).nox (restLaw 3) t ∧ ∀ (D : Ends) (G : Hp) (v0 v1 v2 v3 v4 v5 v6 : Option V),
        (∀ G', D.rt (.bl true) G') → t D [v0, v1, v2, v3, v4, v5, v6] G := by
      refine ⟨_, pss_cons (ps_if (PW.pt (pw_or (pt_cmpR (op_eqR R hr2) (pe_make MT GT hr7 (by rfl) gT bT .nil (E := E0) passX0 (pa_cons (pe_tup (pa_cons pe_int (pa_cons pe_int pa_nil))) (pa_cons pe_int pa_nil))) (pe_make MT GT hr7 (by rfl) gT bT .nil (E := E0) passX0 (pa_cons (pe_tup (pa_cons pe_int (pa_cons pe_int pa_nil))) (pa_cons pe_int pa_nil))) (nomark _))
          (pw_or1 (pt_cmpR (op_eqR R hr2) (pe_makeN (n := 1) MN GN hr7 (by rfl) gN bN1 (E := E0) passX0 (pa_cons (pe_tup (pa_cons pe_int (pa_cons pe_int pa_nil))) pa_nil) (pk_cons (pe_tup (pa_cons pe_int (pa_cons pe_int pa_nil))) pk_nil)) (pe_makeN (n := 1) MN GN hr7 (by rfl) gN bN1 (E := E0) passX0 (pa_cons (pe_tup (pa_cons pe_int (pa_cons pe_int pa_nil))) pa_nil) (pk_cons (pe_tup (pa_cons pe_int (pa_cons pe_int pa_nil))) pk_nil)) (nomark _))))) (pss_one (ps_ret pe_bl)) pss_nil)
        (pss_cons (ps_set (i := 6) scLaw.nd rfl (.inl rfl) (pe_makeK0 MN GN hr7 (by rfl) gN bN2 (E := E0) passX0 (pk_cons (pe_tup (pa_cons pe_int (pa_cons pe_int pa_nil))) (pk_cons (pe_tup (pa_cons pe_int (pa_cons pe_int pa_nil))) (pk_cons pe_int pk_nil)))))
        (pss_cons (ps_if (PW.pt (pw_or (pt_cmpR op_ne (pe_callB (call_reprV gd hu) (by rfl) mr (by decide +kernel) (pa_cons (ClX.pe_cval (pe_glob (v := .ref CW) rfl gW rfl)) pa_nil)) pe_str (nomark _))
          (pw_or1 (pt_not (pt_val (pe_callG (E := E0) G5 hr1 gd (by rfl) g5 k5 b5 (pa_cons (pe_makeK0 MT GT hr7 (by rfl) gT bT1 (E := E0) passX0 (pk_cons (pe_tup (pa_cons pe_int (pa_cons pe_int pa_nil))) pk_nil)) (pa_cons (pe_tup (pa_cons pe_int (pa_cons pe_int (pa_cons pe_int pa_nil)))) pa_nil)))))))) (pss_one (ps_ret pe_bl)) pss_nil)
        (pss_one (ps_ret (pe_callG (E := E0) G5 hr1 gd (by rfl) g5 k5 b5 (pa_cons (pv 6) (pa_cons (pe_tup (pa_cons pe_int (pa_cons pe_int (pa_cons pe_int (pa_cons pe_int (pa_cons pe_int (pa_cons pe_int pa_nil))))))) pa_nil))))))), ?_⟩
      intro D G v0 v1 v2 v3 v4 v5 v6 fin
      have o1 : (Row.tr 4 2 2).out = .ok := out_ok ⟨by decide, by decide, by decide, by decide, by decide⟩ (by decide)
      have o2 : (Row.tr 2 1 2).out = .ok := out_ok ⟨by decide, by decide, by decide, by decide, by decide⟩ (by decide)
      have o3 : (Row.tn 2 1 0 2 2 0).out = .ok := out_ok ⟨⟨by decide, by decide, by decide, by decide, by decide⟩, ⟨by decide, by decide⟩, ⟨by decide, by decide⟩, by decide, by decide⟩ (by decide)
      have o4 : (Row.tn 2 1 0 1 1 0).out = .ok := out_ok ⟨⟨by decide, by decide, by decide, by decide, by decide⟩, ⟨by decide, by decide⟩, ⟨by decide, by decide⟩, by decide, by decide⟩ (by decide)
      have fi5 : (Row.tn 3 1 2 2 1 0).fit := ⟨⟨by decide, by decide, by decide, by decide, by decide⟩, ⟨by decide, by decide⟩, ⟨by decide, by decide⟩, by decide, by decide⟩
      have fi6 : (Row.tr 2 1 0).fit := ⟨by decide, by decide, by decide, by decide, by decide⟩
      refine ⟨(by show 2 ≤ sizeLine; decide), fun t1 n1 => fun x1 dx nx ndx nex => mk_try (Ct := Ct) (Cn := Cn) nx ndx (p := 4) (q := 2) (k := 2) upd_same o1 fun H1 s1 ob1 => ⟨rfl, ?_⟩⟩
      refine ⟨(by show 2 ≤ sizeLine; decide), fun t2 n2 => fun x2 dx nx ndx nex => mk_try (Ct := Ct) (Cn := Cn) nx ndx (p := 2) (q := 1) (k := 2) upd_same o2 fun H2 s2 ob2 => ⟨rfl, ?_⟩⟩
      refine ⟨x1, x2, _, _, rfl, rfl, (ob1.keep (same_new n2)).keep s2, ob2, ?_⟩
      rw [show rowB (.tr 4 2 2) (.tr 2 1 2) = false by simp [rowB]]
      refine ⟨_, rfl, iteF ?_⟩
      clear ob1 ob2 s1 s2 n1 n2
      refine ⟨(by show 2 ≤ sizeLine; decide), fun t3 n3 => ⟨(by show 2 ≤ sizeLine; decide), fun t4 n4 => ⟨rfl, rfl, fun x3 dx nx ndx nex => mk_turn (Ct := Ct) (Cn := Cn) nx ndx (p := 2) (q := 1) (k := 0) (t := 2) (s := 2) (c := 0) (same_new n4 _ _ upd_same) upd_same o3 fun H3 s3 ob3 => ⟨rfl, ?_⟩⟩⟩⟩
      refine ⟨(by show 2 ≤ sizeLine; decide), fun t5 n5 => ⟨(by show 2 ≤ sizeLine; decide), fun t6 n6 => ⟨rfl, rfl, fun x4 dx nx ndx nex => mk_turn (Ct := Ct) (Cn := Cn) nx ndx (p := 2) (q := 1) (k := 0) (t := 1) (s := 1) (c := 0) (same_new n6 _ _ upd_same) upd_same o4 fun H4 s4 ob4 => ⟨rfl, ?_⟩⟩⟩⟩
      refine ⟨x3, x4, _, _, rfl, rfl, ((ob3.keep (same_new n5)).keep (same_new n6)).keep s4, ob4, ?_⟩
      rw [show rowB (.tn 2 1 0 2 2 0) (.tn 2 1 0 1 1 0) = false by simp [rowB]]
      refine ⟨_, rfl, iteF ?_⟩
      clear ob3 ob4 s3 s4 n3 n4 n5 n6
      refine ⟨(by show 2 ≤ sizeLine; decide), fun t7 n7 => ⟨(by show 2 ≤ sizeLine; decide), fun t8 n8 => ⟨rfl, rfl, fun x5 dx nx ndx nex => mk_turn (Ct := Ct) (Cn := Cn) nx ndx (p := 3) (q := 1) (k := 2) (t := 2) (s := 1) (c := 0) upd_same (same_new n8 _ _ upd_same) (out_ok fi5 (by decide)) fun H5 s5 ob5 => ⟨rfl, ?_⟩⟩⟩⟩
      clear s5 n7 n8
      refine ⟨CW, mc, _, u, rfl, cr, cv, .int 6, .int 6, rfl, .plain (.int 6) rfl, by decide +kernel, (by show 0 ≤ 32; decide), by decide +kernel, rfl, _, rfl, ite2 (fun e => absurd e (by decide +kernel)) (fun _ => ?_)⟩
      refine ⟨(by show 2 ≤ sizeLine; decide), fun t9 n9 => ⟨rfl, rfl, fun x6 dx nx ndx nex => mk_try (Ct := Ct) (Cn := Cn) nx ndx (p := 2) (q := 1) (k := 0) upd_same (out_ok fi6 (by decide)) fun H6 s6 ob6 => ⟨rfl, ?_⟩⟩⟩
      refine ⟨(by show 3 ≤ sizeLine; decide), fun t10 n10 => ⟨x6, t10, .tr 2 1 0, rfl, ob6.keep (same_new n10), upd_same, fit_big fi6, fun H7 s7 => ⟨true, rfl, iteF ?_⟩⟩⟩
      have ob7 := (((ob5.keep (same_new n9)).keep s6).keep (same_new n10)).keep s7
      refine ⟨_, rfl, (by show 6 ≤ sizeLine; decide), fun t11 n11 => ⟨x5, t11, .tn 3 1 2 2 1 0, rfl, ob7.keep (same_new n11), upd_same, fit_big fi5, fun H8 s8 => fin H8⟩⟩
    obtain ⟨tF, hF, qF⟩ : ∃ t : TS, PSs (cxOf CX0 P w K mg base nLaw "law" (defScope sLaw) f cdv A outer s H E).nox (restLaw 2) t ∧ ∀ (D : Ends) (G : Hp) (p L : Addr) (v0 v2 v3 v4 v5 v6 : Option V), Pen L G p 600 → Tabs [(T1, q1), (T2, q2)] G →
        (∀ G', D.rt (.bl true) G') → t D [v0, some (.ref p), v2, v3, v4, v5, v6] G := by
      refine ⟨_, pss_cons (ps_for PassesOwn.never rfl (pi_list (pe_lst (pa_cons (pe_tup (pa_cons pe_int (pa_cons pe_int (pa_cons pe_int pa_nil)))) (pa_cons (pe_tup (pa_cons pe_int (pa_cons pe_int (pa_cons pe_int pa_nil)))) (pa_cons (pe_tup (pa_cons pe_int (pa_cons pe_int (pa_cons pe_int pa_nil)))) (pa_cons (pe_tup (pa_cons pe_int (pa_cons pe_int (pa_cons pe_int pa_nil)))) (pa_cons (pe_tup (pa_cons pe_int (pa_cons pe_int (pa_cons pe_int (pa_cons pe_int (pa_cons pe_int (pa_cons (pe_un un_neg pe_int) pa_nil))))))) (pa_cons (pe_tup (pa_cons pe_int (pa_cons pe_int (pa_cons pe_int (pa_cons pe_int (pa_cons pe_int (pa_cons pe_int pa_nil))))))) pa_nil)))))))) (pg_name (i := 5) scLaw.nd rfl (.inl rfl))
        (pss_one (ps_if (PW.pt (pw_or (pt_not (pt_val (pe_callG (E := E0) G6 hr gd (by rfl) g6 k6 b6 (pa_cons (pv 1) (pa_cons (pv 5) pa_nil))))) (pw_or1 (pt_not (pt_val (pe_callG (E := E0) G5 hr1 gd (by rfl) g5 k5 b5 (pa_cons (pe_call G3 hr8 (by rfl) g3 k3 b3 .nil (E := E0) passX0 (pa_cons (pv 5) pa_nil)) (pa_cons (pv 5) pa_nil)))))))) (pss_one (ps_ret pe_bl)) pss_nil))) hE, ?_⟩
      intro D G p L v0 v2 v3 v4 v5 v6 pn0 tb0 fin
      refine ⟨(by show 3 ≤ sizeLine; decide), fun t0 n0 => ?_⟩
      have s0 := same_new (o := .tup [.int 6, .int 5, .int 4]) n0
      have pn1 := pn0.keep s0
      have tb1 := tb0.ext s0
      have f0 : upd G t0 (.tup [.int 6, .int 5, .int 4]) t0 = some (.tup (Row.tr 6 5 4).vs) := upd_same
      generalize upd G t0 (.tup [.int 6, .int 5, .int 4]) = G0 at *
      clear s0 n0 pn0 tb0
      refine ⟨(by show 3 ≤ sizeLine; decide), fun t1 n1 => ?_⟩
      have s1 := same_new (o := .tup [.int 5, .int 4, .int 3]) n1
      have f0 := s1 _ _ f0
      have pn2 := pn1.keep s1
      have tb2 := tb1.ext s1
      have f1 : upd G0 t1 (.tup [.int 5, .int 4, .int 3]) t1 = some (.tup (Row.tr 5 4 3).vs) := upd_same
      generalize upd G0 t1 (.tup [.int 5, .int 4, .int 3]) = G1 at *
      clear s1 n1 pn1 tb1
      refine ⟨(by show 3 ≤ sizeLine; decide), fun t2 n2 => ?_⟩
      have s2 := same_new (o := .tup [.int 6, .int 6, .int 6]) n2
      have f0 := s2 _ _ f0
      have f1 := s2 _ _ f1
      have pn3 := pn2.keep s2
      have tb3 := tb2.ext s2
      have f2 : upd G1 t2 (.tup [.int 6, .int 6, .int 6]) t2 = some (.tup (Row.tr 6 6 6).vs) := upd_same
      generalize upd G1 t2 (.tup [.int 6, .int 6, .int 6]) = G2 at *
      clear s2 n2 pn2 tb2
      refine ⟨(by show 3 ≤ sizeLine; decide), fun t3 n3 => ?_⟩
      have s3 := same_new (o := .tup [.int 6, .int 4, .int 2]) n3
      have f0 := s3 _ _ f0
      have f1 := s3 _ _ f1
      have f2 := s3 _ _ f2
      have pn4 := pn3.keep s3
      have tb4 := tb3.ext s3
      have f3 : upd G2 t3 (.tup [.int 6, .int 4, .int 2]) t3 = some (.tup (Row.tr 6 4 2).vs) := upd_same
      generalize upd G2 t3 (.tup [.int 6, .int 4, .int 2]) = G3 at *
      clear s3 n3 pn3 tb3
      refine ⟨_, rfl, (by show 6 ≤ sizeLine; decide), fun t4 n4 => ?_⟩
      have s4 := same_new (o := .tup [.int 6, .int 5, .int 4, .int 8, .int 8, .int (-6)]) n4
      have f0 := s4 _ _ f0
      have f1 := s4 _ _ f1
      have f2 := s4 _ _ f2
      have f3 := s4 _ _ f3
      have pn5 := pn4.keep s4
      have tb5 := tb4.ext s4
      have f4 : upd G3 t4 (.tup [.int 6, .int 5, .int 4, .int 8, .int 8, .int (-6)]) t4 = some (.tup (Row.tn 6 5 4 8 8 (-6)).vs) := upd_same
      generalize upd G3 t4 (.tup [.int 6, .int 5, .int 4, .int 8, .int 8, .int (-6)]) = G4 at *
      clear s4 n4 pn4 tb4
      refine ⟨(by show 6 ≤ sizeLine; decide), fun t5 n5 => ?_⟩
      have s5 := same_new (o := .tup [.int 5, .int 5, .int 5, .int 1, .int 8, .int 6]) n5
      have f0 := s5 _ _ f0
      have f1 := s5 _ _ f1
      have f2 := s5 _ _ f2
      have f3 := s5 _ _ f3
      have f4 := s5 _ _ f4
      have pn6 := pn5.keep s5
      have tb6 := tb5.ext s5
      have f5 : upd G4 t5 (.tup [.int 5, .int 5, .int 5, .int 1, .int 8, .int 6]) t5 = some (.tup (Row.tn 5 5 5 1 8 6).vs) := upd_same
      generalize upd G4 t5 (.tup [.int 5, .int 5, .int 5, .int 1, .int 8, .int 6]) = G5 at *
      clear s5 n5 pn5 tb5
      refine ⟨(by show 6 ≤ sizeLine; decide), fun l nl => ⟨l, rfl, ⟨_, SqL.of upd_same⟩, ?_⟩⟩
      have s6 := same_new (o := .lst [.ref t0, .ref t1, .ref t2, .ref t3, .ref t4, .ref t5]) nl
      have f0 := s6 _ _ f0
      have f1 := s6 _ _ f1
      have f2 := s6 _ _ f2
      have f3 := s6 _ _ f3
      have f4 := s6 _ _ f4
      have f5 := s6 _ _ f5
      have lp := pn6.ne nl
      have pn7 := pn6.keep s6
      have tb7 := tb6.ext s6
      have hl : upd G5 l (.lst [.ref t0, .ref t1, .ref t2, .ref t3, .ref t4, .ref t5]) l = some (.lst [.ref t0, .ref t1, .ref t2, .ref t3, .ref t4, .ref t5]) := upd_same
      generalize upd G5 l (.lst [.ref t0, .ref t1, .ref t2, .ref t3, .ref t4, .ref t5]) = Z at *
      clear s6 nl pn6 tb6
      refine for_it (n := 6) (walk_list (K := K) (a := l) (xs := [.ref t0, .ref t1, .ref t2, .ref t3, .ref t4, .ref t5]))
        (fun i σ H' => (∃ v5 : Option V, σ = [v0, some (.ref p), v2, v3, v4, v5, v6]) ∧ Pen L H' p (600 + (i : Int)) ∧ Tabs [(T1, q1), (T2, q2)] H' ∧ ExtP p Z H')
        ⟨⟨v5, rfl⟩, pn7.mono (by decide), tb7, ExtP.refl p Z⟩ (fun _ σ H' _ h => SqL.of (h.2.2.2 _ _ lp hl (fun _ z => by cases z))) ?_ ?_
      · rintro i y σ Ga Gb hi ⟨⟨v5, rfl⟩, pn, tb, xz⟩ ⟨rfl, hy⟩
        obtain ⟨t, row, rfl, ht, fit, ho⟩ : ∃ (t : Addr) (row : Row), y = .ref t ∧ Z t = some (.tup row.vs) ∧ row.fit ∧ 2 * row.q ≤ row.p + row.k := by
          have q := List.mem_of_getElem? hy
          simp only [List.mem_cons, List.not_mem_nil, or_false] at q
          rcases q with rfl | rfl | rfl | rfl | rfl | rfl
          · exact ⟨t0, (Row.tr 6 5 4), rfl, f0, ⟨by decide, by decide, by decide, by decide, by decide⟩, by decide⟩
          · exact ⟨t1, (Row.tr 5 4 3), rfl, f1, ⟨by decide, by decide, by decide, by decide, by decide⟩, by decide⟩
          · exact ⟨t2, (Row.tr 6 6 6), rfl, f2, ⟨by decide, by decide, by decide, by decide, by decide⟩, by decide⟩
          · exact ⟨t3, (Row.tr 6 4 2), rfl, f3, ⟨by decide, by decide, by decide, by decide, by decide⟩, by decide⟩
          · exact ⟨t4, (Row.tn 6 5 4 8 8 (-6)), rfl, f4, ⟨⟨by decide, by decide, by decide, by decide, by decide⟩, ⟨by decide, by decide⟩, ⟨by decide, by decide⟩, by decide, by decide⟩, by decide⟩
          · exact ⟨t5, (Row.tn 5 5 5 1 8 6), rfl, f5, ⟨⟨by decide, by decide, by decide, by decide, by decide⟩, ⟨by decide, by decide⟩, ⟨by decide, by decide⟩, by decide, by decide⟩, by decide⟩
        have ht1 := xz.tup ht pn7
        refine ⟨_, rfl, _, rfl, p, L, t, row, _, rfl, by omega, pn, ht1, fit, tb, fun H2 x2 p2 T2 => ⟨true, rfl, ?_⟩⟩
        have ht2 := x2.tup ht1 pn
        refine ⟨_, rfl, t, row, rfl, ht2, ?_⟩
        rw [out_ok fit ho]
        intro r H3 s3 ob
        refine ⟨_, rfl, r, t, row, rfl, ob, s3 _ _ ht2, fit_big fit, fun H4 s4 => ⟨true, rfl, iteF ?_⟩⟩
        have s4 := s3.trans s4
        exact ⟨⟨_, rfl⟩, (p2.keep s4).mono (by omega), T2.ext s4, (xz.trans x2).trans (Ev.Same.p s4)⟩
      · rintro σ Ga ⟨⟨v5, rfl⟩, pn, tb, xz⟩
        exact qE _ Ga _ _ _ _ _ _ _ fin
    refine ⟨_, pss_cons (ps_set (i := 1) scLaw.nd rfl (.inl rfl) (pe_call G1 hr1 (by rfl) g1 k1 b1 .nil pass0 (pa_cons (pv 0) pa_nil)))
      (pss_cons (ps_for PassesOwn.never rfl (pi_range1 rfl T.range (pa_cons pe_int pa_nil)) (pg_name (i := 2) scLaw.nd rfl (.inl rfl))
        (pss_cons (ps_set (i := 3) scLaw.nd rfl (.inl rfl) (pe_call G4 hr3 (by rfl) g4 k4 b4 .nil pass0 (pa_cons (pv 1) pa_nil)))
        (pss_cons (ps_set (i := 4) scLaw.nd rfl (.inl rfl) (pe_tup (pa_cons (pe_ix ix_tup (pv 3) pe_int (fun _ _ => rfl)) (pa_cons (pe_ix ix_tup (pv 3) pe_int (fun _ _ => rfl)) (pa_cons (pe_op op_sub (pe_call G2 hr1 (by rfl) g2 k2 b2 .nil pass0 (pa_cons (pv 1) (pa_cons pe_int pa_nil))) pe_int) pa_nil)))))
        (pss_cons (ps_if (PW.pt (pw_or (pt_not (pt_val (pe_callG (E := E0) G6 hr gd (by rfl) g6 k6 b6 (pa_cons (pv 1) (pa_cons (pv 3) pa_nil)))))
          (pw_or (pt_not (pt_val (pe_callG (E := E0) G6 hr gd (by rfl) g6 k6 b6 (pa_cons (pv 1) (pa_cons (pe_slice sl_tupA (pv 3) po_none (po_some pe_int)) pa_nil)))))
          (pw_or1 (pt_not (pt_val (pe_callG (E := E0) G6 hr gd (by rfl) g6 k6 b6 (pa_cons (pv 1) (pa_cons (pv 4) pa_nil))))))))) (pss_one (ps_ret pe_bl)) pss_nil)
        (pss_cons (ps_if (PW.pt (pw_or (pt_not (pt_val (pe_callG (E := E0) G7 hr gd (by rfl) g7 k7 b7 (pa_cons (pv 1) pa_nil))))
          (pw_or1 (pt_not (pt_val (pe_callG (E := E0) G6 hr gd (by rfl) g6 k6 b6 (pa_cons (pv 1) (pa_cons (pe_op op_catA (pv 4) (pe_slice sl_tupA (pv 3) (po_some pe_int) po_none)) pa_nil)))))))) (pss_one (ps_ret pe_bl)) pss_nil)
        (pss_one (ps_if (pt_cmpR (op_eqR R hr2) (pe_call G3 hr8 (by rfl) g3 k3 b3 .nil (E := E0) passX0 (pa_cons (pv 3) pa_nil)) (pe_call G3 hr8 (by rfl) g3 k3 b3 .nil (E := E0) passX0 (pa_cons (pe_slice sl_tupA (pv 3) po_none (po_some pe_int)) pa_nil)) (nomark _)) (pss_one (ps_ret pe_bl)) pss_nil)))))))
        hF), ?_⟩
    refine ⟨_, rfl, a, ns, rfl, hS, hlen, fun p L H1 np s1 pn0 => ?_⟩
    have tb0 : Tabs [(T1, q1), (T2, q2)] H1 := fun z hz => by
      simp only [List.mem_cons, List.not_mem_nil, or_false] at hz
      rcases hz with rfl | rfl
      · exact TabS.nil (s1 _ _ hT1)
      · exact TabS.nil (s1 _ _ hT2)
    refine ⟨12, rfl, by decide, by decide, for_range (n := 12) (fun i σ H2 => (∃ v2 v3 v4 : Option V, σ = [some (.ref a), some (.ref p), v2, v3, v4, none, none]) ∧ Pen L H2 p (40 * (i : Int)) ∧ Tabs [(T1, q1), (T2, q2)] H2) ⟨⟨none, none, none, rfl⟩, pn0.mono (by decide), tb0⟩ ?_ ?_⟩
    · rintro i σ H2 hi ⟨⟨v2, v3, v4, rfl⟩, pn, tb⟩
      refine ⟨_, rfl, p, L, _, rfl, by omega, pn, fun l p' q k t s c H5 okn okt nl hl t5 p5 => ?_⟩
      refine ⟨_, rfl, l, _, 0, .int p', rfl, rfl, SqT.of hl, atI_nat (j := 0) rfl, _, rfl, l, _, 1, .int q, rfl, rfl, SqT.of hl, atI_nat (j := 1) rfl, _, rfl, p, L, _, _, rfl, by decide, by decide, by omega, p5, fun d H6 t6 p6 d0 d1 => ⟨_, _, rfl, rfl, (by show 3 ≤ sizeLine; decide), fun lb nlb => ?_⟩⟩
      obtain ⟨a1, a2, a3, a4, a5, a6⟩ := id okn
      have fit1 : (Row.tn p' q k t s c).fit := ⟨⟨a1, a2, a3, a4, a5⟩, okt⟩
      have fit2 : (Row.tr p' q k).fit := ⟨a1, a2, a3, a4, a5⟩
      have fit3 : (Row.tr p' q (d - 6)).fit := ⟨a1, a2, a3, by omega, by omega⟩
      have fit4 : (Row.tn p' q (d - 6) t s c).fit := ⟨⟨a1, a2, a3, by omega, by omega⟩, okt⟩
      have sn := same_new (o := .tup [.int p', .int q, .int (d - 6)]) nlb
      have hl7 := sn _ _ (t6.tup hl p5)
      have hb7 : upd H6 lb (.tup [.int p', .int q, .int (d - 6)]) lb = some (.tup (Row.tr p' q (d - 6)).vs) := upd_same
      have p7 := p6.keep sn
      have tb7 := (Ev.Tabs.but' (Ev.Tabs.but' tb pn t5) p5 t6).ext sn
      clear tb t5 p5 t6 p6 sn hl nl okn
      generalize upd H6 lb (.tup [.int p', .int q, .int (d - 6)]) = H7 at hl7 hb7 p7 tb7 ⊢
      -- three are made
      refine ⟨_, rfl, _, rfl, p, L, l, .tn p' q k t s c, _, rfl, by omega, p7, hl7, fit1, tb7, fun H8 x8 p8 T8 => ⟨true, rfl, ?_⟩⟩
      have hl8 := x8.tup hl7 p7
      have hb8 := x8.tup hb7 p7
      clear hl7 hb7 tb7 x8 p7
      refine ⟨_, rfl, _, rfl, _, rfl, slice3 hl8 fun a9 H9 s9 h9 => ⟨p, L, a9, .tr p' q k, _, rfl, by omega, p8.keep s9, h9, fit2, T8.ext s9, fun H10 x10 p10 T10 => ⟨true, rfl, ?_⟩⟩⟩
      have hl10 := x10.tup (s9 _ _ hl8) (p8.keep s9)
      have hb10 := x10.tup (s9 _ _ hb8) (p8.keep s9)
      clear hl8 hb8 x10 T8 h9
      refine ⟨_, rfl, _, rfl, p, L, lb, .tr p' q (d - 6), _, rfl, by omega, p10, hb10, fit3, T10, fun H11 x11 p11 T11 => ⟨true, rfl, iteF ?_⟩⟩
      have hl11 := x11.tup hl10 p10
      have hb11 := x11.tup hb10 p10
      clear hl10 hb10 x11 T10 p10 p8
      -- refused, and one more is made
      refine ⟨_, rfl, p, L, _, rfl, by omega, p11, T11, fun H12 x12 p12 T12 => ⟨true, rfl, ?_⟩⟩
      have hl12 := x12.tup hl11 p11
      have hb12 := x12.tup hb11 p11
      clear hl11 hb11 x12 T11 p11
      refine ⟨_, rfl, _, rfl, _, rfl, _, rfl, ?_⟩
      unfold L2.tNoPart
      refine slA hl12 fun a13 H13 s13 h13 => ?_
      have h13 : H13 a13 = some (.tup [.int t, .int s, .int c]) := h13
      refine catA (xs := [.int p', .int q, .int (d - 6)]) (ys := [.int t, .int s, .int c]) (s13 _ _ hb12) h13 (by show 3 + 3 ≤ 1000; decide) fun a14 H14 s14 h14 => ?_
      have s14 := s13.trans s14
      refine ⟨p, L, a14, .tn p' q (d - 6) t s c, _, rfl, by omega, p12.keep s14, h14, fit4, T12.ext s14, fun H15 x15 p15 T15 => ⟨true, rfl, iteF ?_⟩⟩
      have hl15 := x15.tup (s14 _ _ hl12) (p12.keep s14)
      clear hl12 hb12 h13 h14 x15 T12 s13 s14
      -- two rules of two kinds
      refine ⟨_, rfl, l, .tn p' q k t s c, rfl, hl15, ?_⟩
      rw [out_ok fit1 a6]
      intro r H16 s16 ob
      refine ⟨_, rfl, _, rfl, slice3 (s16 _ _ hl15) fun a17 H17 s17 h17 => ⟨a17, .tr p' q k, rfl, h17, ?_⟩⟩
      rw [out_ok fit2 a6]
      intro r2 H18 s18 ob2
      refine ⟨r, r2, _, _, rfl, rfl, (ob.keep s17).keep s18, ob2, false, rfl, iteF ?_⟩
      have s18 := s16.trans (s17.trans s18)
      exact ⟨⟨_, _, _, rfl⟩, (p15.keep s18).mono (by omega), T15.ext s18⟩
    · rintro σ H2 ⟨⟨v2, v3, v4, rfl⟩, pn, tb⟩
      exact qF _ H2 p L _ _ _ _ _ _ (pn.mono (by decide)) tb fun G' => kk G'
end
end Ev
namespace Ev
open PySem L2 PySem.Spec PyProof.Rows LamX
/-- the table of a code object -/
def tabAt (K : PySem.W.Frag) (c : Addr) : Addr := match K.lookup c with
  | some ⟨_, _, .fields vs, _⟩ => (match (vs[11]? : Option Value) with | some (.ref T) => T | _ => 0)
  | _ => 0
theorem fnr_of {P : Program} {w : World} {K : PySem.W.Frag} {mg : Str → Option Value} {base : Heap} {CX : CXT} {k : Nat} {f : Addr} {fd : FuncData} {ps : List Str} {sp : Sp} (F : FnOk P w K mg base CX k f fd ps sp) (b : Binds K fd ps []) : FnR P w K mg base CX k f sp := by
  intro A above s H us vs Q E room env rv hs
  have hl : us.length = ps.length := rv.length.symm.trans (F.len _ _ _ _ hs)
  have bt := b s us (env.mod.kin.keeps fun b o e => (env.bs b o e).1) (by rw [List.append_nil]; exact hl)
  rw [List.append_nil] at bt
  exact F.run A above s H ⟨us, []⟩ us vs Q E room env bt rv hs
theorem kit_bty {K : PySem.W.Frag} {t : Value} (h : PySem.W.subIn K t (.type "ValueError") = some true) : PySem.W.kitOne K t (.type "ValueError") = some true := by
  unfold PySem.W.kitOne
  split
  · rfl
  · unfold PySem.W.kitCls
    simp only
    rw [if_pos (by decide +kernel)]
    exact h
theorem walk_ofGTK2 {l : PySem.W.OpenLaw} {n k : Nat} {q : Program} {loose : List Str} {XP : (Str → Option Value) → Heap → Prop} {YP : World → Heap → Prop}
    {d : DefRec} {K : Params → PySem.W.Frag} {x xr xs : Str} (hn : l.most = some n) (hn2 : n ≤ sizeLine) (hdf : d.params.defaults = []) (hr : Room k callerA) (hrec : ((recsOf q).any fun e => e.name == xr) = true) (hrec2 : ((recsOf q).any fun e => e.name == xs) = true)
    (hY : ∀ (w : World) (h : Heap), YP w h → (K w.params).In h)
    (F : ∀ (w : World) (mg : Str → Option Value) (fa : Addr) (h : Heap), (K w.params).In h → h.Ns mainGlobals mg → mg d.name = some (.ref fa) →
      ∃ (fd fdr fds : FuncData) (sp : Sp) (fr c T fs c2 T2 : Addr) (o o2 : Obj), (∀ (s : Shared) (u : Value), BindsTo s fd ⟨[u], []⟩ [(x, u)]) ∧
        (mg xr = some (.ref fr) ∧ (K w.params).lookup fr = some o ∧ o.data = .func fdr ∧ fdr.code = .ref c ∧ PySem.W.codeHdIn (K w.params) c T = true ∧ (K w.params).lookup T = none) ∧
        (mg xs = some (.ref fs) ∧ (K w.params).lookup fs = some o2 ∧ o2.data = .func fds ∧ fds.code = .ref c2 ∧ PySem.W.codeHdIn (K w.params) c2 T2 = true ∧ (K w.params).lookup T2 = none) ∧ T ≠ T2 ∧
        (∀ (H : Hp) (a : Addr) (ns : List Int), ns.length ≤ n → H T = some (.tbl #[]) → H T2 = some (.tbl #[]) → SqL (K w.params) H a (ns.map V.int) → sp [.ref a] H (fun v _ => v = .bl true) fun _ _ _ => False) ∧
        ∀ base : Heap, (K w.params).In base → base.Ns mainGlobals mg → TabB base mg c T → TabB base mg c2 T2 → FnG l.prog w (K w.params) mg base k fa fd [x] sp) :
    PySem.W.WalkO q loose XP YP l.row.toRowW d [] (fun f vs => PySem.call f vs) :=
  walk_ofGT2 hn hn2 hdf hr hrec hrec2 fun w mg fa h Y ns hm => by
    obtain ⟨fd, fdr, fds, sp, fr, c, T, fs, c2, T2, o, o2, r⟩ := F w mg fa h (hY w h Y) ns hm
    exact ⟨K w.params, fd, fdr, fds, sp, fr, c, T, fs, c2, T2, o, o2, hY w h Y, r⟩
theorem kit_clsB {K : PySem.W.Frag} {t : Value} {C : Addr} {b : Bool} (h1 : PySem.W.isClsIn K C = true) (h2 : PySem.W.typeIn K (.ref C) = some (.type "type")) (h3 : PySem.W.subIn K t (.ref C) = some b) : PySem.W.kitCls K t (.ref C) = some b := by
  have h1 : (PySem.W.clsIn K C).isSome = true := h1
  unfold PySem.W.kitCls
  simp only [h1, h2, h3]
  cases b <;> decide
theorem kit_own {K : PySem.W.Frag} {t : Value} {C : Addr} (h1 : PySem.W.isClsIn K C = true) (h2 : PySem.W.typeIn K (.ref C) = some (.type "type")) (h3 : PySem.W.subIn K t (.ref C) = some true) : PySem.W.kitOne K t (.ref C) = some true := by
  unfold PySem.W.kitOne
  split
  · rfl
  · exact kit_clsB h1 h2 h3
theorem kit_not {K : PySem.W.Frag} {D C : Addr} (h1 : PySem.W.isClsIn K C = true) (h2 : PySem.W.typeIn K (.ref C) = some (.type "type")) (h3 : PySem.W.subIn K (.ref D) (.ref C) = some false) (h4 : PySem.W.subIn K (.ref C) (.ref C) = some true) : PySem.W.kitOne K (.ref D) (.ref C) = some false := by
  unfold PySem.W.kitOne
  split
  · rename_i z
    by_cases e : D = C
    · rw [e, h4] at h3
      cases h3
    · have n : ((Value.ref D) == (Value.ref C)) = false := by simp [e]
      rw [n] at z
      cases z
  · exact kit_clsB h1 h2 h3
theorem exm_own {K : PySem.W.Frag} {t : Value} {C : Addr} (h1 : PySem.W.isClsIn K C = true) (h2 : PySem.W.typeIn K (.ref C) = some (.type "type")) (h3 : PySem.W.subIn K t (.ref C) = some true) (h4 : PySem.W.subIn K (.ref C) (.type "BaseException") = some true) : PySem.W.exmOne K t (.ref C) = some true := by
  unfold PySem.W.exmOne
  rw [h4, if_pos (by decide)]
  exact kit_clsB h1 h2 h3
set_option maxHeartbeats 4000000 in
theorem all_mk {l : PySem.W.OpenLaw} {w : World} {K : PySem.W.Frag} {h : Heap} {mg : Str → Option Value} {f0 f1 f2 f3 f4 f5 f6 f7 f8 f9 f10 f11 f12 f13 f14 f15 f16 f17 f18 f19 cM f20 f21 f22 cR f23 Ct Cn CW R0 CB CN FE T30 f30 T33 KD f33 f35 f36 f37 f38 fa : Addr} {od0 an0 od1 an1 od2 an2 od3 an3 od4 an4 od5 an5 od6 an6 od7 an7 od8 an8 od9 an9 od10 an10 od11 an11 od12 an12 od13 an13 od14 an14 od15 an15 od16 an16 od17 an17 od18 an18 od19 an19 od20 an20 od21 an21 od22 an22 od23 an23 td30 od30 an30 td33 od33 an33 od35 an35 od36 an36 od37 an37 od38 an38 : Option Addr} {sl0 sl1 sl2 sl3 sl4 sl5 sl6 sl7 sl8 sl9 sl10 sl11 sl12 sl13 sl14 sl15 sl16 sl17 sl18 sl19 sl20 sl21 sl22 sl23 ts30 sl30 ts33 sl33 sl35 sl36 sl37 sl38 : Array (Option Value)} {oc0 dc0 pm0 ct0 kV0 cd0 oc1 dc1 pm1 ct1 kV1 cd1 oc2 dc2 pm2 ct2 kV2 cd2 oc3 dc3 pm3 ct3 kV3 cd3 oc4 dc4 pm4 ct4 kV4 cd4 oc5 dc5 pm5 ct5 kV5 cd5 oc6 dc6 pm6 ct6 kV6 cd6 oc7 dc7 pm7 ct7 kV7 cd7 oc8 dc8 pm8 ct8 kV8 cd8 oc9 dc9 pm9 ct9 kV9 cd9 oc10 dc10 pm10 ct10 kV10 cd10 oc11 dc11 pm11 ct11 kV11 cd11 oc12 dc12 pm12 ct12 kV12 cd12 oc13 dc13 pm13 ct13 kV13 cd13 oc14 dc14 pm14 ct14 kV14 cd14 oc15 dc15 pm15 ct15 kV15 cd15 oc16 dc16 pm16 ct16 kV16 cd16 oc17 dc17 pm17 ct17 kV17 cd17 oc18 dc18 pm18 ct18 kV18 cd18 oc19 dc19 pm19 ct19 kV19 oc20 dc20 pm20 ct20 kV20 cd20 oc21 dc21 pm21 ct21 kV21 cd21 oc22 dc22 pm22 ct22 kV22 oc23 dc23 pm23 ct23 kV23 cd23 tc30 oc30 dc30 pm30 ct30 kV30 cd30 tc33 oc33 dc33 pm33 ct33 cd33 oc35 dc35 pm35 ct35 kV35 cd35 oc36 dc36 pm36 ct36 kV36 cd36 oc37 dc37 pm37 ct37 kV37 cd37 oc38 dc38 pm38 ct38 kV38 cd38 : Value} {tt30 tt33 tkd tW tP tT : Tok} {tn30 tn33 : Nat} {nmCB qCB nsCB bsCB bmCB snCB subCB abCB colCB ddCB k0CB k1CB k2CB k3CB k5CB nmCN qCN nsCN bsCN bmCN snCN subCN abCN colCN ddCN k0CN k1CN k2CN k3CN k5CN : _} (X : K.In h) (G : h.Ns mainGlobals mg) (hfa : mg "law" = some (.ref fa))
    (a0 : PySem.W.nsIn K mainGlobals "is_integer" = some (some (.ref f0)))
    (l0 : K.lookup f0 = some ⟨oc0, od0, .func (PySem.W.fnOf "is_integer" "is_integer" (defArgs sIsInt) (defBody sIsInt) (defScope sIsInt) .none kV0 dc0 pm0 an0 cd0 ct0), sl0⟩)
    (c0 : PySem.W.codeIn K cd0 "is_integer" = true)
    (k0 : PySem.W.keepIn K (.ref f0) = true)
    (a1 : PySem.W.nsIn K mainGlobals "is_within" = some (some (.ref f1)))
    (l1 : K.lookup f1 = some ⟨oc1, od1, .func (PySem.W.fnOf "is_within" "is_within" (defArgs sWithin) (defBody sWithin) (defScope sWithin) .none kV1 dc1 pm1 an1 cd1 ct1), sl1⟩)
    (c1 : PySem.W.codeIn K cd1 "is_within" = true)
    (k1 : PySem.W.keepIn K (.ref f1) = true)
    (a2 : PySem.W.nsIn K mainGlobals "is_pair" = some (some (.ref f2)))
    (l2 : K.lookup f2 = some ⟨oc2, od2, .func (PySem.W.fnOf "is_pair" "is_pair" (defArgs sPair) (defBody sPair) (defScope sPair) .none kV2 dc2 pm2 an2 cd2 ct2), sl2⟩)
    (c2 : PySem.W.codeIn K cd2 "is_pair" = true)
    (k2 : PySem.W.keepIn K (.ref f2) = true)
    (a3 : PySem.W.nsIn K mainGlobals "is_times" = some (some (.ref f3)))
    (l3 : K.lookup f3 = some ⟨oc3, od3, .func (PySem.W.fnOf "is_times" "is_times" (defArgs sTimes) (defBody sTimes) (defScope sTimes) .none kV3 dc3 pm3 an3 cd3 ct3), sl3⟩)
    (c3 : PySem.W.codeIn K cd3 "is_times" = true)
    (k3 : PySem.W.keepIn K (.ref f3) = true)
    (a4 : PySem.W.nsIn K mainGlobals "is_plus" = some (some (.ref f4)))
    (l4 : K.lookup f4 = some ⟨oc4, od4, .func (PySem.W.fnOf "is_plus" "is_plus" (defArgs sPlus) (defBody sPlus) (defScope sPlus) .none kV4 dc4 pm4 an4 cd4 ct4), sl4⟩)
    (c4 : PySem.W.codeIn K cd4 "is_plus" = true)
    (k4 : PySem.W.keepIn K (.ref f4) = true)
    (a5 : PySem.W.nsIn K mainGlobals "is_turn" = some (some (.ref f5)))
    (l5 : K.lookup f5 = some ⟨oc5, od5, .func (PySem.W.fnOf "is_turn" "is_turn" (defArgs sTurn) (defBody sTurn) (defScope sTurn) .none kV5 dc5 pm5 an5 cd5 ct5), sl5⟩)
    (c5 : PySem.W.codeIn K cd5 "is_turn" = true)
    (k5 : PySem.W.keepIn K (.ref f5) = true)
    (a6 : PySem.W.nsIn K mainGlobals "need_times" = some (some (.ref f6)))
    (l6 : K.lookup f6 = some ⟨oc6, od6, .func (PySem.W.fnOf "need_times" "need_times" (defArgs sNeedT) (defBody sNeedT) (defScope sNeedT) .none kV6 dc6 pm6 an6 cd6 ct6), sl6⟩)
    (c6 : PySem.W.codeIn K cd6 "need_times" = true)
    (k6 : PySem.W.keepIn K (.ref f6) = true)
    (a7 : PySem.W.nsIn K mainGlobals "has_halves" = some (some (.ref f7)))
    (l7 : K.lookup f7 = some ⟨oc7, od7, .func (PySem.W.fnOf "has_halves" "has_halves" (defArgs sHalves) (defBody sHalves) (defScope sHalves) .none kV7 dc7 pm7 an7 cd7 ct7), sl7⟩)
    (c7 : PySem.W.codeIn K cd7 "has_halves" = true)
    (k7 : PySem.W.keepIn K (.ref f7) = true)
    (a8 : PySem.W.nsIn K mainGlobals "need_halves" = some (some (.ref f8)))
    (l8 : K.lookup f8 = some ⟨oc8, od8, .func (PySem.W.fnOf "need_halves" "need_halves" (defArgs sNeedH) (defBody sNeedH) (defScope sNeedH) .none kV8 dc8 pm8 an8 cd8 ct8), sl8⟩)
    (c8 : PySem.W.codeIn K cd8 "need_halves" = true)
    (k8 : PySem.W.keepIn K (.ref f8) = true)
    (a9 : PySem.W.nsIn K mainGlobals "kept" = some (some (.ref f9)))
    (l9 : K.lookup f9 = some ⟨oc9, od9, .func (PySem.W.fnOf "kept" "kept" (defArgs sKept) (defBody sKept) (defScope sKept) .none kV9 dc9 pm9 an9 cd9 ct9), sl9⟩)
    (c9 : PySem.W.codeIn K cd9 "kept" = true)
    (k9 : PySem.W.keepIn K (.ref f9) = true)
    (a10 : PySem.W.nsIn K mainGlobals "parts_of" = some (some (.ref f10)))
    (l10 : K.lookup f10 = some ⟨oc10, od10, .func (PySem.W.fnOf "parts_of" "parts_of" (defArgs sParts) (defBody sParts) (defScope sParts) .none kV10 dc10 pm10 an10 cd10 ct10), sl10⟩)
    (c10 : PySem.W.codeIn K cd10 "parts_of" = true)
    (k10 : PySem.W.keepIn K (.ref f10) = true)
    (a11 : PySem.W.nsIn K mainGlobals "_law_pen" = some (some (.ref f11)))
    (l11 : K.lookup f11 = some ⟨oc11, od11, .func (PySem.W.fnOf "_law_pen" "_law_pen" (defArgs sPen) (defBody sPen) (defScope sPen) .none kV11 dc11 pm11 an11 cd11 ct11), sl11⟩)
    (c11 : PySem.W.codeIn K cd11 "_law_pen" = true)
    (k11 : PySem.W.keepIn K (.ref f11) = true)
    (a12 : PySem.W.nsIn K mainGlobals "_law_draw" = some (some (.ref f12)))
    (l12 : K.lookup f12 = some ⟨oc12, od12, .func (PySem.W.fnOf "_law_draw" "_law_draw" (defArgs sDraw) (defBody sDraw) (defScope sDraw) .none kV12 dc12 pm12 an12 cd12 ct12), sl12⟩)
    (c12 : PySem.W.codeIn K cd12 "_law_draw" = true)
    (k12 : PySem.W.keepIn K (.ref f12) = true)
    (a13 : PySem.W.nsIn K mainGlobals "_law_pick" = some (some (.ref f13)))
    (l13 : K.lookup f13 = some ⟨oc13, od13, .func (PySem.W.fnOf "_law_pick" "_law_pick" (defArgs sPick) (defBody sPick) (defScope sPick) .none kV13 dc13 pm13 an13 cd13 ct13), sl13⟩)
    (c13 : PySem.W.codeIn K cd13 "_law_pick" = true)
    (k13 : PySem.W.keepIn K (.ref f13) = true)
    (a14 : PySem.W.nsIn K mainGlobals "_law_numbers" = some (some (.ref f14)))
    (l14 : K.lookup f14 = some ⟨oc14, od14, .func (PySem.W.fnOf "_law_numbers" "_law_numbers" (defArgs sNums) (defBody sNums) (defScope sNums) .none kV14 dc14 pm14 an14 cd14 ct14), sl14⟩)
    (c14 : PySem.W.codeIn K cd14 "_law_numbers" = true)
    (k14 : PySem.W.keepIn K (.ref f14) = true)
    (a15 : PySem.W.nsIn K mainGlobals "_law_rule" = some (some (.ref f15)))
    (l15 : K.lookup f15 = some ⟨oc15, od15, .func (PySem.W.fnOf "_law_rule" "_law_rule" (defArgs sRule) (defBody sRule) (defScope sRule) .none kV15 dc15 pm15 an15 cd15 ct15), sl15⟩)
    (c15 : PySem.W.codeIn K cd15 "_law_rule" = true)
    (k15 : PySem.W.keepIn K (.ref f15) = true)
    (a16 : PySem.W.nsIn K mainGlobals "_law_heard" = some (some (.ref f16)))
    (l16 : K.lookup f16 = some ⟨oc16, od16, .func (PySem.W.fnOf "_law_heard" "_law_heard" (defArgs sHeard) (defBody sHeard) (defScope sHeard) .none kV16 dc16 pm16 an16 cd16 ct16), sl16⟩)
    (c16 : PySem.W.codeIn K cd16 "_law_heard" = true)
    (k16 : PySem.W.keepIn K (.ref f16) = true)
    (a17 : PySem.W.nsIn K mainGlobals "_law_halves_due" = some (some (.ref f17)))
    (l17 : K.lookup f17 = some ⟨oc17, od17, .func (PySem.W.fnOf "_law_halves_due" "_law_halves_due" (defArgs sDue) (defBody sDue) (defScope sDue) .none kV17 dc17 pm17 an17 cd17 ct17), sl17⟩)
    (c17 : PySem.W.codeIn K cd17 "_law_halves_due" = true)
    (k17 : PySem.W.keepIn K (.ref f17) = true)
    (a18 : PySem.W.nsIn K mainGlobals "_law_tells" = some (some (.ref f18)))
    (l18 : K.lookup f18 = some ⟨oc18, od18, .func (PySem.W.fnOf "_law_tells" "_law_tells" (defArgs sTells) (defBody sTells) (defScope sTells) .none kV18 dc18 pm18 an18 cd18 ct18), sl18⟩)
    (c18 : PySem.W.codeIn K cd18 "_law_tells" = true)
    (k18 : PySem.W.keepIn K (.ref f18) = true)
    (a19 : PySem.W.nsIn K mainGlobals "_law_made_right" = some (some (.ref f19)))
    (l19 : K.lookup f19 = some ⟨oc19, od19, .func (PySem.W.fnOf "_law_made_right" "_law_made_right" (defArgs sMade) (defBody sMade) (defScope sMade) .none kV19 dc19 pm19 an19 (.ref cM) ct19), sl19⟩)
    (c19 : PySem.W.codeIn K (.ref cM) "_law_made_right" = true)
    (k19 : PySem.W.keepIn K (.ref f19) = true)
    (a20 : PySem.W.nsIn K mainGlobals "_law_is_pair" = some (some (.ref f20)))
    (l20 : K.lookup f20 = some ⟨oc20, od20, .func (PySem.W.fnOf "_law_is_pair" "_law_is_pair" (defArgs sLPair) (defBody sLPair) (defScope sLPair) .none kV20 dc20 pm20 an20 cd20 ct20), sl20⟩)
    (c20 : PySem.W.codeIn K cd20 "_law_is_pair" = true)
    (k20 : PySem.W.keepIn K (.ref f20) = true)
    (a21 : PySem.W.nsIn K mainGlobals "_law_is_plus" = some (some (.ref f21)))
    (l21 : K.lookup f21 = some ⟨oc21, od21, .func (PySem.W.fnOf "_law_is_plus" "_law_is_plus" (defArgs sLPlus) (defBody sLPlus) (defScope sLPlus) .none kV21 dc21 pm21 an21 cd21 ct21), sl21⟩)
    (c21 : PySem.W.codeIn K cd21 "_law_is_plus" = true)
    (k21 : PySem.W.keepIn K (.ref f21) = true)
    (a22 : PySem.W.nsIn K mainGlobals "_law_refused_right" = some (some (.ref f22)))
    (l22 : K.lookup f22 = some ⟨oc22, od22, .func (PySem.W.fnOf "_law_refused_right" "_law_refused_right" (defArgs sRefu) (defBody sRefu) (defScope sRefu) .none kV22 dc22 pm22 an22 (.ref cR) ct22), sl22⟩)
    (c22 : PySem.W.codeIn K (.ref cR) "_law_refused_right" = true)
    (k22 : PySem.W.keepIn K (.ref f22) = true)
    (a23 : PySem.W.nsIn K mainGlobals "law" = some (some (.ref f23)))
    (l23 : K.lookup f23 = some ⟨oc23, od23, .func (PySem.W.fnOf "law" "law" (defArgs sLaw) (defBody sLaw) (defScope sLaw) .none kV23 dc23 pm23 an23 cd23 ct23), sl23⟩)
    (c23 : PySem.W.codeIn K cd23 "law" = true)
    (k23 : PySem.W.keepIn K (.ref f23) = true)
    (aCt : PySem.W.nsIn K mainGlobals "TryRule" = some (some (.ref Ct)))
    (aCn : PySem.W.nsIn K mainGlobals "TurnRule" = some (some (.ref Cn)))
    (aCW : PySem.W.nsIn K mainGlobals "WeightRule" = some (some (.ref CW)))
    (aR0 : PySem.W.nsIn K mainGlobals "Rule" = some (some (.ref R0)))
    (aCB : PySem.W.nsIn K mainGlobals "BadRule" = some (some (.ref CB)))
    (aCN : PySem.W.nsIn K mainGlobals "NoHalves" = some (some (.ref CN)))
    (aFE : PySem.W.nsIn K mainGlobals "FairError" = some (some (.ref FE)))
    (pgCt : PySem.W.plainGet K Ct Str.empty = true)
    (hdCt : PySem.W.hasDictIn K Ct = true)
    (poCt : PySem.W.plainOver K Ct = true)
    (saCt : PySem.W.findIn K (.ref Ct) "__setattr__" = some (some (.builtin "object.__setattr__")))
    (mkCt : PySem.W.makesIn K Ct = true)
    (kcCt : PySem.W.keepIn K (.ref Ct) = true)
    (n0Ct : PySem.W.findIn K (.ref Ct) "times" = some none)
    (n1Ct : PySem.W.findIn K (.ref Ct) "plus" = some none)
    (n2Ct : PySem.W.findIn K (.ref Ct) "turn" = some none)
    (n3Ct : PySem.W.findIn K (.ref Ct) "turn_plus" = some none)
    (hcCt : PySem.W.findIn K (.ref Ct) "__class__" = some (some (.builtin "object.__class__")))
    (moCt : PySem.W.mroIn K Ct (.type "object") = some true)
    (suCt : PySem.W.subIn K (.ref Ct) (.ref CW) = some true)
    (srCt : PySem.W.subIn K (.ref Ct) (.ref R0) = some true)
    (ssCt : PySem.W.subIn K (.ref Ct) (.ref Ct) = some true)
    (neCt : PySem.W.findIn K (.ref Ct) "__ne__" = some (some (.builtin "object.__ne__")))
    (pgCn : PySem.W.plainGet K Cn Str.empty = true)
    (hdCn : PySem.W.hasDictIn K Cn = true)
    (poCn : PySem.W.plainOver K Cn = true)
    (saCn : PySem.W.findIn K (.ref Cn) "__setattr__" = some (some (.builtin "object.__setattr__")))
    (mkCn : PySem.W.makesIn K Cn = true)
    (kcCn : PySem.W.keepIn K (.ref Cn) = true)
    (n0Cn : PySem.W.findIn K (.ref Cn) "times" = some none)
    (n1Cn : PySem.W.findIn K (.ref Cn) "plus" = some none)
    (n2Cn : PySem.W.findIn K (.ref Cn) "turn" = some none)
    (n3Cn : PySem.W.findIn K (.ref Cn) "turn_plus" = some none)
    (hcCn : PySem.W.findIn K (.ref Cn) "__class__" = some (some (.builtin "object.__class__")))
    (moCn : PySem.W.mroIn K Cn (.type "object") = some true)
    (suCn : PySem.W.subIn K (.ref Cn) (.ref CW) = some true)
    (srCn : PySem.W.subIn K (.ref Cn) (.ref R0) = some true)
    (ssCn : PySem.W.subIn K (.ref Cn) (.ref Cn) = some true)
    (neCn : PySem.W.findIn K (.ref Cn) "__ne__" = some (some (.builtin "object.__ne__")))
    (sTN : PySem.W.subIn K (.ref Ct) (.ref Cn) = some false)
    (sNT : PySem.W.subIn K (.ref Cn) (.ref Ct) = some false)
    (icCW : PySem.W.isClsIn K CW = true)
    (icR0 : PySem.W.isClsIn K R0 = true)
    (icCt : PySem.W.isClsIn K Ct = true)
    (icCn : PySem.W.isClsIn K Cn = true)
    (icCB : PySem.W.isClsIn K CB = true)
    (icCN : PySem.W.isClsIn K CN = true)
    (icFE : PySem.W.isClsIn K FE = true)
    (ttCW : PySem.W.typeIn K (.ref CW) = some (.type "type"))
    (ttR0 : PySem.W.typeIn K (.ref R0) = some (.type "type"))
    (ttCt : PySem.W.typeIn K (.ref Ct) = some (.type "type"))
    (ttCn : PySem.W.typeIn K (.ref Cn) = some (.type "type"))
    (ttCB : PySem.W.typeIn K (.ref CB) = some (.type "type"))
    (ttCN : PySem.W.typeIn K (.ref CN) = some (.type "type"))
    (ttFE : PySem.W.typeIn K (.ref FE) = some (.type "type"))
    (suBB : PySem.W.subIn K (.ref CB) (.ref CB) = some true)
    (suNN : PySem.W.subIn K (.ref CN) (.ref CN) = some true)
    (suBN : PySem.W.subIn K (.ref CB) (.ref CN) = some false)
    (suNB : PySem.W.subIn K (.ref CN) (.ref CB) = some false)
    (suBF : PySem.W.subIn K (.ref CB) (.ref FE) = some true)
    (suNF : PySem.W.subIn K (.ref CN) (.ref FE) = some true)
    (suFX : PySem.W.subIn K (.ref FE) (.type "BaseException") = some true)
    (suBV : PySem.W.subIn K (.ref CB) (.type "ValueError") = some true)
    (suNV : PySem.W.subIn K (.ref CN) (.type "ValueError") = some true)
    (gaCB : PySem.W.findIn K (.ref CB) "__getattribute__" = some (some (.builtin "BaseException.__getattribute__")))
    (ggCB : PySem.W.findIn K (.ref CB) "__getattr__" = some none)
    (hdCB : PySem.W.hasDictIn K CB = true)
    (hcCB : PySem.W.findIn K (.ref CB) "__class__" = some (some (.builtin "object.__class__")))
    (moCB : PySem.W.mroIn K CB (.type "object") = some true)
    (saCB : PySem.W.findIn K (.ref CB) "__setattr__" = some (some (.builtin "object.__setattr__")))
    (exCB : PySem.W.subIn K (.ref CB) (.type "BaseException") = some true)
    (keCB : PySem.W.keepIn K (.ref CB) = true)
    (noCB : PySem.W.findIn K (.ref CB) "part" = some none)
    (lxCB : K.lookup CB = some (excClassObj nmCB qCB CB nsCB bsCB bmCB true snCB subCB abCB colCB ddCB k0CB k1CB k2CB k3CB k5CB "ValueError.__new__"))
    (rxCB : PySem.HandSPX.refsVE bmCB = true)
    (gaCN : PySem.W.findIn K (.ref CN) "__getattribute__" = some (some (.builtin "BaseException.__getattribute__")))
    (ggCN : PySem.W.findIn K (.ref CN) "__getattr__" = some none)
    (hdCN : PySem.W.hasDictIn K CN = true)
    (hcCN : PySem.W.findIn K (.ref CN) "__class__" = some (some (.builtin "object.__class__")))
    (moCN : PySem.W.mroIn K CN (.type "object") = some true)
    (saCN : PySem.W.findIn K (.ref CN) "__setattr__" = some (some (.builtin "object.__setattr__")))
    (exCN : PySem.W.subIn K (.ref CN) (.type "BaseException") = some true)
    (keCN : PySem.W.keepIn K (.ref CN) = true)
    (noCN : PySem.W.findIn K (.ref CN) "weight" = some none)
    (lxCN : K.lookup CN = some (excClassObj nmCN qCN CN nsCN bsCN bmCN true snCN subCN abCN colCN ddCN k0CN k1CN k2CN k3CN k5CN "ValueError.__new__"))
    (rxCN : PySem.HandSPX.refsVE bmCN = true)
    (hdcM : PySem.W.codeHdIn K cM (tabAt K cM) = true)
    (nocM : K.lookup (tabAt K cM) = none)
    (hdcR : PySem.W.codeHdIn K cR (tabAt K cR) = true)
    (nocR : K.lookup (tabAt K cR) = none)
    (neqT : (tabAt K cM == tabAt K cR) = false)
    (ikn : PySem.W.specialIn K (.builtin "object.__class__") "__get__" = some (some (.builtin "getset_descriptor.__get__")))
    (ikt : PySem.W.takesIn K (.builtin "object.__class__") = some true)
    (m30 : PySem.W.findIn K (.ref Ct) "__init__" = some (some (.ref f30)))
    (i30 : PySem.W.isFn K (.ref f30) = true)
    (l30 : K.lookup f30 = some ⟨oc30, od30, .func (PySem.W.fnOf "__init__" "TryRule.__init__" (defArgs sTryInit) (defBody sTryInit) (defScope sTryInit) (.ref T30) kV30 dc30 pm30 an30 cd30 ct30), sl30⟩)
    (c30 : PySem.W.codeIn K cd30 "TryRule.__init__" = true)
    (k30 : PySem.W.keepIn K (.ref f30) = true)
    (t30 : K.lookup T30 = some ⟨tc30, td30, .seq #[Value.int 0 tt30] tn30, ts30⟩)
    (m33 : PySem.W.findIn K (.ref Cn) "__init__" = some (some (.ref f33)))
    (i33 : PySem.W.isFn K (.ref f33) = true)
    (l33 : K.lookup f33 = some ⟨oc33, od33, .func (PySem.W.fnOf "__init__" "TurnRule.__init__" (defArgs sTurnInit) (defBody sTurnInit) (defScope sTurnInit) (.ref T33) (.ref KD) dc33 pm33 an33 cd33 ct33), sl33⟩)
    (c33 : PySem.W.codeIn K cd33 "TurnRule.__init__" = true)
    (k33 : PySem.W.keepIn K (.ref f33) = true)
    (t33 : K.lookup T33 = some ⟨tc33, td33, .seq #[Value.int 0 tt33] tn33, ts33⟩)
    (m35 : PySem.W.findIn K (.ref Ct) "__eq__" = some (some (.ref f35)))
    (i35 : PySem.W.isFn K (.ref f35) = true)
    (l35 : K.lookup f35 = some ⟨oc35, od35, .func (PySem.W.fnOf "__eq__" "TryRule.__eq__" (defArgs sTryEq) (defBody sTryEq) (defScope sTryEq) .none kV35 dc35 pm35 an35 cd35 ct35), sl35⟩)
    (c35 : PySem.W.codeIn K cd35 "TryRule.__eq__" = true)
    (k35 : PySem.W.keepIn K (.ref f35) = true)
    (m36 : PySem.W.findIn K (.ref Cn) "__eq__" = some (some (.ref f36)))
    (i36 : PySem.W.isFn K (.ref f36) = true)
    (l36 : K.lookup f36 = some ⟨oc36, od36, .func (PySem.W.fnOf "__eq__" "TurnRule.__eq__" (defArgs sTurnEq) (defBody sTurnEq) (defScope sTurnEq) .none kV36 dc36 pm36 an36 cd36 ct36), sl36⟩)
    (c36 : PySem.W.codeIn K cd36 "TurnRule.__eq__" = true)
    (k36 : PySem.W.keepIn K (.ref f36) = true)
    (m37 : PySem.W.findIn K (.ref CB) "__init__" = some (some (.ref f37)))
    (i37 : PySem.W.isFn K (.ref f37) = true)
    (l37 : K.lookup f37 = some ⟨oc37, od37, .func (PySem.W.fnOf "__init__" "BadRule.__init__" (defArgs sBRInit) (defBody sBRInit) (defScope sBRInit) .none kV37 dc37 pm37 an37 cd37 ct37), sl37⟩)
    (c37 : PySem.W.codeIn K cd37 "BadRule.__init__" = true)
    (k37 : PySem.W.keepIn K (.ref f37) = true)
    (m38 : PySem.W.findIn K (.ref CN) "__init__" = some (some (.ref f38)))
    (i38 : PySem.W.isFn K (.ref f38) = true)
    (l38 : K.lookup f38 = some ⟨oc38, od38, .func (PySem.W.fnOf "__init__" "NoHalves.__init__" (defArgs sNHInit) (defBody sNHInit) (defScope sNHInit) .none kV38 dc38 pm38 an38 cd38 ct38), sl38⟩)
    (c38 : PySem.W.codeIn K cd38 "NoHalves.__init__" = true)
    (k38 : PySem.W.keepIn K (.ref f38) = true)
    (kd33 : PySem.W.nsIn K KD "turn_plus" = some (some (.int 0 tkd)))
    (ty37 : PySem.W.typeIn K (.ref f37) = some (.type "function"))
    (ty38 : PySem.W.typeIn K (.ref f38) = some (.type "function"))
    (rdW : PySem.W.readsIn K CW (.type "type") = true)
    (gaW : PySem.W.specialIn K (.ref CW) "__getattribute__" = some (some (.builtin "type.__getattribute__")))
    (cvW : PySem.W.findCls K (.ref CW) (.type "type") "MOST" = some (.val (.int 6 tW)))
    (hgP : PySem.W.nsIn K mainGlobals "MOST_PLUS" = some (some (.int 6 tP)))
    (hgT : PySem.W.nsIn K mainGlobals "MOST_TURN" = some (some (.int 8 tT)))
    (zint : PySem.W.nsIn K mainGlobals "int" = some none)
    (zlen : PySem.W.nsIn K mainGlobals "len" = some none)
    (zabs : PySem.W.nsIn K mainGlobals "abs" = some none)
    (zlist : PySem.W.nsIn K mainGlobals "list" = some none)
    (zmin : PySem.W.nsIn K mainGlobals "min" = some none)
    (zmax : PySem.W.nsIn K mainGlobals "max" = some none)
    (zisinstance : PySem.W.nsIn K mainGlobals "isinstance" = some none)
    (zbool : PySem.W.nsIn K mainGlobals "bool" = some none)
    (ztuple : PySem.W.nsIn K mainGlobals "tuple" = some none)
    (zall : PySem.W.nsIn K mainGlobals "all" = some none)
    (zrange : PySem.W.nsIn K mainGlobals "range" = some none)
    (zrepr : PySem.W.nsIn K mainGlobals "repr" = some none)
    (zany : PySem.W.nsIn K mainGlobals "any" = some none)
    (zdict : PySem.W.nsIn K mainGlobals "dict" = some none)
    (zValueError : PySem.W.nsIn K mainGlobals "ValueError" = some none) :
    ∃ (fd fdr fds : FuncData) (sp : Sp) (fr c T fs c2 T2 : Addr) (o o2 : Obj), (∀ (s : Shared) (u : Value), BindsTo s fd ⟨[u], []⟩ [("_law_script", u)]) ∧
      (mg "_law_made_right" = some (.ref fr) ∧ K.lookup fr = some o ∧ o.data = .func fdr ∧ fdr.code = .ref c ∧ PySem.W.codeHdIn K c T = true ∧ K.lookup T = none) ∧
      (mg "_law_refused_right" = some (.ref fs) ∧ K.lookup fs = some o2 ∧ o2.data = .func fds ∧ fds.code = .ref c2 ∧ PySem.W.codeHdIn K c2 T2 = true ∧ K.lookup T2 = none) ∧ T ≠ T2 ∧
      (∀ (H : Hp) (a : Addr) (ns : List Int), ns.length ≤ 63 → H T = some (.tbl #[]) → H T2 = some (.tbl #[]) → SqL K H a (ns.map V.int) → sp [.ref a] H (fun v _ => v = .bl true) fun _ _ _ => False) ∧
      ∀ base : Heap, K.In base → base.Ns mainGlobals mg → TabB base mg c T → TabB base mg c2 T2 → FnG l.prog w K mg base 12 fa fd ["_law_script"] sp := by
  have e := hfa.symm.trans (PySem.W.mg_of X G a23)
  cases e
  have F0 := fun_mk (st := sIsInt) l0 c0 k0
  have b0 := F0.binds (ps := ["value"]) fun _ _ _ _ _ _ us hl => match us, hl with | [_], _ => rfl
  have F1 := fun_mk (st := sWithin) l1 c1 k1
  have b1 := F1.binds (ps := ["value", "least", "most"]) fun _ _ _ _ _ _ us hl => match us, hl with | [_, _, _], _ => rfl
  have F2 := fun_mk (st := sPair) l2 c2 k2
  have b2 := F2.binds (ps := ["value", "most"]) fun _ _ _ _ _ _ us hl => match us, hl with | [_, _], _ => rfl
  have F3 := fun_mk (st := sTimes) l3 c3 k3
  have b3 := F3.binds (ps := ["value"]) fun _ _ _ _ _ _ us hl => match us, hl with | [_], _ => rfl
  have F4 := fun_mk (st := sPlus) l4 c4 k4
  have b4 := F4.binds (ps := ["value"]) fun _ _ _ _ _ _ us hl => match us, hl with | [_], _ => rfl
  have F5 := fun_mk (st := sTurn) l5 c5 k5
  have b5 := F5.binds (ps := ["value"]) fun _ _ _ _ _ _ us hl => match us, hl with | [_], _ => rfl
  have F6 := fun_mk (st := sNeedT) l6 c6 k6
  have b6 := F6.binds (ps := ["times", "plus"]) fun _ _ _ _ _ _ us hl => match us, hl with | [_, _], _ => rfl
  have F7 := fun_mk (st := sHalves) l7 c7 k7
  have b7 := F7.binds (ps := ["times", "plus"]) fun _ _ _ _ _ _ us hl => match us, hl with | [_, _], _ => rfl
  have F8 := fun_mk (st := sNeedH) l8 c8 k8
  have b8 := F8.binds (ps := ["times", "plus"]) fun _ _ _ _ _ _ us hl => match us, hl with | [_, _], _ => rfl
  have F9 := fun_mk (st := sKept) l9 c9 k9
  have b9 := F9.binds (ps := ["value"]) fun _ _ _ _ _ _ us hl => match us, hl with | [_], _ => rfl
  have F10 := fun_mk (st := sParts) l10 c10 k10
  have b10 := F10.binds (ps := ["value"]) fun _ _ _ _ _ _ us hl => match us, hl with | [_], _ => rfl
  have F11 := fun_mk (st := sPen) l11 c11 k11
  have b11 := F11.binds (ps := ["_law_script"]) fun _ _ _ _ _ _ us hl => match us, hl with | [_], _ => rfl
  have F12 := fun_mk (st := sDraw) l12 c12 k12
  have b12 := F12.binds (ps := ["_law_pen_here", "_law_many"]) fun _ _ _ _ _ _ us hl => match us, hl with | [_, _], _ => rfl
  have F13 := fun_mk (st := sPick) l13 c13 k13
  have b13 := F13.binds (ps := ["_law_pen_here", "_law_some"]) fun _ _ _ _ _ _ us hl => match us, hl with | [_, _], _ => rfl
  have F14 := fun_mk (st := sNums) l14 c14 k14
  have b14 := F14.binds (ps := ["_law_pen_here"]) fun _ _ _ _ _ _ us hl => match us, hl with | [_], _ => rfl
  have F15 := fun_mk (st := sRule) l15 c15 k15
  have b15 := F15.binds (ps := ["_law_some"]) fun _ _ _ _ _ _ us hl => match us, hl with | [_], _ => rfl
  have F16 := fun_mk (st := sHeard) l16 c16 k16
  have b16 := F16.binds (ps := ["_law_ask"]) fun _ _ _ _ _ _ us hl => match us, hl with | [_], _ => rfl
  have F17 := fun_mk (st := sDue) l17 c17 k17
  have b17 := F17.binds (ps := ["_law_some"]) fun _ _ _ _ _ _ us hl => match us, hl with | [_], _ => rfl
  have F18 := fun_mk (st := sTells) l18 c18 k18
  have b18 := F18.binds (ps := ["_law_rule_so", "_law_some"]) fun _ _ _ _ _ _ us hl => match us, hl with | [_, _], _ => rfl
  have F19 := fun_mk (st := sMade) l19 c19 k19
  have b19 := F19.binds (ps := ["_law_pen_here", "_law_some"]) fun _ _ _ _ _ _ us hl => match us, hl with | [_, _], _ => rfl
  have F20 := fun_mk (st := sLPair) l20 c20 k20
  have b20 := F20.binds (ps := ["_law_value", "_law_most"]) fun _ _ _ _ _ _ us hl => match us, hl with | [_, _], _ => rfl
  have F21 := fun_mk (st := sLPlus) l21 c21 k21
  have b21 := F21.binds (ps := ["_law_value"]) fun _ _ _ _ _ _ us hl => match us, hl with | [_], _ => rfl
  have F22 := fun_mk (st := sRefu) l22 c22 k22
  have b22 := F22.binds (ps := ["_law_pen_here"]) fun _ _ _ _ _ _ us hl => match us, hl with | [_], _ => rfl
  have F23 := fun_mk (st := sLaw) l23 c23 k23
  have b23 := F23.binds (ps := ["_law_script"]) fun _ _ _ _ _ _ us hl => match us, hl with | [_], _ => rfl
  have F35 := fun_mk (st := sTryEq) l35 c35 k35
  have b35 := F35.binds (ps := ["self", "other"]) fun _ _ _ _ _ _ us hl => match us, hl with | [_, _], _ => rfl
  have F36 := fun_mk (st := sTurnEq) l36 c36 k36
  have b36 := F36.binds (ps := ["self", "other"]) fun _ _ _ _ _ _ us hl => match us, hl with | [_, _], _ => rfl
  have F37 := fun_mk (st := sBRInit) l37 c37 k37
  have b37 := F37.binds (ps := ["self", "part"]) fun _ _ _ _ _ _ us hl => match us, hl with | [_, _], _ => rfl
  have F38 := fun_mk (st := sNHInit) l38 c38 k38
  have b38 := F38.binds (ps := ["self", "weight"]) fun _ _ _ _ _ _ us hl => match us, hl with | [_, _], _ => rfl
  have T : Blt mg := ⟨PySem.W.mg_none_of X G zint, PySem.W.mg_none_of X G zlen, PySem.W.mg_none_of X G zabs, PySem.W.mg_none_of X G zlist, PySem.W.mg_none_of X G zmin, PySem.W.mg_none_of X G zmax, PySem.W.mg_none_of X G zisinstance, PySem.W.mg_none_of X G zbool, PySem.W.mg_none_of X G ztuple, PySem.W.mg_none_of X G zall, PySem.W.mg_none_of X G zrange, PySem.W.mg_none_of X G zrepr⟩
  have RT : RCls K Ct := ⟨⟨pgCt, hdCt, poCt, saCt⟩, n0Ct, n1Ct, n2Ct, n3Ct⟩
  have RN : RCls K Cn := ⟨⟨pgCn, hdCn, poCn, saCn⟩, n0Cn, n1Cn, n2Cn, n3Cn⟩
  have IT : InsT K Ct := ⟨hcCt, ikn, ikt, moCt, icCt, ttCt⟩
  have IN : InsT K Cn := ⟨hcCn, ikn, ikt, moCn, icCn, ttCn⟩
  have R2 : RTwo K Ct Cn := ⟨RT, RN, IT, IN, kit_not icCn ttCn sTN ssCn, kit_not icCt ttCt sNT ssCt, sTN, sNT⟩
  have D30 : FunD K "__init__" "TryRule.__init__" (defArgs sTryInit) (defBody sTryInit) (defScope sTryInit) [.int 0] [] f30 _ := ⟨⟨_, _, _, _, _, _, _, _, _, _, rfl, l30, c30, .inr ⟨by simp, T30, _, [Value.int 0 tt30], tn30, rfl, t30, rfl, .cons ⟨_, rfl⟩ .nil⟩, .inl rfl⟩, k30⟩
  have D33 : FunD K "__init__" "TurnRule.__init__" (defArgs sTurnInit) (defBody sTurnInit) (defScope sTurnInit) [.int 0] [("turn_plus", .int 0)] f33 _ := ⟨⟨_, _, _, _, _, _, _, _, _, _, rfl, l33, c33, .inr ⟨by simp, T33, _, [Value.int 0 tt33], tn33, rfl, t33, rfl, .cons ⟨_, rfl⟩ .nil⟩, .inr ⟨KD, rfl, fun z hz => by rw [List.mem_singleton.mp hz]; exact ⟨_, kd33, ⟨_, rfl⟩⟩⟩⟩, k33⟩
  obtain ⟨ds30, v30, b30⟩ := FunD.binds1 (ps := ["self", "times", "plus"]) D30 3 1 (by simp) rfl (fun _ _ _ _ _ _ _ us its h1 h2 => match us, its, h1, h2 with | [_, _, _], [_], _, _ => ⟨_, rfl, rfl⟩)
  cases v30
  obtain ⟨its31, b31⟩ := FunD.kbindsD (ps := ["self", "times", "plus"]) D30 1 ["times"] (fun us its ws => us ++ (ws ++ its)) (by simp) (fun r1 r2 r3 => r1.append (r3.append r2))
    (fun _ _ _ _ _ _ _ us its ws h1 h2 h3 => match us, its, ws, h1, h2, h3 with | [_], [_], [_], _, _, _ => ⟨_, rfl, rfl⟩)
  obtain ⟨its33, b33⟩ := FunD.kbindsD (ps := ["self", "times", "plus", "turn", "turn_plus"]) D33 3 ["turn", "turn_plus"] (fun us _ ws => us ++ ws) (by simp) (fun r1 _ r2 => r1.append r2)
    (fun _ _ _ _ _ _ _ us its ws h1 h2 h3 => match us, its, ws, h1, h2, h3 with | [_, _, _], [_], [_, _], _, _, _ => ⟨_, rfl, rfl⟩)
  obtain ⟨its34, mv34, b34⟩ := FunD.kbinds (ps := ["self", "times", "plus", "turn", "turn_plus"]) D33 2 ["turn"] [("turn_plus", .int 0)] (fun us its mv ws => us ++ (its ++ (ws ++ mv))) (by simp) (by simp) (fun _ h => h) (fun r1 r2 r3 r4 => r1.append (r2.append (r4.append r3)))
    (fun _ _ _ _ _ _ _ us its mv ws h1 h2 h3 h4 => match us, its, mv, ws, h1, h2, h3, h4 with | [_, _], [_], [_], [_], _, _, _, _ => ⟨_, rfl, _, _, _, _, _, _, rfl, rfl, rfl⟩)
  obtain ⟨its35, mv35, b35k⟩ := FunD.kbinds (ps := ["self", "times", "plus", "turn", "turn_plus"]) D33 1 ["turn", "times", "plus"] [("turn_plus", .int 0)] (fun us its mv ws => us ++ (ws.drop 1 ++ (ws.take 1 ++ mv))) (by simp) (by simp) (fun _ h => h) (fun r1 r2 r3 r4 => r1.append ((r4.drop 1).append ((r4.take 1).append r3)))
    (fun _ _ _ _ _ _ _ us its mv ws h1 h2 h3 h4 => match us, its, mv, ws, h1, h2, h3, h4 with | [_], [_], [_], [_, _, _], _, _, _, _ => ⟨_, rfl, _, _, _, _, _, _, rfl, rfl, rfl⟩)
  have TT : tabAt K cM ≠ tabAt K cR := fun e => by rw [e] at neqT; simp at neqT
  refine ⟨PySem.W.fnOf "law" "law" (defArgs sLaw) (defBody sLaw) (defScope sLaw) .none kV23 dc23 pm23 an23 cd23 ct23, PySem.W.fnOf "_law_made_right" "_law_made_right" (defArgs sMade) (defBody sMade) (defScope sMade) .none kV19 dc19 pm19 an19 (.ref cM) ct19, PySem.W.fnOf "_law_refused_right" "_law_refused_right" (defArgs sRefu) (defBody sRefu) (defScope sRefu) .none kV22 dc22 pm22 an22 (.ref cR) ct22, spLaw K (tabAt K cM) (tabAt K cR), f19, cM, tabAt K cM, f22, cR, tabAt K cR, _, _, fun s v => .of_eq rfl, ⟨PySem.W.mg_of X G a19, l19, rfl, rfl, hdcM, nocM⟩, ⟨PySem.W.mg_of X G a22, l22, rfl, rfl, hdcR, nocR⟩, TT, fun H a ns hl hT hT2 hS => ⟨a, ns, rfl, hS, hl, hT, hT2, fun _ => rfl⟩, fun base _ _ TB TB2 => ?_⟩
  have d0 : Df l.prog w K mg base 1 "is_integer" ["value"] _ := ⟨f0, _, ok_isInt F0 T, PySem.W.mg_of X G a0, F0.kp, b0⟩
  have d1 : Df l.prog w K mg base 2 "is_within" ["value", "least", "most"] _ := ⟨f1, _, ok_within F1 d0, PySem.W.mg_of X G a1, F1.kp, b1⟩
  have d2 : Df l.prog w K mg base 3 "is_pair" ["value", "most"] _ := ⟨f2, _, ok_pair F2 T d1, PySem.W.mg_of X G a2, F2.kp, b2⟩
  have d3 : Df l.prog w K mg base 4 "is_times" ["value"] _ := ⟨f3, _, ok_times F3 d2 (PySem.W.mg_of X G aCW) ⟨rdW, gaW⟩ ⟨cvW, ⟨_, rfl⟩⟩, PySem.W.mg_of X G a3, F3.kp, b3⟩
  have d4 : Df l.prog w K mg base 3 "is_plus" ["value"] _ := ⟨f4, _, ok_plus F4 d1 (PySem.W.mg_of X G hgP), PySem.W.mg_of X G a4, F4.kp, b4⟩
  have d5 : Df l.prog w K mg base 4 "is_turn" ["value"] _ := ⟨f5, _, ok_turn F5 d2 (PySem.W.mg_of X G hgT), PySem.W.mg_of X G a5, F5.kp, b5⟩
  have d10 : Df l.prog w K mg base 1 "parts_of" ["value"] _ := ⟨f10, _, ok_parts F10 T (PySem.W.mg_none_of X G zdict), PySem.W.mg_of X G a10, F10.kp, b10⟩
  have d9 : Df l.prog w K mg base 2 "kept" ["value"] _ := ⟨f9, _, ok_kept F9 T (PySem.W.mg_none_of X G zdict) (PySem.W.mg_none_of X G zany) d10, PySem.W.mg_of X G a9, F9.kp, b9⟩
  have oB : OexC K CB := ⟨⟨_, _, _, _, _, _, _, _, _, _, _, _, _, _, _, lxCB, rxCB⟩, saCB, exCB, ttCB, keCB⟩
  have oN : OexC K CN := ⟨⟨_, _, _, _, _, _, _, _, _, _, _, _, _, _, _, lxCN, rxCN⟩, saCN, exCN, ttCN, keCN⟩
  have G37 := ok_br (P := l.prog) (w := w) (mg := mg) (base := base) F37 oB noCB d9
  have G38 := ok_nh (P := l.prog) (w := w) (mg := mg) (base := base) F38 oN noCN d9
  have EB : ErrC l.prog w K mg base "BadRule" "part" CB := ⟨oB, PySem.W.mg_of X G aCB, _, _, m37, ty37, G37, b37⟩
  have EN : ErrC l.prog w K mg base "NoHalves" "weight" CN := ⟨oN, PySem.W.mg_of X G aCN, _, _, m38, ty38, G38, b38⟩
  have d7 : Df l.prog w K mg base 1 "has_halves" ["times", "plus"] _ := ⟨f7, _, ok_halves F7, PySem.W.mg_of X G a7, F7.kp, b7⟩
  have d6 : DfX l.prog w K mg base 5 "need_times" ["times", "plus"] _ := ⟨f6, _, ok_needT F6 d3 d4 EB, PySem.W.mg_of X G a6, F6.kp, b6⟩
  have d8 : DfX l.prog w K mg base 5 "need_halves" ["times", "plus"] _ := ⟨f8, _, ok_needH F8 d7 EN, PySem.W.mg_of X G a8, F8.kp, b8⟩
  have GT0 := ok_tryInit (P := l.prog) (w := w) (mg := mg) (base := base) D30 RT d6 d8
  have GN0 := ok_turnInit (P := l.prog) (w := w) (mg := mg) (base := base) D33 RN d6 d8 d5 d4 EB
  have MTT : Mk K Ct f30 := ⟨mkCt, m30, i30, kcCt⟩
  have MTN : Mk K Cn f33 := ⟨mkCn, m33, i33, kcCn⟩
  have GE1 := ok_tryEq (P := l.prog) (w := w) (mg := mg) (base := base) F35 T R2 (PySem.W.mg_of X G aCt)
  have GE2 := ok_turnEq (P := l.prog) (w := w) (mg := mg) (base := base) F36 T R2 (PySem.W.mg_of X G aCn)
  have RE : REq l.prog w K mg base Ct Cn := ⟨R2, ⟨f35, fnr_of GE1 b35, m35, i35⟩, ⟨f36, fnr_of GE2 b36, m36, i36⟩, neCt, neCn⟩
  have IR : InsR K Ct Cn R0 CW := ⟨R2, kit_own icR0 ttR0 srCt, kit_own icR0 ttR0 srCn, kit_own icCW ttCW suCt, kit_own icCW ttCW suCn⟩
  have d11 : Df l.prog w K mg base 1 "_law_pen" ["_law_script"] _ := ⟨f11, _, ok_pen F11 T, PySem.W.mg_of X G a11, F11.kp, b11⟩
  have d12 : Df l.prog w K mg base 1 "_law_draw" ["_law_pen_here", "_law_many"] _ := ⟨f12, _, ok_draw F12 T, PySem.W.mg_of X G a12, F12.kp, b12⟩
  have d13 : Df l.prog w K mg base 2 "_law_pick" ["_law_pen_here", "_law_some"] _ := ⟨f13, _, ok_pick F13 T d12, PySem.W.mg_of X G a13, F13.kp, b13⟩
  have d14 : Df l.prog w K mg base 3 "_law_numbers" ["_law_pen_here"] _ := ⟨f14, _, ok_nums F14 T d12 d13, PySem.W.mg_of X G a14, F14.kp, b14⟩
  have d15 : DfX l.prog w K mg base 8 "_law_rule" ["_law_some"] _ := ⟨f15, _, ok_rule F15 T (PySem.W.mg_of X G aCt) (PySem.W.mg_of X G aCn) MTT MTN GT0 b30 GN0 b33, PySem.W.mg_of X G a15, F15.kp, b15⟩
  have d17 : Df l.prog w K mg base 1 "_law_halves_due" ["_law_some"] _ := ⟨f17, _, ok_due F17, PySem.W.mg_of X G a17, F17.kp, b17⟩
  have d20 : Df l.prog w K mg base 1 "_law_is_pair" ["_law_value", "_law_most"] _ := ⟨f20, _, ok_lpair F20 T, PySem.W.mg_of X G a20, F20.kp, b20⟩
  have d21 : Df l.prog w K mg base 1 "_law_is_plus" ["_law_value"] _ := ⟨f21, _, ok_lplus F21 T, PySem.W.mg_of X G a21, F21.kp, b21⟩
  have GTe := ok_tells (P := l.prog) (w := w) (mg := mg) (base := base) F18 T (PySem.W.mg_none_of X G zrepr) IR (PySem.W.mg_of X G aCt) (PySem.W.mg_of X G aCn) (PySem.W.mg_of X G aR0) (PySem.W.mg_of X G aCW)
  have HB : HeldC K CB := ⟨icCB, gaCB, ggCB, exCB, hdCB, hcCB, ikn, ikt, moCB⟩
  have HN : HeldC K CN := ⟨icCN, gaCN, ggCN, exCN, hdCN, hcCN, ikn, ikt, moCN⟩
  have HH : HeardB l.prog w K mg CB CN FE f16 _ := ⟨F16, PySem.W.mg_of X G a16, b16, PySem.W.mg_none_of X G zValueError, PySem.W.mg_none_of X G zrepr, PySem.W.mg_of X G aFE, PySem.W.mg_of X G aCB, PySem.W.mg_of X G aCN, HB, HN, noCB, noCN, exm_own icFE ttFE suBF suFX, exm_own icFE ttFE suNF suFX, kit_not icCN ttCN suBN suNN, kit_not icCB ttCB suNB suBB, kit_bty suBV, kit_bty suNV⟩
  have GMa := ok_made (P := l.prog) (w := w) (mg := mg) (base := base) (TT := tabAt K cM) (TL := [(tabAt K cM, (envOfC "_law_made_right" (defScope sMade) 0 f19 (.ref cM)).qual ++ ("<lambda>" : Str)), (tabAt K cR, (envOfC "_law_refused_right" (defScope sRefu) 0 f22 (.ref cR)).qual ++ ("<lambda>" : Str))]) F19 T rfl TB (List.mem_cons_self ..)
    (fun p hp e => by
      rcases List.mem_cons.mp hp with rfl | hp
      · rfl
      · rw [List.mem_singleton.mp hp] at e
        exact absurd e.symm TT) rfl HH RE d12 d17 GTe (PySem.W.mg_of X G a18) F18.kp b18 d15
  have GRe := ok_refu (P := l.prog) (w := w) (mg := mg) (base := base) (TT := tabAt K cR) (TL := [(tabAt K cM, (envOfC "_law_made_right" (defScope sMade) 0 f19 (.ref cM)).qual ++ ("<lambda>" : Str)), (tabAt K cR, (envOfC "_law_refused_right" (defScope sRefu) 0 f22 (.ref cR)).qual ++ ("<lambda>" : Str))]) F22 T rfl TB2 (List.mem_cons_of_mem _ (List.mem_cons_self ..))
    (fun p hp e => by
      rcases List.mem_cons.mp hp with rfl | hp
      · exact absurd e TT
      · rw [List.mem_singleton.mp hp]) rfl HH d13 d17 d20 d21 GTe (PySem.W.mg_of X G a18) F18.kp b18 (PySem.W.mg_of X G aCt) (PySem.W.mg_of X G aCn) MTT MTN GT0 b30 GN0 b33
  exact ok_law F23 T (PySem.W.mg_none_of X G zrepr) RE (PySem.W.mg_of X G aCW) ⟨rdW, gaW⟩ ⟨cvW, ⟨_, rfl⟩⟩ d11 d12 d14 d15 GTe (PySem.W.mg_of X G a18) F18.kp b18 GMa (PySem.W.mg_of X G a19) F19.kp b19 GRe (PySem.W.mg_of X G a22) F22.kp b22 (PySem.W.mg_of X G aCt) (PySem.W.mg_of X G aCn) MTT MTN GT0 b30 b31 GN0 b34 b35k
end Ev
open PySem PySem.W PyProof.Rows
set_option maxRecDepth 100000 in
set_option maxHeartbeats 0 in
theorem PySem.Challenge.cw_evenrules_k15_rules_by_weights_made_holds : PySem.Challenge.rw_evenrules_k15_rules_by_weights_made.Holds := by
  exact hd (by
    k_fill
    refine Ev.walk_ofGTK2 (l := PySem.Challenge.rw_evenrules_k15_rules_by_weights_made) (n := 63) (k := 12) (x := "_law_script") (xr := "_law_made_right") (xs := "_law_refused_right") rfl (by decide) rfl ⟨rfl, by decide, by decide⟩ (by kernel_rfl) (by kernel_rfl) (fun w h Y => PySem.W.km_in_of Y) ?F
    case F =>
      intro w mg fa h KX G hmg
      refine' Ev.all_mk KX G hmg ?a0 ?l0 ?c0 ?k0 ?a1 ?l1 ?c1 ?k1 ?a2 ?l2 ?c2 ?k2 ?a3 ?l3 ?c3 ?k3 ?a4 ?l4 ?c4 ?k4 ?a5 ?l5 ?c5 ?k5 ?a6 ?l6 ?c6 ?k6 ?a7 ?l7 ?c7 ?k7 ?a8 ?l8 ?c8 ?k8 ?a9 ?l9 ?c9 ?k9 ?a10 ?l10 ?c10 ?k10 ?a11 ?l11 ?c11 ?k11 ?a12 ?l12 ?c12 ?k12 ?a13 ?l13 ?c13 ?k13 ?a14 ?l14 ?c14 ?k14 ?a15 ?l15 ?c15 ?k15 ?a16 ?l16 ?c16 ?k16 ?a17 ?l17 ?c17 ?k17 ?a18 ?l18 ?c18 ?k18 ?a19 ?l19 ?c19 ?k19 ?a20 ?l20 ?c20 ?k20 ?a21 ?l21 ?c21 ?k21 ?a22 ?l22 ?c22 ?k22 ?a23 ?l23 ?c23 ?k23 ?aCt ?aCn ?aCW ?aR0 ?aCB ?aCN ?aFE ?pgCt ?hdCt ?poCt ?saCt ?mkCt ?kcCt ?n0Ct ?n1Ct ?n2Ct ?n3Ct ?hcCt ?moCt ?suCt ?srCt ?ssCt ?neCt ?pgCn ?hdCn ?poCn ?saCn ?mkCn ?kcCn ?n0Cn ?n1Cn ?n2Cn ?n3Cn ?hcCn ?moCn ?suCn ?srCn ?ssCn ?neCn ?sTN ?sNT ?icCW ?icR0 ?icCt ?icCn ?icCB ?icCN ?icFE ?ttCW ?ttR0 ?ttCt ?ttCn ?ttCB ?ttCN ?ttFE ?suBB ?suNN ?suBN ?suNB ?suBF ?suNF ?suFX ?suBV ?suNV ?gaCB ?ggCB ?hdCB ?hcCB ?moCB ?saCB ?exCB ?keCB ?noCB ?lxCB ?rxCB ?gaCN ?ggCN ?hdCN ?hcCN ?moCN ?saCN ?exCN ?keCN ?noCN ?lxCN ?rxCN ?hdcM ?nocM ?hdcR ?nocR ?neqT ?ikn ?ikt ?m30 ?i30 ?l30 ?c30 ?k30 ?t30 ?m33 ?i33 ?l33 ?c33 ?k33 ?t33 ?m35 ?i35 ?l35 ?c35 ?k35 ?m36 ?i36 ?l36 ?c36 ?k36 ?m37 ?i37 ?l37 ?c37 ?k37 ?m38 ?i38 ?l38 ?c38 ?k38 ?kd33 ?ty37 ?ty38 ?rdW ?gaW ?cvW ?hgP ?hgT ?zint ?zlen ?zabs ?zlist ?zmin ?zmax ?zisinstance ?zbool ?ztuple ?zall ?zrange ?zrepr ?zany ?zdict ?zValueError
      (case a0 => k_is)
      (case l0 => k_is)
      (case c0 => k_is)
      (case k0 => k_is)
      (case a1 => k_is)
      (case l1 => k_is)
      (case c1 => k_is)
      (case k1 => k_is)
      (case a2 => k_is)
      (case l2 => k_is)
      (case c2 => k_is)
      (case k2 => k_is)
      (case a3 => k_is)
      (case l3 => k_is)
      (case c3 => k_is)
      (case k3 => k_is)
      (case a4 => k_is)
      (case l4 => k_is)
      (case c4 => k_is)
      (case k4 => k_is)
      (case a5 => k_is)
      (case l5 => k_is)
      (case c5 => k_is)
      (case k5 => k_is)
      (case a6 => k_is)
      (case l6 => k_is)
      (case c6 => k_is)
      (case k6 => k_is)
      (case a7 => k_is)
      (case l7 => k_is)
      (case c7 => k_is)
      (case k7 => k_is)
      (case a8 => k_is)
      (case l8 => k_is)
      (case c8 => k_is)
      (case k8 => k_is)
      (case a9 => k_is)
      (case l9 => k_is)
      (case c9 => k_is)
      (case k9 => k_is)
      (case a10 => k_is)
      (case l10 => k_is)
      (case c10 => k_is)
      (case k10 => k_is)
      (case a11 => k_is)
      (case l11 => k_is)
      (case c11 => k_is)
      (case k11 => k_is)
      (case a12 => k_is)
      (case l12 => k_is)
      (case c12 => k_is)
      (case k12 => k_is)
      (case a13 => k_is)
      (case l13 => k_is)
      (case c13 => k_is)
      (case k13 => k_is)
      (case a14 => k_is)
      (case l14 => k_is)
      (case c14 => k_is)
      (case k14 => k_is)
      (case a15 => k_is)
      (case l15 => k_is)
      (case c15 => k_is)
      (case k15 => k_is)
      (case a16 => k_is)
      (case l16 => k_is)
      (case c16 => k_is)
      (case k16 => k_is)
      (case a17 => k_is)
      (case l17 => k_is)
      (case c17 => k_is)
      (case k17 => k_is)
      (case a18 => k_is)
      (case l18 => k_is)
      (case c18 => k_is)
      (case k18 => k_is)
      (case a19 => k_is)
      (case l19 => k_is)
      (case c19 => k_is)
      (case k19 => k_is)
      (case a20 => k_is)
      (case l20 => k_is)
      (case c20 => k_is)
      (case k20 => k_is)
      (case a21 => k_is)
      (case l21 => k_is)
      (case c21 => k_is)
      (case k21 => k_is)
      (case a22 => k_is)
      (case l22 => k_is)
      (case c22 => k_is)
      (case k22 => k_is)
      (case a23 => k_is)
      (case l23 => k_is)
      (case c23 => k_is)
      (case k23 => k_is)
      (case aCt => k_is)
      (case aCn => k_is)
      (case aCW => k_is)
      (case aR0 => k_is)
      (case aCB => k_is)
      (case aCN => k_is)
      (case aFE => k_is)
      (case pgCt => k_is)
      (case hdCt => k_is)
      (case poCt => k_is)
      (case saCt => k_is)
      (case mkCt => k_is)
      (case kcCt => k_is)
      (case n0Ct => k_is)
      (case n1Ct => k_is)
      (case n2Ct => k_is)
      (case n3Ct => k_is)
      (case hcCt => k_is)
      (case moCt => k_is)
      (case suCt => k_is)
      (case srCt => k_is)
      (case ssCt => k_is)
      (case neCt => k_is)
      (case pgCn => k_is)
      (case hdCn => k_is)
      (case poCn => k_is)
      (case saCn => k_is)
      (case mkCn => k_is)
      (case kcCn => k_is)
      (case n0Cn => k_is)
      (case n1Cn => k_is)
      (case n2Cn => k_is)
      (case n3Cn => k_is)
      (case hcCn => k_is)
      (case moCn => k_is)
      (case suCn => k_is)
      (case srCn => k_is)
      (case ssCn => k_is)
      (case neCn => k_is)
      (case sTN => k_is)
      (case sNT => k_is)
      (case icCW => k_is)
      (case icR0 => k_is)
      (case icCt => k_is)
      (case icCn => k_is)
      (case icCB => k_is)
      (case icCN => k_is)
      (case icFE => k_is)
      (case ttCW => k_is)
      (case ttR0 => k_is)
      (case ttCt => k_is)
      (case ttCn => k_is)
      (case ttCB => k_is)
      (case ttCN => k_is)
      (case ttFE => k_is)
      (case suBB => k_is)
      (case suNN => k_is)
      (case suBN => k_is)
      (case suNB => k_is)
      (case suBF => k_is)
      (case suNF => k_is)
      (case suFX => k_is)
      (case suBV => k_is)
      (case suNV => k_is)
      (case gaCB => k_is)
      (case ggCB => k_is)
      (case hdCB => k_is)
      (case hcCB => k_is)
      (case moCB => k_is)
      (case saCB => k_is)
      (case exCB => k_is)
      (case keCB => k_is)
      (case noCB => k_is)
      (case lxCB => k_is)
      (case rxCB => decide +kernel)
      (case gaCN => k_is)
      (case ggCN => k_is)
      (case hdCN => k_is)
      (case hcCN => k_is)
      (case moCN => k_is)
      (case saCN => k_is)
      (case exCN => k_is)
      (case keCN => k_is)
      (case noCN => k_is)
      (case lxCN => k_is)
      (case rxCN => decide +kernel)
      (case hdcM => kernel_rfl)
      (case nocM => kernel_rfl)
      (case hdcR => kernel_rfl)
      (case nocR => kernel_rfl)
      (case neqT => kernel_rfl)
      (case ikn => k_is)
      (case ikt => k_is)
      (case m30 => k_is)
      (case i30 => k_is)
      (case l30 => k_is)
      (case c30 => k_is)
      (case k30 => k_is)
      (case t30 => k_is)
      (case m33 => k_is)
      (case i33 => k_is)
      (case l33 => k_is)
      (case c33 => k_is)
      (case k33 => k_is)
      (case t33 => k_is)
      (case m35 => k_is)
      (case i35 => k_is)
      (case l35 => k_is)
      (case c35 => k_is)
      (case k35 => k_is)
      (case m36 => k_is)
      (case i36 => k_is)
      (case l36 => k_is)
      (case c36 => k_is)
      (case k36 => k_is)
      (case m37 => k_is)
      (case i37 => k_is)
      (case l37 => k_is)
      (case c37 => k_is)
      (case k37 => k_is)
      (case m38 => k_is)
      (case i38 => k_is)
      (case l38 => k_is)
      (case c38 => k_is)
      (case k38 => k_is)
      (case kd33 => k_is)
      (case ty37 => k_is)
      (case ty38 => k_is)
      (case rdW => k_is)
      (case gaW => k_is)
      (case cvW => k_is)
      (case hgP => k_is)
      (case hgT => k_is)
      (case zint => k_is)
      (case zlen => k_is)
      (case zabs => k_is)
      (case zlist => k_is)
      (case zmin => k_is)
      (case zmax => k_is)
      (case zisinstance => k_is)
      (case zbool => k_is)
      (case ztuple => k_is)
      (case zall => k_is)
      (case zrange => k_is)
      (case zrepr => k_is)
      (case zany => k_is)
      (case zdict => k_is)
      (case zValueError => k_is))
