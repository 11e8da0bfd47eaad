import PyProof.Rows.All
import Wide.All
import OpenK.AllK
import Wide.FinOn
import HandS.ForMost
import HandS.Wide
import HandS.Codes
import HandS.IsInst
import HandS.Defaults
import HandS.MakeKw
import HandS.MakeKwOnly
import HandS.ClsMeth
import HandS.TupAny
import HandS.Style
import HandS.Zip
import HandS.Conv
import HandS.Walk
import HandS.Iter
import HandS.Dict
import HandS.ExcInit
import HandS.ForExc
import HandS.RaiseMore
import KE.KExcIs
import HandS.Lambda
import HandS.EndTab
import HandS.ExcOwn
import HandS.TupLe
import PySem.Challenge.RW_evenrules_k30_shapes_measured
open PySem PySem.W PyProof.Rows
set_option Elab.async false
set_option linter.all false
set_option maxRecDepth 100000 in
set_option maxHeartbeats 0 in
open_top hd for PySem.Challenge.rw_evenrules_k30_shapes_measured
set_option maxRecDepth 100000
set_option maxHeartbeats 4000000
namespace Ev
open PySem L2
def top (i : Nat) : Stmt := PySem.Challenge.pw_evenrules_k30_shapes_measured.main.body.getD i (.Pass ⟨0, 0, 0, 0⟩)
abbrev sDraw : Stmt := top 58
/-- all that was tracked is as it was, but at p -/
def But (p : Addr) (H H' : Hp) : Prop := ∀ b o, b ≠ p → H b = some o → H' b = some o
theorem But.refl (p : Addr) (H : Hp) : But p H H := fun _ _ _ e => e
theorem But.trans {p : Addr} {H H1 H2 : Hp} (a : But p H H1) (b : But p H1 H2) : But p H H2 := fun c o n e => b c o n (a c o n e)
theorem Same.but {p : Addr} {H H' : Hp} (a : Same H H') : But p H H' := fun c o _ e => a c o e
theorem But.upd_new {p q : Addr} {H : Hp} {o : HO} (h : H q = none) : But p H (upd H q o) := fun b u _ e => by
  rw [upd_ne (ne_of_none e h)]; exact e
theorem But.upd_at {p : Addr} {H : Hp} {o : HO} : But p H (upd H p o) := fun b u n e => by
  rw [upd_ne n]; exact e
/-- the pen: a list of a list of ints, how often it was asked, and a rest -/
def Pen (L : Addr) (H : Hp) (p : Addr) (B : Int) : Prop := ∃ (ns : List Int) (turn carry : Int),
  H p = some (.lst [.ref L, .int turn, .int carry]) ∧ H L = some (.lst (ns.map V.int)) ∧ L ≠ p ∧ ns.length ≤ 63 ∧ 0 ≤ turn ∧ turn ≤ B ∧ 0 ≤ carry
theorem Pen.keep {L : Addr} {H H' : Hp} {p : Addr} {B : Int} (h : Pen L H p B) (k : Same H H') : Pen L H' p B := by
  obtain ⟨ns, t, c, h1, h2, h3, h4, h5, h6, h7⟩ := h
  exact ⟨ns, t, c, k _ _ h1, k _ _ h2, h3, h4, h5, h6, h7⟩
theorem Pen.mono {L : Addr} {H : Hp} {p : Addr} {B B' : Int} (h : Pen L H p B) (k : B ≤ B') : Pen L H p B' := by
  obtain ⟨ns, t, c, h1, h2, h3, h4, h5, h6, h7⟩ := h
  exact ⟨ns, t, c, h1, h2, h3, h4, h5, by omega, h7⟩
def spDraw : Sp := fun vs H Q _ => ∃ (p L : Addr) (m B : Int), vs = [.ref p, .int m] ∧ 1 ≤ m ∧ m ≤ 100000000000000000000000000000 ∧ B ≤ 1000000 ∧ Pen L H p B ∧
  ∀ (d : Int) (H' : Hp), But p H H' → Pen L H' p (B + 1) → 0 ≤ d → d < m → Q (.int d) H'
theorem dpInts {K : PySem.W.Frag} {H : Hp} : ∀ ns : List Int, DpAll K H (ns.map V.int) (ns.map PyData.int)
  | [] => .nil
  | n :: r => .cons (.int n) (dpInts r)
theorem sh_ints (ns : List Int) : SeqAt.shaped (.list (ns.map PyData.int)) = true := by
  have h1 : ∀ ns : List Int, PyData.canLayAll0 (ns.map PyData.int) = true := by
    intro ns
    induction ns with
    | nil => rfl
    | cons n r ih => simp [PyData.canLayAll0, PyData.canLay0, ih]
  have h2 : ∀ ns : List Int, PyData.depthAll (ns.map PyData.int) ≤ 1 := by
    intro ns
    induction ns with
    | nil => simp [PyData.depthAll]
    | cons n r ih => simp [PyData.depthAll, PyData.depth]; omega
  unfold SeqAt.shaped
  rw [Bool.and_eq_true]
  refine ⟨by simp [PyData.canLay0, h1], decide_eq_true ?_⟩
  have := h2 ns
  simp [PyData.depth]; omega
theorem eqv_nil (ns : List Int) : PyData.eqv (.list (ns.map PyData.int)) (.list []) = ns.isEmpty := by
  cases ns <;> simp [PyData.eqv, PyData.eqvAll]
section
variable {P : Program} {w : World} {K : PySem.W.Frag} {mg : Str → Option Value} {base : Heap}
/-- built-ins that the program does not cover -/
structure Blt (mg : Str → Option Value) : Prop where
  int : mg "int" = none
  len : mg "len" = none
  abs : mg "abs" = none
  list : mg "list" = none
  min : mg "min" = none
  max : mg "max" = none
  isi : mg "isinstance" = none
  bool : mg "bool" = none
  tuple : mg "tuple" = none
  all : mg "all" = none
  range : mg "range" = none
  repr : mg "repr" = none
theorem scD : FnScope ["_law_pen_here", "_law_many", "_law_digit", "_law_at", "_law_cell", "_law_great", "_law_mixed"] ["_law_pen_here", "_law_many"] (defScope sDraw) := ⟨rfl, rfl, rfl, by decide +kernel, rfl, by decide +kernel, by decide +kernel⟩
theorem fmod_lo (a : Int) {m : Int} (h : 1 ≤ m) : 0 ≤ a.fmod m := by rw [Int.fmod_eq_emod_of_nonneg a (by omega)]; exact Int.emod_nonneg a (by omega)
theorem fmod_hi (a : Int) {m : Int} (h : 1 ≤ m) : a.fmod m < m := by rw [Int.fmod_eq_emod_of_nonneg a (by omega)]; exact Int.emod_lt_of_pos a (by omega)
theorem fdiv_lo {a m : Int} (h : 1 ≤ m) (h0 : 0 ≤ a) : 0 ≤ a.fdiv m := by rw [Int.fdiv_eq_ediv_of_nonneg a (by omega)]; exact Int.ediv_nonneg h0 (by omega)
theorem cell_at {ns : List Int} (h : ns ≠ []) (t : Int) : ∃ c : Int, atI (ns.map V.int) (t.fmod (((ns.map V.int).length : Nat) : Int)) = some (V.int c) := by
  rw [List.length_map]
  have l : 0 < ns.length := List.length_pos_iff.mpr h
  have h1 : 0 ≤ t.fmod (ns.length : Int) := fmod_lo t (by omega)
  have h2 : t.fmod (ns.length : Int) < ns.length := fmod_hi t (by omega)
  generalize t.fmod (ns.length : Int) = i at h1 h2
  obtain ⟨j, rfl⟩ := Int.eq_ofNat_of_zero_le h1
  have hj : j < ns.length := by omega
  exact ⟨ns[j], atI_nat (by rw [List.getElem?_map, List.getElem?_eq_getElem hj]; rfl)⟩
theorem mul_le_of {a b A B : Int} (a0 : 0 ≤ a) (b0 : 0 ≤ b) (ha : a ≤ A) (hb : b ≤ B) : 0 ≤ a * b ∧ a * b ≤ A * B :=
  ⟨Int.mul_nonneg a0 b0, Int.mul_le_mul ha hb b0 (by omega)⟩
theorem bound1 (c : Int) {M C D t : Int} (hM : 1 ≤ M) (hM2 : M ≤ 4294967296) (hC : 0 ≤ C ∧ C ≤ 1000000) (hD : 0 ≤ D ∧ D ≤ 1000000) (h0 : 0 ≤ t) (h1 : t ≤ 1000000) : (c.fmod M + C * t + D).natAbs < 2 ^ 64 := by
  have a1 := fmod_lo c hM
  have a2 := fmod_hi c hM
  have ⟨a3, a4⟩ := mul_le_of hC.1 h0 hC.2 h1
  omega
theorem bound2 {x C5 C6 C7 t : Int} (hx : 0 ≤ x ∧ x < 4294967296) (h5 : 0 ≤ C5 ∧ C5 ≤ 1000000) (h6 : 0 ≤ C6 ∧ C6 ≤ 1000000) (h7 : 0 ≤ C7 ∧ C7 ≤ 1000000) (h0 : 0 ≤ t) (h1 : t ≤ 1000000) :
    (x * (2 * t + C5) + C6 * t * t + C7).natAbs < 2 ^ 64 := by
  have ⟨a1, a2⟩ := mul_le_of (b := 2 * t + C5) (A := 4294967296) (B := 3000000) hx.1 (by omega) (by omega) (by omega)
  have ⟨a3, a4⟩ := mul_le_of h6.1 h0 h6.2 h1
  have ⟨a5, a6⟩ := mul_le_of a3 h0 a4 h1
  omega
theorem great_nn {c e : Int} (h : e ≤ (if c < 0 then -c else c)) (b : Bool) : 0 ≤ 2 * ((if c < 0 then -c else c) - e) + (if b = true then 1 else 0) := by
  cases b
  · rw [if_neg Bool.false_ne_true]; omega
  · rw [if_pos rfl]; omega
theorem lt64 {x : Int} (h : 0 ≤ x ∧ x < 4294967296) : -(2 ^ 64) < x ∧ x < 2 ^ 64 := ⟨by omega, by omega⟩
theorem nz {M : Int} (h : 0 < M) : M ≠ 0 := by omega
theorem divW {i m : Int} (h : 1 ≤ m) (h2 : m ≤ 100000000000000000000000000000) : CDivW i m := wide_div (b := 97) (by omega) (by omega) (by decide) (by decide)
theorem ediv_lo {a m : Int} (h : 1 ≤ m) (h0 : 0 ≤ a) : 0 ≤ a / m := Int.ediv_nonneg h0 (by omega)
theorem ok_draw {f : Addr} {fd : FuncData} (F : Fun K "_law_draw" "_law_draw" sDraw f fd) (T : Blt mg) : FnOk P w K mg base CX0 1 f fd ["_law_pen_here", "_law_many"] spDraw := by
  refine F.ok scD (fun vs H Q E h => ?_) (fun cdv A outer s H vs Q E hr h => ?_)
  · obtain ⟨p, L, m, B, rfl, _⟩ := h
    rfl
  · obtain ⟨p, L, m, B, rfl, hm, hm2, hB, ⟨ns, tn, ca, hp, hL, Lp, hlen, t0, tB, c0⟩, k⟩ := h
    have hu := hu_of hr
    refine ⟨_, pss_cons (ps_if (pt_cmpR op_gt (pe_ix ix_list (pv 0) pe_int (fun _ _ => rfl)) pe_int (nomark _))
        (pss_cons (ps_set (i := 2) scD.nd rfl (.inl rfl) (pe_op op_modN (pe_callTy call_int1 (by rfl) T.int (by decide +kernel) (pa_cons (pe_ix ix_list (pv 0) pe_int (fun _ _ => rfl)) pa_nil)) (pv 1)))
        (pss_cons (ps_asg (pe_op op_fdivW (pe_callTy call_int1 (by rfl) T.int (by decide +kernel) (pa_cons (pe_ix ix_list (pv 0) pe_int (fun _ _ => rfl)) pa_nil)) (pv 1)) (pg_sub (pv 0) pe_int set_list))
        (pss_one (ps_ret (pv 2))))) pss_nil)
      (pss_cons (ps_set (i := 3) scD.nd rfl (.inl rfl) (pe_ix ix_list (pv 0) pe_int (fun _ _ => rfl)))
      (pss_cons (ps_asg (pe_op op_add (pv 3) pe_int) (pg_sub (pv 0) pe_int set_list))
      (pss_cons (ps_set (i := 4) scD.nd rfl (.inl rfl) (pe_op op_add (pe_op op_mul pe_int (pv 3)) pe_int))
      (pss_cons (ps_if (pt_cmpR (op_neD hr.units) (pe_ix ix_list (pv 0) pe_int (fun _ _ => rfl)) (pe_lst pa_nil) (nomark _))
        (pss_one (ps_set (i := 4) scD.nd rfl (.inl rfl) (pe_ix ix_list (pe_ix ix_list (pv 0) pe_int (fun _ _ => rfl))
          (pe_op op_modN (pe_callTy call_int1 (by rfl) T.int (by decide +kernel) (pa_cons (pv 3) pa_nil)) (pe_callB call_len_seq (by rfl) T.len PySem.boot_len (pa_cons (pe_ix ix_list (pv 0) pe_int (fun _ _ => rfl)) pa_nil))) (fun _ _ => rfl)))) pss_nil)
      (pss_cons (ps_if (PW.pt (pw_and (pt_cmpR op_lt (pv 3) (pe_callB call_len_seq (by rfl) T.len PySem.boot_len (pa_cons (pe_ix ix_list (pv 0) pe_int (fun _ _ => rfl)) pa_nil)) (nomark _))
          (pw_and1 (pt_cmpR op_ge (pe_callB call_abs (by rfl) T.abs (by decide +kernel) (pa_cons (pv 4) pa_nil)) (pe_op op_pow pe_int pe_int) (nomark _)))))
        (pss_cons (ps_set (i := 5) scD.nd rfl (.inl rfl) (pe_op op_add (pe_op op_mul pe_int (pe_op op_sub (pe_callB call_abs (by rfl) T.abs (by decide +kernel) (pa_cons (pv 4) pa_nil)) (pe_op op_pow pe_int pe_int)))
            (pe_callTy call_int1 (by rfl) T.int (by decide +kernel) (pa_cons (pe_cmpR op_lt (pv 4) pe_int (nomark _)) pa_nil))))
        (pss_cons (ps_asg (pe_op op_fdivW (pe_callTy call_int1 (by rfl) T.int (by decide +kernel) (pa_cons (pv 5) pa_nil)) (pv 1)) (pg_sub (pv 0) pe_int set_list))
        (pss_one (ps_ret (pe_op op_modN (pe_callTy call_int1 (by rfl) T.int (by decide +kernel) (pa_cons (pv 5) pa_nil)) (pv 1)))))) pss_nil)
      (pss_cons (ps_set (i := 6) scD.nd rfl (.inl rfl) (pe_op op_modN (pe_callTy call_int1 (by rfl) T.int (by decide +kernel) (pa_cons (pe_op op_pow (pe_op op_add (pe_op op_add
          (pe_op op_modN (pe_callTy call_int1 (by rfl) T.int (by decide +kernel) (pa_cons (pv 4) pa_nil)) pe_int) (pe_op op_mul pe_int (pv 3))) pe_int) pe_int) pa_nil)) pe_int))
      (pss_cons (ps_set (i := 6) scD.nd rfl (.inl rfl) (pe_op op_modN (pe_callTy call_int1 (by rfl) T.int (by decide +kernel) (pa_cons (pe_op op_pow (pe_op op_add (pe_op op_add
          (pe_op op_mul (pv 6) (pe_op op_add (pe_op op_mul pe_int (pv 3)) pe_int)) (pe_op op_mul (pe_op op_mul pe_int (pv 3)) (pv 3))) pe_int) pe_int) pa_nil)) pe_int))
      (pss_one (ps_ret (pe_op op_modN (pe_callTy call_int1 (by rfl) T.int (by decide +kernel) (pa_cons (pe_op op_fdivN (pv 6) pe_int) pa_nil)) (pv 1))))))))))), ?_⟩
    have i2 : ∀ {a b c : V}, atI [a, b, c] 2 = some c := fun {a b c} => atI_nat (j := 2) rfl
    have i1 : ∀ {a b c : V}, atI [a, b, c] 1 = some b := fun {a b c} => atI_nat (j := 1) rfl
    have i0 : ∀ {a b c : V}, atI [a, b, c] 0 = some a := fun {a b c} => atI_nat (j := 0) rfl
    -- if pen[2] > 0
    refine ⟨_, rfl, p, _, 2, _, rfl, rfl, SqL.of hp, i2, _, _, rfl, rfl, _, rfl, ite2 (fun e => ?_) (fun e => ?_)⟩
    · -- digit
      refine ⟨_, rfl, p, _, 2, _, rfl, rfl, SqL.of hp, i2, .inl ⟨_, rfl, _, rfl, _, _, rfl, rfl, (by omega), ?_⟩⟩
      refine ⟨_, rfl, p, _, 2, _, rfl, rfl, SqL.of hp, i2, .inl ⟨_, rfl, _, rfl, _, _, rfl, rfl, divW hm hm2, _, rfl, p, _, _, 2, rfl, rfl, hp, rfl, ?_⟩⟩
      refine ⟨_, rfl, ?_⟩
      exact k _ _ But.upd_at ⟨ns, tn, _, upd_same, by rw [upd_ne Lp]; exact hL, Lp, hlen, t0, by omega, ediv_lo hm c0⟩ (fmod_lo _ hm) (fmod_hi _ hm)
    · -- turn
      refine ⟨_, rfl, p, _, 1, _, rfl, rfl, SqL.of hp, i1, ?_⟩
      refine ⟨_, rfl, _, _, rfl, rfl, _, rfl, p, _, _, 1, rfl, rfl, hp, rfl, ?_⟩
      have hp1 : upd H p (.lst ([V.ref L, V.int tn, V.int ca].set 1 (V.int (tn + 1)))) p = some (.lst [.ref L, .int (tn + 1), .int ca]) := upd_same
      have hL1 : upd H p (.lst ([V.ref L, V.int tn, V.int ca].set 1 (V.int (tn + 1)))) L = some (.lst (ns.map V.int)) := by rw [upd_ne Lp]; exact hL
      have b1 : But p H (upd H p (.lst ([V.ref L, V.int tn, V.int ca].set 1 (V.int (tn + 1))))) := But.upd_at
      generalize upd H p (.lst ([V.ref L, V.int tn, V.int ca].set 1 (V.int (tn + 1)))) = H1 at hp1 hL1 b1 ⊢
      -- cell = c * turn + c'
      refine ⟨_, rfl, _, _, rfl, rfl, .inl ⟨by decide, by decide⟩, _, _, rfl, rfl, ?_⟩
      -- if pen[0] != []
      refine ⟨_, rfl, p, _, 0, _, rfl, rfl, SqL.of hp1, i0, by decide, fun l hl => ?_⟩
      have n1 : p ≠ l := ne_of_none hp1 hl
      have n2 : L ≠ l := ne_of_none hL1 hl
      have hp2 : upd H1 l (.lst []) p = some (.lst [.ref L, .int (tn + 1), .int ca]) := by rw [upd_ne n1]; exact hp1
      have hL2 : upd H1 l (.lst []) L = some (.lst (ns.map V.int)) := by rw [upd_ne n2]; exact hL1
      have hl2 : upd H1 l (.lst []) l = some (.lst []) := upd_same
      have b2 : But p H (upd H1 l (.lst [])) := b1.trans (But.upd_new hl)
      clear b1 hp1 hL1
      generalize upd H1 l (.lst []) = H2 at hp2 hL2 hl2 b2
      refine ⟨_, _, .lst (SqL.of hL2) (dpInts ns), .lst (SqL.of hl2) .nil, sh_ints ns, sh_ints [], _, rfl, ?_⟩
      rw [eqv_nil]
      -- the rest, for any cell
      have hcell : ∀ c : Int, ∃ j : Int, (if c < 0 then -c else c) = j ∧ 0 ≤ j := fun c => by
        by_cases z : c < 0
        · exact ⟨_, rfl, by rw [if_pos z]; omega⟩
        · exact ⟨_, rfl, by rw [if_neg z]; omega⟩
      have fin : ∀ H' : Hp, H' p = some (.lst [.ref L, .int (tn + 1), .int ca]) → H' L = some (.lst (ns.map V.int)) → But p H H' → Pen L H' p (B + 1) := fun H' e1 e2 _ =>
        ⟨ns, tn + 1, ca, e1, e2, Lp, hlen, by omega, by omega, c0⟩
      have ht : tn ≤ 1000000 := by omega
      have hm6 : 0 ≤ 67826 * tn ∧ 67826 * tn ≤ 67826 * 1000000 := mul_le_of (by decide) t0 (Int.le_refl _) ht
      have hq : ∀ {x m : Int}, 1 ≤ m → m ≤ 4294967296 → 0 ≤ x.fmod m ∧ x.fmod m < 4294967296 := fun {x m} h1 h2 => ⟨fmod_lo x h1, by have := fmod_hi x h1; omega⟩
      cases hn : ns with
      | nil =>
        refine iteF ?_
        refine ⟨_, rfl, _, rfl, p, _, 0, _, rfl, rfl, SqL.of hp2, i0, L, _, rfl, .inl (SqL.of hL2), _, _, rfl, rfl, _, rfl, ite2 (fun e1 => ?_) (fun e1 => ?_)⟩
        · refine ⟨_, rfl, _, rfl, _, _, rfl, rfl, ⟨by decide, by decide, by decide⟩, _, _, rfl, rfl, _, rfl, ite2 (fun e2 => ?_) (fun e2 => ?_)⟩
          · refine ⟨_, rfl, _, rfl, _, _, rfl, rfl, ⟨by decide, by decide, by decide⟩, _, _, rfl, rfl, _, _, rfl, rfl, .inl ⟨by decide, by decide⟩, _, rfl, _, _, rfl, rfl, .inr ⟨_, rfl, _, _, rfl, rfl, ?_⟩⟩
            refine ⟨_, rfl, .inl ⟨_, rfl, _, rfl, _, _, rfl, rfl, divW hm hm2, _, rfl, p, _, _, 2, rfl, rfl, hp2, rfl, ?_⟩⟩
            refine ⟨_, rfl, .inl ⟨_, rfl, _, rfl, _, _, rfl, rfl, (by omega), ?_⟩⟩
            refine k _ _ (b2.trans But.upd_at) ⟨_, tn + 1, _, upd_same, by rw [upd_ne Lp]; exact hL2, Lp, hlen, by omega, by omega, ediv_lo hm ?_⟩ (fmod_lo _ hm) (fmod_hi _ hm)
            have e3 := of_decide_eq_true e2
            exact great_nn e3 _
          · skip
            refine ⟨_, rfl, .inl ⟨_, rfl, _, _, rfl, rfl, nz (by decide), _, rfl, _, _, rfl, rfl, .inl ⟨by decide, by decide⟩, _, _, rfl, rfl, _, _, rfl, rfl, _, _, rfl, rfl, ⟨by decide, by decide, bound1 _ (by decide) (by decide) (by decide) (by decide) t0 ht⟩, .inl ⟨_, rfl, _, _, rfl, rfl, nz (by decide), ?_⟩⟩⟩
            refine ⟨_, rfl, _, rfl, _, _, rfl, rfl, .inl ⟨by decide, by decide⟩, _, _, rfl, rfl, _, _, rfl, rfl, .inl ?_, _, rfl, _, _, rfl, rfl, .inl ⟨by decide, by decide⟩, _, rfl, _, _, rfl, rfl, .inl ?_, _, _, rfl, rfl, _, _, rfl, rfl, _, _, rfl, rfl, ⟨by decide, by decide, ?_⟩, .inl ⟨_, rfl, _, _, rfl, rfl, nz (by decide), ?_⟩⟩
            · exact lt64 (hq (by decide) (by decide))
            · exact ⟨by omega, by omega⟩
            · exact bound2 (hq (by decide) (by decide)) (by decide) (by decide) (by decide) t0 ht
            · refine ⟨_, rfl, _, _, rfl, rfl, ⟨by decide, by decide⟩, .inl ⟨_, rfl, _, rfl, _, _, rfl, rfl, (by omega), ?_⟩⟩
              exact k _ _ b2 (fin _ hp2 hL2 b2) (fmod_lo _ hm) (fmod_hi _ hm)
        · skip
          refine ⟨_, rfl, .inl ⟨_, rfl, _, _, rfl, rfl, nz (by decide), _, rfl, _, _, rfl, rfl, .inl ⟨by decide, by decide⟩, _, _, rfl, rfl, _, _, rfl, rfl, _, _, rfl, rfl, ⟨by decide, by decide, bound1 _ (by decide) (by decide) (by decide) (by decide) t0 ht⟩, .inl ⟨_, rfl, _, _, rfl, rfl, nz (by decide), ?_⟩⟩⟩
          refine ⟨_, rfl, _, rfl, _, _, rfl, rfl, .inl ⟨by decide, by decide⟩, _, _, rfl, rfl, _, _, rfl, rfl, .inl ?_, _, rfl, _, _, rfl, rfl, .inl ⟨by decide, by decide⟩, _, rfl, _, _, rfl, rfl, .inl ?_, _, _, rfl, rfl, _, _, rfl, rfl, _, _, rfl, rfl, ⟨by decide, by decide, ?_⟩, .inl ⟨_, rfl, _, _, rfl, rfl, nz (by decide), ?_⟩⟩
          · exact lt64 (hq (by decide) (by decide))
          · exact ⟨by omega, by omega⟩
          · exact bound2 (hq (by decide) (by decide)) (by decide) (by decide) (by decide) t0 ht
          · refine ⟨_, rfl, _, _, rfl, rfl, ⟨by decide, by decide⟩, .inl ⟨_, rfl, _, rfl, _, _, rfl, rfl, (by omega), ?_⟩⟩
            exact k _ _ b2 (fin _ hp2 hL2 b2) (fmod_lo _ hm) (fmod_hi _ hm)
      | cons n0 nr =>
        refine iteT ?_
        obtain ⟨c, hc⟩ := cell_at (ns := ns) (by rw [hn]; exact List.cons_ne_nil _ _) tn
        refine ⟨_, rfl, p, _, 0, _, rfl, rfl, SqL.of hp2, i0, _, rfl, .inl ⟨_, rfl, _, rfl, p, _, 0, _, rfl, rfl, SqL.of hp2, i0, L, _, rfl, .inl (SqL.of hL2), _, _, rfl, rfl, (by rw [List.length_map, hn, List.length_cons]; omega), L, _, _, _, rfl, rfl, SqL.of hL2, hc, ?_⟩⟩
        refine ⟨_, rfl, _, rfl, p, _, 0, _, rfl, rfl, SqL.of hp2, i0, L, _, rfl, .inl (SqL.of hL2), _, _, rfl, rfl, _, rfl, ite2 (fun e1 => ?_) (fun e1 => ?_)⟩
        · refine ⟨_, rfl, _, rfl, _, _, rfl, rfl, ⟨by decide, by decide, by decide⟩, _, _, rfl, rfl, _, rfl, ite2 (fun e2 => ?_) (fun e2 => ?_)⟩
          · refine ⟨_, rfl, _, rfl, _, _, rfl, rfl, ⟨by decide, by decide, by decide⟩, _, _, rfl, rfl, _, _, rfl, rfl, .inl ⟨by decide, by decide⟩, _, rfl, _, _, rfl, rfl, .inr ⟨_, rfl, _, _, rfl, rfl, ?_⟩⟩
            refine ⟨_, rfl, .inl ⟨_, rfl, _, rfl, _, _, rfl, rfl, divW hm hm2, _, rfl, p, _, _, 2, rfl, rfl, hp2, rfl, ?_⟩⟩
            refine ⟨_, rfl, .inl ⟨_, rfl, _, rfl, _, _, rfl, rfl, (by omega), ?_⟩⟩
            refine k _ _ (b2.trans But.upd_at) ⟨_, tn + 1, _, upd_same, by rw [upd_ne Lp]; exact hL2, Lp, hlen, by omega, by omega, ediv_lo hm ?_⟩ (fmod_lo _ hm) (fmod_hi _ hm)
            have e3 := of_decide_eq_true e2
            exact great_nn e3 _
          · skip
            refine ⟨_, rfl, .inl ⟨_, rfl, _, _, rfl, rfl, nz (by decide), _, rfl, _, _, rfl, rfl, .inl ⟨by decide, by decide⟩, _, _, rfl, rfl, _, _, rfl, rfl, _, _, rfl, rfl, ⟨by decide, by decide, bound1 _ (by decide) (by decide) (by decide) (by decide) t0 ht⟩, .inl ⟨_, rfl, _, _, rfl, rfl, nz (by decide), ?_⟩⟩⟩
            refine ⟨_, rfl, _, rfl, _, _, rfl, rfl, .inl ⟨by decide, by decide⟩, _, _, rfl, rfl, _, _, rfl, rfl, .inl ?_, _, rfl, _, _, rfl, rfl, .inl ⟨by decide, by decide⟩, _, rfl, _, _, rfl, rfl, .inl ?_, _, _, rfl, rfl, _, _, rfl, rfl, _, _, rfl, rfl, ⟨by decide, by decide, ?_⟩, .inl ⟨_, rfl, _, _, rfl, rfl, nz (by decide), ?_⟩⟩
            · exact lt64 (hq (by decide) (by decide))
            · exact ⟨by omega, by omega⟩
            · exact bound2 (hq (by decide) (by decide)) (by decide) (by decide) (by decide) t0 ht
            · refine ⟨_, rfl, _, _, rfl, rfl, ⟨by decide, by decide⟩, .inl ⟨_, rfl, _, rfl, _, _, rfl, rfl, (by omega), ?_⟩⟩
              exact k _ _ b2 (fin _ hp2 hL2 b2) (fmod_lo _ hm) (fmod_hi _ hm)
        · skip
          refine ⟨_, rfl, .inl ⟨_, rfl, _, _, rfl, rfl, nz (by decide), _, rfl, _, _, rfl, rfl, .inl ⟨by decide, by decide⟩, _, _, rfl, rfl, _, _, rfl, rfl, _, _, rfl, rfl, ⟨by decide, by decide, bound1 _ (by decide) (by decide) (by decide) (by decide) t0 ht⟩, .inl ⟨_, rfl, _, _, rfl, rfl, nz (by decide), ?_⟩⟩⟩
          refine ⟨_, rfl, _, rfl, _, _, rfl, rfl, .inl ⟨by decide, by decide⟩, _, _, rfl, rfl, _, _, rfl, rfl, .inl ?_, _, rfl, _, _, rfl, rfl, .inl ⟨by decide, by decide⟩, _, rfl, _, _, rfl, rfl, .inl ?_, _, _, rfl, rfl, _, _, rfl, rfl, _, _, rfl, rfl, ⟨by decide, by decide, ?_⟩, .inl ⟨_, rfl, _, _, rfl, rfl, nz (by decide), ?_⟩⟩
          · exact lt64 (hq (by decide) (by decide))
          · exact ⟨by omega, by omega⟩
          · exact bound2 (hq (by decide) (by decide)) (by decide) (by decide) (by decide) t0 ht
          · refine ⟨_, rfl, _, _, rfl, rfl, ⟨by decide, by decide⟩, .inl ⟨_, rfl, _, rfl, _, _, rfl, rfl, (by omega), ?_⟩⟩
            exact k _ _ b2 (fin _ hp2 hL2 b2) (fmod_lo _ hm) (fmod_hi _ hm)
end
end Ev
namespace Ev
open PySem L2
abbrev sIsInt : Stmt := top 14
abbrev sWithin : Stmt := top 15
abbrev sTryInit : Stmt := inClass (top 31) 0
abbrev sTryTurns : Stmt := inClass (top 31) 1
abbrev sTwice : Stmt := inClass (top 31) 2
abbrev sTurnInit : Stmt := inClass (top 30) 0
abbrev sTurnTurns : Stmt := inClass (top 30) 1
abbrev sGreatest : Stmt := inClass (top 29) 2
abbrev sFair : Stmt := top 32
abbrev sNeedW : Stmt := top 36
abbrev sPair : Stmt := top 37
abbrev sTimes : Stmt := top 38
abbrev sPlus : Stmt := top 39
abbrev sTurn : Stmt := top 40
abbrev sNeedT : Stmt := top 41
abbrev sHalves : Stmt := top 42
abbrev sNeedH : Stmt := top 43
def fairB (p q k x y : Int) : Bool := decide (q * y ≤ p * x + k) && decide (q * x ≤ p * y + k)
def spIsInt : Sp := fun vs H Q _ => ∃ i : Int, vs = [.int i] ∧ Q (.bl true) H
def spWithin : Sp := fun vs H Q _ => ∃ v l m : Int, vs = [.int v, .int l, .int m] ∧ l ≤ v ∧ v ≤ m ∧ Q (.bl true) H
def spNeedW : Sp := fun vs H Q _ => ∃ v : Int, vs = [.int v] ∧ 1 ≤ v ∧ v ≤ 10 ^ 60 ∧ Q .non H
def spPair (_K : PySem.W.Frag) : Sp := fun vs H Q _ => ∃ (a : Addr) (x y m : Int), vs = [.ref a, .int m] ∧ H a = some (.tup [.int x, .int y]) ∧ (1 ≤ x ∧ x ≤ m) ∧ (1 ≤ y ∧ y ≤ m) ∧ ∀ H', Same H H' → Q (.bl true) H'
def spTimes (_K : PySem.W.Frag) : Sp := fun vs H Q _ => ∃ (a : Addr) (p q : Int), vs = [.ref a] ∧ H a = some (.tup [.int p, .int q]) ∧ 1 ≤ q ∧ q ≤ p ∧ p ≤ 6 ∧ ∀ H', Same H H' → Q (.bl true) H'
def spPlus : Sp := fun vs H Q _ => ∃ k : Int, vs = [.int k] ∧ -6 ≤ k ∧ k ≤ 6 ∧ Q (.bl true) H
def spTurn (_K : PySem.W.Frag) : Sp := fun vs H Q _ => ∃ (a : Addr) (p q : Int), vs = [.ref a] ∧ H a = some (.tup [.int p, .int q]) ∧ (1 ≤ p ∧ p ≤ 8) ∧ (1 ≤ q ∧ q ≤ 8) ∧ ∀ H', Same H H' → Q (.bl true) H'
def spNeedT (_K : PySem.W.Frag) : Sp := fun vs H Q _ => ∃ (a : Addr) (p q k : Int), vs = [.ref a, .int k] ∧ H a = some (.tup [.int p, .int q]) ∧ 1 ≤ q ∧ q ≤ p ∧ p ≤ 6 ∧ -6 ≤ k ∧ k ≤ 6 ∧ ∀ H', Same H H' → Q .non H'
def spHalves (_K : PySem.W.Frag) : Sp := fun vs H Q _ => ∃ (a : Addr) (p q k : Int), vs = [.ref a, .int k] ∧ H a = some (.tup [.int p, .int q]) ∧ 2 * q ≤ p + k ∧ Q (.bl true) H
def spNeedH (_K : PySem.W.Frag) : Sp := fun vs H Q _ => ∃ (a : Addr) (p q k : Int), vs = [.ref a, .int k] ∧ H a = some (.tup [.int p, .int q]) ∧ 0 ≤ q ∧ 2 * q ≤ p + k ∧ Q .non H
section
variable {P : Program} {w : World} {K : PySem.W.Frag} {mg : Str → Option Value} {base : Heap}
theorem scIsInt : FnScope ["value"] ["value"] (defScope sIsInt) := ⟨rfl, rfl, rfl, by decide +kernel, rfl, by decide +kernel, by decide +kernel⟩
theorem ok_isInt {f : Addr} {fd : FuncData} (F : Fun K "is_integer" "is_integer" sIsInt f fd) (T : Blt mg) : FnOk P w K mg base CX0 1 f fd ["value"] spIsInt := by
  refine F.ok scIsInt (fun vs H Q E h => ?_) (fun cdv A outer s H vs Q E hr h => ?_)
  · obtain ⟨i, rfl, _⟩ := h
    rfl
  · obtain ⟨i, rfl, k⟩ := h
    refine ⟨_, pss_one (ps_ret (pe_and (pe_callB call_isi (by rfl) T.isi (by decide +kernel) (pa_cons (pv 0) (pa_cons (pe_bltn (v := .ty "int") (by rfl) T.int (by decide +kernel) rfl) pa_nil)))
      (pe_one (pe_not (pe_callB call_isi (by rfl) T.isi (by decide +kernel) (pa_cons (pv 0) (pa_cons (pe_bltn (v := .ty "bool") (by rfl) T.bool (by decide +kernel) rfl) pa_nil))))))), ?_⟩
    refine ⟨_, rfl, _, _, _, _, true, rfl, .ty _, .base (.int i), kit_ty (by decide +kernel), true, rfl, iteT ⟨_, rfl, _, _, _, _, false, rfl, .ty _, .base (.int i), kit_ty (by decide +kernel), _, rfl, ?_⟩⟩
    exact k
theorem scWithin : FnScope ["value", "least", "most"] ["value", "least", "most"] (defScope sWithin) := ⟨rfl, rfl, rfl, by decide +kernel, rfl, by decide +kernel, by decide +kernel⟩
theorem ok_within {f fI : Addr} {fd fdI : FuncData} (F : Fun K "is_within" "is_within" sWithin f fd) (T : Blt mg)
    (GI : FnOk P w K mg base CX0 1 fI fdI ["value"] spIsInt) (gI : mg "is_integer" = some (.ref fI)) (kI : PySem.W.keepIn K (.ref fI) = true) (bI : Binds K fdI ["value"] []) : FnOk P w K mg base CX0 2 f fd ["value", "least", "most"] spWithin := by
  refine F.ok scWithin (fun vs H Q E h => ?_) (fun cdv A outer s H vs Q E hr h => ?_)
  · obtain ⟨v, l, m, rfl, _⟩ := h
    rfl
  · obtain ⟨v, l, m, rfl, h1, h2, k⟩ := h
    refine ⟨_, pss_one (ps_ret (pe_and (pe_call GI hr (by rfl) gI kI bI .nil pass0 (pa_cons (pv 0) pa_nil)) (pe_one (pe_chain op_le op_le (pv 1) (pv 0) (pv 2))))), ?_⟩
    refine ⟨_, rfl, v, rfl, true, rfl, iteT ⟨_, rfl, _, rfl, _, _, rfl, rfl, true, congrArg V.bl (decide_eq_true h1), iteT ⟨_, rfl, _, _, rfl, rfl, ?_⟩⟩⟩
    show Q (.bl (decide (v ≤ m))) H
    rw [decide_eq_true h2]
    exact k

/-- a def that stands under its name -/
structure Df (P : Program) (w : World) (K : PySem.W.Frag) (mg : Str → Option Value) (base : Heap) (k : Nat) (x : Str) (ps : List Str) (sp : Sp) : Prop where
  ex : ∃ (f : Addr) (fd : FuncData), FnOk P w K mg base CX0 k f fd ps sp ∧ mg x = some (.ref f) ∧ PySem.W.keepIn K (.ref f) = true ∧ Binds K fd ps []
theorem scNeedW : FnScope ["value"] ["value"] (defScope sNeedW) := ⟨rfl, rfl, rfl, by decide +kernel, rfl, by decide +kernel, by decide +kernel⟩
theorem ok_needW {f : Addr} {fd : FuncData} (F : Fun K "need_weight" "need_weight" sNeedW f fd) (D : Df P w K mg base 2 "is_within" ["value", "least", "most"] spWithin) {t : Tok} (gM : mg "MOST_WEIGHT" = some (.int (10 ^ 60) t)) :
    FnOk P w K mg base CX0 3 f fd ["value"] spNeedW := by
  obtain ⟨fW, fdW, GW, gW, kW, bW⟩ := D.ex
  refine F.ok scNeedW (fun vs H Q E h => ?_) (fun cdv A outer s H vs Q E hr h => ?_)
  · obtain ⟨i, rfl, _⟩ := h
    rfl
  · obtain ⟨i, rfl, h1, h2, k⟩ := h
    refine ⟨_, pss_one (ps_if (pt_not (pt_val (pe_call GW hr (by rfl) gW kW bW .nil pass0 (pa_cons (pv 0) (pa_cons pe_int (pa_cons (pe_glob (v := .int (10 ^ 60)) rfl gM ⟨_, rfl⟩) pa_nil)))))) (pss_one ps_never) pss_nil), ?_⟩
    exact ⟨_, rfl, _, _, _, rfl, h1, h2, true, rfl, iteF k⟩
theorem scPair : FnScope ["value", "most", "item"] ["value", "most"] (defScope sPair) := ⟨rfl, rfl, rfl, by decide +kernel, rfl, by decide +kernel, by decide +kernel⟩
theorem ok_pair {f : Addr} {fd : FuncData} (F : Fun K "is_pair" "is_pair" sPair f fd) (T : Blt mg) (D : Df P w K mg base 2 "is_within" ["value", "least", "most"] spWithin) :
    FnOk P w K mg base CX0 3 f fd ["value", "most"] (spPair K) := by
  obtain ⟨fW, fdW, GW, gW, kW, bW⟩ := D.ex
  refine F.ok scPair (fun vs H Q E h => ?_) (fun cdv A outer s H vs Q E hr h => ?_)
  · obtain ⟨a, x, y, m, rfl, _⟩ := h
    rfl
  · obtain ⟨a, x, y, m, rfl, ha, hx, hy, k⟩ := h
    refine ⟨_, pss_one (ps_ret (pe_and (pe_callB call_isi (by rfl) T.isi (by decide +kernel) (pa_cons (pv 0) (pa_cons (pe_bltn (v := .ty "tuple") (by rfl) T.tuple (by decide +kernel) rfl) pa_nil)))
      (pe_and (pe_cmpR op_eq (pe_callB call_len_seq (by rfl) T.len PySem.boot_len (pa_cons (pv 0) pa_nil)) pe_int (nomark _))
      (pe_one (pe_callB (cr_all rfl) (by rfl) T.all (by decide +kernel) (pa_cons (pe_lc (own := [("item", 2)]) (g := gName 2) (by rfl) scPair.nd (pi_tup (pv 0)) (blkOk_by (own := [("item", 2)]) (N := ["value", "most", "item"]) (sc := defScope sPair) (by decide +kernel))
          (fun _ _ _ _ _ => pg_name (i := 2) scPair.nd rfl (.inl rfl)) (fun _ _ _ _ _ => pts_nil) (fun _ _ _ _ _ => pe_call GW hr (by rfl) gW kW bW .nil pass0 (pa_cons (pv 2) (pa_cons pe_int (pa_cons (pv 1) pa_nil))))) pa_nil)))))), ?_⟩
    refine ⟨_, rfl, _, _, _, _, true, rfl, .ty _, .base (.tup ha), kit_ty (by decide +kernel), true, rfl, iteT ⟨_, rfl, a, _, rfl, .inr (SqT.of ha), rfl, true, congrArg V.bl (decide_eq_true rfl), iteT ⟨_, rfl, a, rfl, ⟨_, SqT.of ha⟩, fun D nD => ?_⟩⟩⟩
    have naD : a ≠ D := ne_of_none ha nD
    refine lc_tup (xs := [V.int x, V.int y]) (fun i H' => H' D = some (.lst ((List.replicate i true).map V.bl)) ∧ But D H H') ⟨upd_same, But.upd_at⟩ (fun i H' _ h => SqT.of (h.2 _ _ naD ha)) (fun i v H' hi ⟨e1, e2⟩ => ?_) (fun H' ⟨e1, e2⟩ => ?_)
    · obtain ⟨z, rfl, z1, z2⟩ : ∃ z : Int, v = .int z ∧ 1 ≤ z ∧ z ≤ m := by
        match i, hi with
        | 0, hi => exact ⟨x, (Option.some.inj hi).symm, hx.1, hx.2⟩
        | 1, hi => exact ⟨y, (Option.some.inj hi).symm, hy.1, hy.2⟩
        | n + 2, hi => cases hi
      have hil : i < 2 := (List.getElem?_eq_some_iff.mp hi).1
      refine ⟨rfl, _, rfl, _, rfl, _, _, _, rfl, z1, z2, _, e1, ?_, ?_, ?_⟩
      · rw [List.length_map, List.length_replicate]; exact small1000 (by omega)
      · rw [List.replicate_succ', List.map_append]
        exact upd_same
      · exact e2.trans But.upd_at
    · refine ⟨D, [true, true], rfl, SqL.of e1, ?_⟩
      exact k H' fun b o e => e2 b o (ne_of_none e nD) e
end
end Ev
namespace Ev
open PySem L2
section
variable {P : Program} {w : World} {K : PySem.W.Frag} {mg : Str → Option Value} {base : Heap}
theorem tup1 {a b : V} : atI [a, b] 1 = some b := atI_nat (j := 1) rfl
theorem tup0 {a b : V} : atI [a, b] 0 = some a := atI_nat (j := 0) rfl
theorem scTimes : FnScope ["value"] ["value"] (defScope sTimes) := ⟨rfl, rfl, rfl, by decide +kernel, rfl, by decide +kernel, by decide +kernel⟩
theorem ok_times {f : Addr} {fd : FuncData} (F : Fun K "is_times" "is_times" sTimes f fd) (D : Df P w K mg base 3 "is_pair" ["value", "most"] (spPair K)) {CW : Addr} {mc u : Value} (gW : mg "WeightRule" = some (.ref CW)) (cr : ClX.CRead K CW mc) (cv : ClX.CVal K CW mc "MOST" (.int 6) u) :
    FnOk P w K mg base CX0 4 f fd ["value"] (spTimes K) := by
  obtain ⟨fP, fdP, GP, gP, kP, bP⟩ := D.ex
  refine F.ok scTimes (fun vs H Q E h => ?_) (fun cdv A outer s H vs Q E hr h => ?_)
  · obtain ⟨a, p, q, rfl, _⟩ := h
    rfl
  · obtain ⟨a, p, q, rfl, ha, h1, h2, h3, k⟩ := h
    refine ⟨_, pss_one (ps_ret (pe_and (pe_call GP hr (by rfl) gP kP bP .nil pass0 (pa_cons (pv 0) (pa_cons (ClX.pe_cval (pe_glob (v := .ref CW) rfl gW rfl)) pa_nil)))
      (pe_one (pe_cmpR op_le (pe_ix ix_tup (pv 0) pe_int (fun _ _ => rfl)) (pe_ix ix_tup (pv 0) pe_int (fun _ _ => rfl)) (nomark _))))), ?_⟩
    refine ⟨_, rfl, CW, mc, _, u, rfl, cr, cv, a, p, q, _, rfl, ha, ⟨by omega, by omega⟩, ⟨by omega, by omega⟩, fun H' s => ⟨true, rfl, ?_⟩⟩
    refine ⟨_, rfl, a, _, 1, _, rfl, rfl, SqT.of (s _ _ ha), tup1, _, rfl, a, _, 0, _, rfl, rfl, SqT.of (s _ _ ha), tup0, _, _, rfl, rfl, ?_⟩
    show Q (.bl (decide (q ≤ p))) H'
    rw [decide_eq_true h2]
    exact k H' s
theorem scPlus : FnScope ["value"] ["value"] (defScope sPlus) := ⟨rfl, rfl, rfl, by decide +kernel, rfl, by decide +kernel, by decide +kernel⟩
theorem ok_plus {f : Addr} {fd : FuncData} (F : Fun K "is_plus" "is_plus" sPlus f fd) (D : Df P w K mg base 2 "is_within" ["value", "least", "most"] spWithin) {t : Tok} (gM : mg "MOST_PLUS" = some (.int 6 t)) : FnOk P w K mg base CX0 3 f fd ["value"] spPlus := by
  obtain ⟨fW, fdW, GW, gW, kW, bW⟩ := D.ex
  refine F.ok scPlus (fun vs H Q E h => ?_) (fun cdv A outer s H vs Q E hr h => ?_)
  · obtain ⟨i, rfl, _⟩ := h
    rfl
  · obtain ⟨i, rfl, h1, h2, k⟩ := h
    refine ⟨_, pss_one (ps_ret (pe_call GW hr (by rfl) gW kW bW .nil pass0 (pa_cons (pv 0) (pa_cons (pe_un un_neg (pe_glob (v := .int 6) rfl gM ⟨_, rfl⟩)) (pa_cons (pe_glob (v := .int 6) rfl gM ⟨_, rfl⟩) pa_nil))))), ?_⟩
    exact ⟨_, rfl, _, rfl, _, _, _, rfl, h1, h2, k⟩
theorem scTurn : FnScope ["value"] ["value"] (defScope sTurn) := ⟨rfl, rfl, rfl, by decide +kernel, rfl, by decide +kernel, by decide +kernel⟩
theorem ok_turn {f : Addr} {fd : FuncData} (F : Fun K "is_turn" "is_turn" sTurn f fd) (D : Df P w K mg base 3 "is_pair" ["value", "most"] (spPair K)) {t : Tok} (gM : mg "MOST_TURN" = some (.int 8 t)) : FnOk P w K mg base CX0 4 f fd ["value"] (spTurn K) := by
  obtain ⟨fP, fdP, GP, gP, kP, bP⟩ := D.ex
  refine F.ok scTurn (fun vs H Q E h => ?_) (fun cdv A outer s H vs Q E hr h => ?_)
  · obtain ⟨a, p, q, rfl, _⟩ := h
    rfl
  · obtain ⟨a, p, q, rfl, ha, h1, h2, k⟩ := h
    refine ⟨_, pss_one (ps_ret (pe_call GP hr (by rfl) gP kP bP .nil pass0 (pa_cons (pv 0) (pa_cons (pe_glob (v := .int 8) rfl gM ⟨_, rfl⟩) pa_nil)))), ?_⟩
    exact ⟨_, rfl, a, p, q, _, rfl, ha, h1, h2, k⟩
theorem scNeedT : FnScope ["times", "plus"] ["times", "plus"] (defScope sNeedT) := ⟨rfl, rfl, rfl, by decide +kernel, rfl, by decide +kernel, by decide +kernel⟩
theorem ok_needT {f : Addr} {fd : FuncData} (F : Fun K "need_times" "need_times" sNeedT f fd) (D1 : Df P w K mg base 4 "is_times" ["value"] (spTimes K)) (D2 : Df P w K mg base 3 "is_plus" ["value"] spPlus) : FnOk P w K mg base CX0 5 f fd ["times", "plus"] (spNeedT K) := by
  obtain ⟨f1, fd1, G1, g1, k1, b1⟩ := D1.ex
  obtain ⟨f2, fd2, G2, g2, k2, b2⟩ := D2.ex
  refine F.ok scNeedT (fun vs H Q E h => ?_) (fun cdv A outer s H vs Q E hr h => ?_)
  · obtain ⟨a, p, q, k, rfl, _⟩ := h
    rfl
  · obtain ⟨a, p, q, k, rfl, ha, h1, h2, h3, h4, h5, kk⟩ := h
    refine ⟨_, pss_cons (ps_if (pt_not (pt_val (pe_call G1 hr (by rfl) g1 k1 b1 .nil pass0 (pa_cons (pv 0) pa_nil)))) (pss_one ps_never) pss_nil)
      (pss_one (ps_if (pt_not (pt_val (pe_call G2 (hr.mono (by decide)) (by rfl) g2 k2 b2 .nil pass0 (pa_cons (pv 1) pa_nil)))) (pss_one ps_never) pss_nil)), ?_⟩
    exact ⟨_, rfl, a, p, q, rfl, ha, h1, h2, h3, fun H' s => ⟨true, rfl, iteF ⟨_, rfl, k, rfl, h4, h5, true, rfl, iteF (kk H' s)⟩⟩⟩
theorem scHalves : FnScope ["times", "plus", "over", "under"] ["times", "plus"] (defScope sHalves) := ⟨rfl, rfl, rfl, by decide +kernel, rfl, by decide +kernel, by decide +kernel⟩
theorem ok_halves {f : Addr} {fd : FuncData} (F : Fun K "has_halves" "has_halves" sHalves f fd) : FnOk P w K mg base CX0 1 f fd ["times", "plus"] (spHalves K) := by
  refine F.ok scHalves (fun vs H Q E h => ?_) (fun cdv A outer s H vs Q E hr h => ?_)
  · obtain ⟨a, p, q, k, rfl, _⟩ := h
    rfl
  · obtain ⟨a, p, q, k, rfl, ha, h1, kk⟩ := h
    refine ⟨_, pss_cons (ps_asg (pv 0) (pg_tup (by rfl) (pgs_cons (pg_name (i := 2) scHalves.nd rfl (.inl rfl)) (pgs_cons (pg_name (i := 3) scHalves.nd rfl (.inl rfl)) pgs_nil))))
      (pss_one (ps_ret (pe_cmpR op_ge (pe_op op_add (pv 2) (pv 1)) (pe_op op_mul pe_int (pv 3)) (nomark _)))), ?_⟩
    refine ⟨_, rfl, a, _, rfl, SqT.of ha, rfl, _, _, rfl, _, _, rfl, rfl, ?_⟩
    refine ⟨_, rfl, _, rfl, _, _, rfl, rfl, _, rfl, _, _, rfl, rfl, .inl ⟨by decide, by decide⟩, _, _, rfl, rfl, ?_⟩
    show Q (.bl (decide (2 * q ≤ p + k))) H
    rw [decide_eq_true h1]
    exact kk
theorem scNeedH : FnScope ["times", "plus", "over", "under"] ["times", "plus"] (defScope sNeedH) := ⟨rfl, rfl, rfl, by decide +kernel, rfl, by decide +kernel, by decide +kernel⟩
theorem ok_needH {f : Addr} {fd : FuncData} (F : Fun K "need_halves" "need_halves" sNeedH f fd) (D : Df P w K mg base 1 "has_halves" ["times", "plus"] (spHalves K)) : FnOk P w K mg base CX0 2 f fd ["times", "plus"] (spNeedH K) := by
  obtain ⟨f1, fd1, G1, g1, k1, b1⟩ := D.ex
  refine F.ok scNeedH (fun vs H Q E h => ?_) (fun cdv A outer s H vs Q E hr h => ?_)
  · obtain ⟨a, p, q, k, rfl, _⟩ := h
    rfl
  · obtain ⟨a, p, q, k, rfl, ha, h0, h1, kk⟩ := h
    refine ⟨_, pss_cons (ps_asg (pv 0) (pg_tup (by rfl) (pgs_cons (pg_name (i := 2) scNeedH.nd rfl (.inl rfl)) (pgs_cons (pg_name (i := 3) scNeedH.nd rfl (.inl rfl)) pgs_nil))))
      (pss_cons (ps_if (pt_cmpR op_lt (pe_op op_add (pv 2) (pv 1)) (pv 3) (nomark _)) (pss_one ps_never) pss_nil)
      (pss_one (ps_if (pt_not (pt_val (pe_call G1 hr (by rfl) g1 k1 b1 .nil pass0 (pa_cons (pv 0) (pa_cons (pv 1) pa_nil))))) (pss_one ps_never) pss_nil))), ?_⟩
    refine ⟨_, rfl, a, _, rfl, SqT.of ha, rfl, _, _, rfl, _, _, rfl, rfl, ?_⟩
    refine ⟨_, rfl, _, rfl, _, _, rfl, rfl, _, rfl, _, _, rfl, rfl, _, rfl, ite2 (fun e => ?_) (fun _ => ?_)⟩
    · have := of_decide_eq_true e; omega
    · exact ⟨_, rfl, _, rfl, a, p, q, k, rfl, ha, h1, true, rfl, iteF kk⟩
end
end Ev
namespace Ev
open PySem L2
/-- the part of a rule object that every rule has -/
structure RB (K : PySem.W.Frag) (H : Hp) (r : Addr) (p q k : Int) : Prop where
  ex : ∃ (C dx : Addr) (fs : List (Str × V)) (a : Addr), H r = some (.ins C dx fs) ∧ Cls K C ∧ NoAttr K C "times" ∧ NoAttr K C "plus" ∧ fs.lookup ("times" : Str) = some (.ref a) ∧ fs.lookup ("plus" : Str) = some (.int k) ∧ H a = some (.tup [.int p, .int q])
  b1 : 1 ≤ q
  b2 : q ≤ p
  b3 : p ≤ 6
  b4 : -6 ≤ k
  b5 : k ≤ 6
def tryF (a : Addr) (k : Int) : List (Str × V) := [("times", .ref a), ("plus", .int k)]
def turnF (a : Addr) (k : Int) (b : Addr) (r : Int) : List (Str × V) := [("times", .ref a), ("plus", .int k), ("turn", .ref b), ("turn_plus", .int r)]
def tryT (p q k l i o : Int) (n : Option Int) : Int :=
  if (fairB p q k l i && fairB p q k (l + i) o) = true then 1 else
    match n with
    | none => 1
    | some n => if (decide (1 < i) && (fairB p q k l n && (fairB p q k (i - n) o && fairB p q k (l + n) (i - n + o)))) = true then 2 else 1
def turnT (t s r i o : Int) : Int := if s * i ≤ t * o + r then 1 else if 1 < i then 2 else 0
def spFair (K : PySem.W.Frag) : Sp := fun vs H Q _ => ∃ (r : Addr) (p q k x y : Int), vs = [.ref r, .int x, .int y] ∧ RB K H r p q k ∧ Q (.bl (fairB p q k x y)) H
def spGreatest (K : PySem.W.Frag) : Sp := fun vs H Q _ => ∃ (r : Addr) (p q k x : Int), vs = [.ref r, .int x] ∧ RB K H r p q k ∧ 1 ≤ x ∧ x ≤ 10 ^ 60 ∧ Q (.int ((p * x + k).fdiv q)) H
def spTwice (K : PySem.W.Frag) : Sp := fun vs H Q _ => ∃ (r : Addr) (p q k l i o n : Int), vs = [.ref r, .int l, .int i, .int o, .int n] ∧ RB K H r p q k ∧ Q (.bl (fairB p q k l n && (fairB p q k (i - n) o && fairB p q k (l + n) (i - n + o)))) H
def vOpt : Option Int → V
  | none => .non
  | some n => .int n
def spTryTurns (K : PySem.W.Frag) (C : Addr) : Sp := fun vs H Q _ => ∃ (r : Addr) (p q k l i o : Int) (n : Option Int) (dx : Addr) (fs : List (Str × V)), vs = [.ref r, .int l, .int i, .int o, vOpt n] ∧ RB K H r p q k ∧ H r = some (.ins C dx fs) ∧ fs.lookup ("twice_is_fair" : Str) = none ∧ (n = none → i = 1) ∧
  Q (.int (tryT p q k l i o n)) H
def spTurnTurns (K : PySem.W.Frag) (C : Addr) : Sp := fun vs H Q _ => ∃ (r : Addr) (l i o : Int) (n : Option Int) (dx a b : Addr) (k t s c : Int), vs = [.ref r, .int l, .int i, .int o, vOpt n] ∧ H r = some (.ins C dx (turnF a k b c)) ∧ H b = some (.tup [.int t, .int s]) ∧ (1 ≤ t ∧ t ≤ 8) ∧ (1 ≤ s ∧ s ≤ 8) ∧
  Q (.int (turnT t s c i o)) H
section
variable {P : Program} {w : World} {K : PySem.W.Frag} {mg : Str → Option Value} {base : Heap}
theorem m64 {q : Int} (h1 : 1 ≤ q) (h2 : q ≤ 8) : -(2 ^ 64) < q ∧ q < 2 ^ 64 := ⟨by omega, by omega⟩
theorem scFair : FnScope ["rule", "x", "y", "over", "under"] ["rule", "x", "y"] (defScope sFair) := ⟨rfl, rfl, rfl, by decide +kernel, rfl, by decide +kernel, by decide +kernel⟩
theorem ok_fair {f : Addr} {fd : FuncData} (F : Fun K "are_fair" "are_fair" sFair f fd) : FnOk P w K mg base CX0 1 f fd ["rule", "x", "y"] (spFair K) := by
  refine F.ok scFair (fun vs H Q E h => ?_) (fun cdv A outer s H vs Q E hr h => ?_)
  · obtain ⟨r, p, q, k, x, y, rfl, _⟩ := h
    rfl
  · obtain ⟨r, p, q, k, x, y, rfl, ⟨⟨C, dx, fs, a, hr1, cl, n1, n2, l1, l2, ha⟩, b1, b2, b3, b4, b5⟩, kk⟩ := h
    refine ⟨_, pss_cons (ps_asg (pe_fld (pv 0) rfl) (pg_tup (by rfl) (pgs_cons (pg_name (i := 3) scFair.nd rfl (.inl rfl)) (pgs_cons (pg_name (i := 4) scFair.nd rfl (.inl rfl)) pgs_nil))))
      (pss_one (ps_ret (pe_and (pe_cmpR op_le (pe_op op_mul (pv 4) (pv 2)) (pe_op op_add (pe_op op_mul (pv 3) (pv 1)) (pe_fld (pv 0) rfl)) (nomark _))
        (pe_one (pe_cmpR op_le (pe_op op_mul (pv 4) (pv 1)) (pe_op op_add (pe_op op_mul (pv 3) (pv 2)) (pe_fld (pv 0) rfl)) (nomark _)))))), ?_⟩
    have q6 := m64 b1 (show q ≤ 8 by omega)
    have p6 := m64 (show 1 ≤ p by omega) (show p ≤ 8 by omega)
    refine ⟨_, rfl, r, C, dx, fs, _, rfl, hr1, cl, n1, l1, a, _, rfl, SqT.of ha, rfl, _, _, rfl, _, _, rfl, rfl, ?_⟩
    refine ⟨_, rfl, _, rfl, _, _, rfl, rfl, .inl q6, _, rfl, _, rfl, _, _, rfl, rfl, .inl p6, _, rfl, r, C, dx, fs, _, rfl, hr1, cl, n2, l2, _, _, rfl, rfl, _, _, rfl, rfl, _, rfl, ite2 (fun e => ?_) (fun e => ?_)⟩
    · refine ⟨_, rfl, _, rfl, _, _, rfl, rfl, .inl q6, _, rfl, _, rfl, _, _, rfl, rfl, .inl p6, _, rfl, r, C, dx, fs, _, rfl, hr1, cl, n2, l2, _, _, rfl, rfl, _, _, rfl, rfl, ?_⟩
      show Q (.bl (decide (q * x ≤ p * y + k))) H
      rw [show fairB p q k x y = decide (q * x ≤ p * y + k) by unfold fairB; rw [show decide (q * y ≤ p * x + k) = true from e, Bool.true_and]] at kk
      exact kk
    · rw [show fairB p q k x y = false by unfold fairB; rw [show decide (q * y ≤ p * x + k) = false from Bool.eq_false_iff.mpr e, Bool.false_and]] at kk
      exact kk
theorem scTwice : FnScope ["self", "light", "inner", "outer", "near", "far"] ["self", "light", "inner", "outer", "near"] (defScope sTwice) := ⟨rfl, rfl, rfl, by decide +kernel, rfl, by decide +kernel, by decide +kernel⟩
theorem ok_twice {f : Addr} {fd : FuncData} (F : Fun K "twice_is_fair" "TryRule.twice_is_fair" sTwice f fd) (D : Df P w K mg base 1 "are_fair" ["rule", "x", "y"] (spFair K)) : FnOk P w K mg base CX0 2 f fd ["self", "light", "inner", "outer", "near"] (spTwice K) := by
  obtain ⟨f1, fd1, G1, g1, k1, b1⟩ := D.ex
  refine F.ok scTwice (fun vs H Q E h => ?_) (fun cdv A outer s H vs Q E hr h => ?_)
  · obtain ⟨r, p, q, k, l, i, o, n, rfl, _⟩ := h
    rfl
  · obtain ⟨r, p, q, k, l, i, o, n, rfl, R, kk⟩ := h
    refine ⟨_, pss_cons (ps_set (i := 5) scTwice.nd rfl (.inl rfl) (pe_op op_sub (pv 2) (pv 4)))
      (pss_one (ps_ret (pe_and (pe_call G1 hr (by rfl) g1 k1 b1 .nil pass0 (pa_cons (pv 0) (pa_cons (pv 1) (pa_cons (pv 4) pa_nil))))
        (pe_and (pe_call G1 hr (by rfl) g1 k1 b1 .nil pass0 (pa_cons (pv 0) (pa_cons (pv 5) (pa_cons (pv 3) pa_nil))))
        (pe_one (pe_call G1 hr (by rfl) g1 k1 b1 .nil pass0 (pa_cons (pv 0) (pa_cons (pe_op op_add (pv 1) (pv 4)) (pa_cons (pe_op op_add (pv 5) (pv 3)) pa_nil))))))))), ?_⟩
    refine ⟨_, rfl, _, rfl, _, _, rfl, rfl, _, rfl, _, rfl, _, rfl, r, p, q, k, _, _, rfl, R, _, rfl, ite2 (fun e => ?_) (fun e => ?_)⟩
    · rw [e, Bool.true_and] at kk
      refine ⟨_, rfl, _, rfl, _, rfl, r, p, q, k, _, _, rfl, R, _, rfl, ite2 (fun e => ?_) (fun e => ?_)⟩
      · rw [show fairB p q k (i - n) o = true from e, Bool.true_and] at kk
        exact ⟨_, rfl, _, rfl, _, rfl, _, _, rfl, rfl, _, rfl, _, rfl, _, _, rfl, rfl, r, p, q, k, _, _, rfl, R, kk⟩
      · rw [show fairB p q k (i - n) o = false from Bool.eq_false_iff.mpr e, Bool.false_and] at kk
        exact kk
    · rw [Bool.eq_false_iff.mpr e, Bool.false_and] at kk
      exact kk
end
end Ev
namespace Ev
open PySem L2 PySem.Spec PyProof.Rows
theorem same_new {H : Hp} {q : Addr} {o : HO} (n : H q = none) : Same H (upd H q o) := fun b u e => by rw [upd_ne (ne_of_none e n)]; exact e
theorem lk_hit {k : Str} {v : V} {l : List (Str × V)} : List.lookup k ((k, v) :: l) = some v := by simp [List.lookup]
theorem lk_miss {k k' : Str} {v : V} {l : List (Str × V)} (h : ¬ k = k') : List.lookup k ((k', v) :: l) = List.lookup k l := by
  have : (k == k') = false := by simpa using h
  simp [List.lookup, this]
theorem try_times (a : Addr) (k : Int) : (tryF a k).lookup ("times" : Str) = some (.ref a) := lk_hit
theorem try_plus (a : Addr) (k : Int) : (tryF a k).lookup ("plus" : Str) = some (.int k) := (lk_miss (by decide +kernel)).trans lk_hit
theorem turn_times (a : Addr) (k : Int) (b : Addr) (c : Int) : (turnF a k b c).lookup ("times" : Str) = some (.ref a) := lk_hit
theorem turn_plus (a : Addr) (k : Int) (b : Addr) (c : Int) : (turnF a k b c).lookup ("plus" : Str) = some (.int k) := (lk_miss (by decide +kernel)).trans lk_hit
theorem turn_turn (a : Addr) (k : Int) (b : Addr) (c : Int) : (turnF a k b c).lookup ("turn" : Str) = some (.ref b) := (lk_miss (by decide +kernel)).trans ((lk_miss (by decide +kernel)).trans lk_hit)
theorem turn_tp (a : Addr) (k : Int) (b : Addr) (c : Int) : (turnF a k b c).lookup ("turn_plus" : Str) = some (.int c) := (lk_miss (by decide +kernel)).trans ((lk_miss (by decide +kernel)).trans ((lk_miss (by decide +kernel)).trans lk_hit))
theorem try_no (a : Addr) (k : Int) {m : Str} (h1 : ¬ m = "times") (h2 : ¬ m = "plus") : (tryF a k).lookup m = none := (lk_miss h1).trans ((lk_miss h2).trans rfl)
theorem turn_no (a : Addr) (k : Int) (b : Addr) (c : Int) {m : Str} (h1 : ¬ m = "times") (h2 : ¬ m = "plus") (h3 : ¬ m = "turn") (h4 : ¬ m = "turn_plus") : (turnF a k b c).lookup m = none := (lk_miss h1).trans ((lk_miss h2).trans ((lk_miss h3).trans ((lk_miss h4).trans rfl)))
theorem put_try (a : Addr) (k : Int) : putF "plus" (.int k) (putF "times" (.ref a) []) = tryF a k := by
  show (if ("times" : Str) = "plus" then _ else _) = _
  rw [if_neg (by decide +kernel)]
  rfl
theorem put_turn1 (a : Addr) (k : Int) (b : Addr) : putF "turn" (V.ref b) (tryF a k) = ([("times", V.ref a), ("plus", V.int k), ("turn", V.ref b)] : List (Str × V)) := by
  show (if ("times" : Str) = "turn" then _ else _ :: (if ("plus" : Str) = "turn" then _ else _)) = _
  rw [if_neg (by decide +kernel), if_neg (by decide +kernel)]
  rfl
theorem put_turn2 (a : Addr) (k : Int) (b : Addr) (c : Int) : putF "turn_plus" (.int c) (putF "turn" (.ref b) (tryF a k)) = turnF a k b c := by
  rw [put_turn1]
  show (if ("times" : Str) = "turn_plus" then _ else _ :: (if ("plus" : Str) = "turn_plus" then _ else _ :: (if ("turn" : Str) = "turn_plus" then _ else _))) = _
  rw [if_neg (by decide +kernel), if_neg (by decide +kernel), if_neg (by decide +kernel)]
  rfl
/-- a class of rules -/
structure RCls (K : PySem.W.Frag) (C : Addr) : Prop where
  cl : Cls K C
  n1 : NoAttr K C "times"
  n2 : NoAttr K C "plus"
  n3 : NoAttr K C "turn"
  n4 : NoAttr K C "turn_plus"
def spTryInit (C : Addr) : Sp := fun vs H Q _ => ∃ (x dx a : Addr) (p q k : Int), vs = [.ref x, .ref a, .int k] ∧ H x = some (.ins C dx []) ∧ H a = some (.tup [.int p, .int q]) ∧ 1 ≤ q ∧ q ≤ p ∧ p ≤ 6 ∧ -6 ≤ k ∧ k ≤ 6 ∧ 2 * q ≤ p + k ∧
  ∀ H', But x H H' → H' x = some (.ins C dx (tryF a k)) → Q .non H'
def spTurnInit (C : Addr) : Sp := fun vs H Q _ => ∃ (x dx a b : Addr) (p q k t s c : Int), vs = [.ref x, .ref a, .int k, .ref b, .int c] ∧ H x = some (.ins C dx []) ∧ H a = some (.tup [.int p, .int q]) ∧ H b = some (.tup [.int t, .int s]) ∧
  1 ≤ q ∧ q ≤ p ∧ p ≤ 6 ∧ -6 ≤ k ∧ k ≤ 6 ∧ 2 * q ≤ p + k ∧ (1 ≤ t ∧ t ≤ 8) ∧ (1 ≤ s ∧ s ≤ 8) ∧ -6 ≤ c ∧ c ≤ 6 ∧ ∀ H', But x H H' → H' x = some (.ins C dx (turnF a k b c)) → Q .non H'
section
variable {P : Program} {w : World} {K : PySem.W.Frag} {mg : Str → Option Value} {base : Heap}
theorem scTryInit : FnScope ["self", "times", "plus"] ["self", "times", "plus"] (defScope sTryInit) := ⟨rfl, rfl, rfl, by decide +kernel, rfl, by decide +kernel, by decide +kernel⟩
theorem ok_tryInit {f C : Addr} {fd : FuncData} {dvs : List V} {kws : List (Str × V)} (F : FunD K "__init__" "TryRule.__init__" (defArgs sTryInit) (defBody sTryInit) (defScope sTryInit) dvs kws f fd) (T : RCls K C) (D1 : Df P w K mg base 5 "need_times" ["times", "plus"] (spNeedT K))
    (D2 : Df P w K mg base 2 "need_halves" ["times", "plus"] (spNeedH K)) : FnOk P w K mg base CX0 6 f fd ["self", "times", "plus"] (spTryInit C) := by
  obtain ⟨f1, fd1, G1, g1, k1, bb1⟩ := D1.ex
  obtain ⟨f2, fd2, G2, g2, k2, bb2⟩ := D2.ex
  refine F.ok scTryInit (fun vs H Q E h => ?_) (fun cdv A outer s H vs Q E hr h => ?_)
  · obtain ⟨x, dx, a, p, q, k, rfl, _⟩ := h
    rfl
  · obtain ⟨x, dx, a, p, q, k, rfl, hx, ha, h1, h2, h3, h4, h5, h6, kk⟩ := h
    refine ⟨_, PSs.nox (pss_cons (ps_expr (pe_call G1 hr (by rfl) g1 k1 bb1 .nil pass0 (pa_cons (pv 1) (pa_cons (pv 2) pa_nil))))
      (pss_cons (ps_expr (pe_call G2 (hr.mono (by decide)) (by rfl) g2 k2 bb2 .nil pass0 (pa_cons (pv 1) (pa_cons (pv 2) pa_nil))))
      (pss_cons (ps_fld (pv 0) (pv 1) rfl) (pss_one (ps_fld (pv 0) (pv 2) rfl))))), ?_⟩
    refine ⟨_, rfl, _, rfl, a, p, q, k, rfl, ha, h1, h2, h3, h4, h5, fun H1 s1 => ?_⟩
    refine ⟨_, rfl, _, rfl, a, p, q, k, rfl, s1 _ _ ha, by omega, h6, ?_⟩
    refine ⟨_, rfl, _, rfl, x, C, dx, _, rfl, s1 _ _ hx, T.cl, T.n1, (by show 0 < 1000; decide), _, rfl, _, rfl, x, C, dx, _, rfl, upd_same, T.cl, T.n2, (by show 1 < 1000; decide), ?_⟩
    refine kk _ ((Same.but s1).trans (But.upd_at.trans But.upd_at)) ?_
    rw [upd_same, put_try]
theorem scTurnInit : FnScope ["self", "times", "plus", "turn", "turn_plus"] ["self", "times", "plus", "turn", "turn_plus"] (defScope sTurnInit) := ⟨rfl, rfl, rfl, by decide +kernel, rfl, by decide +kernel, by decide +kernel⟩
theorem ok_turnInit {f C : Addr} {fd : FuncData} {dvs : List V} {kws : List (Str × V)} (F : FunD K "__init__" "TurnRule.__init__" (defArgs sTurnInit) (defBody sTurnInit) (defScope sTurnInit) dvs kws f fd) (T : RCls K C) (D1 : Df P w K mg base 5 "need_times" ["times", "plus"] (spNeedT K))
    (D2 : Df P w K mg base 2 "need_halves" ["times", "plus"] (spNeedH K)) (D3 : Df P w K mg base 4 "is_turn" ["value"] (spTurn K)) (D4 : Df P w K mg base 3 "is_plus" ["value"] spPlus) : FnOk P w K mg base CX0 6 f fd ["self", "times", "plus", "turn", "turn_plus"] (spTurnInit C) := by
  obtain ⟨f1, fd1, G1, g1, k1, bb1⟩ := D1.ex
  obtain ⟨f2, fd2, G2, g2, k2, bb2⟩ := D2.ex
  obtain ⟨f3, fd3, G3, g3, k3, bb3⟩ := D3.ex
  obtain ⟨f4, fd4, G4, g4, k4, bb4⟩ := D4.ex
  refine F.ok scTurnInit (fun vs H Q E h => ?_) (fun cdv A outer s H vs Q E hr h => ?_)
  · obtain ⟨x, dx, a, b, p, q, k, t, s, c, rfl, _⟩ := h
    rfl
  · obtain ⟨x, dx, a, b, p, q, k, t, s, c, rfl, hx, ha, hb, h1, h2, h3, h4, h5, h6, h7, h8, h9, h10, kk⟩ := h
    refine ⟨_, PSs.nox (pss_cons (ps_expr (pe_call G1 hr (by rfl) g1 k1 bb1 .nil pass0 (pa_cons (pv 1) (pa_cons (pv 2) pa_nil))))
      (pss_cons (ps_if (pt_not (pt_val (pe_call G3 (hr.mono (by decide)) (by rfl) g3 k3 bb3 .nil pass0 (pa_cons (pv 3) pa_nil)))) (pss_one ps_never) pss_nil)
      (pss_cons (ps_if (pt_not (pt_val (pe_call G4 (hr.mono (by decide)) (by rfl) g4 k4 bb4 .nil pass0 (pa_cons (pv 4) pa_nil)))) (pss_one ps_never) pss_nil)
      (pss_cons (ps_expr (pe_call G2 (hr.mono (by decide)) (by rfl) g2 k2 bb2 .nil pass0 (pa_cons (pv 1) (pa_cons (pv 2) pa_nil))))
      (pss_cons (ps_fld (pv 0) (pv 1) rfl) (pss_cons (ps_fld (pv 0) (pv 2) rfl) (pss_cons (ps_fld (pv 0) (pv 3) rfl) (pss_one (ps_fld (pv 0) (pv 4) rfl))))))))), ?_⟩
    refine ⟨_, rfl, _, rfl, a, p, q, k, rfl, ha, h1, h2, h3, h4, h5, fun H1 s1 => ?_⟩
    refine ⟨_, rfl, b, t, s, rfl, s1 _ _ hb, h7, h8, fun H2 s2 => ⟨true, rfl, iteF ?_⟩⟩
    refine ⟨_, rfl, c, rfl, h9, h10, true, rfl, iteF ?_⟩
    have s3 := s1.trans s2
    refine ⟨_, rfl, _, rfl, a, p, q, k, rfl, s3 _ _ ha, by omega, h6, ?_⟩
    refine ⟨_, rfl, _, rfl, x, C, dx, _, rfl, s3 _ _ hx, T.cl, T.n1, (by show 0 < 1000; decide), _, rfl, _, rfl, x, C, dx, _, rfl, upd_same, T.cl, T.n2, (by show 1 < 1000; decide), ?_⟩
    refine ⟨_, rfl, _, rfl, x, C, dx, _, rfl, upd_same, T.cl, T.n3, (by rw [put_try]; show 2 < 1000; decide), _, rfl, _, rfl, x, C, dx, _, rfl, upd_same, T.cl, T.n4, (by rw [put_try, put_turn1]; show 3 < 1000; decide), ?_⟩
    refine kk _ ((Same.but s3).trans (But.upd_at.trans (But.upd_at.trans (But.upd_at.trans But.upd_at)))) ?_
    rw [upd_same, put_try, put_turn2]
end
end Ev
namespace Ev
open PySem L2 PySem.Spec PyProof.Rows
/-! Promises of defs that are called while no repr is under way (so what they make can be shown). -/
structure FnG (P : Program) (w : World) (K : PySem.W.Frag) (mg : Str → Option Value) (base : Heap) (k : Nat) (f : Addr)
    (fd : FuncData) (ps : List Str) (sp : Sp) : Prop where
  many : ∀ vs H Q E, sp vs H Q E → vs.length = ps.length
  goes : ∀ (A : Around) (above : List Env) (s : Shared) (H : Hp) (args : Args) (us : List Value) (vs : List V) (Q : VK)
    (E : XK), Room k A → A.guards = some [] → Env0 P w K mg base A above s H → BindsTo s fd args (ps.zip us) → Vals vs us →
    sp vs H Q E → codeAny (model P w) A (.call (.ref f) args) (CR CX0 above P w H s Q E) s
theorem FnG.of {P : Program} {w : World} {K : PySem.W.Frag} {mg : Str → Option Value} {base : Heap} {k : Nat} {f : Addr}
    {fd : FuncData} {ps : List Str} {sp : Sp} (F : FnOk P w K mg base CX0 k f fd ps sp) : FnG P w K mg base k f fd ps sp :=
  ⟨F.len, fun A above s H args us vs Q E hr _ => F.run A above s H args us vs Q E hr⟩
section
variable {P : Program} {w : World} {K : PySem.W.Frag} {mg : Str → Option Value} {base : Heap}
/-- a def by its body, where no repr is under way -/
theorem fng_code {x qual : Str} {st : Stmt} {f : Addr} {fd : FuncData} {N ps : List Str} {k : Nat} {sp : Sp} (F : Fun K x qual st f fd)
    (S : FnScope N ps (defScope st)) (many : ∀ vs H Q E, sp vs H Q E → vs.length = ps.length)
    (body : ∀ (cdv : Value), fd.code = cdv → ∀ (A : Around) (above : List Env) (s : Shared) (H : Hp) (vs : List V) (Q : VK) (E : XK),
      Room k (A.deeper (envOfC qual (defScope st) s.heap.objs.size f cdv)) → A.guards = some [] → sp vs H Q E →
      ∃ t, PSs (cxOf CX0 P w K mg base N qual (defScope st) f cdv A above s H E).nox (defBody st) t ∧
        t { nx := fun _ H' => Q .non H', rt := Q } (start N vs) H) : FnG P w K mg base (k + 1) f fd ps sp := by
  obtain ⟨oc, od, kV, doc, pm, an, cdv, ct, osl, rfl, lk, hcd⟩ := F.ex
  constructor
  · exact many
  · intro A above s H args us vs Q E room gd env bt rv hs
    have inK : K.In s.heap := env.mod.kin.keeps fun b o e => (env.bs b o e).1
    have noLim : s.heap.NoLimit := env.mod.nolimit.keeps fun b o e => (env.bs b o e).1
    have kinds : ∀ y ∈ ps.zip us, (defScope st).names.lookup y.1 = some .local ∨
        ((defScope st).names.lookup y.1 = some .cell ∧ ((cellsFrom (s.heap.objs.size + 1) (defScope st).names []).lookup y.1).isSome = true) := by
      rintro ⟨n, v⟩ hy
      cases S.par n (List.of_mem_zip hy).1 with
      | inl q => exact .inl q
      | inr q => exact .inr ⟨q, PySem.W.cellsFrom_some _ _ _ (.inl q)⟩
    refine codeAny_call_function room.depth (inK _ _ lk) rfl S.co S.gen rfl (PySem.W.codeRec_of inK hcd) (bt _ _ _ _ ?_)
    refine wpAny_newFunctionEnv_cells S.kind kinds fun e2 he s2 x => ?_
    subst he
    refine ⟨noLim.keeps x.toInCall.keep, codeAny_func ?_⟩
    obtain ⟨t, ht, hq⟩ := body cdv rfl A above s H vs Q E (room.deeper _) gd hs
    have inv := inv_start (CX := CX0) (E := E) S room.hd env (many _ _ _ _ hs) rv x
    refine wpAny_mono (ht.nox.run [] s2 (start N vs) H _ inv hq) (fun fl s3 h3 => ?_) fun e s3 h3 => h3
    cases fl with
    | ret u =>
      obtain ⟨v, σ3, H3, J, rr, q⟩ := h3
      exact ⟨v, H3, J.os, J.bare, J.base, J.hok, rr, q⟩
    | next =>
      obtain ⟨σ3, H3, J, q⟩ := h3
      exact ⟨.non, H3, J.os, J.bare, J.base, J.hok, rfl, q⟩
    | brk =>
      obtain ⟨_, _, _, z⟩ := h3
      exact False.elim z
    | cont =>
      obtain ⟨_, _, _, z⟩ := h3
      exact False.elim z
theorem fng_of {x qual : Str} {st : Stmt} {f : Addr} {fd : FuncData} {N ps : List Str} {k : Nat} {sp : Sp} (F : Fun K x qual st f fd)
    (S : FnScope N ps (defScope st)) (many : ∀ vs H Q E, sp vs H Q E → vs.length = ps.length)
    (body : ∀ (cdv : Value) (A : Around) (above : List Env) (s : Shared) (H : Hp) (vs : List V) (Q : VK) (E : XK),
      Room k (A.deeper (envOfC qual (defScope st) s.heap.objs.size f cdv)) → A.guards = some [] → sp vs H Q E →
      ∃ t, PSs (cxOf CX0 P w K mg base N qual (defScope st) f cdv A above s H E).nox (defBody st) t ∧
        t { nx := fun _ H' => Q .non H', rt := Q } (start N vs) H) : FnG P w K mg base (k + 1) f fd ps sp :=
  fng_code F S many fun cdv _ => body cdv
end
section
variable {X : Cx}
/-- f(e, ..) of such a def -/
theorem pe_callG {k : Nat} {f : Addr} {fd : FuncData} {ps : List Str} {sp : Sp} {E : XK} {x : Str} {p pos : Pos} {e : Expr} {es : List Expr} {t : TA}
    (F : FnG X.prog X.w X.K X.mg X.base k f fd ps sp) (room : Room k X.A) (gd : X.A.guards = some []) (hg : Gl X x)
    (hm : X.mg x = some (.ref f)) (kp : PySem.W.keepIn X.K (.ref f) = true) (hb : Binds X.K fd ps []) (ha : PA X (e :: es) t)
    (hdb : (x == ("__debug__" : Str)) = false := by decide)
    (he : starEach (e :: es) X.env = (false, eval e X.env) :: starEach es X.env := by rfl)
    (hpl : (backTo pos (starEach es X.env)).any (·.1) = false := by rfl) :
    PE X (.Call (.Name x p) (e :: es) [] pos) (tCall sp [] E t) := by
  constructor
  intro pins s σ H Q I h
  refine wpAny_Call_Name_kw (ld_glob I hg hm ?_ hdb)
  refine PySem.W.callWith_K (h₀ := X.base) I.ok.mod.kin kp (thn (ha.run pos pins s σ H _ I h) fun us s1 d => ?_) he hpl
  obtain ⟨vs, H1, I1, rv, q⟩ := d
  refine ⟨I1.kIn, ?_⟩
  have q : sp vs H1 Q E := by
    have q' : sp (vs ++ []) H1 Q E := q
    rw [List.append_nil] at q'
    exact q'
  have hl : us.length = ps.length := rv.length.symm.trans (F.many _ _ _ _ q)
  have bt := hb s1 us I1.kIn (by rw [List.append_nil]; exact hl)
  rw [List.append_nil] at bt
  refine wpAny_call (codeAny_mono (F.goes X.A X.stack s1 H1 ⟨us, []⟩ us vs Q E room gd I1.env0 bt rv q) fun r s2 h2 => ?_)
  cases r with
  | error e => exact False.elim h2
  | ok fl =>
    cases fl with
    | ret u => exact I1.after h2
    | next => exact False.elim h2
    | brk => exact False.elim h2
    | cont => exact False.elim h2
/-- repr of data, where none is under way -/
def rRepr (K : PySem.W.Frag) : List V → Hp → VK → Prop := fun xs H Q => ∃ (a : Addr) (d : PyData), xs = [.ref a] ∧ Dp K H (.ref a) d ∧
  d.showable = true ∧ d.hasDict = false ∧ d.depth ≤ 32 ∧ d.shown.length ≤ sizeLine ∧ Q (.str d.shown) H
theorem call_repr (gd : X.A.guards = some []) (hu : X.A.units + 64 < cLine) : CallR X (.builtin "repr") (rRepr X.K) := by
  intro pins s σ H xs us Q I r h
  obtain ⟨a, d, rfl, hd, h1, h2, h3, h4, q⟩ := h
  cases r with
  | cons r1 r2 =>
    cases r2
    cases r1
    obtain ⟨as, rd⟩ := Dp.reads I d (.ref a) (.ref a) hd rfl
    exact repr_of_reads' rd h1 (fun z => by rw [h2] at z; cases z) gd (by omega) (fun _ _ e => e)
      (fun h' u tk hk => ⟨.str d.shown, H, I.kept hk, ⟨u, rfl⟩, q⟩) h4
end
/-! ### the law's own call -/
section
variable {P : Program} {w : World} {K : PySem.W.Frag} {mg mb : Str → Option Value}
theorem law_callG {k : Nat} {fa a : Addr} {fd : FuncData} {x : Str} {sp : Sp} {s : Shared} {vs : List Value} {ns : List Int}
    (inK : K.In s.heap) (ns1 : s.heap.Ns mainGlobals mg) (ns2 : s.heap.Ns builtinsNs mb) (blt : ∀ x : Str, x ≠ "__name__" → mb x = bootBuiltins x)
    (noLim : s.heap.NoLimit) (hg : s.gens = #[]) (ha : s.heap.get? a = some { cls := .type "list", data := .seq vs.toArray })
    (hi : IntsAre vs ns) (hl : ns.length ≤ sizeLine) (hr : Room k callerA)
    (F : ∀ base : Heap, K.In base → base.Ns mainGlobals mg → FnG P w K mg base k fa fd [x] sp)
    (bt : ∀ (s : Shared) (u : Value), BindsTo s fd ⟨[u], []⟩ [(x, u)])
    (hsp : ∀ H : Hp, SqL K H a (ns.map V.int) → sp [.ref a] H (fun v _ => v = .bl true) fun _ _ _ => False) :
    codeAny (model P w) callerA (.call (.ref fa) ⟨[.ref a], []⟩)
      (fun r s' => r = .ok (.ret (.bool true)) ∧ OldK s.heap s'.heap ∧ s'.os = s.os ∧ AllBare s'.gens) s := by
  have rv := vals_ints hi
  have lv := hi.length
  have key : ∀ H : Hp, (∀ b u, H b = some u → b = a ∧ K.lookup a = none ∧ u = .frz { cls := .type "list", data := .seq vs.toArray } (.lst (ns.map V.int))) →
      SqL K H a (ns.map V.int) → codeAny (model P w) callerA (.call (.ref fa) ⟨[.ref a], []⟩)
        (fun r s' => r = .ok (.ret (.bool true)) ∧ OldK s.heap s'.heap ∧ s'.os = s.os ∧ AllBare s'.gens) s := by
    intro H only sq
    have ok : HOk P w H s.heap := by
      intro b u e
      obtain ⟨rfl, _, rfl⟩ := only b u e
      exact ⟨ha, by rw [List.length_map]; exact hl, vs, _, rv, ha⟩
    have plain : ∀ {b : Addr} {o : Obj} {es : Array DictEntry} {n : Nat}, s.heap.get? b = some o → o.data = .dict es n → H b = none := by
      intro b o es n e d
      cases q : H b with
      | none => rfl
      | some u =>
        obtain ⟨rfl, _, _⟩ := only b u q
        rw [ha] at e
        cases e
        exact nomatch d
    have names : ∀ {b : Addr} {m : Str → Option Value}, s.heap.Ns b m → (hidT s.heap H).Ns b m := by
      rintro b m ⟨o, es, n, e, d, r⟩
      exact ⟨o, es, n, hidT_get e (plain e d), d, r⟩
    have inB : K.In (hidT s.heap H) := by
      intro b o e
      refine hidT_get (inK b o e) ?_
      cases q : H b with
      | none => rfl
      | some u =>
        obtain ⟨rfl, n, _⟩ := only b u q
        rw [n] at e
        cases e
    obtain ⟨mc, l1, l2⟩ := noLim
    have md : Mod K mg (hidT s.heap H) := ⟨inB, names ns1, ⟨mb, names ns2, blt⟩, ⟨mc, names l1, l2⟩⟩
    have env : Env0 P w K mg (hidT s.heap H) callerA [] s H :=
      ⟨rfl, md, fun b o e => of_hidT e, Nat.le_of_eq (hidT_size _ _), trivial, (fun b hb => by cases hb), ok, .of_eq hg⟩
    have go := (F _ inB (names ns1)).goes callerA [] s H ⟨[.ref a], []⟩ [.ref a] [.ref a] _ _ hr rfl env (bt s (.ref a)) (.cons rfl .nil) (hsp H sq)
    refine codeAny_mono go fun r s2 h2 => ?_
    cases r with
    | error e => exact False.elim h2
    | ok fl =>
      cases fl with
      | next => exact False.elim h2
      | brk => exact False.elim h2
      | cont => exact False.elim h2
      | ret u =>
        obtain ⟨v, H2, os, bare, un, ok2, rr, q⟩ := h2
        obtain rfl : v = V.bl true := q
        obtain rfl : u = Value.bool true := rr
        refine ⟨rfl, OldK.of_keep fun b o e => ?_, os, bare⟩
        cases q : H b with
        | none => exact un.keep b o e q (by intro z; cases z) (by simp)
        | some u =>
          obtain ⟨rfl, _, rfl⟩ := only b u q
          obtain ⟨e1, _⟩ := ok b _ q
          obtain ⟨e2, _⟩ := ok2 b _ (un.frzs b _ _ q)
          rw [e] at e1
          cases e1
          exact e2
  cases hk : K.lookup a with
  | none =>
    refine key (fun b => if b = a then some (.frz { cls := .type "list", data := .seq vs.toArray } (.lst (ns.map V.int))) else none) (fun b u e => ?_) (.inl (.inr ⟨_, if_pos rfl⟩))
    by_cases z : b = a
    · rw [if_pos z] at e
      cases e
      exact ⟨z, hk, rfl⟩
    · rw [if_neg z] at e
      cases e
  | some o =>
    have e := inK a o hk
    rw [ha] at e
    cases e
    refine key (fun _ => none) (fun b u e => by cases e) (.inr ⟨_, vs.toArray, _, hk, rfl, rfl, rfl, ?_, by simpa using rv⟩)
    rw [List.size_toArray, lv]
    exact hl
end
theorem walk_ofG {l : PySem.W.OpenLaw} {n k : Nat} {q : Program} {loose : List Str} {XP : (Str → Option Value) → Heap → Prop} {YP : World → Heap → Prop}
    {d : DefRec} {K : Params → PySem.W.Frag} {sp : World → Sp} {x : Str} (hn : l.most = some n) (hn2 : n ≤ sizeLine) (hdf : d.params.defaults = [])
    (hr : Room k callerA) (hY : ∀ (w : World) (h : Heap), YP w h → (K w.params).In h)
    (F : ∀ (w : World) (mg : Str → Option Value) (fa : Addr) (h : Heap), (K w.params).In h → h.Ns mainGlobals mg → mg d.name = some (.ref fa) →
      ∃ fd : FuncData, (∀ (s : Shared) (u : Value), BindsTo s fd ⟨[u], []⟩ [(x, u)]) ∧
        ∀ base : Heap, (K w.params).In base → base.Ns mainGlobals mg → FnG l.prog w (K w.params) mg base k fa fd [x] (sp w))
    (hsp : ∀ (w : World) (H : Hp) (a : Addr) (ns : List Int), ns.length ≤ n → SqL (K w.params) H a (ns.map V.int) → sp w [.ref a] H (fun v _ => v = .bl true) fun _ _ _ => False) :
    PySem.W.WalkO q loose XP YP l.row.toRowW d [] (fun f vs => PySem.call f vs) := by
  refine Att.attach_call hn hdf fun w s0 s1 mg mb fa o pm cd doc a vs ns G Y h1 h2 h3 h4 h5 h6 h7 h8 => ?_
  obtain ⟨fd, bt, hF⟩ := F w mg fa _ (hY w _ Y) G.T.g h4
  exact law_callG (hY w _ Y) G.T.g G.T.b G.T.builtins G.T.nolimit h8 h5 h6 (Nat.le_trans h7 hn2) hr hF bt (fun H sq => hsp w H a ns h7 sq)
end Ev
namespace Ev
open PySem L2 PySem.Spec PyProof.Rows
theorem walk_ofGE {l : PySem.W.OpenLaw} {n k : Nat} {q : Program} {loose : List Str} {XP : (Str → Option Value) → Heap → Prop} {YP : World → Heap → Prop}
    {d : DefRec} {x : Str} (hn : l.most = some n) (hn2 : n ≤ sizeLine) (hdf : d.params.defaults = []) (hr : Room k callerA)
    (F : ∀ (w : World) (mg : Str → Option Value) (fa : Addr) (h : Heap), YP w h → h.Ns mainGlobals mg → mg d.name = some (.ref fa) →
      ∃ (K : PySem.W.Frag) (fd : FuncData) (sp : Sp), K.In h ∧ (∀ (s : Shared) (u : Value), BindsTo s fd ⟨[u], []⟩ [(x, u)]) ∧
        (∀ (H : Hp) (a : Addr) (ns : List Int), ns.length ≤ n → SqL K H a (ns.map V.int) → sp [.ref a] H (fun v _ => v = .bl true) fun _ _ _ => False) ∧
        ∀ base : Heap, K.In base → base.Ns mainGlobals mg → FnG l.prog w K mg base k fa fd [x] sp) :
    PySem.W.WalkO q loose XP YP l.row.toRowW d [] (fun f vs => PySem.call f vs) := by
  refine Att.attach_call hn hdf fun w s0 s1 mg mb fa o pm cd doc a vs ns G Y h1 h2 h3 h4 h5 h6 h7 h8 => ?_
  obtain ⟨K, fd, sp, inK, bt, hsp, hF⟩ := F w mg fa _ Y G.T.g h4
  exact law_callG inK G.T.g G.T.b G.T.builtins G.T.nolimit h8 h5 h6 (Nat.le_trans h7 hn2) hr hF bt (fun H sq => hsp H a ns h7 sq)
end Ev
namespace Ev
open PySem L2 PySem.Spec PyProof.Rows
abbrev sPen : Stmt := top 57
abbrev sPick : Stmt := top 59
abbrev sNums : Stmt := top 60
abbrev sRule : Stmt := top 61
abbrev sLaw : Stmt := top 69
theorem Pen.new {L : Addr} {H : Hp} {p q : Addr} {B : Int} {o : HO} (h : Pen L H p B) (n : H q = none) : Pen L (upd H q o) p B := h.keep (fun b u e => by rw [upd_ne (ne_of_none e n)]; exact e)
theorem Pen.some {L : Addr} {H : Hp} {p : Addr} {B : Int} (h : Pen L H p B) : ∃ xs, H p = some (.lst xs) := by
  obtain ⟨ns, t, c, h1, _⟩ := h
  exact ⟨_, h1⟩
theorem Pen.ne {L : Addr} {H : Hp} {p q : Addr} {B : Int} (h : Pen L H p B) (n : H q = none) : q ≠ p := by
  obtain ⟨xs, e⟩ := h.some
  exact (ne_of_none e n).symm
theorem But.free {L p a : Addr} {H H' : Hp} {B : Int} (t : But p H H') (h : Pen L H' p B) (n : H' a = none) : H a = none := by
  cases e : H a with
  | none => rfl
  | some o =>
    have := t a o (h.ne n) e
    rw [n] at this
    cases this
def spPick : Sp := fun vs H Q _ => ∃ (p l L : Addr) (xs : List V) (B : Int), vs = [.ref p, .ref l] ∧ H l = some (.lst xs) ∧ l ≠ p ∧ 1 ≤ xs.length ∧ xs.length ≤ 1000 ∧ B ≤ 1000000 ∧ Pen L H p B ∧
  ∀ (d : V) (H' : Hp), d ∈ xs → But p H H' → Pen L H' p (B + 1) → Q d H'
inductive Row
  | tr (p q k : Int)
  | tn (p q k t s c : Int)
def Row.vs : Row → List V
  | .tr p q k => [.int p, .int q, .int k]
  | .tn p q k t s c => [.int p, .int q, .int k, .int t, .int s, .int c]
def Row.p : Row → Int
  | .tr p _ _ => p
  | .tn p _ _ _ _ _ => p
def Row.q : Row → Int
  | .tr _ q _ => q
  | .tn _ q _ _ _ _ => q
def Row.k : Row → Int
  | .tr _ _ k => k
  | .tn _ _ k _ _ _ => k
def okN (p q k : Int) : Prop := 1 ≤ q ∧ q ≤ p ∧ p ≤ 6 ∧ -6 ≤ k ∧ k ≤ 6 ∧ 2 * q ≤ p + k
def okT (t s c : Int) : Prop := (1 ≤ t ∧ t ≤ 8) ∧ (1 ≤ s ∧ s ≤ 8) ∧ -6 ≤ c ∧ c ≤ 6
def Row.ok : Row → Prop
  | .tr p q k => okN p q k
  | .tn p q k t s c => okN p q k ∧ okT t s c
def spNums : Sp := fun vs H Q _ => ∃ (p L : Addr) (B : Int), vs = [.ref p] ∧ B ≤ 900000 ∧ Pen L H p B ∧
  ∀ (a : Addr) (p' q k t s c : Int) (H' : Hp), okN p' q k → okT t s c → H a = none → H' a = some (.tup (Row.tn p' q k t s c).vs) → But p H H' → Pen L H' p (B + 9) → Q (.ref a) H'
section
variable {P : Program} {w : World} {K : PySem.W.Frag} {mg : Str → Option Value} {base : Heap}
theorem scPick : FnScope ["_law_pen_here", "_law_some"] ["_law_pen_here", "_law_some"] (defScope sPick) := ⟨rfl, rfl, rfl, by decide +kernel, rfl, by decide +kernel, by decide +kernel⟩
theorem ok_pick {f : Addr} {fd : FuncData} (F : Fun K "_law_pick" "_law_pick" sPick f fd) (T : Blt mg) (D : Df P w K mg base 1 "_law_draw" ["_law_pen_here", "_law_many"] spDraw) : FnOk P w K mg base CX0 2 f fd ["_law_pen_here", "_law_some"] spPick := by
  obtain ⟨f1, fd1, G1, g1, k1, b1⟩ := D.ex
  refine F.ok scPick (fun vs H Q E h => ?_) (fun cdv A outer s H vs Q E hr h => ?_)
  · obtain ⟨p, l, L, xs, B, rfl, _⟩ := h
    rfl
  · obtain ⟨p, l, L, xs, B, rfl, hl, hne, x1, x2, hB, hp, kk⟩ := h
    refine ⟨_, pss_one (ps_ret (pe_ix ix_list (pv 1) (pe_call G1 hr (by rfl) g1 k1 b1 .nil pass0 (pa_cons (pv 0) (pa_cons (pe_callB call_len_seq (by rfl) T.len PySem.boot_len (pa_cons (pv 1) pa_nil)) pa_nil))) (fun _ _ => rfl))), ?_⟩
    refine ⟨_, rfl, _, rfl, _, rfl, l, _, rfl, .inl (SqL.of hl), p, L, _, B, rfl, by omega, by omega, hB, hp, fun d H1 bt pn d0 d1 => ?_⟩
    obtain ⟨j, rfl⟩ := Int.eq_ofNat_of_zero_le d0
    have hj : j < xs.length := by omega
    refine ⟨l, xs, _, xs[j], rfl, rfl, SqL.of (bt _ _ hne hl), atI_nat (List.getElem?_eq_getElem hj), ?_⟩
    exact kk _ _ (List.getElem_mem hj) bt pn
theorem scNums : FnScope ["_law_pen_here", "_law_q", "_law_p", "_law_k", "_law_s"] ["_law_pen_here"] (defScope sNums) := ⟨rfl, rfl, rfl, by decide +kernel, rfl, by decide +kernel, by decide +kernel⟩
theorem ok_nums {f : Addr} {fd : FuncData} (F : Fun K "_law_numbers" "_law_numbers" sNums f fd) (T : Blt mg) (D1 : Df P w K mg base 1 "_law_draw" ["_law_pen_here", "_law_many"] spDraw) (D2 : Df P w K mg base 2 "_law_pick" ["_law_pen_here", "_law_some"] spPick) :
    FnOk P w K mg base CX0 3 f fd ["_law_pen_here"] spNums := by
  obtain ⟨f1, fd1, G1, g1, k1, b1⟩ := D1.ex
  obtain ⟨f2, fd2, G2, g2, k2, b2⟩ := D2.ex
  refine F.ok scNums (fun vs H Q E h => ?_) (fun cdv A outer s H vs Q E hr h => ?_)
  · obtain ⟨p, L, B, rfl, _⟩ := h
    rfl
  · obtain ⟨p, L, B, rfl, hB, hp, kk⟩ := h
    have hr1 : Room 1 _ := hr.mono (by decide)
    refine ⟨_, pss_cons (ps_set (i := 1) scNums.nd rfl (.inl rfl) (pe_op op_add pe_int (pe_call G2 hr (by rfl) g2 k2 b2 .nil pass0 (pa_cons (pv 0) (pa_cons (pe_lst (pa_cons pe_int (pa_cons pe_int (pa_cons pe_int (pa_cons pe_int (pa_cons pe_int (pa_cons (pe_call G1 hr1 (by rfl) g1 k1 b1 .nil pass0 (pa_cons (pv 0) (pa_cons pe_int pa_nil))) pa_nil))))))) pa_nil)))))
      (pss_cons (ps_set (i := 2) scNums.nd rfl (.inl rfl) (pe_op op_add (pv 1) (pe_call G1 hr1 (by rfl) g1 k1 b1 .nil pass0 (pa_cons (pv 0) (pa_cons (pe_op op_sub pe_int (pv 1)) pa_nil)))))
      (pss_cons (ps_set (i := 3) scNums.nd rfl (.inl rfl) (pe_call G2 hr (by rfl) g2 k2 b2 .nil pass0 (pa_cons (pv 0) (pa_cons (pe_lst (pa_cons pe_int (pa_cons pe_int (pa_cons pe_int (pa_cons (pe_un un_neg pe_int) (pa_cons pe_int (pa_cons (pe_op op_sub (pe_call G1 hr1 (by rfl) g1 k1 b1 .nil pass0 (pa_cons (pv 0) (pa_cons pe_int pa_nil))) pe_int) pa_nil))))))) pa_nil))))
      (pss_cons (ps_set (i := 3) scNums.nd rfl (.inl rfl) (pe_ifExp (pt_cmpR op_ge (pe_op op_add (pv 2) (pv 3)) (pe_op op_mul pe_int (pv 1)) (nomark _)) (pv 3) (pe_op op_sub (pe_op op_mul pe_int (pv 1)) (pv 2))))
      (pss_cons (ps_set (i := 4) scNums.nd rfl (.inl rfl) (pe_op op_add pe_int (pe_call G1 hr1 (by rfl) g1 k1 b1 .nil pass0 (pa_cons (pv 0) (pa_cons pe_int pa_nil)))))
      (pss_one (ps_ret (pe_tup (pa_cons (pv 2) (pa_cons (pv 1) (pa_cons (pv 3) (pa_cons (pe_op op_add (pv 4) (pe_call G1 hr1 (by rfl) g1 k1 b1 .nil pass0 (pa_cons (pv 0) (pa_cons pe_int pa_nil)))) (pa_cons (pv 4)
        (pa_cons (pe_call G2 hr (by rfl) g2 k2 b2 .nil pass0 (pa_cons (pv 0) (pa_cons (pe_lst (pa_cons pe_int (pa_cons pe_int (pa_cons (pe_un un_neg pe_int) (pa_cons pe_int (pa_cons (pe_un un_neg (pv 4)) (pa_cons (pe_op op_sub (pe_call G1 hr1 (by rfl) g1 k1 b1 .nil pass0 (pa_cons (pv 0) (pa_cons pe_int pa_nil))) pe_int) pa_nil))))))) pa_nil))) pa_nil))))))))))))), ?_⟩
    -- q
    refine ⟨_, rfl, _, rfl, p, L, _, B, rfl, by decide, by decide, by omega, hp, fun d1 H1 t1 p1 a1 c1 => ⟨(by show 6 ≤ sizeLine; decide), fun l1 hl1 => ⟨p, l1, L, _, _, rfl, upd_same, p1.ne hl1, (by show 1 ≤ 6; decide), (by show 6 ≤ 1000; decide), by omega, p1.new hl1, fun q0v H2 m2 t2 p2 => ?_⟩⟩⟩
    obtain ⟨q0, rfl, q0lo, q0hi⟩ : ∃ q0 : Int, q0v = .int q0 ∧ 0 ≤ q0 ∧ q0 ≤ 5 := by
      simp only [List.mem_cons, List.not_mem_nil, or_false] at m2
      rcases m2 with e | e | e | e | e | e
      · exact ⟨_, e, by decide, by decide⟩
      · exact ⟨_, e, by decide, by decide⟩
      · exact ⟨_, e, by decide, by decide⟩
      · exact ⟨_, e, by decide, by decide⟩
      · exact ⟨_, e, by decide, by decide⟩
      · exact ⟨_, e, by omega, by omega⟩
    have u2 : But p H H2 := t1.trans ((Same.but (same_new hl1)).trans t2)
    -- p
    refine ⟨_, _, rfl, rfl, ?_⟩
    refine ⟨_, rfl, _, rfl, _, rfl, _, _, rfl, rfl, p, L, _, _, rfl, by omega, by omega, by omega, p2, fun d3 H3 t3 p3 a3 c3 => ⟨_, _, rfl, rfl, ?_⟩⟩
    -- k
    refine ⟨_, rfl, _, rfl, _, rfl, p, L, _, _, rfl, by decide, by decide, by omega, p3, fun d4 H4 t4 p4 a4 c4 => ⟨_, _, rfl, rfl, (by show 6 ≤ sizeLine; decide), fun l hl => ⟨p, l, L, _, _, rfl, upd_same, p4.ne hl, (by show 1 ≤ 6; decide), (by show 6 ≤ 1000; decide), by omega, p4.new hl, fun d5 H5 m5 t5 p5 => ?_⟩⟩⟩
    obtain ⟨k0, rfl, k0lo, k0hi⟩ : ∃ k0 : Int, d5 = .int k0 ∧ -6 ≤ k0 ∧ k0 ≤ 6 := by
      simp only [List.mem_cons, List.not_mem_nil, or_false] at m5
      rcases m5 with e | e | e | e | e | e
      · exact ⟨_, e, by decide, by decide⟩
      · exact ⟨_, e, by decide, by decide⟩
      · exact ⟨_, e, by decide, by decide⟩
      · exact ⟨_, e, by decide, by decide⟩
      · exact ⟨_, e, by decide, by decide⟩
      · exact ⟨_, e, by omega, by omega⟩
    have t05 : But p H H5 := (u2.trans t3).trans (t4.trans ((Same.but (same_new hl)).trans t5))
    refine ⟨_, rfl, _, rfl, _, _, rfl, rfl, _, rfl, _, _, rfl, rfl, .inl ⟨by decide, by decide⟩, _, _, rfl, rfl, _, rfl, ite2 (fun e => ?_) (fun e => ?_)⟩
    · have e := of_decide_eq_true e
      refine ⟨_, rfl, ?_⟩
      refine ⟨_, rfl, p, L, _, _, rfl, by decide, by decide, by omega, p5, fun d6 H6 t6 p6 a6 c6 => ⟨_, _, rfl, rfl, ?_⟩⟩
      refine ⟨_, rfl, _, rfl, _, rfl, _, rfl, _, rfl, p, L, _, _, rfl, by decide, by decide, by omega, p6, fun d7 H7 t7 p7 a7 c7 => ⟨_, _, rfl, rfl, _, rfl, _, rfl, _, rfl, _, rfl, _, rfl, _, rfl, p, L, _, _, rfl, by decide, by decide, by omega, p7, fun d8 H8 t8 p8 a8 c8 => ⟨_, _, rfl, rfl, (by show 6 ≤ sizeLine; decide), fun l2 hl2 => ⟨p, l2, L, _, _, rfl, upd_same, p8.ne hl2, (by show 1 ≤ 6; decide), (by show 6 ≤ 1000; decide), by omega, p8.new hl2, fun d9 H9 m9 t9 p9 => ⟨(by show 6 ≤ sizeLine; decide), fun a na => ?_⟩⟩⟩⟩⟩
      obtain ⟨c0, rfl, c0lo, c0hi⟩ : ∃ c0 : Int, d9 = .int c0 ∧ -6 ≤ c0 ∧ c0 ≤ 6 := by
        simp only [List.mem_cons, List.not_mem_nil, or_false] at m9
        rcases m9 with e | e | e | e | e | e
        · exact ⟨_, e, by decide, by decide⟩
        · exact ⟨_, e, by decide, by decide⟩
        · exact ⟨_, e, by decide, by decide⟩
        · exact ⟨_, e, by decide, by decide⟩
        · exact ⟨_, e, by omega, by omega⟩
        · exact ⟨_, e, by omega, by omega⟩
      have t09 : But p H H9 := t05.trans (((t6.trans t7).trans t8).trans ((Same.but (same_new hl2)).trans t9))
      refine kk a _ _ _ _ _ _ _ ?_ ?_ (t09.free p9 na) upd_same (t09.trans (Same.but (same_new na))) ((p9.new na).mono (by omega))
      · exact ⟨by omega, by omega, by omega, by omega, by omega, by omega⟩
      · exact ⟨⟨by omega, by omega⟩, ⟨by omega, by omega⟩, by omega, by omega⟩
    · have e : ¬ (2 * (1 + q0) ≤ 1 + q0 + d3 + k0) := fun z => e (decide_eq_true z)
      refine ⟨_, rfl, _, _, rfl, rfl, .inl ⟨by decide, by decide⟩, _, rfl, _, _, rfl, rfl, ?_⟩
      refine ⟨_, rfl, p, L, _, _, rfl, by decide, by decide, by omega, p5, fun d6 H6 t6 p6 a6 c6 => ⟨_, _, rfl, rfl, ?_⟩⟩
      refine ⟨_, rfl, _, rfl, _, rfl, _, rfl, _, rfl, p, L, _, _, rfl, by decide, by decide, by omega, p6, fun d7 H7 t7 p7 a7 c7 => ⟨_, _, rfl, rfl, _, rfl, _, rfl, _, rfl, _, rfl, _, rfl, _, rfl, p, L, _, _, rfl, by decide, by decide, by omega, p7, fun d8 H8 t8 p8 a8 c8 => ⟨_, _, rfl, rfl, (by show 6 ≤ sizeLine; decide), fun l2 hl2 => ⟨p, l2, L, _, _, rfl, upd_same, p8.ne hl2, (by show 1 ≤ 6; decide), (by show 6 ≤ 1000; decide), by omega, p8.new hl2, fun d9 H9 m9 t9 p9 => ⟨(by show 6 ≤ sizeLine; decide), fun a na => ?_⟩⟩⟩⟩⟩
      obtain ⟨c0, rfl, c0lo, c0hi⟩ : ∃ c0 : Int, d9 = .int c0 ∧ -6 ≤ c0 ∧ c0 ≤ 6 := by
        simp only [List.mem_cons, List.not_mem_nil, or_false] at m9
        rcases m9 with e | e | e | e | e | e
        · exact ⟨_, e, by decide, by decide⟩
        · exact ⟨_, e, by decide, by decide⟩
        · exact ⟨_, e, by decide, by decide⟩
        · exact ⟨_, e, by decide, by decide⟩
        · exact ⟨_, e, by omega, by omega⟩
        · exact ⟨_, e, by omega, by omega⟩
      have t09 : But p H H9 := t05.trans (((t6.trans t7).trans t8).trans ((Same.but (same_new hl2)).trans t9))
      refine kk a _ _ _ _ _ _ _ ?_ ?_ (t09.free p9 na) upd_same (t09.trans (Same.but (same_new na))) ((p9.new na).mono (by omega))
      · exact ⟨by omega, by omega, by omega, by omega, by omega, by omega⟩
      · exact ⟨⟨by omega, by omega⟩, ⟨by omega, by omega⟩, by omega, by omega⟩
end
end Ev
namespace Ev
open PySem L2 PySem.Spec PyProof.Rows
def ObjAt (Ct Cn : Addr) (H : Hp) (r : Addr) : Row → Prop
  | .tr p q k => ∃ dx a : Addr, H r = some (.ins Ct dx (tryF a k)) ∧ H a = some (.tup [.int p, .int q])
  | .tn p q k t s c => ∃ dx a b : Addr, H r = some (.ins Cn dx (turnF a k b c)) ∧ H a = some (.tup [.int p, .int q]) ∧ H b = some (.tup [.int t, .int s])
theorem ObjAt.keep {Ct Cn : Addr} {H H' : Hp} {r : Addr} {row : Row} (h : ObjAt Ct Cn H r row) (k : Same H H') : ObjAt Ct Cn H' r row := by
  cases row with
  | tr p q kk =>
    obtain ⟨dx, a, h1, h2⟩ := h
    exact ⟨dx, a, k _ _ h1, k _ _ h2⟩
  | tn p q kk t s c =>
    obtain ⟨dx, a, b, h1, h2, h3⟩ := h
    exact ⟨dx, a, b, k _ _ h1, k _ _ h2, k _ _ h3⟩
theorem ObjAt.but {Ct Cn p : Addr} {H H' : Hp} {r : Addr} {row : Row} {xs : List V} (h : ObjAt Ct Cn H r row) (hp : H p = some (.lst xs)) (k : But p H H') : ObjAt Ct Cn H' r row := by
  cases row with
  | tr p q kk =>
    obtain ⟨dx, a, h1, h2⟩ := h
    exact ⟨dx, a, k _ _ (ne_of h1 hp (by intro z; cases z)) h1, k _ _ (ne_of h2 hp (by intro z; cases z)) h2⟩
  | tn p q kk t s c =>
    obtain ⟨dx, a, b, h1, h2, h3⟩ := h
    exact ⟨dx, a, b, k _ _ (ne_of h1 hp (by intro z; cases z)) h1, k _ _ (ne_of h2 hp (by intro z; cases z)) h2, k _ _ (ne_of h3 hp (by intro z; cases z)) h3⟩
theorem ObjAt.rb {K : PySem.W.Frag} {Ct Cn : Addr} {H : Hp} {r : Addr} {row : Row} (h : ObjAt Ct Cn H r row) (T : RCls K Ct) (N : RCls K Cn) (o : row.ok) : RB K H r row.p row.q row.k := by
  cases row with
  | tr p q kk =>
    obtain ⟨dx, a, h1, h2⟩ := h
    obtain ⟨o1, o2, o3, o4, o5, o6⟩ := o
    exact ⟨⟨Ct, dx, _, a, h1, T.cl, T.n1, T.n2, try_times a kk, try_plus a kk, h2⟩, o1, o2, o3, o4, o5⟩
  | tn p q kk t s c =>
    obtain ⟨dx, a, b, h1, h2, h3⟩ := h
    obtain ⟨⟨o1, o2, o3, o4, o5, o6⟩, _⟩ := o
    exact ⟨⟨Cn, dx, _, a, h1, N.cl, N.n1, N.n2, turn_times a kk b c, turn_plus a kk b c, h2⟩, o1, o2, o3, o4, o5⟩
def spRule (Ct Cn : Addr) : Sp := fun vs H Q _ => ∃ (l : Addr) (p q k t s c : Int) (b : Bool), vs = [.ref l, .bl b] ∧ H l = some (.tup (Row.tn p q k t s c).vs) ∧ okN p q k ∧ okT t s c ∧
  ∀ (r : Addr) (H' : Hp) (row : Row), Same H H' → ObjAt Ct Cn H' r row → row.ok → row.p = p → row.q = q → row.k = k → Q (.ref r) H'
section
variable {P : Program} {w : World} {K : PySem.W.Frag} {mg : Str → Option Value} {base : Heap}
theorem Row.okN {row : Row} (o : row.ok) : Ev.okN row.p row.q row.k := by
  cases row with
  | tr p q k => exact o
  | tn p q k t s c => exact o.1
theorem max6 {c : Int} (h : -6 ≤ c) : (if c > -6 then c else -6) = c := by
  by_cases z : c > -6
  · exact if_pos z
  · rw [if_neg z]; omega
theorem scRule : FnScope ["_law_some", "_law_is_turn", "_law_p", "_law_q", "_law_k", "_law_t", "_law_s", "_law_r"] ["_law_some", "_law_is_turn"] (defScope sRule) := ⟨rfl, rfl, rfl, by decide +kernel, rfl, by decide +kernel, by decide +kernel⟩
theorem ok_rule {f Ct Cn fT fN : Addr} {fd fdT fdN : FuncData} {g : List Value → List Value → List Value} (F : Fun K "_law_rule" "_law_rule" sRule f fd) (T : Blt mg) (gT : mg "TryRule" = some (.ref Ct)) (gN : mg "TurnRule" = some (.ref Cn)) (MT : Mk K Ct fT) (MN : Mk K Cn fN)
    (GT : FnOk P w K mg base CX0 6 fT fdT ["self", "times", "plus"] (spTryInit Ct)) (bT : Binds K fdT ["self", "times", "plus"] [])
    (GN : FnOk P w K mg base CX0 6 fN fdN ["self", "times", "plus", "turn", "turn_plus"] (spTurnInit Cn)) (bN : KBn K fdN ["self", "times", "plus", "turn", "turn_plus"] 3 ["turn", "turn_plus"] g (fun vs zs => vs ++ zs)) :
    FnOk P w K mg base CX0 8 f fd ["_law_some", "_law_is_turn"] (spRule Ct Cn) := by
  refine F.ok scRule (fun vs H Q E h => ?_) (fun cdv A outer s H vs Q E hr h => ?_)
  · obtain ⟨l, p, q, k, t, s, c, b, rfl, _⟩ := h
    rfl
  · obtain ⟨l, p, q, k, t, s, c, b, rfl, hl, o, ot, kk⟩ := h
    refine ⟨_, pss_cons (ps_asg (pv 0) (pg_tup (by rfl) (pgs_cons (pg_name (i := 2) scRule.nd rfl (.inl rfl)) (pgs_cons (pg_name (i := 3) scRule.nd rfl (.inl rfl)) (pgs_cons (pg_name (i := 4) scRule.nd rfl (.inl rfl)) (pgs_cons (pg_name (i := 5) scRule.nd rfl (.inl rfl)) (pgs_cons (pg_name (i := 6) scRule.nd rfl (.inl rfl)) (pgs_cons (pg_name (i := 7) scRule.nd rfl (.inl rfl)) pgs_nil))))))))
      (pss_one (ps_ret (pe_ifExp (pt_val (pv 1))
        (pe_makeN (n := 2) MN GN hr (by rfl) gN bN pass0 (pa_cons (pe_tup (pa_cons (pv 2) (pa_cons (pv 3) pa_nil))) (pa_cons (pv 4) pa_nil))
          (pk_cons (pe_tup (pa_cons (pv 5) (pa_cons (pv 6) pa_nil))) (pk_cons (pe_callB (call_max2 rfl) (by rfl) T.max (by decide +kernel) (pa_cons (pe_un un_neg pe_int) (pa_cons (pe_callTy call_int1 (by rfl) T.int (by decide +kernel) (pa_cons (pv 7) pa_nil)) pa_nil))) pk_nil)))
        (pe_make MT GT hr (by rfl) gT bT .nil pass0 (pa_cons (pe_tup (pa_cons (pv 2) (pa_cons (pv 3) pa_nil))) (pa_cons (pv 4) pa_nil)))))), ?_⟩
    obtain ⟨o1, o2, o3, o4, o5, o6⟩ := o
    refine ⟨_, rfl, l, _, rfl, SqT.of hl, rfl, _, _, rfl, _, _, rfl, _, _, rfl, _, _, rfl, _, _, rfl, _, _, rfl, rfl, ?_⟩
    refine ⟨_, rfl, b, rfl, ite2 (fun e => ?_) (fun e => ?_)⟩
    · refine ⟨_, rfl, _, rfl, (by show 2 ≤ sizeLine; decide), fun tp ntp => ⟨_, rfl, ?_⟩⟩
      refine ⟨_, rfl, _, rfl, (by show 2 ≤ sizeLine; decide), fun tq ntq => ?_⟩
      refine ⟨_, rfl, _, rfl, .inl ⟨_, rfl, _, _, rfl, ?_⟩⟩
      rw [max6 ot.2.2.1]
      refine ⟨rfl, rfl, fun x dx nx ndx nex => ?_⟩
      have f1 : upd (upd H tp (.tup [.int p, .int q])) tq (.tup [.int t, .int s]) tp = some (.tup [.int p, .int q]) := same_new ntq _ _ upd_same
      have f2 : upd (upd H tp (.tup [.int p, .int q])) tq (.tup [.int t, .int s]) tq = some (.tup [.int t, .int s]) := upd_same
      have s2 : Same H (upd (upd H tp (.tup [.int p, .int q])) tq (.tup [.int t, .int s])) := (same_new ntp).trans (same_new ntq)
      generalize upd (upd H tp (.tup [.int p, .int q])) tq (.tup [.int t, .int s]) = H2 at f1 f2 s2 nx ndx ⊢
      have keep : ∀ (o1 o2 : HO) (b : Addr) (u : HO), H2 b = some u → upd (upd H2 dx o1) x o2 b = some u := fun o1 o2 b u e => by
        rw [upd_ne (ne_of_none e nx), upd_ne (ne_of_none e ndx)]; exact e
      refine ⟨x, dx, tp, tq, p, q, k, t, s, c, rfl, upd_same, keep _ _ _ _ f1, keep _ _ _ _ f2, o1, o2, o3, o4, o5, o6, ot.1, ot.2.1, ot.2.2.1, ot.2.2.2, fun H3 t3 hx3 => ⟨rfl, ?_⟩⟩
      have s3 : ∀ b u, H2 b = some u → H3 b = some u := fun b u e => t3 _ _ (ne_of_none e nx) (keep _ _ _ _ e)
      exact kk x H3 (.tn p q k t s c) (fun b u e => s3 _ _ (s2 _ _ e)) ⟨dx, tp, tq, hx3, s3 _ _ f1, s3 _ _ f2⟩ ⟨⟨o1, o2, o3, o4, o5, o6⟩, ot⟩ rfl rfl rfl
    · refine ⟨_, rfl, _, rfl, (by show 2 ≤ sizeLine; decide), fun tp ntp => ⟨_, rfl, fun x dx nx ndx nex => ?_⟩⟩
      have f1 : upd H tp (.tup [.int p, .int q]) tp = some (.tup [.int p, .int q]) := upd_same
      have s2 : Same H (upd H tp (.tup [.int p, .int q])) := same_new ntp
      generalize upd H tp (.tup [.int p, .int q]) = H2 at f1 s2 nx ndx ⊢
      have keep : ∀ (o1 o2 : HO) (b : Addr) (u : HO), H2 b = some u → upd (upd H2 dx o1) x o2 b = some u := fun o1 o2 b u e => by
        rw [upd_ne (ne_of_none e nx), upd_ne (ne_of_none e ndx)]; exact e
      refine ⟨x, dx, tp, p, q, k, rfl, upd_same, keep _ _ _ _ f1, o1, o2, o3, o4, o5, o6, fun H3 t3 hx3 => ⟨rfl, ?_⟩⟩
      have s3 : ∀ b u, H2 b = some u → H3 b = some u := fun b u e => t3 _ _ (ne_of_none e nx) (keep _ _ _ _ e)
      exact kk x H3 (.tr p q k) (fun b u e => s3 _ _ (s2 _ _ e)) ⟨dx, tp, hx3, s3 _ _ f1⟩ ⟨o1, o2, o3, o4, o5, o6⟩ rfl rfl rfl
end
end Ev
namespace Ev
open PySem L2 PySem.Spec PyProof.Rows
/-! ### shapes, gone through in the order of their parts -/
inductive Sh
  | e
  | n (l r : Sh)
deriving DecidableEq
def Sh.full : Sh → Bool
  | .e => false
  | .n _ _ => true
def Sh.fold (b : Int) (f : Int → Int → Int) : Sh → Int
  | .e => b
  | .n l r => f (l.fold b f) (r.fold b f)
def Sh.many : Sh → Nat
  | .e => 0
  | .n l r => l.many + r.many + 1
/-- how many parts before a place hold sides -/
def cn (P : List Sh) (j : Nat) : Nat := ((P.take j).filter Sh.full).length
theorem cn_zero (P : List Sh) : cn P 0 = 0 := by simp [cn]
theorem cn_succ {P : List Sh} {j : Nat} {s : Sh} (h : P[j]? = some s) : cn P (j + 1) = cn P j + (if s.full then 1 else 0) := by
  unfold cn
  rw [List.take_add_one, h, List.filter_append, List.length_append]
  cases s <;> rfl
theorem cn_mono {P : List Sh} {i j : Nat} (h : i ≤ j) : cn P i ≤ cn P j := by
  unfold cn
  obtain ⟨d, rfl⟩ := Nat.exists_eq_add_of_le h
  rw [List.take_add, List.filter_append, List.length_append]
  omega
theorem cn_app (P Q : List Sh) {j : Nat} (h : j ≤ P.length) : cn (P ++ Q) j = cn P j := by
  unfold cn
  rw [List.take_append_of_le_length h]
/-- all parts of a shape, the sides of the c-th that has sides at 1 + 2 c and 2 + 2 c -/
structure Clo (P : List Sh) : Prop where
  len : P.length = 1 + 2 * cn P P.length
  lt : ∀ j, j < P.length → j < 1 + 2 * cn P j
  kid : ∀ j l r, P[j]? = some (.n l r) → P[1 + 2 * cn P j]? = some l ∧ P[2 + 2 * cn P j]? = some r
/-- values that are the parts -/
def ShAt (H : Hp) : Sh → V → Prop
  | .e, v => ∃ a, v = .ref a ∧ H a = some (.tup [])
  | .n l r, v => ∃ a x y, v = .ref a ∧ H a = some (.tup [x, y]) ∧ ShAt H l x ∧ ShAt H r y
theorem ShAt.keep {H H' : Hp} (k : Same H H') : ∀ {s : Sh} {v : V}, ShAt H s v → ShAt H' s v
  | .e, v, ⟨a, e1, e2⟩ => ⟨a, e1, k _ _ e2⟩
  | .n l r, v, ⟨a, x, y, e1, e2, e3, e4⟩ => ⟨a, x, y, e1, k _ _ e2, e3.keep k, e4.keep k⟩
/-- what does not change tuples -/
def TupK (H H' : Hp) : Prop := ∀ a xs, H a = some (.tup xs) → H' a = some (.tup xs)
theorem ShAt.tupk {H H' : Hp} (k : TupK H H') : ∀ {s : Sh} {v : V}, ShAt H s v → ShAt H' s v
  | .e, v, ⟨a, e1, e2⟩ => ⟨a, e1, k _ _ e2⟩
  | .n l r, v, ⟨a, x, y, e1, e2, e3, e4⟩ => ⟨a, x, y, e1, k _ _ e2, e3.tupk k, e4.tupk k⟩
theorem Same.tupk {H H' : Hp} (k : Same H H') : TupK H H' := fun a xs e => k _ _ e
theorem TupK.trans {H H1 H2 : Hp} (a : TupK H H1) (b : TupK H1 H2) : TupK H H2 := fun c xs e => b _ _ (a _ _ e)
theorem TupK.refl (H : Hp) : TupK H H := fun _ _ e => e
theorem But.tupk {p : Addr} {H H' : Hp} {ys : List V} (k : But p H H') (h : H p = some (.lst ys)) : TupK H H' := fun a xs e => k _ _ (ne_of e h (by intro z; cases z)) e
def VP (H : Hp) (P : List Sh) (xs : List V) : Prop := xs.length = P.length ∧ ∀ (i : Nat) (s : Sh), P[i]? = some s → ∃ x, xs[i]? = some x ∧ ShAt H s x
theorem VP.keep {H H' : Hp} {P : List Sh} {xs : List V} (h : VP H P xs) (k : TupK H H') : VP H' P xs := ⟨h.1, fun i s e => by
  obtain ⟨x, e1, e2⟩ := h.2 i s e
  exact ⟨x, e1, e2.tupk k⟩⟩
theorem ShAt.tup {H : Hp} {s : Sh} {v : V} (h : ShAt H s v) : ∃ (a : Addr) (ys : List V), v = .ref a ∧ H a = some (.tup ys) ∧ ys.length = (if s.full then 2 else 0) := by
  cases s with
  | e => obtain ⟨a, e1, e2⟩ := h; exact ⟨a, _, e1, e2, rfl⟩
  | n l r => obtain ⟨a, x, y, e1, e2, _⟩ := h; exact ⟨a, _, e1, e2, rfl⟩
/-- the places that have sides, from the last one back, of the last i places -/
def jd (P : List Sh) : Nat → List Nat
  | 0 => []
  | i + 1 => jd P i ++ (match P[P.length - 1 - i]? with
    | some (.n _ _) => [P.length - 1 - i]
    | _ => [])
theorem jd_mem {P : List Sh} : ∀ {i : Nat}, i ≤ P.length → ∀ j, j ∈ jd P i ↔ P.length - i ≤ j ∧ ∃ l r, P[j]? = some (.n l r)
  | 0, _, j => by
    constructor
    · intro h; cases h
    · rintro ⟨h, l, r, e⟩
      have := (List.getElem?_eq_some_iff.mp e).1
      omega
  | i + 1, hi, j => by
    have ih := jd_mem (P := P) (i := i) (by omega) j
    unfold jd
    rw [List.mem_append, ih]
    constructor
    · rintro (⟨h, l, r, e⟩ | h)
      · exact ⟨by omega, l, r, e⟩
      · split at h
        · rename_i l r e
          obtain rfl := List.mem_singleton.mp h
          exact ⟨by omega, l, r, e⟩
        · cases h
    · rintro ⟨h, l, r, e⟩
      by_cases z : P.length - i ≤ j
      · exact .inl ⟨z, l, r, e⟩
      · have : j = P.length - 1 - i := by omega
        subst this
        rw [e]
        exact .inr (List.mem_singleton.mpr rfl)
theorem jd_sorted {P : List Sh} : ∀ {i : Nat}, i ≤ P.length → (jd P i).Pairwise (fun a b => b < a)
  | 0, _ => .nil
  | i + 1, hi => by
    unfold jd
    rw [List.pairwise_append]
    refine ⟨jd_sorted (by omega), ?_, fun a ha b hb => ?_⟩
    · split
      · exact List.pairwise_singleton _ _
      · exact .nil
    · have h1 := ((jd_mem (P := P) (i := i) (by omega) a).mp ha).1
      split at hb
      · obtain rfl := List.mem_singleton.mp hb
        omega
      · cases hb
theorem jd_len (P : List Sh) : ∀ i : Nat, (jd P i).length ≤ i
  | 0 => Nat.le_refl _
  | i + 1 => by
    have := jd_len P i
    unfold jd
    rw [List.length_append]
    split <;> simp <;> omega
/-- the amounts of parts behind i joints -/
def wv (b : Int) (f : Int → Int → Int) (P : List Sh) (i : Nat) : List Int := (List.range P.length).map fun (j : Nat) => match P[j]? with
  | some (Sh.n l r) => if j ∈ (jd P P.length).take i then (Sh.n l r).fold b f else b
  | _ => b
theorem wv_len (b : Int) (f : Int → Int → Int) (P : List Sh) (i : Nat) : (wv b f P i).length = P.length := by unfold wv; simp
theorem wv_get {b : Int} {f : Int → Int → Int} {P : List Sh} {i j : Nat} (h : j < P.length) : (wv b f P i)[j]? = some (match P[j]? with
  | some (Sh.n l r) => if j ∈ (jd P P.length).take i then (Sh.n l r).fold b f else b
  | _ => b) := by
  unfold wv
  rw [List.getElem?_map, List.getElem?_range h]
  rfl
theorem wv_zero (b : Int) (f : Int → Int → Int) (P : List Sh) : wv b f P 0 = List.replicate P.length b := by
  refine List.ext_getElem? fun j => ?_
  by_cases h : j < P.length
  · rw [wv_get h, List.getElem?_replicate, if_pos h, List.take_zero]
    split <;> simp
  · rw [List.getElem?_eq_none (by rw [wv_len]; omega), List.getElem?_eq_none (by simp; omega)]
/-- a part behind the next joint is reckoned already -/
theorem wv_done {b : Int} {f : Int → Int → Int} {P : List Sh} {i j m : Nat} {s : Sh} (hi : (jd P P.length)[i]? = some j) (hm : j < m) (hs : P[m]? = some s) : (wv b f P i)[m]? = some (s.fold b f) := by
  have ml := (List.getElem?_eq_some_iff.mp hs).1
  rw [wv_get ml, hs]
  cases s with
  | e => rfl
  | n l r =>
    have mem : m ∈ jd P P.length := (jd_mem (Nat.le_refl _) m).mpr ⟨by omega, l, r, hs⟩
    obtain ⟨x, hx, ex⟩ := List.getElem_of_mem mem
    have sorted := jd_sorted (P := P) (Nat.le_refl _)
    have xi : x < i := by
      by_cases z : x < i
      · exact z
      · obtain ⟨hj, ej⟩ := List.getElem?_eq_some_iff.mp hi
        by_cases y : x = i
        · subst y
          omega
        · have := List.pairwise_iff_getElem.mp sorted i x hj hx (by omega)
          omega
    have : m ∈ (jd P P.length).take i := by
      rw [← ex]
      exact List.mem_take_iff_getElem.mpr ⟨x, by omega, rfl⟩
    simp only
    rw [if_pos this]
theorem wv_step {b : Int} {f : Int → Int → Int} {P : List Sh} {i j : Nat} {l r : Sh} (hi : (jd P P.length)[i]? = some j) (hs : P[j]? = some (.n l r)) : (wv b f P i).set j ((Sh.n l r).fold b f) = wv b f P (i + 1) := by
  have jl := (List.getElem?_eq_some_iff.mp hs).1
  refine List.ext_getElem? fun m => ?_
  by_cases h : m < P.length
  · rw [List.getElem?_set, wv_len, wv_get h, wv_get h]
    have tk : (jd P P.length).take (i + 1) = (jd P P.length).take i ++ [j] := by rw [List.take_add_one, hi]; rfl
    by_cases e : j = m
    · subst e
      rw [if_pos rfl, if_pos h, hs]
      simp only [tk]
      rw [if_pos (List.mem_append_right _ (List.mem_singleton.mpr rfl))]
    · rw [if_neg e]
      congr 1
      split
      · rename_i l' r' e'
        have : (m ∈ (jd P P.length).take (i + 1)) ↔ m ∈ (jd P P.length).take i := by
          rw [tk, List.mem_append, List.mem_singleton]
          exact ⟨fun z => z.elim id fun z => absurd z.symm e, .inl⟩
        simp only [this]
      · rfl
  · rw [List.getElem?_eq_none (by rw [List.length_set, wv_len]; omega), List.getElem?_eq_none (by rw [wv_len]; omega)]
theorem wv_end {b : Int} {f : Int → Int → Int} {P : List Sh} {m : Nat} {s : Sh} (hs : P[m]? = some s) : (wv b f P (jd P P.length).length)[m]? = some (s.fold b f) := by
  have ml := (List.getElem?_eq_some_iff.mp hs).1
  rw [wv_get ml, hs]
  cases s with
  | e => rfl
  | n l r =>
    have mem : m ∈ jd P P.length := (jd_mem (Nat.le_refl _) m).mpr ⟨by omega, l, r, hs⟩
    simp only [List.take_length]
    rw [if_pos mem]
end Ev
namespace Ev
open PySem L2 PySem.Spec PyProof.Rows
abbrev sJointsOf : Stmt := top 48
abbrev sWeightsOf : Stmt := top 49
abbrev sAreJointsFair : Stmt := top 50
def prO (P : List Sh) (j : Nat) : HO := .tup [.int (j : Int), .int ((1 + 2 * cn P j : Nat) : Int)]
def Prs (H : Hp) (P : List Sh) (ts : List Addr) (js : List Nat) : Prop := Paired (fun t j => H t = some (prO P j)) ts js
theorem Prs.keep {H H' : Hp} {P : List Sh} (k : TupK H H') {ts : List Addr} {js : List Nat} (h : Prs H P ts js) : Prs H' P ts js := by
  induction h with
  | nil => exact .nil
  | cons x t ih => exact .cons (k _ _ x) ih
theorem Prs.snoc {H : Hp} {P : List Sh} {ts : List Addr} {js : List Nat} {t : Addr} {j : Nat} (h : Prs H P ts js) (e : H t = some (prO P j)) : Prs H P (ts ++ [t]) (js ++ [j]) := by
  induction h with
  | nil => exact .cons e .nil
  | cons x t ih => exact .cons x ih
theorem Prs.at {H : Hp} {P : List Sh} : ∀ {ts : List Addr} {js : List Nat} {i : Nat} {t : Addr}, Prs H P ts js → ts[i]? = some t → ∃ j, js[i]? = some j ∧ H t = some (prO P j)
  | _, _, 0, _, .cons e _, h => by cases h; exact ⟨_, rfl, e⟩
  | _, _, i + 1, _, .cons _ r, h => by
    obtain ⟨j, e1, e2⟩ := Prs.at r (by simpa using h)
    exact ⟨j, by simpa using e1, e2⟩
theorem Prs.rev {H : Hp} {P : List Sh} {ts : List Addr} {js : List Nat} (h : Prs H P ts js) : Prs H P ts.reverse js.reverse := by
  induction h with
  | nil => exact .nil
  | cons x t ih =>
    rw [List.reverse_cons, List.reverse_cons]
    exact Prs.snoc ih x
/-- the places that have sides among the first i places -/
def jf (P : List Sh) : Nat → List Nat
  | 0 => []
  | i + 1 => jf P i ++ (match P[i]? with
    | some (.n _ _) => [i]
    | _ => [])
theorem jf_split (P : List Sh) : ∀ i, i ≤ P.length → jf P P.length = jf P (P.length - i) ++ (jd P i).reverse
  | 0, _ => by simp [jd]
  | i + 1, h => by
    rw [jf_split P i (by omega)]
    have e : P.length - i = P.length - (i + 1) + 1 := by omega
    have jds : jd P (i + 1) = jd P i ++ (match P[P.length - 1 - i]? with
      | some (.n _ _) => [P.length - 1 - i]
      | _ => []) := rfl
    have jfs : jf P (P.length - (i + 1) + 1) = jf P (P.length - (i + 1)) ++ (match P[P.length - (i + 1)]? with
      | some (.n _ _) => [P.length - (i + 1)]
      | _ => []) := rfl
    rw [e, jds, jfs, List.reverse_append, List.append_assoc, show P.length - 1 - i = P.length - (i + 1) by omega]
    congr 2
    generalize P[P.length - (i + 1)]? = o
    rcases o with _ | _ | ⟨l, r⟩ <;> rfl
theorem jf_rev (P : List Sh) : (jf P P.length).reverse = jd P P.length := by
  rw [jf_split P P.length (Nat.le_refl _), Nat.sub_self]
  simp [jf]
theorem jf_len {P : List Sh} : ∀ j, j ≤ P.length → (jf P j).length = cn P j
  | 0, _ => by rw [cn_zero]; rfl
  | j + 1, h => by
    have e : P[j]? = some P[j] := List.getElem?_eq_getElem (by omega)
    rw [cn_succ e]
    unfold jf
    rw [List.length_append, jf_len j (by omega), e]
    cases P[j] <;> rfl
theorem jf_app (P Q : List Sh) : ∀ j, j ≤ P.length → jf (P ++ Q) j = jf P j
  | 0, _ => rfl
  | j + 1, h => by
    unfold jf
    rw [jf_app P Q j (by omega), List.getElem?_append_left (by omega)]
/-- what goes through all joints of a value -/
def spJoints (NS : Hp → V → Prop) : Sp := fun vs H Q _ => ∃ v, vs = [v] ∧ ((∃ s, ShAt H s v ∧ s.many ≤ 3000 ∧ ∀ (l : Addr) (P : List Sh) (ts : List Addr) (H' : Hp), H l = none → Same H H' → H' l = some (.lst (ts.map V.ref)) → Prs H' P ts (jf P P.length) → Clo P → P[0]? = some s → P.length = 1 + 2 * s.many → Q (.ref l) H') ∨
  (NS H v ∧ ∀ H', Same H H' → Q .non H'))
end Ev
namespace Ev
open PySem L2 PySem.Spec PyProof.Rows
abbrev sKeysOf : Stmt := top 52
abbrev sHeightOf : Stmt := top 53
abbrev sIsFair : Stmt := top 54
abbrev sNeedJoints : Stmt := top 55
theorem ixN_nat {n j : Nat} (h : j < n) : ixN n (j : Int) = some j := by
  unfold ixN
  rw [if_pos (by omega)]
  simp [h]
def Sh.wt (s : Sh) : Int := s.fold 1 (fun a b => a + b)
def Sh.ht (s : Sh) : Int := s.fold 0 (fun a b => 1 + if b < a then a else b)
def spWof : Sp := fun vs H Q _ => ∃ (a : Addr) (P : List Sh) (ts : List Addr), vs = [.ref a] ∧ H a = some (.lst (ts.map V.ref)) ∧ Prs H P ts (jf P P.length) ∧ Clo P ∧ P.length ≤ 1000000 ∧
  ∀ (l : Addr) (H' : Hp), H l = none → TupK H H' → Same H H' → H' l = some (.lst ((P.map Sh.wt).map V.int)) → Q (.ref l) H'
theorem ts_len {H : Hp} {P : List Sh} {ts : List Addr} (cl : Clo P) (h : Prs H P ts (jf P P.length)) : 2 * (ts.length : Int) + 1 = P.length := by
  have e := h.length
  rw [jf_len _ (Nat.le_refl _)] at e
  have := cl.len
  omega
theorem wv_map {b : Int} {f : Int → Int → Int} {P : List Sh} : wv b f P (jd P P.length).length = P.map (Sh.fold b f) := by
  refine List.ext_getElem? fun m => ?_
  rw [List.getElem?_map]
  by_cases h : m < P.length
  · rw [wv_end (List.getElem?_eq_getElem h), List.getElem?_eq_getElem h]
    rfl
  · rw [List.getElem?_eq_none (by rw [wv_len]; omega), List.getElem?_eq_none (l := P) (by omega)]
    rfl
section
variable {P : Program} {w : World} {K : PySem.W.Frag} {mg : Str → Option Value} {base : Heap}
theorem rep_one (b : Int) (n : Nat) : (List.replicate n [V.int b]).flatten = (List.replicate n b).map V.int := by
  induction n with
  | zero => rfl
  | succ n ih => rw [List.replicate_succ, List.flatten_cons, ih, List.replicate_succ, List.map_cons]; rfl
theorem scWeightsOf : FnScope ["joints", "weights", "place", "side"] ["joints"] (defScope sWeightsOf) := ⟨rfl, rfl, rfl, by decide +kernel, rfl, by decide +kernel, by decide +kernel⟩
theorem ok_wof {f : Addr} {fd : FuncData} (F : Fun K "weights_of" "weights_of" sWeightsOf f fd) (T : Blt mg) : FnOk P w K mg base CX0 2 f fd ["joints"] spWof := by
  refine F.ok scWeightsOf (fun vs H Q E h => ?_) (fun cdv A outer s H vs Q E hr h => ?_)
  · obtain ⟨a, P, ts, rfl, _⟩ := h
    rfl
  · obtain ⟨a, P, ts0, rfl, ha, pr0, cl, hb, kk⟩ := h
    refine ⟨_, pss_cons (ps_set (i := 1) scWeightsOf.nd rfl (.inl rfl) (pe_op op_rep (pe_lst (pa_cons pe_int pa_nil)) (pe_op op_add (pe_op op_mul pe_int (pe_callB call_len_seq (by rfl) T.len PySem.boot_len (pa_cons (pv 0) pa_nil))) pe_int)))
      (pss_cons (ps_for PassesOwn.never rfl (pi_list (pe_revL (pv 0))) (pg_tup (by rfl) (pgs_cons (pg_name (i := 2) scWeightsOf.nd rfl (.inl rfl)) (pgs_cons (pg_name (i := 3) scWeightsOf.nd rfl (.inl rfl)) pgs_nil)))
        (pss_one (ps_asg (pe_op op_add (pe_ix ix_list (pv 1) (pv 3) (fun _ _ => rfl)) (pe_ix ix_list (pv 1) (pe_op op_add (pv 3) pe_int) (fun _ _ => rfl))) (pg_sub (pv 1) (pv 2) set_list))))
      (pss_one (ps_ret (pv 1)))), ?_⟩
    have hx : 2 * (((ts0.map V.ref).length : Nat) : Int) + 1 = (P.length : Int) := by rw [List.length_map]; exact ts_len cl pr0
    refine ⟨(by show 1 ≤ sizeLine; decide), fun l0 nl0 => ?_⟩
    have s0 : Same H (upd H l0 (.lst [.int 1])) := same_new nl0
    refine ⟨_, rfl, a, _, rfl, .inl (SqL.of (s0 _ _ ha)), _, _, rfl, rfl, .inl ⟨by decide, by decide⟩, _, _, rfl, rfl, ?_⟩
    refine ⟨l0, (P.length : Int), _, rfl, congrArg V.int hx, upd_same, by omega, by omega, ?_, fun l nl => ?_⟩
    · show 1 * ((P.length : Int)).toNat ≤ sizeLine
      exact Nat.le_trans (show _ ≤ 1000000 by omega) (by decide)
    have s1 : Same H (upd (upd H l0 (.lst [.int 1])) l (.lst ((List.replicate ((P.length : Int)).toNat [V.int 1]).flatten))) := s0.trans (same_new nl)
    have hl : upd (upd H l0 (.lst [.int 1])) l (.lst ((List.replicate ((P.length : Int)).toNat [V.int 1]).flatten)) l = some (.lst ((wv 1 (fun a b => a + b) P 0).map V.int)) := by
      rw [upd_same, wv_zero, rep_one, show ((P.length : Int)).toNat = P.length by omega]
    have nlH : H l = none := by
      cases z : H l with
      | none => rfl
      | some o => rw [s0 _ _ z] at nl; cases nl
    generalize upd (upd H l0 (.lst [.int 1])) l (.lst ((List.replicate ((P.length : Int)).toNat [V.int 1]).flatten)) = H1 at s1 hl ⊢
    refine ⟨_, rfl, a, _, rfl, SqL.of (s1 _ _ ha), fun jl njl => ?_⟩
    obtain ⟨ts, hts⟩ : ∃ ts, ts = ts0.reverse := ⟨_, rfl⟩
    have s2 : Same H1 (upd H1 jl (.lst (ts0.map V.ref).reverse)) := same_new njl
    have hjl : upd H1 jl (.lst (ts0.map V.ref).reverse) jl = some (.lst (ts.map V.ref)) := by rw [upd_same, hts, List.map_reverse]
    have pr : Prs (upd H1 jl (.lst (ts0.map V.ref).reverse)) P ts (jd P P.length) := by
      rw [hts, ← jf_rev]
      exact ((pr0.keep (Same.tupk s1)).rev).keep (Same.tupk s2)
    generalize upd H1 jl (.lst (ts0.map V.ref).reverse) = H2 at s2 hjl pr ⊢
    have jne : jl ≠ l := (ne_of_none hl njl).symm
    have hl2 := s2 _ _ hl
    refine ⟨jl, rfl, ⟨_, SqL.of hjl⟩, for_list (K := K) (a := jl) (xs := ts.map V.ref) (fun i σ H3 => ∃ v2 v3 : Option V, σ = [some (.ref a), some (.ref l), v2, v3] ∧ H3 l = some (.lst ((wv 1 (fun a b => a + b) P i).map V.int)) ∧ But l H2 H3)
      ⟨none, none, rfl, hl2, But.refl _ _⟩ (fun i σ H3 _ ⟨_, _, _, _, bt⟩ => SqL.of (bt _ _ jne hjl)) ?_ ?_⟩
    · rintro i y σ H3 hy ⟨v2, v3, rfl, hl3, bt⟩
      rw [List.getElem?_map] at hy
      cases et : ts[i]? with
      | none => rw [et] at hy; cases hy
      | some t =>
        rw [et] at hy
        obtain rfl := Option.some.inj hy
        have bk := bt.tupk hl2
        obtain ⟨j, ej, ht⟩ := Prs.at (pr.keep bk) et
        have jm := (jd_mem (Nat.le_refl P.length) j).mp (List.mem_of_getElem? ej)
        obtain ⟨_, l', r', es⟩ := jm
        obtain ⟨c1, c2⟩ := cl.kid j l' r' es
        have jlt := cl.lt j (List.getElem?_eq_some_iff.mp es).1
        have w1 := wv_done (b := 1) (f := fun a b => a + b) ej jlt c1
        have w2 := wv_done (b := 1) (f := fun a b => a + b) ej (show j < 2 + 2 * cn P j by omega) c2
        have x1 : ((wv 1 (fun a b => a + b) P i).map V.int)[1 + 2 * cn P j]? = some (V.int (l'.fold 1 (fun a b => a + b))) := by rw [List.getElem?_map, w1]; rfl
        have x2 : ((wv 1 (fun a b => a + b) P i).map V.int)[2 + 2 * cn P j]? = some (V.int (r'.fold 1 (fun a b => a + b))) := by rw [List.getElem?_map, w2]; rfl
        have a2 : atI ((wv 1 (fun a b => a + b) P i).map V.int) (((1 + 2 * cn P j : Nat) : Int) + 1) = some (V.int (r'.fold 1 (fun a b => a + b))) := by
          rw [show ((1 + 2 * cn P j : Nat) : Int) + 1 = ((2 + 2 * cn P j : Nat) : Int) by omega]
          exact atI_nat x2
        have jlen : j < ((wv 1 (fun a b => a + b) P i).map V.int).length := by
          rw [List.length_map, wv_len]
          exact (List.getElem?_eq_some_iff.mp es).1
        refine ⟨t, _, rfl, SqT.of ht, rfl, _, _, rfl, _, _, rfl, rfl, ?_⟩
        refine ⟨_, rfl, _, rfl, l, _, _, _, rfl, rfl, SqL.of hl3, atI_nat x1, _, rfl, _, rfl, _, _, rfl, rfl, l, _, _, _, rfl, rfl, SqL.of hl3, a2, _, _, rfl, rfl, ?_⟩
        refine ⟨_, rfl, _, rfl, l, _, _, _, rfl, rfl, hl3, ixN_nat jlen, ?_⟩
        refine ⟨_, _, rfl, ?_, bt.trans But.upd_at⟩
        rw [upd_same, ← wv_step ej es, List.map_set]
        rfl
    · rintro σ H3 ⟨v2, v3, rfl, hl3, bt⟩
      have e := pr.length
      rw [List.length_map, e, wv_map] at hl3
      refine ⟨_, rfl, kk l H3 nlH ?_ ?_ hl3⟩
      · exact (Same.tupk s1).trans ((Same.tupk s2).trans (bt.tupk hl2))
      · exact fun c o q => bt _ _ (ne_of_none q nlH) (s2 _ _ (s1 _ _ q))
theorem scNeedJoints : FnScope ["shape", "joints"] ["shape"] (defScope sNeedJoints) := ⟨rfl, rfl, rfl, by decide +kernel, rfl, by decide +kernel, by decide +kernel⟩
def spNeedJ : Sp := fun vs H Q _ => ∃ (v : V) (s : Sh), vs = [v] ∧ ShAt H s v ∧ s.many ≤ 3000 ∧ ∀ (l : Addr) (P : List Sh) (ts : List Addr) (H' : Hp), H l = none → Same H H' → H' l = some (.lst (ts.map V.ref)) → Prs H' P ts (jf P P.length) → Clo P → P[0]? = some s → P.length = 1 + 2 * s.many → Q (.ref l) H'
theorem ok_needJ {f : Addr} {fd : FuncData} {NS : Hp → V → Prop} {k : Nat} (F : Fun K "need_joints" "need_joints" sNeedJoints f fd) (D : Df P w K mg base k "joints_of" ["shape"] (spJoints NS)) : FnOk P w K mg base CX0 (k + 1) f fd ["shape"] spNeedJ := by
  obtain ⟨f1, fd1, G1, g1, k1, b1⟩ := D.ex
  refine F.ok scNeedJoints (fun vs H Q E h => ?_) (fun cdv A outer s H vs Q E hr h => ?_)
  · obtain ⟨v, s, rfl, _⟩ := h
    rfl
  · obtain ⟨v, s, rfl, hs, hm, kk⟩ := h
    refine ⟨_, pss_cons (ps_set (i := 1) scNeedJoints.nd rfl (.inl rfl) (pe_call G1 hr (by rfl) g1 k1 b1 .nil pass0 (pa_cons (pv 0) pa_nil)))
      (pss_cons (ps_if (pt_cmpR op_isN (pv 1) pe_non (nomark _)) (pss_one ps_never) pss_nil) (pss_one (ps_ret (pv 1)))), ?_⟩
    refine ⟨_, rfl, v, rfl, .inl ⟨s, hs, hm, fun l P xs H' nl sm hl vp cl e0 en => ?_⟩⟩
    refine ⟨_, rfl, rfl, _, rfl, ite2 (fun e => absurd (of_decide_eq_true e) (by intro z; cases z)) (fun _ => ?_)⟩
    exact ⟨_, rfl, kk l P xs H' nl sm hl vp cl e0 en⟩
end
end Ev
namespace Ev
open PySem L2 PySem.Spec PyProof.Rows
def spKeysOf : Sp := fun vs H Q _ => ∃ (v : V) (s : Sh), vs = [v] ∧ ShAt H s v ∧ s.many ≤ 3000 ∧ ∀ H' : Hp, Same H H' → Q (.int s.many) H'
def spHeightOf : Sp := fun vs H Q _ => ∃ (v : V) (s : Sh), vs = [v] ∧ ShAt H s v ∧ s.many ≤ 3000 ∧ ∀ H' : Hp, Same H H' → Q (.int s.ht) H'
def Sh.fair (p q k : Int) : Sh → Bool
  | .e => true
  | .n l r => fairB p q k l.wt r.wt && l.fair p q k && r.fair p q k
def fairAt (p q k : Int) (P : List Sh) (j : Nat) : Bool := match P[j]? with
  | some (.n l r) => fairB p q k l.wt r.wt
  | _ => true
theorem cn_has (P : List Sh) : ∀ n : Nat, n ≤ P.length → ∀ c, c < cn P n → ∃ i l r, i < n ∧ P[i]? = some (.n l r) ∧ cn P i = c
  | 0, _, c, h => by rw [cn_zero] at h; omega
  | n + 1, hn, c, h => by
    have e := cn_succ (P := P) (List.getElem?_eq_getElem (show n < P.length by omega))
    by_cases z : c < cn P n
    · obtain ⟨i, l, r, a, b, d⟩ := cn_has P n (by omega) c z
      exact ⟨i, l, r, by omega, b, d⟩
    · cases hs : P[n] with
      | e =>
        rw [hs] at e
        have e : cn P (n + 1) = cn P n := e
        omega
      | n l r =>
        rw [hs] at e
        have e : cn P (n + 1) = cn P n + 1 := e
        exact ⟨n, l, r, by omega, by rw [List.getElem?_eq_getElem (show n < P.length by omega), hs], by omega⟩
theorem fair_up {p q k : Int} {P : List Sh} (cl : Clo P) (h : ∀ j, fairAt p q k P j = true) : ∀ (s : Sh) (j : Nat), P[j]? = some s → s.fair p q k = true
  | .e, _, _ => rfl
  | .n l r, j, e => by
    obtain ⟨c1, c2⟩ := cl.kid j l r e
    have hj := h j
    unfold fairAt at hj
    rw [e] at hj
    unfold Sh.fair
    rw [show fairB p q k l.wt r.wt = true from hj, fair_up cl h l _ c1, fair_up cl h r _ c2]
    rfl
theorem fair_down {p q k : Int} {P : List Sh} {s : Sh} (cl : Clo P) (h0 : P[0]? = some s) (hs : s.fair p q k = true) : ∀ (n j : Nat), j ≤ n → ∀ z, P[j]? = some z → z.fair p q k = true
  | 0, j, hj, z, e => by
    obtain rfl : j = 0 := by omega
    rw [h0] at e
    cases e
    exact hs
  | n + 1, j, hj, z, e => by
    by_cases y : j = 0
    · subst y
      rw [h0] at e
      cases e
      exact hs
    · have jl := (List.getElem?_eq_some_iff.mp e).1
      have len := cl.len
      obtain ⟨i, l, r, il, ei, ci⟩ := cn_has P P.length (Nat.le_refl _) ((j - 1) / 2) (by omega)
      have lt := cl.lt i il
      obtain ⟨c1, c2⟩ := cl.kid i l r ei
      have pf := fair_down cl h0 hs n i (by omega) _ ei
      unfold Sh.fair at pf
      rw [Bool.and_eq_true, Bool.and_eq_true] at pf
      rcases (show j = 1 + 2 * cn P i ∨ j = 2 + 2 * cn P i by omega) with w | w
      · rw [← w, e] at c1
        cases c1
        exact pf.1.2
      · rw [← w, e] at c2
        cases c2
        exact pf.2
theorem fair_all {p q k : Int} {P : List Sh} {s : Sh} (cl : Clo P) (h0 : P[0]? = some s) : ((jd P P.length).map (fairAt p q k P)).all id = s.fair p q k := by
  rw [Bool.eq_iff_iff, List.all_eq_true]
  constructor
  · intro h
    refine fair_up cl (fun j => ?_) s 0 h0
    unfold fairAt
    split
    · rename_i l r e
      have m := h (fairAt p q k P j) (List.mem_map.mpr ⟨j, (jd_mem (Nat.le_refl _) j).mpr ⟨by omega, l, r, e⟩, rfl⟩)
      unfold fairAt at m
      rw [e] at m
      exact m
    · rfl
  · intro h b hb
    obtain ⟨j, hj, rfl⟩ := List.mem_map.mp hb
    obtain ⟨_, l, r, e⟩ := (jd_mem (Nat.le_refl _) j).mp hj
    have f := fair_down cl h0 h j j (Nat.le_refl _) _ e
    unfold Sh.fair at f
    rw [Bool.and_eq_true, Bool.and_eq_true] at f
    unfold fairAt
    rw [e]
    exact f.1.1
section
variable {P : Program} {w : World} {K : PySem.W.Frag} {mg : Str → Option Value} {base : Heap}
theorem scKeysOf : FnScope ["shape"] ["shape"] (defScope sKeysOf) := ⟨rfl, rfl, rfl, by decide +kernel, rfl, by decide +kernel, by decide +kernel⟩
theorem ok_keysOf {f : Addr} {fd : FuncData} {k : Nat} (F : Fun K "keys_of" "keys_of" sKeysOf f fd) (T : Blt mg) (D : Df P w K mg base k "need_joints" ["shape"] spNeedJ) : FnOk P w K mg base CX0 (k + 1) f fd ["shape"] spKeysOf := by
  obtain ⟨f1, fd1, G1, g1, k1, b1⟩ := D.ex
  refine F.ok scKeysOf (fun vs H Q E h => ?_) (fun cdv A outer s H vs Q E hr h => ?_)
  · obtain ⟨v, s, rfl, _⟩ := h
    rfl
  · obtain ⟨v, s, rfl, hs, hm, kk⟩ := h
    refine ⟨_, pss_one (ps_ret (pe_callB call_len_seq (by rfl) T.len PySem.boot_len (pa_cons (pe_call G1 hr (by rfl) g1 k1 b1 .nil pass0 (pa_cons (pv 0) pa_nil)) pa_nil))), ?_⟩
    refine ⟨_, rfl, v, s, rfl, hs, hm, fun l P ts H' nl sm hl pr cl e0 en => ?_⟩
    refine ⟨l, _, rfl, .inl (SqL.of hl), ?_⟩
    have := ts_len cl pr
    show Q (.int (((ts.map V.ref).length : Nat) : Int)) H'
    rw [List.length_map, show (ts.length : Int) = (s.many : Int) by omega]
    exact kk H' sm
theorem scHeightOf : FnScope ["shape", "joints", "found", "place", "side", "left", "right"] ["shape"] (defScope sHeightOf) := ⟨rfl, rfl, rfl, by decide +kernel, rfl, by decide +kernel, by decide +kernel⟩
theorem ok_heightOf {f : Addr} {fd : FuncData} {k : Nat} (F : Fun K "height_of" "height_of" sHeightOf f fd) (T : Blt mg) (D : Df P w K mg base (k + 1) "need_joints" ["shape"] spNeedJ) : FnOk P w K mg base CX0 (k + 2) f fd ["shape"] spHeightOf := by
  obtain ⟨f1, fd1, G1, g1, k1, b1⟩ := D.ex
  refine F.ok scHeightOf (fun vs H Q E h => ?_) (fun cdv A outer s H vs Q E hr h => ?_)
  · obtain ⟨v, s, rfl, _⟩ := h
    rfl
  · obtain ⟨v, s, rfl, hs, hm, kk⟩ := h
    refine ⟨_, pss_cons (ps_set (i := 1) scHeightOf.nd rfl (.inl rfl) (pe_call G1 hr (by rfl) g1 k1 b1 .nil pass0 (pa_cons (pv 0) pa_nil)))
      (pss_cons (ps_set (i := 2) scHeightOf.nd rfl (.inl rfl) (pe_op op_rep (pe_lst (pa_cons pe_int pa_nil)) (pe_op op_add (pe_op op_mul pe_int (pe_callB call_len_seq (by rfl) T.len PySem.boot_len (pa_cons (pv 1) pa_nil))) pe_int)))
      (pss_cons (ps_for PassesOwn.never rfl (pi_list (pe_revL (pv 1))) (pg_tup (by rfl) (pgs_cons (pg_name (i := 3) scHeightOf.nd rfl (.inl rfl)) (pgs_cons (pg_name (i := 4) scHeightOf.nd rfl (.inl rfl)) pgs_nil)))
        (pss_cons (ps_par (i := 5) (j := 6) rfl scHeightOf.nd rfl rfl (by decide) rfl rfl (pa_cons (pe_ix ix_list (pv 2) (pv 4) (fun _ _ => rfl)) (pa_cons (pe_ix ix_list (pv 2) (pe_op op_add (pv 4) pe_int) (fun _ _ => rfl)) pa_nil)) (by rfl))
        (pss_one (ps_asg (pe_op op_add pe_int (pe_ifExp (pt_cmpR op_gt (pv 5) (pv 6) (nomark _)) (pv 5) (pv 6))) (pg_sub (pv 2) (pv 3) set_list)))))
      (pss_one (ps_ret (pe_ix ix_list (pv 2) pe_int (fun _ _ => rfl)))))), ?_⟩
    refine ⟨_, rfl, v, s, rfl, hs, hm, fun a P ts0 HA nla sa ha pr0 cl e0 en => ?_⟩
    have hx : 2 * (((ts0.map V.ref).length : Nat) : Int) + 1 = (P.length : Int) := by rw [List.length_map]; exact ts_len cl pr0
    have hb : P.length ≤ 1000000 := by omega
    refine ⟨(by show 1 ≤ sizeLine; decide), fun l0 nl0 => ?_⟩
    have s0 : Same HA (upd HA l0 (.lst [.int 0])) := same_new nl0
    refine ⟨_, rfl, a, _, rfl, .inl (SqL.of (s0 _ _ ha)), _, _, rfl, rfl, .inl ⟨by decide, by decide⟩, _, _, rfl, rfl, ?_⟩
    refine ⟨l0, (P.length : Int), _, rfl, congrArg V.int hx, upd_same, by omega, by omega, ?_, fun l nl => ?_⟩
    · show 1 * ((P.length : Int)).toNat ≤ sizeLine
      exact Nat.le_trans (show _ ≤ 1000000 by omega) (by decide)
    have s1 : Same HA (upd (upd HA l0 (.lst [.int 0])) l (.lst ((List.replicate ((P.length : Int)).toNat [V.int 0]).flatten))) := s0.trans (same_new nl)
    have hl : upd (upd HA l0 (.lst [.int 0])) l (.lst ((List.replicate ((P.length : Int)).toNat [V.int 0]).flatten)) l = some (.lst ((wv 0 (fun a b => 1 + if b < a then a else b) P 0).map V.int)) := by
      rw [upd_same, wv_zero, rep_one, show ((P.length : Int)).toNat = P.length by omega]
    have nlH : HA l = none := by
      cases z : HA l with
      | none => rfl
      | some o => rw [s0 _ _ z] at nl; cases nl
    generalize upd (upd HA l0 (.lst [.int 0])) l (.lst ((List.replicate ((P.length : Int)).toNat [V.int 0]).flatten)) = H1 at s1 hl ⊢
    refine ⟨_, rfl, a, _, rfl, SqL.of (s1 _ _ ha), fun jl njl => ?_⟩
    obtain ⟨ts, hts⟩ : ∃ ts, ts = ts0.reverse := ⟨_, rfl⟩
    have s2 : Same H1 (upd H1 jl (.lst (ts0.map V.ref).reverse)) := same_new njl
    have hjl : upd H1 jl (.lst (ts0.map V.ref).reverse) jl = some (.lst (ts.map V.ref)) := by rw [upd_same, hts, List.map_reverse]
    have pr : Prs (upd H1 jl (.lst (ts0.map V.ref).reverse)) P ts (jd P P.length) := by
      rw [hts, ← jf_rev]
      exact ((pr0.keep (Same.tupk s1)).rev).keep (Same.tupk s2)
    generalize upd H1 jl (.lst (ts0.map V.ref).reverse) = H2 at s2 hjl pr ⊢
    have jne : jl ≠ l := (ne_of_none hl njl).symm
    have hl2 := s2 _ _ hl
    refine ⟨jl, rfl, ⟨_, SqL.of hjl⟩, for_list (K := K) (a := jl) (xs := ts.map V.ref) (fun i σ H3 => ∃ v3 v4 v5 v6 : Option V, σ = [some v, some (.ref a), some (.ref l), v3, v4, v5, v6] ∧ H3 l = some (.lst ((wv 0 (fun a b => 1 + if b < a then a else b) P i).map V.int)) ∧ But l H2 H3)
      ⟨none, none, none, none, rfl, hl2, But.refl _ _⟩ (fun i σ H3 _ ⟨_, _, _, _, _, _, bt⟩ => SqL.of (bt _ _ jne hjl)) ?_ ?_⟩
    · rintro i y σ H3 hy ⟨v3, v4, v5, v6, rfl, hl3, bt⟩
      rw [List.getElem?_map] at hy
      cases et : ts[i]? with
      | none => rw [et] at hy; cases hy
      | some t =>
        rw [et] at hy
        obtain rfl := Option.some.inj hy
        have bk := bt.tupk hl2
        obtain ⟨j, ej, ht⟩ := Prs.at (pr.keep bk) et
        have jm := (jd_mem (Nat.le_refl P.length) j).mp (List.mem_of_getElem? ej)
        obtain ⟨_, l', r', es⟩ := jm
        obtain ⟨c1, c2⟩ := cl.kid j l' r' es
        have jlt := cl.lt j (List.getElem?_eq_some_iff.mp es).1
        have w1 := wv_done (b := 0) (f := fun a b => 1 + if b < a then a else b) ej jlt c1
        have w2 := wv_done (b := 0) (f := fun a b => 1 + if b < a then a else b) ej (show j < 2 + 2 * cn P j by omega) c2
        have x1 : ((wv 0 (fun a b => 1 + if b < a then a else b) P i).map V.int)[1 + 2 * cn P j]? = some (V.int l'.ht) := by rw [List.getElem?_map, w1]; rfl
        have x2 : ((wv 0 (fun a b => 1 + if b < a then a else b) P i).map V.int)[2 + 2 * cn P j]? = some (V.int r'.ht) := by rw [List.getElem?_map, w2]; rfl
        have a2 : atI ((wv 0 (fun a b => 1 + if b < a then a else b) P i).map V.int) (((1 + 2 * cn P j : Nat) : Int) + 1) = some (V.int r'.ht) := by
          rw [show ((1 + 2 * cn P j : Nat) : Int) + 1 = ((2 + 2 * cn P j : Nat) : Int) by omega]
          exact atI_nat x2
        have jlen : j < ((wv 0 (fun a b => 1 + if b < a then a else b) P i).map V.int).length := by
          rw [List.length_map, wv_len]
          exact (List.getElem?_eq_some_iff.mp es).1
        have fin : ∀ (σ' : L2.St) (v5 v6 : Option V) (z : Int), z = (Sh.n l' r').ht → σ' = [some v, some (.ref a), some (.ref l), some (.int (j : Int)), some (.int ((1 + 2 * cn P j : Nat) : Int)), v5, v6] → ∃ v3 v4 v5 v6 : Option V, σ' = [some v, some (.ref a), some (.ref l), v3, v4, v5, v6] ∧ upd H3 l (.lst (((wv 0 (fun a b => 1 + if b < a then a else b) P i).map V.int).set j (.int z))) l = some (.lst ((wv 0 (fun a b => 1 + if b < a then a else b) P (i + 1)).map V.int)) ∧ But l H2 (upd H3 l (.lst (((wv 0 (fun a b => 1 + if b < a then a else b) P i).map V.int).set j (.int z)))) := by
          rintro _ v5 v6 z rfl rfl
          refine ⟨_, _, _, _, rfl, ?_, bt.trans But.upd_at⟩
          rw [upd_same, ← wv_step ej es, List.map_set]
          rfl
        refine ⟨t, _, rfl, SqT.of ht, rfl, _, _, rfl, _, _, rfl, rfl, ?_⟩
        refine ⟨_, rfl, _, rfl, l, _, _, _, rfl, rfl, SqL.of hl3, atI_nat x1, _, rfl, _, rfl, _, _, rfl, rfl, l, _, _, _, rfl, rfl, SqL.of hl3, a2, _, _, rfl, ?_⟩
        refine ⟨_, rfl, _, rfl, _, _, rfl, rfl, _, rfl, ite2 (fun e => ?_) (fun e => ?_)⟩
        · have e : r'.ht < l'.ht := of_decide_eq_true e
          refine ⟨_, rfl, _, _, rfl, rfl, _, rfl, _, rfl, l, _, _, _, rfl, rfl, hl3, ixN_nat jlen, ?_⟩
          exact fin _ _ _ _ (by show 1 + l'.ht = 1 + if r'.ht < l'.ht then l'.ht else r'.ht; rw [if_pos e]) rfl
        · have e : ¬ (r'.ht < l'.ht) := fun z => e (decide_eq_true z)
          refine ⟨_, rfl, _, _, rfl, rfl, _, rfl, _, rfl, l, _, _, _, rfl, rfl, hl3, ixN_nat jlen, ?_⟩
          exact fin _ _ _ _ (by show 1 + r'.ht = 1 + if r'.ht < l'.ht then l'.ht else r'.ht; rw [if_neg e]) rfl
    · rintro σ H3 ⟨v3, v4, v5, v6, rfl, hl3, bt⟩
      have e := pr.length
      rw [List.length_map, e, wv_map] at hl3
      refine ⟨_, rfl, l, _, 0, .int s.ht, rfl, rfl, SqL.of hl3, atI_nat (j := 0) (by rw [List.getElem?_map, List.getElem?_map, e0]; rfl), ?_⟩
      exact kk H3 (fun c o q => bt _ _ (ne_of_none (sa _ _ q) nlH) (s2 _ _ (s1 _ _ (sa _ _ q))))
end
end Ev
namespace Ev
open PySem L2 PySem.Spec PyProof.Rows
abbrev sNeedR : Stmt := top 35
/-- a class of rules beneath the common one -/
structure RK (K : PySem.W.Frag) (C CW : Addr) : Prop where
  cl : RCls K C
  ha : PySem.W.findIn K (.ref C) "__class__" = some (some (.builtin "object.__class__"))
  hm : PySem.W.mroIn K C (.type "object") = some true
  is : PySem.W.kitOne K (.ref C) (.ref CW) = some true
/-- what the kind of an instance asks -/
structure InsK (K : PySem.W.Frag) : Prop where
  hn : PySem.W.specialIn K (.builtin "object.__class__") "__get__" = some (some (.builtin "getset_descriptor.__get__"))
  htk : PySem.W.takesIn K (.builtin "object.__class__") = some true
def spNeedR (Ct Cn : Addr) : Sp := fun vs H Q _ => ∃ (r : Addr) (row : Row), vs = [.ref r] ∧ ObjAt Ct Cn H r row ∧ Q .non H
def spIsFair (Ct Cn : Addr) (NS : Hp → V → Prop) : Sp := fun vs H Q _ => ∃ (r : Addr) (row : Row) (v : V), vs = [.ref r, v] ∧ ObjAt Ct Cn H r row ∧ row.ok ∧
  ((∃ s, ShAt H s v ∧ s.many ≤ 3000 ∧ ∀ H' : Hp, Same H H' → Q (.bl (s.fair row.p row.q row.k)) H') ∨ (NS H v ∧ ∀ H' : Hp, Same H H' → Q (.bl false) H'))
theorem ObjAt.same {Ct Cn : Addr} {H H' : Hp} {r : Addr} {row : Row} (h : ObjAt Ct Cn H r row) (k : Same H H') : ObjAt Ct Cn H' r row := h.keep k
section
variable {P : Program} {w : World} {K : PySem.W.Frag} {mg : Str → Option Value} {base : Heap}
def spAreJF (K : PySem.W.Frag) : Sp := fun vs H Q _ => ∃ (r a l : Addr) (p q k : Int) (P : List Sh) (ts : List Addr), vs = [.ref r, .ref a, .ref l] ∧ RB K H r p q k ∧ H a = some (.lst (ts.map V.ref)) ∧ Prs H P ts (jf P P.length) ∧ Clo P ∧ H l = some (.lst ((P.map Sh.wt).map V.int)) ∧
  ∀ s, P[0]? = some s → ∀ H' : Hp, Same H H' → Q (.bl (s.fair p q k)) H'
theorem fair_jf {p q k : Int} {P : List Sh} {s : Sh} (cl : Clo P) (h0 : P[0]? = some s) : ((jf P P.length).map (fairAt p q k P)).all id = s.fair p q k := by
  rw [← fair_all cl h0, ← jf_rev, List.map_reverse, List.all_reverse]
theorem scNeedR : FnScope ["value"] ["value"] (defScope sNeedR) := ⟨rfl, rfl, rfl, by decide +kernel, rfl, by decide +kernel, by decide +kernel⟩
theorem ok_needR {f Ct Cn CW : Addr} {fd : FuncData} (F : Fun K "need_rule" "need_rule" sNeedR f fd) (T : Blt mg) (gW : mg "WeightRule" = some (.ref CW)) (MT : RK K Ct CW) (MN : RK K Cn CW) (ik : InsK K) : FnOk P w K mg base CX0 1 f fd ["value"] (spNeedR Ct Cn) := by
  refine F.ok scNeedR (fun vs H Q E h => ?_) (fun cdv A outer s H vs Q E hr h => ?_)
  · obtain ⟨r, row, rfl, _⟩ := h
    rfl
  · obtain ⟨r, row, rfl, ob, kk⟩ := h
    refine ⟨_, pss_one (ps_if (pt_not (pt_val (pe_callB call_isi (by rfl) T.isi (by decide +kernel) (pa_cons (pv 0) (pa_cons (pe_glob (v := .ref CW) rfl gW rfl) pa_nil))))) (pss_one ps_never) pss_nil), ?_⟩
    cases row with
    | tr p q k =>
      obtain ⟨dx, a, h1, h2⟩ := ob
      exact ⟨_, rfl, _, _, _, _, true, rfl, .own CW, .base (.ins h1 MT.cl.cl MT.ha ik.hn ik.htk MT.hm), MT.is, true, rfl, iteF kk⟩
    | tn p q k t s c =>
      obtain ⟨dx, a, b, h1, h2, h3⟩ := ob
      exact ⟨_, rfl, _, _, _, _, true, rfl, .own CW, .base (.ins h1 MN.cl.cl MN.ha ik.hn ik.htk MN.hm), MN.is, true, rfl, iteF kk⟩
theorem scAreJointsFair : FnScope ["rule", "joints", "weights", "over", "under", "plus", "_", "side", "one", "other"] ["rule", "joints", "weights"] (defScope sAreJointsFair) := ⟨rfl, rfl, rfl, by decide +kernel, rfl, by decide +kernel, by decide +kernel⟩
theorem ok_areJF {f : Addr} {fd : FuncData} (F : Fun K "are_joints_fair" "are_joints_fair" sAreJointsFair f fd) : FnOk P w K mg base CX0 1 f fd ["rule", "joints", "weights"] (spAreJF K) := by
  refine F.ok scAreJointsFair (fun vs H Q E h => ?_) (fun cdv A outer s H vs Q E hr h => ?_)
  · obtain ⟨r, a, l, p, q, k, P, ts, rfl, _⟩ := h
    rfl
  · obtain ⟨r, a, l, p, q, k, P, ts, rfl, ⟨⟨C, dx, fs, at', hr1, cls, n1, n2, l1, l2, ht'⟩, b1, b2, b3, b4, b5⟩, ha, pr, cl, hl, kk⟩ := h
    refine ⟨_, (pss_cons (ps_asg (pe_fld (pv 0) rfl) (pg_tup (by rfl) (pgs_cons (pg_name (i := 3) scAreJointsFair.nd rfl (.inl rfl)) (pgs_cons (pg_name (i := 4) scAreJointsFair.nd rfl (.inl rfl)) pgs_nil))))
      (pss_cons (ps_set (i := 5) scAreJointsFair.nd rfl (.inl rfl) (pe_fld (pv 0) rfl))
      (pss_cons (ps_for PassesOwn.never rfl (pi_list (pv 1)) (pg_tup (by rfl) (pgs_cons (pg_name (i := 6) scAreJointsFair.nd rfl (.inl rfl)) (pgs_cons (pg_name (i := 7) scAreJointsFair.nd rfl (.inl rfl)) pgs_nil)))
        (pss_cons (ps_par (i := 8) (j := 9) (by rfl) scAreJointsFair.nd rfl rfl (by decide) rfl rfl (pa_cons (pe_ix ix_list (pv 2) (pv 7) (fun _ _ => rfl)) (pa_cons (pe_ix ix_list (pv 2) (pe_op op_add (pv 7) pe_int) (fun _ _ => rfl)) pa_nil)) (by rfl))
        (pss_one (ps_if (PW.pt (pw_or (pt_cmpR op_gt (pe_op op_mul (pv 4) (pv 8)) (pe_op op_add (pe_op op_mul (pv 3) (pv 9)) (pv 5)) (nomark _)) (pw_or1 (pt_cmpR op_gt (pe_op op_mul (pv 4) (pv 9)) (pe_op op_add (pe_op op_mul (pv 3) (pv 8)) (pv 5)) (nomark _)))))
          (pss_one (ps_ret pe_bl)) pss_nil))))
      (pss_one (ps_ret pe_bl))))), ?_⟩
    have q6 := m64 b1 (show q ≤ 8 by omega)
    have p6 := m64 (show 1 ≤ p by omega) (show p ≤ 8 by omega)
    obtain ⟨sh, e0⟩ : ∃ s, P[0]? = some s := by
      have := cl.len
      exact ⟨P[0]'(by omega), List.getElem?_eq_getElem _⟩
    have fa := fair_jf (p := p) (q := q) (k := k) cl e0
    have kk := kk sh e0 H (Same.refl H)
    refine ⟨_, rfl, r, C, dx, fs, _, rfl, hr1, cls, n1, l1, at', _, rfl, SqT.of ht', rfl, _, _, rfl, _, _, rfl, rfl, ?_⟩
    refine ⟨_, rfl, r, C, dx, fs, _, rfl, hr1, cls, n2, l2, ?_⟩
    refine ⟨_, rfl, a, rfl, ⟨_, SqL.of ha⟩, for_list (K := K) (a := a) (xs := ts.map V.ref) (fun i σ H' => (∃ v6 v7 v8 v9 : Option V, σ = [some (.ref r), some (.ref a), some (.ref l), some (.int p), some (.int q), some (.int k), v6, v7, v8, v9]) ∧ H' = H ∧ (((jf P P.length).take i).map (fairAt p q k P)).all id = true) ⟨⟨_, _, _, _, rfl⟩, rfl, by simp⟩ (fun i σ H' _ h => by rw [h.2.1]; exact SqL.of ha) ?_ ?_⟩
    · rintro i y σ H' hy ⟨⟨v6, v7, v8, v9, rfl⟩, rfl, ih⟩
      rw [List.getElem?_map] at hy
      cases et : ts[i]? with
      | none => rw [et] at hy; cases hy
      | some t =>
        rw [et] at hy
        obtain rfl := Option.some.inj hy
        obtain ⟨j, ej, ht⟩ := Prs.at pr et
        have jm : j ∈ jd P P.length := by rw [← jf_rev, List.mem_reverse]; exact List.mem_of_getElem? ej
        obtain ⟨_, l', r', es⟩ := (jd_mem (Nat.le_refl P.length) j).mp jm
        obtain ⟨c1, c2⟩ := cl.kid j l' r' es
        have x1 : ((P.map Sh.wt).map V.int)[1 + 2 * cn P j]? = some (V.int l'.wt) := by rw [List.getElem?_map, List.getElem?_map, c1]; rfl
        have x2 : ((P.map Sh.wt).map V.int)[2 + 2 * cn P j]? = some (V.int r'.wt) := by rw [List.getElem?_map, List.getElem?_map, c2]; rfl
        have a2 : atI ((P.map Sh.wt).map V.int) (((1 + 2 * cn P j : Nat) : Int) + 1) = some (V.int r'.wt) := by
          rw [show ((1 + 2 * cn P j : Nat) : Int) + 1 = ((2 + 2 * cn P j : Nat) : Int) by omega]
          exact atI_nat x2
        have fj : fairAt p q k P j = fairB p q k l'.wt r'.wt := by unfold fairAt; rw [es]
        have no : fairB p q k l'.wt r'.wt = false → Q (.bl false) H' := by
          intro z
          have : ((jf P P.length).map (fairAt p q k P)).all id = false := by
            rw [List.all_eq_false]
            exact ⟨_, List.mem_map.mpr ⟨j, List.mem_of_getElem? ej, rfl⟩, by rw [fj, z]; decide⟩
          rw [fa] at this
          rw [this] at kk
          exact kk
        refine ⟨t, _, rfl, SqT.of ht, rfl, _, _, rfl, _, _, rfl, rfl, ?_⟩
        refine ⟨_, rfl, _, rfl, l, _, _, _, rfl, rfl, SqL.of hl, atI_nat x1, _, rfl, _, rfl, _, _, rfl, rfl, l, _, _, _, rfl, rfl, SqL.of hl, a2, _, _, rfl, ?_⟩
        refine ⟨_, rfl, _, rfl, _, _, rfl, rfl, .inl q6, _, rfl, _, rfl, _, _, rfl, rfl, .inl p6, _, rfl, _, _, rfl, rfl, _, _, rfl, rfl, _, rfl, ite2 (fun e => ?_) (fun e => ?_)⟩
        · have e := of_decide_eq_true e
          refine iteT (no ?_)
          unfold fairB
          rw [show decide (q * l'.wt ≤ p * r'.wt + k) = false from decide_eq_false (by omega), Bool.and_false]
        · have e1 : ¬ (q * l'.wt > p * r'.wt + k) := fun z => e (decide_eq_true z)
          refine ⟨_, rfl, _, rfl, _, _, rfl, rfl, .inl q6, _, rfl, _, rfl, _, _, rfl, rfl, .inl p6, _, rfl, _, _, rfl, rfl, _, _, rfl, rfl, _, rfl, ite2 (fun e => ?_) (fun e => ?_)⟩
          · have e := of_decide_eq_true e
            refine no ?_
            unfold fairB
            rw [show decide (q * r'.wt ≤ p * l'.wt + k) = false from decide_eq_false (by omega), Bool.false_and]
          · have e2 : ¬ (q * r'.wt > p * l'.wt + k) := fun z => e (decide_eq_true z)
            refine ⟨⟨_, _, _, _, rfl⟩, rfl, ?_⟩
            rw [List.take_add_one, ej, List.map_append, List.all_append, ih]
            have : fairB p q k l'.wt r'.wt = true := by
              unfold fairB
              rw [decide_eq_true (show q * r'.wt ≤ p * l'.wt + k by omega), decide_eq_true (show q * l'.wt ≤ p * r'.wt + k by omega)]
              rfl
            simp [fj, this]
    · rintro σ H' ⟨⟨v6, v7, v8, v9, rfl⟩, rfl, ih⟩
      have e := pr.length
      rw [List.length_map, e, List.take_length, fa] at ih
      rw [ih] at kk
      exact kk
theorem scIsFair : FnScope ["rule", "shape", "joints"] ["rule", "shape"] (defScope sIsFair) := ⟨rfl, rfl, rfl, by decide +kernel, rfl, by decide +kernel, by decide +kernel⟩
theorem ok_isFair {f Ct Cn : Addr} {fd : FuncData} {NS : Hp → V → Prop} {k : Nat} (F : Fun K "is_fair" "is_fair" sIsFair f fd) (T : Blt mg) (RT : RCls K Ct) (RN : RCls K Cn) (D1 : Df P w K mg base 1 "need_rule" ["value"] (spNeedR Ct Cn)) (D2 : Df P w K mg base (k + 2) "joints_of" ["shape"] (spJoints NS))
    (D3 : Df P w K mg base 2 "weights_of" ["joints"] spWof) (D4 : Df P w K mg base 1 "are_joints_fair" ["rule", "joints", "weights"] (spAreJF K)) : FnOk P w K mg base CX0 (k + 3) f fd ["rule", "shape"] (spIsFair Ct Cn NS) := by
  obtain ⟨f1, fd1, G1, g1, k1, b1⟩ := D1.ex
  obtain ⟨f2, fd2, G2, g2, k2, b2⟩ := D2.ex
  obtain ⟨f3, fd3, G3, g3, k3, b3⟩ := D3.ex
  obtain ⟨f4, fd4, G4, g4, k4, b4⟩ := D4.ex
  refine F.ok scIsFair (fun vs H Q E h => ?_) (fun cdv A outer s H vs Q E hr h => ?_)
  · obtain ⟨r, row, v, rfl, _⟩ := h
    rfl
  · obtain ⟨r, row, v, rfl, ob, ok, hh⟩ := h
    have hr1 : Room 1 _ := hr.mono (by omega)
    have hr2 : Room 2 _ := hr.mono (by omega)
    refine ⟨_, pss_cons (ps_expr (pe_call G1 hr1 (by rfl) g1 k1 b1 .nil pass0 (pa_cons (pv 0) pa_nil)))
      (pss_cons (ps_set (i := 2) scIsFair.nd rfl (.inl rfl) (pe_call G2 hr (by rfl) g2 k2 b2 .nil pass0 (pa_cons (pv 1) pa_nil)))
      (pss_one (ps_ret (pe_and (pe_cmpR op_notN (pv 2) pe_non (nomark _)) (pe_one (pe_call G4 hr1 (by rfl) g4 k4 b4 .nil pass0 (pa_cons (pv 0) (pa_cons (pv 2) (pa_cons (pe_call G3 hr2 (by rfl) g3 k3 b3 .nil pass0 (pa_cons (pv 2) pa_nil)) pa_nil))))))))), ?_⟩
    refine ⟨_, rfl, r, row, rfl, ob, ?_⟩
    rcases hh with ⟨sh, hs, hm, kk⟩ | ⟨hn, kk⟩
    · refine ⟨_, rfl, v, rfl, .inl ⟨sh, hs, hm, fun a P ts HA nla sa ha pr cl e0 en => ?_⟩⟩
      refine ⟨_, rfl, rfl, true, rfl, iteT ?_⟩
      have hb : P.length ≤ 1000000 := by omega
      refine ⟨_, rfl, _, rfl, _, rfl, a, P, ts, rfl, ha, pr, cl, hb, fun l H1 nl tk s1 hl => ?_⟩
      refine ⟨r, a, l, row.p, row.q, row.k, P, ts, rfl, ((ob.keep sa).keep s1).rb RT RN ok, s1 _ _ ha, pr.keep tk, cl, hl, fun s' e' H2 s2 => ?_⟩
      rw [e0] at e'
      cases e'
      exact kk H2 (sa.trans (s1.trans s2))
    · refine ⟨_, rfl, v, rfl, .inr ⟨hn, fun HA sa => ?_⟩⟩
      exact ⟨_, rfl, rfl, false, rfl, iteF (kk HA sa)⟩
end
end Ev
namespace Ev
open PySem L2 PySem.Spec PyProof.Rows
abbrev sTop : Stmt := top 62
abbrev sEven : Stmt := top 63
abbrev sShape : Stmt := top 65
abbrev sSeen : Stmt := top 66
def greatV (p q k x : Int) : Int := (p * x + k).fdiv q
theorem le_great {p q k x y : Int} (hq : 1 ≤ q) : y ≤ greatV p q k x ↔ q * y ≤ p * x + k := by
  unfold greatV
  rw [Int.fdiv_eq_ediv_of_nonneg _ (by omega), Int.le_ediv_iff_mul_le (by omega), Int.mul_comm]
/-- the law's row of six numbers -/
def RowAt (H : Hp) (l : Addr) (p q k : Int) : Prop := ∃ t s c : Int, H l = some (.tup [.int p, .int q, .int k, .int t, .int s, .int c])
theorem RowAt.keep {H H' : Hp} {l : Addr} {p q k : Int} (h : RowAt H l p q k) (s : Same H H') : RowAt H' l p q k := by
  obtain ⟨a, b, c, e⟩ := h
  exact ⟨a, b, c, s _ _ e⟩
def spTop : Sp := fun vs H Q _ => ∃ (l : Addr) (p q k x : Int), vs = [.ref l, .int x] ∧ RowAt H l p q k ∧ okN p q k ∧ Q (.int (greatV p q k x)) H
def Sh.deep : Sh → Nat
  | .e => 0
  | .n l r => max l.deep r.deep + 1
def Sh.data : Sh → PyData
  | .e => .tuple []
  | .n l r => .tuple [l.data, r.data]
theorem sh_dp {K : PySem.W.Frag} {H : Hp} : ∀ {s : Sh} {v : V}, ShAt H s v → Dp K H v s.data
  | .e, v, ⟨a, e1, e2⟩ => by subst e1; exact .tup (SqT.of e2) .nil
  | .n l r, v, ⟨a, x, y, e1, e2, e3, e4⟩ => by subst e1; exact .tup (SqT.of e2) (.cons (sh_dp e3) (.cons (sh_dp e4) .nil))
theorem sh_lay : ∀ s : Sh, s.data.canLay0 = true
  | .e => by simp [Sh.data, PyData.canLay0, PyData.canLayAll0]
  | .n l r => by simp [Sh.data, PyData.canLay0, PyData.canLayAll0, sh_lay l, sh_lay r]
theorem sh_depth : ∀ s : Sh, s.data.depth ≤ s.deep + 1
  | .e => by simp [Sh.data, PyData.depth, PyData.depthAll]
  | .n l r => by
    have := sh_depth l
    have := sh_depth r
    simp only [Sh.data, PyData.depth, PyData.depthAll, Sh.deep]
    omega
theorem sh_shaped {s : Sh} (h : s.deep ≤ 60) : SeqAt.shaped s.data = true := by
  unfold SeqAt.shaped
  rw [Bool.and_eq_true]
  have := sh_depth s
  exact ⟨sh_lay s, decide_eq_true (by omega)⟩
theorem sh_eqv (s : Sh) : PyData.eqv s.data (.tuple []) = !s.full := by
  cases s <;> simp [Sh.data, PyData.eqv, PyData.eqvAll, Sh.full]
theorem shaped_nil : SeqAt.shaped (.tuple []) = true := by decide +kernel
theorem max_ht (a b : Int) : (if b > a then b else a) = if b < a then a else b := by
  by_cases h : b > a
  · rw [if_pos h, if_neg (by omega)]
  · rw [if_neg h]
    by_cases g : b < a
    · rw [if_pos g]
    · rw [if_neg g]; omega
def spEven : Sp := fun vs H Q _ => ∃ (l : Addr) (p q k x y : Int), vs = [.ref l, .int x, .int y] ∧ RowAt H l p q k ∧ okN p q k ∧ Q (.bl (fairB p q k x y)) H
def spShape (d : Nat) : Sp := fun vs H Q _ => ∃ (p L : Addr) (B m : Int), vs = [.ref p, .int m, .int (d : Int)] ∧ 0 ≤ m ∧ m ≤ 1000 ∧ B + 2 * 2 ^ d ≤ 900000 ∧ Pen L H p B ∧
  ∀ (v : V) (s : Sh) (H' : Hp), But p H H' → Pen L H' p (B + 2 * 2 ^ d - 2) → ShAt H' s v → (s.many : Int) ≤ m → s.deep ≤ d → Q v H'
def spSeen (d : Nat) : Sp := fun vs H Q _ => ∃ (l : Addr) (p q k : Int) (v : V) (s : Sh), vs = [.ref l, v] ∧ RowAt H l p q k ∧ okN p q k ∧ ShAt H s v ∧ s.deep ≤ d ∧ d ≤ 60 ∧
  ∀ (a : Addr) (H' : Hp), H a = none → Same H H' → H' a = some (.tup [.int s.wt, .int s.ht, .bl (s.fair p q k)]) → Q (.ref a) H'
section
variable {P : Program} {w : World} {K : PySem.W.Frag} {mg : Str → Option Value} {base : Heap}
theorem ix6_0 {a b c d e f : V} : atI [a, b, c, d, e, f] 0 = some a := atI_nat (j := 0) rfl
theorem ix6_1 {a b c d e f : V} : atI [a, b, c, d, e, f] 1 = some b := atI_nat (j := 1) rfl
theorem ix6_2 {a b c d e f : V} : atI [a, b, c, d, e, f] 2 = some c := atI_nat (j := 2) rfl
theorem scTop : FnScope ["_law_some", "_law_x"] ["_law_some", "_law_x"] (defScope sTop) := ⟨rfl, rfl, rfl, by decide +kernel, rfl, by decide +kernel, by decide +kernel⟩
theorem ok_top {f : Addr} {fd : FuncData} (F : Fun K "_law_top" "_law_top" sTop f fd) : FnOk P w K mg base CX0 1 f fd ["_law_some", "_law_x"] spTop := by
  refine F.ok scTop (fun vs H Q E h => ?_) (fun cdv A outer s H vs Q E hr h => ?_)
  · obtain ⟨l, p, q, k, x, rfl, _⟩ := h
    rfl
  · obtain ⟨l, p, q, k, x, rfl, ⟨t, s', c, hl⟩, ⟨o1, o2, o3, o4, o5, o6⟩, kk⟩ := h
    refine ⟨_, pss_one (ps_ret (pe_op op_fdivN (pe_op op_add (pe_op op_mul (pe_ix ix_tup (pv 0) pe_int (fun _ _ => rfl)) (pv 1)) (pe_ix ix_tup (pv 0) pe_int (fun _ _ => rfl))) (pe_ix ix_tup (pv 0) pe_int (fun _ _ => rfl)))), ?_⟩
    exact ⟨_, rfl, l, _, 0, _, rfl, rfl, SqT.of hl, ix6_0, _, rfl, _, _, rfl, rfl, .inl (m64 (show 1 ≤ p by omega) (by omega)), _, rfl, l, _, 2, _, rfl, rfl, SqT.of hl, ix6_2, _, _, rfl, rfl, _, rfl, l, _, 1, _, rfl, rfl, SqT.of hl, ix6_1, _, _, rfl, rfl, ⟨by omega, by omega⟩, kk⟩
theorem scEven : FnScope ["_law_some", "_law_x", "_law_y"] ["_law_some", "_law_x", "_law_y"] (defScope sEven) := ⟨rfl, rfl, rfl, by decide +kernel, rfl, by decide +kernel, by decide +kernel⟩
theorem ok_even {f : Addr} {fd : FuncData} (F : Fun K "_law_is_even" "_law_is_even" sEven f fd) (D : Df P w K mg base 1 "_law_top" ["_law_some", "_law_x"] spTop) : FnOk P w K mg base CX0 2 f fd ["_law_some", "_law_x", "_law_y"] spEven := by
  obtain ⟨f1, fd1, G1, g1, k1, b1⟩ := D.ex
  refine F.ok scEven (fun vs H Q E h => ?_) (fun cdv A outer s H vs Q E hr h => ?_)
  · obtain ⟨l, p, q, k, x, y, rfl, _⟩ := h
    rfl
  · obtain ⟨l, p, q, k, x, y, rfl, hl, o, kk⟩ := h
    refine ⟨_, pss_one (ps_ret (pe_and (pe_cmpR op_le (pv 2) (pe_call G1 hr (by rfl) g1 k1 b1 .nil pass0 (pa_cons (pv 0) (pa_cons (pv 1) pa_nil))) (nomark _))
      (pe_one (pe_cmpR op_le (pv 1) (pe_call G1 hr (by rfl) g1 k1 b1 .nil pass0 (pa_cons (pv 0) (pa_cons (pv 2) pa_nil))) (nomark _))))), ?_⟩
    have e1 : decide (y ≤ greatV p q k x) = decide (q * y ≤ p * x + k) := decide_eq_decide.mpr (le_great o.1)
    have e2 : decide (x ≤ greatV p q k y) = decide (q * x ≤ p * y + k) := decide_eq_decide.mpr (le_great o.1)
    unfold fairB at kk
    rw [← e1, ← e2] at kk
    refine ⟨_, rfl, _, rfl, _, rfl, l, p, q, k, x, rfl, hl, o, _, _, rfl, rfl, _, rfl, ?_⟩
    cases z : decide (y ≤ greatV p q k x) with
    | false =>
      rw [z] at kk
      exact iteF kk
    | true =>
      rw [z] at kk
      exact iteT ⟨_, rfl, _, rfl, _, rfl, l, p, q, k, y, rfl, hl, o, _, _, rfl, rfl, kk⟩
theorem two_pos (d : Nat) : (0 : Int) < 2 ^ d := Int.pow_pos (by decide)
theorem scShape : FnScope ["_law_pen_here", "_law_many", "_law_deep", "_law_left"] ["_law_pen_here", "_law_many", "_law_deep"] (defScope sShape) := ⟨rfl, rfl, rfl, by decide +kernel, rfl, by decide +kernel, by decide +kernel⟩
theorem ok_shape {f : Addr} {fd : FuncData} (F : Fun K "_law_shape" "_law_shape" sShape f fd) (T : Blt mg) (gS : mg "_law_shape" = some (.ref f)) (bS : Binds K fd ["_law_pen_here", "_law_many", "_law_deep"] [])
    (D1 : Df P w K mg base 1 "_law_draw" ["_law_pen_here", "_law_many"] spDraw) (D2 : Df P w K mg base 2 "_law_pick" ["_law_pen_here", "_law_some"] spPick) : ∀ d : Nat, FnOk P w K mg base CX0 (3 + d) f fd ["_law_pen_here", "_law_many", "_law_deep"] (spShape d)
  | 0 => by
    obtain ⟨f1, fd1, G1, g1, k1, b1⟩ := D1.ex
    refine F.ok scShape (fun vs H Q E h => ?_) (fun cdv A outer s H vs Q E hr h => ?_)
    · obtain ⟨p, L, B, m, rfl, _⟩ := h
      rfl
    · obtain ⟨p, L, B, m, rfl, m0, m1, hB, hp, kk⟩ := h
      refine ⟨_, pss_cons (ps_if (PW.pt (pw_or (pt_cmpR op_eq (pv 1) pe_int (nomark _)) (pw_or1 (pt_cmpR op_eq (pv 2) pe_int (nomark _))))) (pss_one (ps_ret (pe_tup pa_nil))) pss_nil) (pss_cons ps_never (pss_cons ps_never (pss_one ps_never))), ?_⟩
      have fin : ∀ a : Addr, H a = none → Q (.ref a) (upd H a (.tup [])) := fun a na => kk _ .e _ (Same.but (same_new na)) ((hp.new na).mono (by omega)) ⟨a, rfl, upd_same⟩ (by show ((0 : Nat) : Int) ≤ m; omega) (Nat.le_refl _)
      refine ⟨_, rfl, rfl, _, rfl, ite2 (fun e => iteT ⟨(by show 0 ≤ sizeLine; decide), fun a na => fin a na⟩) (fun e => ?_)⟩
      exact ⟨_, rfl, rfl, _, rfl, ite2 (fun e => ⟨(by show 0 ≤ sizeLine; decide), fun a na => fin a na⟩) (fun z => absurd (decide_eq_true (show V.int ((0 : Nat) : Int) = V.int 0 from rfl)) z)⟩
  | d + 1 => by
    obtain ⟨f1, fd1, G1, g1, k1, b1⟩ := D1.ex
    obtain ⟨f2, fd2, G2, g2, k2, b2⟩ := D2.ex
    have GS := ok_shape F T gS bS D1 D2 d
    refine F.ok scShape (fun vs H Q E h => ?_) (fun cdv A outer s H vs Q E hr h => ?_)
    · obtain ⟨p, L, B, m, rfl, _⟩ := h
      rfl
    · obtain ⟨p, L, B, m, rfl, m0, m1, hB, hp, kk⟩ := h
      have hr1 : Room 1 _ := hr.mono (show 1 ≤ 3 + d by omega)
      have hr2 : Room 2 _ := hr.mono (show 2 ≤ 3 + d by omega)
      have hrd : Room (3 + d) _ := hr
      refine ⟨_, pss_cons (ps_if (PW.pt (pw_or (pt_cmpR op_eq (pv 1) pe_int (nomark _)) (pw_or1 (pt_cmpR op_eq (pv 2) pe_int (nomark _))))) (pss_one (ps_ret (pe_tup pa_nil))) pss_nil)
        (pss_cons (ps_set (i := 3) scShape.nd rfl (.inl rfl) (pe_call G2 hr2 (by rfl) g2 k2 b2 .nil pass0 (pa_cons (pv 0) (pa_cons (pe_lst (pa_cons (pe_op op_fdivN (pv 1) pe_int) (pa_cons (pe_op op_fdivN (pv 1) pe_int) (pa_cons (pe_op op_fdivN (pe_op op_sub (pv 1) pe_int) pe_int)
          (pa_cons (pe_call G1 hr1 (by rfl) g1 k1 b1 .nil pass0 (pa_cons (pv 0) (pa_cons (pv 1) pa_nil))) (pa_cons pe_int (pa_cons (pe_op op_sub (pv 1) pe_int) pa_nil))))))) pa_nil))))
        (pss_cons (ps_set (i := 3) scShape.nd rfl (.inl rfl) (pe_callB (call_min2 rfl) (by rfl) T.min (by decide +kernel) (pa_cons (pe_callTy call_int1 (by rfl) T.int (by decide +kernel) (pa_cons (pv 3) pa_nil)) (pa_cons (pe_callTy call_int1 (by rfl) T.int (by decide +kernel) (pa_cons (pe_op op_sub (pv 1) pe_int) pa_nil)) pa_nil))))
        (pss_one (ps_ret (pe_tup (pa_cons (pe_call GS hrd (by rfl) gS F.kp bS .nil pass0 (pa_cons (pv 0) (pa_cons (pv 3) (pa_cons (pe_op op_sub (pv 2) pe_int) pa_nil))))
          (pa_cons (pe_call GS hrd (by rfl) gS F.kp bS .nil pass0 (pa_cons (pv 0) (pa_cons (pe_op op_sub (pe_op op_sub (pv 1) pe_int) (pv 3)) (pa_cons (pe_op op_sub (pv 2) pe_int) pa_nil)))) pa_nil))))))), ?_⟩
      have fin : ∀ a : Addr, H a = none → Q (.ref a) (upd H a (.tup [])) := fun a na => kk _ .e _ (Same.but (same_new na)) ((hp.new na).mono (by have := two_pos (d + 1); omega)) ⟨a, rfl, upd_same⟩ (by show ((0 : Nat) : Int) ≤ m; omega) (Nat.zero_le _)
      have pw := two_pos d
      have p2 : (2 : Int) ^ (d + 1) = 2 ^ d * 2 := Int.pow_succ ..
      refine ⟨_, rfl, rfl, _, rfl, ite2 (fun e => iteT ⟨(by show 0 ≤ sizeLine; decide), fun a na => fin a na⟩) (fun e => ?_)⟩
      have mne : m ≠ 0 := fun z => e (decide_eq_true (by rw [z]))
      refine ⟨_, rfl, rfl, _, rfl, ite2 (fun e => ⟨(by show 0 ≤ sizeLine; decide), fun a na => fin a na⟩) (fun e2 => ?_)⟩
      refine ⟨_, rfl, _, rfl, _, _, rfl, rfl, ⟨by decide, by decide⟩, _, rfl, _, _, rfl, rfl, ⟨by decide, by decide⟩, _, rfl, _, _, rfl, rfl, _, _, rfl, rfl, ⟨by decide, by decide⟩, ?_⟩
      refine ⟨_, rfl, _, rfl, p, L, _, B, rfl, by omega, by omega, by omega, hp, fun d1 H1 t1 p1 a1 c1 => ?_⟩
      refine ⟨_, rfl, _, _, rfl, rfl, (by show 6 ≤ sizeLine; decide), fun l2 nl2 => ⟨p, l2, L, _, _, rfl, upd_same, p1.ne nl2, (by show 1 ≤ 6; decide), (by show 6 ≤ 1000; decide), by omega, p1.new nl2, fun kv H2 m2 t2 p2' => ?_⟩⟩
      obtain ⟨x, rfl, x0, x1⟩ : ∃ x : Int, kv = .int x ∧ 0 ≤ x ∧ x ≤ m := by
        have f1 : m.fdiv 2 = m / 2 := Int.fdiv_eq_ediv_of_nonneg _ (by decide)
        have f2 : (m - 1).fdiv 2 = (m - 1) / 2 := Int.fdiv_eq_ediv_of_nonneg _ (by decide)
        simp only [List.mem_cons, List.not_mem_nil, or_false, f1, f2] at m2
        rcases m2 with e | e | e | e | e | e
        · exact ⟨_, e, by omega, by omega⟩
        · exact ⟨_, e, by omega, by omega⟩
        · exact ⟨_, e, by omega, by omega⟩
        · exact ⟨_, e, by omega, by omega⟩
        · exact ⟨_, e, by omega, by omega⟩
        · exact ⟨_, e, by omega, by omega⟩
      have hy : 0 ≤ (if m - 1 < x then m - 1 else x) ∧ (if m - 1 < x then m - 1 else x) ≤ m - 1 := by
        by_cases z : m - 1 < x
        · rw [if_pos z]; omega
        · rw [if_neg z]; omega
      have ed : (((d + 1 : Nat) : Int) - 1) = (d : Int) := by omega
      refine ⟨_, rfl, .inl ⟨_, rfl, _, rfl, _, _, rfl, rfl, .inl ⟨_, rfl, _, _, rfl, ?_⟩⟩⟩
      refine ⟨_, rfl, _, rfl, _, rfl, _, _, rfl, rfl, p, L, B + 2, (if m - 1 < x then m - 1 else x), (by show [V.ref p, V.int (if m - 1 < x then m - 1 else x), V.int (((d + 1 : Nat) : Int) - 1)] = _; rw [ed]), hy.1, by omega, by omega, p2'.mono (by omega), fun v1 s1 H3 t3 p3 h1 b1 dp1 => ?_⟩
      refine ⟨_, rfl, _, rfl, _, _, rfl, rfl, _, rfl, _, _, rfl, rfl, _, rfl, _, _, rfl, rfl, p, L, B + 2 + 2 * 2 ^ d - 2, m - 1 - (if m - 1 < x then m - 1 else x), (by show [V.ref p, V.int (m - 1 - (if m - 1 < x then m - 1 else x)), V.int (((d + 1 : Nat) : Int) - 1)] = _; rw [ed]), by omega, by omega, by omega, p3, fun v2 s2 H4 t4 p4 h2 b2 dp2 => ?_⟩
      refine ⟨(by show 2 ≤ sizeLine; decide), fun a na => ?_⟩
      obtain ⟨zs, hp3⟩ := p3.some
      have h1' := h1.tupk (But.tupk t4 hp3)
      have bt : But p H H4 := t1.trans ((Same.but (same_new nl2)).trans (t2.trans (t3.trans t4)))
      refine kk (.ref a) (.n s1 s2) _ (bt.trans (Same.but (same_new na))) ((p4.new na).mono (by omega)) ⟨a, _, _, rfl, upd_same, h1'.keep (same_new na), h2.keep (same_new na)⟩ ?_ ?_
      · show ((s1.many + s2.many + 1 : Nat) : Int) ≤ m
        omega
      · show max s1.deep s2.deep + 1 ≤ d + 1
        omega
end
end Ev
namespace Ev
open PySem L2 PySem.Spec PyProof.Rows
section
variable {P : Program} {w : World} {K : PySem.W.Frag} {mg : Str → Option Value} {base : Heap}
theorem i3_0 {a b c : V} : atI [a, b, c] 0 = some a := atI_nat (j := 0) rfl
theorem i3_1 {a b c : V} : atI [a, b, c] 1 = some b := atI_nat (j := 1) rfl
theorem i3_2 {a b c : V} : atI [a, b, c] 2 = some c := atI_nat (j := 2) rfl
theorem i2_0 {a b : V} : atI [a, b] 0 = some a := atI_nat (j := 0) rfl
theorem i2_1 {a b : V} : atI [a, b] 1 = some b := atI_nat (j := 1) rfl
theorem scSeen : FnScope ["_law_some", "_law_shape_so", "_law_one", "_law_other", "_law_is_good"] ["_law_some", "_law_shape_so"] (defScope sSeen) := ⟨rfl, rfl, rfl, by decide +kernel, rfl, by decide +kernel, by decide +kernel⟩
theorem ok_seen {f : Addr} {fd : FuncData} (F : Fun K "_law_seen" "_law_seen" sSeen f fd) (T : Blt mg) (gS : mg "_law_seen" = some (.ref f)) (bS : Binds K fd ["_law_some", "_law_shape_so"] [])
    (D1 : Df P w K mg base 2 "_law_is_even" ["_law_some", "_law_x", "_law_y"] spEven) : ∀ d : Nat, FnOk P w K mg base CX0 (3 + d) f fd ["_law_some", "_law_shape_so"] (spSeen d)
  | 0 => by
    refine F.ok scSeen (fun vs H Q E h => ?_) (fun cdv A outer s H vs Q E hr h => ?_)
    · obtain ⟨l, p, q, k, v, s, rfl, _⟩ := h
      rfl
    · obtain ⟨l, p, q, k, v, sh, rfl, hl, o, hv, hd, hd2, kk⟩ := h
      refine ⟨_, pss_cons (ps_if (pt_cmpR (op_eqD hr.units) (pv 1) (pe_tup pa_nil) (nomark _)) (pss_one (ps_ret (pe_tup (pa_cons pe_int (pa_cons pe_int (pa_cons pe_bl pa_nil)))))) pss_nil) (pss_cons ps_never (pss_cons ps_never (pss_one ps_never))), ?_⟩
      have hf : sh = .e := by
        cases sh with
        | e => rfl
        | n l' r' => have : max l'.deep r'.deep + 1 ≤ 0 := hd; omega
      subst hf
      refine ⟨_, rfl, (by show 0 ≤ sizeLine; decide), fun t nt => ?_⟩
      refine ⟨_, _, sh_dp (hv.keep (same_new nt)), .tup (SqT.of upd_same) .nil, sh_shaped (by show 0 ≤ 60; omega), shaped_nil, ?_⟩
      rw [sh_eqv]
      refine ⟨_, rfl, iteT ⟨(by show 3 ≤ sizeLine; decide), fun a na => ?_⟩⟩
      have nH : H a = none := by
        cases z : H a with
        | none => rfl
        | some o => rw [same_new nt _ _ z] at na; cases na
      exact kk a _ nH ((same_new nt).trans (same_new na)) upd_same
  | d + 1 => by
    obtain ⟨f1, fd1, G1, g1, k1, b1⟩ := D1.ex
    have GS := ok_seen F T gS bS D1 d
    refine F.ok scSeen (fun vs H Q E h => ?_) (fun cdv A outer s H vs Q E hr h => ?_)
    · obtain ⟨l, p, q, k, v, s, rfl, _⟩ := h
      rfl
    · obtain ⟨l, p, q, k, v, sh, rfl, hl, o, hv, hd, hd2, kk⟩ := h
      have hr2 : Room 2 _ := hr.mono (show 2 ≤ 3 + d by omega)
      have hrd : Room (3 + d) _ := hr
      refine ⟨_, pss_cons (ps_if (pt_cmpR (op_eqD hr.units) (pv 1) (pe_tup pa_nil) (nomark _)) (pss_one (ps_ret (pe_tup (pa_cons pe_int (pa_cons pe_int (pa_cons pe_bl pa_nil)))))) pss_nil)
        (pss_cons (ps_par (i := 2) (j := 3) rfl scSeen.nd rfl rfl (by decide) rfl rfl (pa_cons (pe_call GS hrd (by rfl) gS F.kp bS .nil pass0 (pa_cons (pv 0) (pa_cons (pe_ix ix_tup (pv 1) pe_int (fun _ _ => rfl)) pa_nil)))
          (pa_cons (pe_call GS hrd (by rfl) gS F.kp bS .nil pass0 (pa_cons (pv 0) (pa_cons (pe_ix ix_tup (pv 1) pe_int (fun _ _ => rfl)) pa_nil))) pa_nil)) (by rfl))
        (pss_cons (ps_set (i := 4) scSeen.nd rfl (.inl rfl) (pe_and (pe_ix ix_tup (pv 2) pe_int (fun _ _ => rfl)) (pe_and (pe_ix ix_tup (pv 3) pe_int (fun _ _ => rfl))
          (pe_one (pe_call G1 hr2 (by rfl) g1 k1 b1 .nil pass0 (pa_cons (pv 0) (pa_cons (pe_ix ix_tup (pv 2) pe_int (fun _ _ => rfl)) (pa_cons (pe_ix ix_tup (pv 3) pe_int (fun _ _ => rfl)) pa_nil))))))))
        (pss_one (ps_ret (pe_tup (pa_cons (pe_op op_add (pe_ix ix_tup (pv 2) pe_int (fun _ _ => rfl)) (pe_ix ix_tup (pv 3) pe_int (fun _ _ => rfl)))
          (pa_cons (pe_op op_add pe_int (pe_callB (call_max2 rfl) (by rfl) T.max (by decide +kernel) (pa_cons (pe_callTy call_int1 (by rfl) T.int (by decide +kernel) (pa_cons (pe_ix ix_tup (pv 2) pe_int (fun _ _ => rfl)) pa_nil)) (pa_cons (pe_callTy call_int1 (by rfl) T.int (by decide +kernel) (pa_cons (pe_ix ix_tup (pv 3) pe_int (fun _ _ => rfl)) pa_nil)) pa_nil))))
          (pa_cons (pv 4) pa_nil)))))))), ?_⟩
      refine ⟨_, rfl, (by show 0 ≤ sizeLine; decide), fun t nt => ?_⟩
      refine ⟨_, _, sh_dp (hv.keep (same_new nt)), .tup (SqT.of upd_same) .nil, sh_shaped (by omega), shaped_nil, ?_⟩
      rw [sh_eqv]
      have s1 : Same H (upd H t (.tup [])) := same_new nt
      generalize upd H t (.tup []) = H1 at s1 ⊢
      cases sh with
      | e =>
        refine ⟨_, rfl, iteT ⟨(by show 3 ≤ sizeLine; decide), fun a na => ?_⟩⟩
        have nH : H a = none := by
          cases z : H a with
          | none => rfl
          | some o => rw [s1 _ _ z] at na; cases na
        exact kk a _ nH (s1.trans (same_new na)) upd_same
      | n x y =>
        refine ⟨_, rfl, iteF ?_⟩
        obtain ⟨av, vx, vy, rfl, hav, hx, hy⟩ := hv
        have dd : max x.deep y.deep + 1 ≤ d + 1 := hd
        refine ⟨_, rfl, _, rfl, av, _, 0, _, rfl, rfl, SqT.of (s1 _ _ hav), i2_0, l, p, q, k, vx, x, rfl, hl.keep s1, o, hx.keep s1, by omega, by omega, fun a1 H2 na1 s2 ha1 => ?_⟩
        have s12 := s1.trans s2
        refine ⟨_, rfl, _, rfl, av, _, 1, _, rfl, rfl, SqT.of (s12 _ _ hav), i2_1, l, p, q, k, vy, y, rfl, hl.keep s12, o, hy.keep s12, by omega, by omega, fun a2 H3 na2 s3 ha2 => ⟨_, _, rfl, ?_⟩⟩
        have s13 := s12.trans s3
        have ha1' := s3 _ _ ha1
        have fin : ∀ (a : Addr) (b : Bool), H3 a = none → b = (Sh.n x y).fair p q k → Q (.ref a) (upd H3 a (.tup [.int (x.wt + y.wt), .int (1 + if y.ht > x.ht then y.ht else x.ht), .bl b])) := fun a b na eb => by
          have nH : H a = none := by
            cases z : H a with
            | none => rfl
            | some o => rw [s13 _ _ z] at na; cases na
          refine kk a _ nH (s13.trans (same_new na)) ?_
          rw [upd_same, eb, max_ht]
          rfl
        refine ⟨_, rfl, a1, _, 2, _, rfl, rfl, SqT.of ha1', i3_2, _, rfl, ?_⟩
        cases f1 : x.fair p q k with
        | false =>
          refine iteF ?_
          refine ⟨_, rfl, a1, _, 0, _, rfl, rfl, SqT.of ha1', i3_0, _, rfl, a2, _, 0, _, rfl, rfl, SqT.of ha2, i3_0, _, _, rfl, rfl, _, rfl, a1, _, 1, _, rfl, rfl, SqT.of ha1', i3_1, .inl ⟨_, rfl, _, rfl, a2, _, 1, _, rfl, rfl, SqT.of ha2, i3_1, .inl ⟨_, rfl, _, _, rfl, _, _, rfl, rfl, _, rfl, (by show 3 ≤ sizeLine; decide), fun a na => fin a _ na ?_⟩⟩⟩
          show _ = (fairB p q k x.wt y.wt && x.fair p q k && y.fair p q k)
          rw [f1, Bool.and_false, Bool.false_and]
        | true =>
          refine iteT ⟨_, rfl, a2, _, 2, _, rfl, rfl, SqT.of ha2, i3_2, _, rfl, ?_⟩
          cases f2 : y.fair p q k with
          | false =>
            refine iteF ?_
            refine ⟨_, rfl, a1, _, 0, _, rfl, rfl, SqT.of ha1', i3_0, _, rfl, a2, _, 0, _, rfl, rfl, SqT.of ha2, i3_0, _, _, rfl, rfl, _, rfl, a1, _, 1, _, rfl, rfl, SqT.of ha1', i3_1, .inl ⟨_, rfl, _, rfl, a2, _, 1, _, rfl, rfl, SqT.of ha2, i3_1, .inl ⟨_, rfl, _, _, rfl, _, _, rfl, rfl, _, rfl, (by show 3 ≤ sizeLine; decide), fun a na => fin a _ na ?_⟩⟩⟩
            show _ = (fairB p q k x.wt y.wt && x.fair p q k && y.fair p q k)
            rw [f2, Bool.and_false]
          | true =>
            refine iteT ⟨_, rfl, _, rfl, a1, _, 0, _, rfl, rfl, SqT.of ha1', i3_0, _, rfl, a2, _, 0, _, rfl, rfl, SqT.of ha2, i3_0, l, p, q, k, _, _, rfl, hl.keep s13, o, ?_⟩
            refine ⟨_, rfl, a1, _, 0, _, rfl, rfl, SqT.of ha1', i3_0, _, rfl, a2, _, 0, _, rfl, rfl, SqT.of ha2, i3_0, _, _, rfl, rfl, _, rfl, a1, _, 1, _, rfl, rfl, SqT.of ha1', i3_1, .inl ⟨_, rfl, _, rfl, a2, _, 1, _, rfl, rfl, SqT.of ha2, i3_1, .inl ⟨_, rfl, _, _, rfl, _, _, rfl, rfl, _, rfl, (by show 3 ≤ sizeLine; decide), fun a na => fin a _ na ?_⟩⟩⟩
            show _ = (fairB p q k x.wt y.wt && x.fair p q k && y.fair p q k)
            rw [f1, f2, Bool.and_true, Bool.and_true]
end
end Ev
namespace Ev
open PySem L2 PySem.Spec PyProof.Rows
abbrev sSpoilt : Stmt := top 67
/-! ### values that are no shapes -/
inductive Bt
  | bad
  | e
  | n (l r : Bt)
def Bt.spoilt : Bt → Bool
  | .bad => true
  | .e => false
  | .n l r => l.spoilt || r.spoilt
def Bt.many : Bt → Nat
  | .bad => 0
  | .e => 0
  | .n l r => l.many + r.many + 1
inductive OddAt (H : Hp) : V → Prop
  | non : OddAt H .non
  | int (i : Int) : OddAt H (.int i)
  | str (x : Str) : OddAt H (.str x)
  | bl (b : Bool) : OddAt H (.bl b)
  | lst {a : Addr} {xs : List V} (e : H a = some (.lst xs)) : OddAt H (.ref a)
  | dct {a : Addr} {kvs : List (Key × V)} (e : H a = some (.dK kvs)) : OddAt H (.ref a)
  | tup {a : Addr} {ys : List V} (e : H a = some (.tup ys)) (h : ys.length = 1 ∨ ys.length = 3) : OddAt H (.ref a)
def KindK (H H' : Hp) : Prop := TupK H H' ∧ (∀ a xs, H a = some (.lst xs) → ∃ ys, H' a = some (.lst ys)) ∧ (∀ (a : Addr) (kvs : List (Key × V)), H a = some (.dK kvs) → ∃ kvs' : List (Key × V), H' a = some (.dK kvs'))
theorem Same.kind {H H' : Hp} (k : Same H H') : KindK H H' := ⟨fun _ _ e => k _ _ e, fun _ _ e => ⟨_, k _ _ e⟩, fun _ _ e => ⟨_, k _ _ e⟩⟩
theorem KindK.trans {H H1 H2 : Hp} (a : KindK H H1) (b : KindK H1 H2) : KindK H H2 := ⟨fun c xs e => b.1 _ _ (a.1 _ _ e), fun c xs e => by
  obtain ⟨ys, e1⟩ := a.2.1 _ _ e
  exact b.2.1 _ _ e1, fun c xs e => by
  obtain ⟨ys, e1⟩ := a.2.2 _ _ e
  exact b.2.2 _ _ e1⟩
theorem But.kind {p L L' : Addr} {H H' : Hp} {B B' : Int} (k : But p H H') (h : Pen L H p B) (h' : Pen L' H' p B') : KindK H H' := by
  obtain ⟨xs, e⟩ := h.some
  obtain ⟨ys, e'⟩ := h'.some
  refine ⟨k.tupk e, fun a zs ea => ?_, fun a zs ea => ⟨_, k _ _ (ne_of ea e (by intro z; cases z)) ea⟩⟩
  by_cases z : a = p
  · subst z; exact ⟨_, e'⟩
  · exact ⟨_, k _ _ z ea⟩
theorem OddAt.keep {H H' : Hp} {v : V} (h : OddAt H v) (k : KindK H H') : OddAt H' v := by
  cases h with
  | non => exact .non
  | int i => exact .int i
  | str x => exact .str x
  | bl b => exact .bl b
  | lst e => obtain ⟨ys, e'⟩ := k.2.1 _ _ e; exact .lst e'
  | dct e => obtain ⟨ys, e'⟩ := k.2.2 _ _ e; exact .dct e'
  | tup e h => exact .tup (k.1 _ _ e) h
def BtAt (H : Hp) : Bt → V → Prop
  | .bad, v => OddAt H v
  | .e, v => ∃ a, v = .ref a ∧ H a = some (.tup [])
  | .n l r, v => ∃ a x y, v = .ref a ∧ H a = some (.tup [x, y]) ∧ BtAt H l x ∧ BtAt H r y
theorem BtAt.keep {H H' : Hp} (k : KindK H H') : ∀ {t : Bt} {v : V}, BtAt H t v → BtAt H' t v
  | .bad, v, h => OddAt.keep h k
  | .e, v, ⟨a, e1, e2⟩ => ⟨a, e1, k.1 _ _ e2⟩
  | .n l r, v, ⟨a, x, y, e1, e2, e3, e4⟩ => ⟨a, x, y, e1, k.1 _ _ e2, BtAt.keep k e3, BtAt.keep k e4⟩
def Sh.bt : Sh → Bt
  | .e => .e
  | .n l r => .n l.bt r.bt
theorem bt_at {H : Hp} : ∀ {s : Sh} {v : V}, ShAt H s v → BtAt H s.bt v
  | .e, v, h => h
  | .n l r, v, ⟨a, x, y, e1, e2, e3, e4⟩ => ⟨a, x, y, e1, e2, bt_at e3, bt_at e4⟩
theorem bt_many : ∀ s : Sh, s.bt.many = s.many
  | .e => rfl
  | .n l r => by show l.bt.many + r.bt.many + 1 = l.many + r.many + 1; rw [bt_many l, bt_many r]
/-- no shape -/
def NoSh (H : Hp) (v : V) : Prop := ∃ t : Bt, t.spoilt = true ∧ t.many ≤ 3000 ∧ BtAt H t v
theorem NoSh.keep {H H' : Hp} {v : V} (h : NoSh H v) (k : KindK H H') : NoSh H' v := by
  obtain ⟨t, a, b, c⟩ := h
  exact ⟨t, a, b, c.keep k⟩
def spSpoilt (d : Nat) : Sp := fun vs H Q _ => ∃ (p L : Addr) (B : Int) (v : V) (s : Sh), vs = [.ref p, v] ∧ ShAt H s v ∧ s.deep ≤ d ∧ d ≤ 60 ∧ s.many ≤ 3000 ∧ B + 3 * ((d : Int) + 1) ≤ 900000 ∧ Pen L H p B ∧
  ∀ (v' : V) (t : Bt) (H' : Hp), But p H H' → Pen L H' p (B + 3 * (d + 1)) → t.spoilt = true → t.many ≤ s.many → BtAt H' t v' → Q v' H'
section
variable {P : Program} {w : World} {K : PySem.W.Frag} {mg : Str → Option Value} {base : Heap}
theorem scSpoilt : FnScope ["_law_pen_here", "_law_shape_so", "_law_odd"] ["_law_pen_here", "_law_shape_so"] (defScope sSpoilt) := ⟨rfl, rfl, rfl, by decide +kernel, rfl, by decide +kernel, by decide +kernel⟩
theorem ok_spoilt {f : Addr} {fd : FuncData} (F : Fun K "_law_spoilt" "_law_spoilt" sSpoilt f fd) (T : Blt mg) (gS : mg "_law_spoilt" = some (.ref f)) (bS : Binds K fd ["_law_pen_here", "_law_shape_so"] [])
    (D1 : Df P w K mg base 1 "_law_draw" ["_law_pen_here", "_law_many"] spDraw) (D2 : Df P w K mg base 2 "_law_pick" ["_law_pen_here", "_law_some"] spPick) : ∀ d : Nat, FnOk P w K mg base CX0 (3 + d) f fd ["_law_pen_here", "_law_shape_so"] (spSpoilt d)
  | 0 => by
    obtain ⟨f1, fd1, G1, g1, k1, b1⟩ := D1.ex
    obtain ⟨f2, fd2, G2, g2, k2, b2⟩ := D2.ex
    refine F.ok scSpoilt (fun vs H Q E h => ?_) (fun cdv A outer s H vs Q E hr h => ?_)
    · obtain ⟨p, L, B, v, sh, rfl, _⟩ := h
      rfl
    · obtain ⟨p, L, B, v, sh, rfl, hv, hd, hd2, hm, hB, hp, kk⟩ := h
      have hf : sh = .e := by
        cases sh with
        | e => rfl
        | n l' r' => have : max l'.deep r'.deep + 1 ≤ 0 := hd; omega
      subst hf
      have hr1 : Room 1 _ := hr.mono (show 1 ≤ 2 by omega)
      have hr2 : Room 2 _ := hr.mono (show 2 ≤ 2 by omega)
      refine ⟨_, pss_cons (ps_set (i := 2) scSpoilt.nd rfl (.inl rfl) (pe_call G2 hr2 (by rfl) g2 k2 b2 .nil pass0 (pa_cons (pv 0) (pa_cons (pe_lst (pa_cons pe_non (pa_cons pe_int (pa_cons (pe_lst pa_nil) (pa_cons pe_str (pa_cons (pe_tup (pa_cons (pe_tup pa_nil) pa_nil)) (pa_cons (pe_tup (pa_cons (pe_tup pa_nil) (pa_cons (pe_tup pa_nil) (pa_cons (pe_tup pa_nil) pa_nil))))
          (pa_cons pe_dnewK (pa_cons (pe_lst (pa_cons (pe_tup pa_nil) (pa_cons (pe_tup pa_nil) pa_nil))) (pa_cons pe_bl pa_nil)))))))))) pa_nil))))
        (pss_cons (ps_if (PW.pt (pw_or (pt_cmpR (op_eqD hr.units) (pv 1) (pe_tup pa_nil) (nomark _)) (pw_or1 (pt_cmpR op_eq (pe_call G1 hr1 (by rfl) g1 k1 b1 .nil pass0 (pa_cons (pv 0) (pa_cons pe_int pa_nil))) pe_int (nomark _))))) (pss_one (ps_ret (pv 2))) pss_nil)
        (pss_cons ps_never (pss_one ps_never))), ?_⟩
      refine ⟨_, rfl, (by show 0 ≤ sizeLine; decide), fun l1 n1 => ?_⟩
      have s1 : Same H (upd H l1 (.lst [])) := same_new n1
      have e1 : upd H l1 (.lst []) l1 = some (.lst []) := upd_same
      generalize upd H l1 (.lst []) = H1 at s1 e1 ⊢
      refine ⟨(by show 0 ≤ sizeLine; decide), fun l2 n2 => ⟨(by show 1 ≤ sizeLine; decide), fun l3 n3 => ?_⟩⟩
      have s3 : Same H1 (upd (upd H1 l2 (.tup [])) l3 (.tup [.ref l2])) := (same_new n2).trans (same_new n3)
      have e3 : upd (upd H1 l2 (.tup [])) l3 (.tup [.ref l2]) l3 = some (.tup [.ref l2]) := upd_same
      generalize upd (upd H1 l2 (.tup [])) l3 (.tup [.ref l2]) = H3 at s3 e3 ⊢
      refine ⟨(by show 0 ≤ sizeLine; decide), fun l4 n4 => ⟨(by show 0 ≤ sizeLine; decide), fun l5 n5 => ⟨(by show 0 ≤ sizeLine; decide), fun l6 n6 => ⟨(by show 3 ≤ sizeLine; decide), fun l7 n7 => ?_⟩⟩⟩⟩
      have s7 : Same H3 (upd (upd (upd (upd H3 l4 (.tup [])) l5 (.tup [])) l6 (.tup [])) l7 (.tup [.ref l4, .ref l5, .ref l6])) := ((same_new n4).trans (same_new n5)).trans ((same_new n6).trans (same_new n7))
      have e7 : upd (upd (upd (upd H3 l4 (.tup [])) l5 (.tup [])) l6 (.tup [])) l7 (.tup [.ref l4, .ref l5, .ref l6]) l7 = some (.tup [.ref l4, .ref l5, .ref l6]) := upd_same
      generalize upd (upd (upd (upd H3 l4 (.tup [])) l5 (.tup [])) l6 (.tup [])) l7 (.tup [.ref l4, .ref l5, .ref l6]) = H7 at s7 e7 ⊢
      refine fun l8 n8 => ?_
      have s8 : Same H7 (upd H7 l8 (.dK [])) := same_new n8
      have e8 : upd H7 l8 (.dK []) l8 = some (.dK ([] : List (Key × V))) := upd_same
      generalize upd H7 l8 (.dK []) = H8 at s8 e8 ⊢
      refine ⟨(by show 0 ≤ sizeLine; decide), fun l9 n9 => ⟨(by show 0 ≤ sizeLine; decide), fun l10 n10 => ⟨(by show 2 ≤ sizeLine; decide), fun l11 n11 => ?_⟩⟩⟩
      have s11 : Same H8 (upd (upd (upd H8 l9 (.tup [])) l10 (.tup [])) l11 (.lst [.ref l9, .ref l10])) := ((same_new n9).trans (same_new n10)).trans (same_new n11)
      have e11 : upd (upd (upd H8 l9 (.tup [])) l10 (.tup [])) l11 (.lst [.ref l9, .ref l10]) l11 = some (.lst [.ref l9, .ref l10]) := upd_same
      generalize upd (upd (upd H8 l9 (.tup [])) l10 (.tup [])) l11 (.lst [.ref l9, .ref l10]) = H11 at s11 e11 ⊢
      have sH : Same H H11 := s1.trans (s3.trans (s7.trans (s8.trans s11)))
      have odds : ∀ d ∈ ([.non, .int 0, .ref l1, .str "", .ref l3, .ref l7, .ref l8, .ref l11, .bl true] : List V), OddAt H11 d := fun d m => by
        simp only [List.mem_cons, List.not_mem_nil, or_false] at m
        rcases m with e | e | e | e | e | e | e | e | e <;> subst e
        · exact .non
        · exact .int 0
        · exact .lst (s11 _ _ (s8 _ _ (s7 _ _ (s3 _ _ e1))))
        · exact .str _
        · exact .tup (s11 _ _ (s8 _ _ (s7 _ _ e3))) (.inl rfl)
        · exact .tup (s11 _ _ (s8 _ _ e7)) (.inr rfl)
        · exact .dct (s11 _ _ e8)
        · exact .lst e11
        · exact .bl true
      have p11 := hp.keep sH
      refine ⟨(by show 9 ≤ sizeLine; decide), fun l12 n12 => ⟨p, l12, L, _, _, rfl, upd_same, p11.ne n12, (by show 1 ≤ 9; decide), (by show 9 ≤ 1000; decide), by omega, p11.new n12, fun kv H12 m12 t12 p12 => ?_⟩⟩
      have s12 : Same H11 (upd H11 l12 (.lst [.non, .int 0, .ref l1, .str "", .ref l3, .ref l7, .ref l8, .ref l11, .bl true])) := same_new n12
      have odd : OddAt H12 kv := ((odds kv m12).keep (Same.kind s12)).keep (t12.kind (p11.new n12) p12)
      have bt12 : But p H H12 := (Same.but (sH.trans s12)).trans t12
      have kd12 : KindK H H12 := bt12.kind hp p12
      have hv12 := hv.tupk kd12.1
      refine ⟨_, rfl, (by show 0 ≤ sizeLine; decide), fun t nt => ?_⟩
      refine ⟨_, _, sh_dp (hv12.keep (same_new nt)), .tup (SqT.of upd_same) .nil, sh_shaped (by show 0 ≤ 60; omega), shaped_nil, ?_⟩
      rw [sh_eqv]
      refine ⟨_, rfl, iteT (iteT ⟨_, rfl, ?_⟩)⟩
      exact kk kv .bad _ (bt12.trans (Same.but (same_new nt))) ((p12.new nt).mono (by omega)) rfl (Nat.le_refl _) (odd.keep (Same.kind (same_new nt)))
  | d + 1 => by
    obtain ⟨f1, fd1, G1, g1, k1, b1⟩ := D1.ex
    obtain ⟨f2, fd2, G2, g2, k2, b2⟩ := D2.ex
    have GS := ok_spoilt F T gS bS D1 D2 d
    refine F.ok scSpoilt (fun vs H Q E h => ?_) (fun cdv A outer s H vs Q E hr h => ?_)
    · obtain ⟨p, L, B, v, sh, rfl, _⟩ := h
      rfl
    · obtain ⟨p, L, B, v, sh, rfl, hv, hd, hd2, hm, hB, hp, kk⟩ := h
      have hr1 : Room 1 _ := hr.mono (show 1 ≤ 3 + d by omega)
      have hr2 : Room 2 _ := hr.mono (show 2 ≤ 3 + d by omega)
      have hrd : Room (3 + d) _ := hr
      refine ⟨_, pss_cons (ps_set (i := 2) scSpoilt.nd rfl (.inl rfl) (pe_call G2 hr2 (by rfl) g2 k2 b2 .nil pass0 (pa_cons (pv 0) (pa_cons (pe_lst (pa_cons pe_non (pa_cons pe_int (pa_cons (pe_lst pa_nil) (pa_cons pe_str (pa_cons (pe_tup (pa_cons (pe_tup pa_nil) pa_nil)) (pa_cons (pe_tup (pa_cons (pe_tup pa_nil) (pa_cons (pe_tup pa_nil) (pa_cons (pe_tup pa_nil) pa_nil))))
          (pa_cons pe_dnewK (pa_cons (pe_lst (pa_cons (pe_tup pa_nil) (pa_cons (pe_tup pa_nil) pa_nil))) (pa_cons pe_bl pa_nil)))))))))) pa_nil))))
        (pss_cons (ps_if (PW.pt (pw_or (pt_cmpR (op_eqD hr.units) (pv 1) (pe_tup pa_nil) (nomark _)) (pw_or1 (pt_cmpR op_eq (pe_call G1 hr1 (by rfl) g1 k1 b1 .nil pass0 (pa_cons (pv 0) (pa_cons pe_int pa_nil))) pe_int (nomark _))))) (pss_one (ps_ret (pv 2))) pss_nil)
        (pss_cons (ps_if (pt_cmpR op_eq (pe_call G1 hr1 (by rfl) g1 k1 b1 .nil pass0 (pa_cons (pv 0) (pa_cons pe_int pa_nil))) pe_int (nomark _))
          (pss_one (ps_ret (pe_tup (pa_cons (pe_call GS hrd (by rfl) gS F.kp bS .nil pass0 (pa_cons (pv 0) (pa_cons (pe_ix ix_tup (pv 1) pe_int (fun _ _ => rfl)) pa_nil))) (pa_cons (pe_ix ix_tup (pv 1) pe_int (fun _ _ => rfl)) pa_nil))))) pss_nil)
        (pss_one (ps_ret (pe_tup (pa_cons (pe_ix ix_tup (pv 1) pe_int (fun _ _ => rfl)) (pa_cons (pe_call GS hrd (by rfl) gS F.kp bS .nil pass0 (pa_cons (pv 0) (pa_cons (pe_ix ix_tup (pv 1) pe_int (fun _ _ => rfl)) pa_nil))) pa_nil))))))), ?_⟩
      refine ⟨_, rfl, (by show 0 ≤ sizeLine; decide), fun l1 n1 => ?_⟩
      have s1 : Same H (upd H l1 (.lst [])) := same_new n1
      have e1 : upd H l1 (.lst []) l1 = some (.lst []) := upd_same
      generalize upd H l1 (.lst []) = H1 at s1 e1 ⊢
      refine ⟨(by show 0 ≤ sizeLine; decide), fun l2 n2 => ⟨(by show 1 ≤ sizeLine; decide), fun l3 n3 => ?_⟩⟩
      have s3 : Same H1 (upd (upd H1 l2 (.tup [])) l3 (.tup [.ref l2])) := (same_new n2).trans (same_new n3)
      have e3 : upd (upd H1 l2 (.tup [])) l3 (.tup [.ref l2]) l3 = some (.tup [.ref l2]) := upd_same
      generalize upd (upd H1 l2 (.tup [])) l3 (.tup [.ref l2]) = H3 at s3 e3 ⊢
      refine ⟨(by show 0 ≤ sizeLine; decide), fun l4 n4 => ⟨(by show 0 ≤ sizeLine; decide), fun l5 n5 => ⟨(by show 0 ≤ sizeLine; decide), fun l6 n6 => ⟨(by show 3 ≤ sizeLine; decide), fun l7 n7 => ?_⟩⟩⟩⟩
      have s7 : Same H3 (upd (upd (upd (upd H3 l4 (.tup [])) l5 (.tup [])) l6 (.tup [])) l7 (.tup [.ref l4, .ref l5, .ref l6])) := ((same_new n4).trans (same_new n5)).trans ((same_new n6).trans (same_new n7))
      have e7 : upd (upd (upd (upd H3 l4 (.tup [])) l5 (.tup [])) l6 (.tup [])) l7 (.tup [.ref l4, .ref l5, .ref l6]) l7 = some (.tup [.ref l4, .ref l5, .ref l6]) := upd_same
      generalize upd (upd (upd (upd H3 l4 (.tup [])) l5 (.tup [])) l6 (.tup [])) l7 (.tup [.ref l4, .ref l5, .ref l6]) = H7 at s7 e7 ⊢
      refine fun l8 n8 => ?_
      have s8 : Same H7 (upd H7 l8 (.dK [])) := same_new n8
      have e8 : upd H7 l8 (.dK []) l8 = some (.dK ([] : List (Key × V))) := upd_same
      generalize upd H7 l8 (.dK []) = H8 at s8 e8 ⊢
      refine ⟨(by show 0 ≤ sizeLine; decide), fun l9 n9 => ⟨(by show 0 ≤ sizeLine; decide), fun l10 n10 => ⟨(by show 2 ≤ sizeLine; decide), fun l11 n11 => ?_⟩⟩⟩
      have s11 : Same H8 (upd (upd (upd H8 l9 (.tup [])) l10 (.tup [])) l11 (.lst [.ref l9, .ref l10])) := ((same_new n9).trans (same_new n10)).trans (same_new n11)
      have e11 : upd (upd (upd H8 l9 (.tup [])) l10 (.tup [])) l11 (.lst [.ref l9, .ref l10]) l11 = some (.lst [.ref l9, .ref l10]) := upd_same
      generalize upd (upd (upd H8 l9 (.tup [])) l10 (.tup [])) l11 (.lst [.ref l9, .ref l10]) = H11 at s11 e11 ⊢
      have sH : Same H H11 := s1.trans (s3.trans (s7.trans (s8.trans s11)))
      have odds : ∀ d ∈ ([.non, .int 0, .ref l1, .str "", .ref l3, .ref l7, .ref l8, .ref l11, .bl true] : List V), OddAt H11 d := fun d m => by
        simp only [List.mem_cons, List.not_mem_nil, or_false] at m
        rcases m with e | e | e | e | e | e | e | e | e <;> subst e
        · exact .non
        · exact .int 0
        · exact .lst (s11 _ _ (s8 _ _ (s7 _ _ (s3 _ _ e1))))
        · exact .str _
        · exact .tup (s11 _ _ (s8 _ _ (s7 _ _ e3))) (.inl rfl)
        · exact .tup (s11 _ _ (s8 _ _ e7)) (.inr rfl)
        · exact .dct (s11 _ _ e8)
        · exact .lst e11
        · exact .bl true
      have p11 := hp.keep sH
      refine ⟨(by show 9 ≤ sizeLine; decide), fun l12 n12 => ⟨p, l12, L, _, _, rfl, upd_same, p11.ne n12, (by show 1 ≤ 9; decide), (by show 9 ≤ 1000; decide), by omega, p11.new n12, fun kv H12 m12 t12 p12 => ?_⟩⟩
      have s12 : Same H11 (upd H11 l12 (.lst [.non, .int 0, .ref l1, .str "", .ref l3, .ref l7, .ref l8, .ref l11, .bl true])) := same_new n12
      have odd : OddAt H12 kv := ((odds kv m12).keep (Same.kind s12)).keep (t12.kind (p11.new n12) p12)
      have bt12 : But p H H12 := (Same.but (sH.trans s12)).trans t12
      have kd12 : KindK H H12 := bt12.kind hp p12
      have hv12 := hv.tupk kd12.1
      have p2 : (0 : Int) ≤ 3 * ((d : Int) + 1) := by omega
      refine ⟨_, rfl, (by show 0 ≤ sizeLine; decide), fun t nt => ?_⟩
      refine ⟨_, _, sh_dp (hv12.keep (same_new nt)), .tup (SqT.of upd_same) .nil, sh_shaped (by omega), shaped_nil, ?_⟩
      rw [sh_eqv]
      have st : Same H12 (upd H12 t (.tup [])) := same_new nt
      have p13 := p12.new (o := .tup []) nt
      have hv13 := hv12.keep st
      have odd13 := odd.keep (Same.kind st)
      have bt13 := bt12.trans (Same.but st)
      generalize upd H12 t (.tup []) = H13 at st p13 hv13 odd13 bt13 ⊢
      cases sh with
      | e =>
        refine ⟨_, rfl, iteT (iteT ⟨_, rfl, ?_⟩)⟩
        exact kk kv .bad _ bt13 (p13.mono (by omega)) rfl (Nat.le_refl _) odd13
      | n x y =>
        refine ⟨_, rfl, iteF ?_⟩
        have dd : max x.deep y.deep + 1 ≤ d + 1 := hd
        have mm : x.many + y.many + 1 ≤ 3000 := hm
        refine ⟨_, rfl, p, L, _, _, rfl, by decide, by decide, by omega, p13, fun d14 H14 t14 p14 a14 c14 => ⟨rfl, _, rfl, ite2 (fun _ => ⟨_, rfl, ?_⟩) (fun _ => ?_)⟩⟩
        · exact kk kv .bad _ (bt13.trans t14) (p14.mono (by omega)) rfl (Nat.zero_le _) (odd13.keep (t14.kind p13 p14))
        · refine ⟨_, rfl, p, L, _, _, rfl, by decide, by decide, by omega, p14, fun d15 H15 t15 p15 a15 c15 => ?_⟩
          have k15 : KindK H13 H15 := (t14.kind p13 p14).trans (t15.kind p14 p15)
          obtain ⟨av, vx, vy, rfl, hav, hx, hy⟩ := hv13.tupk k15.1
          have bt15 := bt13.trans (t14.trans t15)
          refine ⟨rfl, _, rfl, ite2 (fun _ => ?_) (fun _ => ?_)⟩
          · refine ⟨_, rfl, _, rfl, av, _, 0, _, rfl, rfl, SqT.of hav, i2_0, p, L, _, vx, x, rfl, hx, by omega, by omega, by omega, by omega, p15, fun v' tb H16 t16 p16 sp tm hb => ?_⟩
            have k16 := t16.kind p15 p16
            refine ⟨_, rfl, av, _, 1, _, rfl, rfl, SqT.of (k16.1 _ _ hav), i2_1, (by show 2 ≤ sizeLine; decide), fun a na => ?_⟩
            have kn := Same.kind (same_new (o := .tup [v', vy]) na)
            refine kk (.ref a) (.n tb y.bt) _ ((bt15.trans t16).trans (Same.but (same_new na))) ((p16.new na).mono (by omega)) ?_ ?_ ⟨a, _, _, rfl, upd_same, hb.keep kn, (bt_at hy).keep (k16.trans kn)⟩
            · show (tb.spoilt || y.bt.spoilt) = true
              rw [sp]; rfl
            · show tb.many + y.bt.many + 1 ≤ x.many + y.many + 1
              rw [bt_many]; omega
          · refine ⟨_, rfl, av, _, 0, _, rfl, rfl, SqT.of hav, i2_0, _, rfl, _, rfl, av, _, 1, _, rfl, rfl, SqT.of hav, i2_1, p, L, _, vy, y, rfl, hy, by omega, by omega, by omega, by omega, p15, fun v' tb H16 t16 p16 sp tm hb => ?_⟩
            have k16 := t16.kind p15 p16
            refine ⟨(by show 2 ≤ sizeLine; decide), fun a na => ?_⟩
            have kn := Same.kind (same_new (o := .tup [vx, v']) na)
            refine kk (.ref a) (.n x.bt tb) _ ((bt15.trans t16).trans (Same.but (same_new na))) ((p16.new na).mono (by omega)) ?_ ?_ ⟨a, _, _, rfl, upd_same, (bt_at hx).keep (k16.trans kn), hb.keep kn⟩
            · show (x.bt.spoilt || tb.spoilt) = true
              rw [sp, Bool.or_true]
            · show x.bt.many + tb.many + 1 ≤ x.many + y.many + 1
              rw [bt_many]; omega
end
end Ev
namespace Ev
open PySem L2 PySem.Spec PyProof.Rows
def tot : List Sh → Nat
  | [] => 0
  | s :: r => 1 + 2 * s.many + tot r
theorem tot_app : ∀ a b : List Sh, tot (a ++ b) = tot a + tot b
  | [], b => by simp [tot]
  | s :: r, b => by simp only [List.cons_append, tot, tot_app r b]; omega
/-- the parts gone through so far -/
structure Part (s : Sh) (P : List Sh) (j : Nat) : Prop where
  z : P[0]? = some s
  le : j ≤ P.length
  len : P.length = 1 + 2 * cn P j
  lt : ∀ i, i < j → i < 1 + 2 * cn P i
  kid : ∀ i l r, i < j → P[i]? = some (.n l r) → P[1 + 2 * cn P i]? = some l ∧ P[2 + 2 * cn P i]? = some r
  sum : j + tot (P.drop j) = 1 + 2 * s.many
theorem Part.first (s : Sh) : Part s [s] 0 := ⟨rfl, by simp, by simp [cn], fun i h => by omega, fun i l r h => by omega, by simp [tot]⟩
theorem Part.skip {s : Sh} {P : List Sh} {j : Nat} (h : Part s P j) (e : P[j]? = some .e) : Part s P (j + 1) := by
  have jl := (List.getElem?_eq_some_iff.mp e).1
  have c := cn_succ e
  have c : cn P (j + 1) = cn P j := c
  have dr : P.drop j = .e :: P.drop (j + 1) := by
    obtain ⟨_, e'⟩ := List.getElem?_eq_some_iff.mp e
    rw [List.drop_eq_getElem_cons jl, e']
  have sm := h.sum
  rw [dr] at sm
  refine ⟨h.z, jl, by rw [c]; exact h.len, fun i hi => ?_, fun i l r hi ei => ?_, by simp only [tot, Sh.many] at sm; omega⟩
  · by_cases z : i < j
    · exact h.lt i z
    · obtain rfl : i = j := by omega
      have := h.len; omega
  · by_cases z : i < j
    · exact h.kid i l r z ei
    · obtain rfl : i = j := by omega
      rw [e] at ei; cases ei
theorem Part.grow {s : Sh} {P : List Sh} {j : Nat} {l r : Sh} (h : Part s P j) (e : P[j]? = some (.n l r)) : Part s (P ++ [l, r]) (j + 1) := by
  have jl := (List.getElem?_eq_some_iff.mp e).1
  have c := cn_succ e
  have c : cn P (j + 1) = cn P j + 1 := c
  have ca : ∀ i, i ≤ P.length → cn (P ++ [l, r]) i = cn P i := fun i hi => cn_app P [l, r] hi
  have dr : P.drop j = .n l r :: P.drop (j + 1) := by
    obtain ⟨_, e'⟩ := List.getElem?_eq_some_iff.mp e
    rw [List.drop_eq_getElem_cons jl, e']
  have sm := h.sum
  rw [dr] at sm
  have ln := h.len
  refine ⟨?_, ?_, ?_, fun i hi => ?_, fun i l' r' hi ei => ?_, ?_⟩
  · rw [List.getElem?_append_left (by omega)]; exact h.z
  · rw [List.length_append]; simp; omega
  · rw [ca _ jl, c, List.length_append]; simp; omega
  · rw [ca _ (by omega)]
    by_cases z : i < j
    · exact h.lt i z
    · obtain rfl : i = j := by omega
      omega
  · rw [ca _ (by omega)]
    rw [List.getElem?_append_left (by omega)] at ei
    by_cases z : i < j
    · obtain ⟨k1, k2⟩ := h.kid i l' r' z ei
      have b1 := (List.getElem?_eq_some_iff.mp k1).1
      have b2 := (List.getElem?_eq_some_iff.mp k2).1
      rw [List.getElem?_append_left b1, List.getElem?_append_left b2]
      exact ⟨k1, k2⟩
    · obtain rfl : i = j := by omega
      rw [e] at ei
      cases ei
      rw [List.getElem?_append_right (by omega), List.getElem?_append_right (by omega), show 1 + 2 * cn P i - P.length = 0 by omega, show 2 + 2 * cn P i - P.length = 1 by omega]
      exact ⟨rfl, rfl⟩
  · rw [List.drop_append_of_le_length (by omega), tot_app]
    simp only [tot, Sh.many] at sm ⊢
    omega
theorem Part.clo {s : Sh} {P : List Sh} (h : Part s P P.length) : Clo P ∧ P[0]? = some s ∧ P.length = 1 + 2 * s.many := by
  refine ⟨⟨h.len, h.lt, fun i l r e => h.kid i l r (List.getElem?_eq_some_iff.mp e).1 e⟩, h.z, ?_⟩
  have := h.sum
  rw [List.drop_length] at this
  exact this
theorem VP.snoc2 {H : Hp} {P : List Sh} {xs : List V} {l r : Sh} {x y : V} (h : VP H P xs) (hx : ShAt H l x) (hy : ShAt H r y) : VP H (P ++ [l, r]) (xs ++ [x, y]) := by
  refine ⟨by rw [List.length_append, List.length_append, h.1]; rfl, fun i s e => ?_⟩
  by_cases z : i < P.length
  · rw [List.getElem?_append_left z] at e
    obtain ⟨v, e1, e2⟩ := h.2 i s e
    exact ⟨v, by rw [List.getElem?_append_left (by rw [h.1]; exact z)]; exact e1, e2⟩
  · rw [List.getElem?_append_right (by omega)] at e
    rw [List.getElem?_append_right (by rw [h.1]; omega), h.1]
    match i - P.length, e with
    | 0, e => cases e; exact ⟨x, rfl, hx⟩
    | 1, e => cases e; exact ⟨y, rfl, hy⟩
    | n + 2, e => simp at e
def VB (H : Hp) (P : List Bt) (xs : List V) : Prop := xs.length = P.length ∧ ∀ (i : Nat) (s : Bt), P[i]? = some s → ∃ x, xs[i]? = some x ∧ BtAt H s x
theorem VB.keep {H H' : Hp} {P : List Bt} {xs : List V} (h : VB H P xs) (k : KindK H H') : VB H' P xs := ⟨h.1, fun i s e => by
  obtain ⟨x, e1, e2⟩ := h.2 i s e
  exact ⟨x, e1, e2.keep k⟩⟩
theorem VB.snoc2 {H : Hp} {P : List Bt} {xs : List V} {l r : Bt} {x y : V} (h : VB H P xs) (hx : BtAt H l x) (hy : BtAt H r y) : VB H (P ++ [l, r]) (xs ++ [x, y]) := by
  refine ⟨by rw [List.length_append, List.length_append, h.1]; rfl, fun i s e => ?_⟩
  by_cases z : i < P.length
  · rw [List.getElem?_append_left z] at e
    obtain ⟨v, e1, e2⟩ := h.2 i s e
    exact ⟨v, by rw [List.getElem?_append_left (by rw [h.1]; exact z)]; exact e1, e2⟩
  · rw [List.getElem?_append_right (by omega)] at e
    rw [List.getElem?_append_right (by rw [h.1]; omega), h.1]
    match i - P.length, e with
    | 0, e => cases e; exact ⟨x, rfl, hx⟩
    | 1, e => cases e; exact ⟨y, rfl, hy⟩
    | n + 2, e => simp at e
theorem KindK.upd {H : Hp} {l : Addr} {xs ys : List V} (h : H l = some (.lst xs)) : KindK H (upd H l (.lst ys)) := by
  refine ⟨fun a zs e => ?_, fun a zs e => ?_, fun a zs e => ?_⟩
  · rw [upd_ne (ne_of e h (by intro z; cases z))]; exact e
  · by_cases z : a = l
    · subst z; exact ⟨_, upd_same⟩
    · exact ⟨zs, by rw [upd_ne z]; exact e⟩
  · exact ⟨zs, by rw [upd_ne (ne_of e h (by intro z; cases z))]; exact e⟩
def totB : List Bt → Nat
  | [] => 0
  | s :: r => 1 + 2 * s.many + totB r
theorem totB_app : ∀ a b : List Bt, totB (a ++ b) = totB a + totB b
  | [], b => by simp [totB]
  | s :: r, b => by simp only [List.cons_append, totB, totB_app r b]; omega
theorem totB_len : ∀ L : List Bt, L.length ≤ totB L
  | [] => Nat.le_refl _
  | a :: r => by have := totB_len r; simp only [List.length_cons, totB]; omega
section
variable {P : Program} {w : World} {K : PySem.W.Frag} {mg : Str → Option Value} {base : Heap}
theorem scJointsOf : FnScope ["shape", "parts", "found", "at", "part", "left", "right"] ["shape"] (defScope sJointsOf) := ⟨rfl, rfl, rfl, by decide +kernel, rfl, by decide +kernel, by decide +kernel⟩
theorem jf_succ (P : List Sh) (i : Nat) : jf P (i + 1) = jf P i ++ (match P[i]? with
    | some (.n _ _) => [i]
    | _ => []) := rfl
theorem jf_le (P : List Sh) : ∀ i : Nat, (jf P i).length ≤ i
  | 0 => Nat.le_refl _
  | i + 1 => by
    have := jf_le P i
    unfold jf
    rw [List.length_append]
    split <;> simp <;> omega
theorem ok_jointsOf {f : Addr} {fd : FuncData} {k : Nat} (F : Fun K "joints_of" "joints_of" sJointsOf f fd) (T : Blt mg) : FnOk P w K mg base CX0 (k + 1) f fd ["shape"] (spJoints NoSh) := by
  refine F.ok scJointsOf (fun vs H Q E h => ?_) (fun cdv A outer s H vs Q E hr h => ?_)
  · obtain ⟨v, rfl, _⟩ := h
    rfl
  · obtain ⟨v, rfl, hh⟩ := h
    refine ⟨_, pss_cons (ps_set (i := 1) scJointsOf.nd rfl (.inl rfl) (pe_lst (pa_cons (pv 0) pa_nil)))
      (pss_cons (ps_set (i := 2) scJointsOf.nd rfl (.inl rfl) (pe_lst pa_nil))
      (pss_cons (ps_set (i := 3) scJointsOf.nd rfl (.inl rfl) pe_int)
      (pss_cons (ps_while PassesOwn.never (pt_cmpR op_lt (pv 3) (pe_callB call_len_seq (by rfl) T.len PySem.boot_len (pa_cons (pv 1) pa_nil)) (nomark _))
        (pss_cons (ps_set (i := 4) scJointsOf.nd rfl (.inl rfl) (pe_ix ix_list (pv 1) (pv 3) (fun _ _ => rfl)))
        (pss_cons (ps_if (pt_not (pt_val (pe_callB call_isi (by rfl) T.isi (by decide +kernel) (pa_cons (pv 4) (pa_cons (pe_bltn (v := .ty "tuple") (by rfl) T.tuple (by decide +kernel) rfl) pa_nil)))))
          (pss_one (ps_ret pe_non)) pss_nil)
        (pss_cons (ps_if (pt_cmpR op_eq (pe_callB call_len_seq (by rfl) T.len PySem.boot_len (pa_cons (pv 4) pa_nil)) pe_int (nomark _))
          (pss_cons (ps_asg (pv 4) (pg_tup (by rfl) (pgs_cons (pg_name (i := 5) scJointsOf.nd rfl (.inl rfl)) (pgs_cons (pg_name (i := 6) scJointsOf.nd rfl (.inl rfl)) pgs_nil))))
          (pss_cons (ps_expr (pe_bm PySem.F.plainAttrs_list PySem.F.slot_list_append PySem.F.type_list_append mt_append (pv 2) (pa_cons (pe_tup (pa_cons (pv 3) (pa_cons (pe_callB call_len_seq (by rfl) T.len PySem.boot_len (pa_cons (pv 1) pa_nil)) pa_nil))) pa_nil)))
          (pss_cons (ps_expr (pe_bm PySem.F.plainAttrs_list PySem.F.slot_list_append PySem.F.type_list_append mt_append (pv 1) (pa_cons (pv 5) pa_nil)))
          (pss_one (ps_expr (pe_bm PySem.F.plainAttrs_list PySem.F.slot_list_append PySem.F.type_list_append mt_append (pv 1) (pa_cons (pv 6) pa_nil))))))) (pss_one (ps_if (pt_cmpR op_gt (pe_callB call_len_seq (by rfl) T.len PySem.boot_len (pa_cons (pv 4) pa_nil)) pe_int (nomark _))
            (pss_one (ps_ret pe_non)) pss_nil)))
        (pss_one (ps_aug (i := 3) scJointsOf.nd rfl (.inl rfl) pe_int ip_add))))))
      (pss_one (ps_ret (pv 2)))))), ?_⟩
    rcases hh with ⟨sh, hs, hm, kk⟩ | ⟨⟨t, ts, tm, hb⟩, kk⟩
    · refine ⟨_, rfl, (by show 1 ≤ sizeLine; decide), fun l nl => ?_⟩
      have s1 : Same H (upd H l (.lst [v])) := same_new nl
      have hl : upd H l (.lst [v]) l = some (.lst [v]) := upd_same
      generalize upd H l (.lst [v]) = H1 at s1 hl ⊢
      refine ⟨(by show 0 ≤ sizeLine; decide), fun m nm1 => ?_⟩
      have s2 : Same H1 (upd H1 m (.lst [])) := same_new nm1
      have hm2 : upd H1 m (.lst []) m = some (.lst []) := upd_same
      have nlm : l ≠ m := ne_of_none hl nm1
      have nmH : H m = none := by
        cases z : H m with
        | none => rfl
        | some o => rw [s1 _ _ z] at nm1; cases nm1
      generalize upd H1 m (.lst []) = H2 at s2 hm2 ⊢
      refine ⟨fun μ σ H' => ∃ (j : Nat) (P : List Sh) (xs : List V) (ts : List Addr) (v4 v5 v6 : Option V), σ = [some v, some (.ref l), some (.ref m), some (.int (j : Int)), v4, v5, v6] ∧ H' l = some (.lst xs) ∧ H' m = some (.lst (ts.map V.ref)) ∧ Prs H' P ts (jf P j) ∧ VP H' P xs ∧ Part sh P j ∧ Same H H' ∧ μ = 1 + 2 * sh.many - j,
        ⟨_, 0, [sh], [v], [], none, none, none, rfl, s2 _ _ hl, hm2, .nil, ⟨rfl, fun i s e => ?_⟩, Part.first sh, s1.trans s2, rfl⟩, ?_⟩
      · match i, e with
        | 0, e => cases e; exact ⟨v, rfl, (hs.keep s1).keep s2⟩
        | i + 1, e => simp at e
      clear s1 s2 hl hm2 nm1
      rintro μ σ H' ⟨j, P, xs, ts, v4, v5, v6, rfl, hl', hm', pr, vp, pt, sm, rfl⟩
      have hx := vp.1
      refine ⟨_, rfl, _, rfl, l, _, rfl, .inl (SqL.of hl'), _, _, rfl, rfl, _, rfl, ite2 (fun e => ?_) (fun e => ?_)⟩
      · have e : (j : Int) < (xs.length : Nat) := of_decide_eq_true e
        have jl : j < P.length := by omega
        have sum := pt.sum
        have jb : P.length ≤ 6001 := by
          have : ∀ L : List Sh, L.length ≤ tot L := fun L => by
            induction L with
            | nil => exact Nat.le_refl _
            | cons a r ih => simp only [List.length_cons, tot]; omega
          have := this (P.drop j)
          rw [List.length_drop] at this
          omega
        have dr : tot (P.drop j) ≥ 1 := by rw [List.drop_eq_getElem_cons jl]; simp only [tot]; omega
        obtain ⟨x, ex, sx⟩ := vp.2 j _ (List.getElem?_eq_getElem jl)
        have el : P[j]? = some P[j] := List.getElem?_eq_getElem jl
        refine ⟨fun σ' H3 => ∃ (P : List Sh) (xs : List V) (ts : List Addr) (v4 v5 v6 : Option V), σ' = [some v, some (.ref l), some (.ref m), some (.int ((j + 1 : Nat) : Int)), v4, v5, v6] ∧ H3 l = some (.lst xs) ∧ H3 m = some (.lst (ts.map V.ref)) ∧ Prs H3 P ts (jf P (j + 1)) ∧ VP H3 P xs ∧ Part sh P (j + 1) ∧ Same H H3, fun σ' H3 ⟨P, xs, ts, v4, v5, v6, q1, q2, q3, q4, q5, q6, q7⟩ => ⟨_, ?_, j + 1, P, xs, ts, v4, v5, v6, q1, q2, q3, q4, q5, q6, q7, rfl⟩, ?_⟩
        · omega
        refine ⟨_, rfl, _, rfl, l, _, _, _, rfl, rfl, SqL.of hl', atI_nat ex, ?_⟩
        obtain ⟨b, ys, rfl, hb, ly⟩ := sx.tup
        refine ⟨_, rfl, _, _, _, _, true, rfl, .ty _, .base (.tup hb), kit_ty (by decide +kernel), true, rfl, iteF ?_⟩
        refine ⟨_, rfl, b, _, rfl, .inr (SqT.of hb), rfl, _, rfl, ?_⟩
        cases hs' : P[j] with
        | e =>
          rw [hs'] at el ly
          have y0 : ys = [] := List.eq_nil_of_length_eq_zero ly
          subst y0
          refine ite2 (fun e => absurd (of_decide_eq_true e) (by intro z; injection z with z; exact absurd z (by decide))) (fun _ => ?_)
          refine ⟨_, rfl, b, _, rfl, .inr (SqT.of hb), _, _, rfl, rfl, _, rfl, ite2 (fun e => absurd (of_decide_eq_true e) (by decide)) (fun _ => ?_)⟩
          refine ⟨_, rfl, _, _, rfl, rfl, P, xs, ts, _, _, _, rfl, hl', hm', ?_, vp, pt.skip el, sm⟩
          unfold jf
          rw [el]
          simpa using pr
        | n l' r' =>
          rw [hs'] at el sx
          obtain ⟨b', x', y', eb, hb', hx', hy'⟩ := sx
          cases eb
          rw [hb'] at hb
          cases hb
          refine ite2 (fun _ => ?_) (fun e => absurd (decide_eq_true rfl) e)
          refine ⟨_, rfl, b, _, rfl, SqT.of hb', rfl, _, _, rfl, _, _, rfl, rfl, ?_⟩
          refine ⟨_, rfl, .inl ⟨rfl, _, SqL.of hm'⟩, _, rfl, _, rfl, l, _, rfl, .inl (SqL.of hl'), (by show 2 ≤ sizeLine; decide), fun t nt => ?_⟩
          have s3 : Same H' (upd H' t (.tup [.int (j : Int), .int ((xs.length : Nat) : Int)])) := same_new nt
          have ht : upd H' t (.tup [.int (j : Int), .int ((xs.length : Nat) : Int)]) t = some (prO P j) := by
            rw [upd_same]
            unfold prO
            rw [← pt.len, ← hx]
          generalize upd H' t (.tup [.int (j : Int), .int ((xs.length : Nat) : Int)]) = H3 at s3 ht ⊢
          have lts : ts.length < sizeLine := by
            have e := pr.length
            have := jf_le P j
            exact Nat.lt_of_le_of_lt (show ts.length ≤ 6001 by omega) (by decide)
          refine ⟨m, _, _, rfl, rfl, s3 _ _ hm', (by rw [List.length_map]; exact lts), ?_⟩
          have hl3 := s3 _ _ hl'
          have pr3 := Prs.snoc (pr.keep (Same.tupk s3)) ht
          have vp3 := vp.keep (Same.tupk s3)
          have hx3 := (hx'.keep s3); have hy3 := (hy'.keep s3)
          have tk4 : TupK H3 (upd H3 m (.lst (ts.map V.ref ++ [.ref t]))) := fun c zs e => by rw [upd_ne (ne_of e (s3 _ _ hm') (by intro z; cases z))]; exact e
          have hl4 : upd H3 m (.lst (ts.map V.ref ++ [.ref t])) l = some (.lst xs) := by rw [upd_ne nlm]; exact hl3
          have hm4 : upd H3 m (.lst (ts.map V.ref ++ [.ref t])) m = some (.lst ((ts ++ [t]).map V.ref)) := by rw [upd_same, List.map_append]; rfl
          have sm4 : Same H (upd H3 m (.lst (ts.map V.ref ++ [.ref t]))) := fun c o q => by rw [upd_ne (ne_of_none q nmH)]; exact s3 _ _ (sm _ _ q)
          generalize upd H3 m (.lst (ts.map V.ref ++ [.ref t])) = H4 at tk4 hl4 hm4 sm4 ⊢
          refine ⟨_, rfl, .inl ⟨rfl, _, SqL.of hl4⟩, _, rfl, l, _, _, rfl, rfl, hl4, Nat.lt_of_le_of_lt (show xs.length ≤ 6001 by omega) (by decide), ?_⟩
          have hl5 : upd H4 l (.lst (xs ++ [x'])) l = some (.lst (xs ++ [x'])) := upd_same
          refine ⟨_, rfl, .inl ⟨rfl, _, SqL.of hl5⟩, _, rfl, l, _, _, rfl, rfl, hl5, Nat.lt_of_le_of_lt (show (xs ++ [x']).length ≤ 6003 by rw [List.length_append]; show xs.length + 1 ≤ 6003; omega) (by decide), ?_⟩
          have tk6 : TupK H4 (upd (upd H4 l (.lst (xs ++ [x']))) l (.lst (xs ++ [x'] ++ [y']))) := fun c zs e => by
            have := ne_of e hl4 (by intro z; cases z)
            rw [upd_ne this, upd_ne this]; exact e
          have tk := tk4.trans tk6
          refine ⟨_, rfl, _, _, rfl, rfl, P ++ [l', r'], xs ++ [x', y'], ts ++ [t], _, _, _, rfl, ?_, ?_, ?_, ?_, pt.grow el, ?_⟩
          · rw [upd_same, List.append_assoc]; rfl
          · rw [upd_ne nlm.symm, upd_ne nlm.symm]; exact hm4
          · have ej : jf (P ++ [l', r']) (j + 1) = jf P j ++ [j] := by
              rw [jf_succ, jf_app P _ j (by omega), List.getElem?_append_left jl, el]
            rw [ej]
            have e1 : prO (P ++ [l', r']) = fun i => prO (P ++ [l', r']) i := rfl
            have prA : ∀ {ts : List Addr} {js : List Nat}, Prs H3 P ts js → (∀ i ∈ js, i ≤ P.length) → Prs H3 (P ++ [l', r']) ts js := by
              intro ts js h
              induction h with
              | nil => exact fun _ => .nil
              | cons x t ih =>
                intro hj
                refine .cons ?_ (ih fun i hi => hj i (List.mem_cons_of_mem _ hi))
                unfold prO
                rw [cn_app P _ (hj _ List.mem_cons_self)]
                exact x
            refine (prA pr3 fun i hi => ?_).keep tk
            have jfm : ∀ n, ∀ i ∈ jf P n, i < n := by
              intro n
              induction n with
              | zero => intro i hi; cases hi
              | succ n ih =>
                intro i hi
                unfold jf at hi
                rw [List.mem_append] at hi
                rcases hi with hi | hi
                · have := ih i hi; omega
                · split at hi
                  · obtain rfl := List.mem_singleton.mp hi; omega
                  · cases hi
            rcases List.mem_append.mp hi with hi | hi
            · have := jfm j i hi; omega
            · obtain rfl := List.mem_singleton.mp hi; omega
          · exact VP.snoc2 (vp3.keep tk) (hx3.tupk tk) (hy3.tupk tk)
          · exact fun c o q => by
              have := ne_of_none q nl
              rw [upd_ne this, upd_ne this]; exact sm4 _ _ q
      · have e : ¬ ((j : Int) < (xs.length : Nat)) := fun z => e (decide_eq_true z)
        have jl := pt.le
        obtain rfl : j = P.length := by omega
        obtain ⟨c1, c2, c3⟩ := pt.clo
        exact ⟨_, rfl, kk m P ts H' nmH sm hm' pr c1 c2 c3⟩
    · refine ⟨_, rfl, (by show 1 ≤ sizeLine; decide), fun l nl => ?_⟩
      have s1 : Same H (upd H l (.lst [v])) := same_new nl
      have hl : upd H l (.lst [v]) l = some (.lst [v]) := upd_same
      generalize upd H l (.lst [v]) = H1 at s1 hl ⊢
      refine ⟨(by show 0 ≤ sizeLine; decide), fun m nm1 => ?_⟩
      have s2 : Same H1 (upd H1 m (.lst [])) := same_new nm1
      have hm2 : upd H1 m (.lst []) m = some (.lst []) := upd_same
      have nlm : l ≠ m := ne_of_none hl nm1
      have nmH : H m = none := by
        cases z : H m with
        | none => rfl
        | some o => rw [s1 _ _ z] at nm1; cases nm1
      generalize upd H1 m (.lst []) = H2 at s2 hm2 ⊢
      refine ⟨fun μ σ H' => ∃ (j : Nat) (P : List Bt) (xs ts : List V) (v4 v5 v6 : Option V), σ = [some v, some (.ref l), some (.ref m), some (.int (j : Int)), v4, v5, v6] ∧ H' l = some (.lst xs) ∧ H' m = some (.lst ts) ∧ ts.length ≤ j ∧ VB H' P xs ∧ j ≤ P.length ∧ j + totB (P.drop j) ≤ 6001 ∧ (∃ s ∈ P.drop j, s.spoilt = true) ∧ Same H H' ∧ μ = 7000 - j,
        ⟨_, 0, [t], [v], [], none, none, none, rfl, s2 _ _ hl, hm2, by simp, ⟨rfl, fun i s e => ?_⟩, by simp, by show 0 + (1 + 2 * t.many + 0) ≤ 6001; omega, ⟨t, by simp, ts⟩, s1.trans s2, rfl⟩, ?_⟩
      · match i, e with
        | 0, e => cases e; exact ⟨v, rfl, (hb.keep (Same.kind s1)).keep (Same.kind s2)⟩
        | i + 1, e => simp at e
      clear s1 s2 hl hm2 nm1
      rintro μ σ H' ⟨j, P, xs, ts', v4, v5, v6, rfl, hl', hm', tl, vp, jle, sum, sp, sm, rfl⟩
      have hx := vp.1
      refine ⟨_, rfl, _, rfl, l, _, rfl, .inl (SqL.of hl'), _, _, rfl, rfl, _, rfl, ite2 (fun e => ?_) (fun e => ?_)⟩
      · have e : (j : Int) < (xs.length : Nat) := of_decide_eq_true e
        have jl : j < P.length := by omega
        have dr := List.drop_eq_getElem_cons jl
        have jb : P.length ≤ 6001 := by
          have := totB_len (P.drop j)
          rw [List.length_drop] at this
          omega
        rw [dr] at sum sp
        simp only [totB] at sum
        obtain ⟨x, ex, sx⟩ := vp.2 j _ (List.getElem?_eq_getElem jl)
        refine ⟨fun σ' H3 => ∃ (P : List Bt) (xs ts : List V) (v4 v5 v6 : Option V), σ' = [some v, some (.ref l), some (.ref m), some (.int ((j + 1 : Nat) : Int)), v4, v5, v6] ∧ H3 l = some (.lst xs) ∧ H3 m = some (.lst ts) ∧ ts.length ≤ j + 1 ∧ VB H3 P xs ∧ j + 1 ≤ P.length ∧ j + 1 + totB (P.drop (j + 1)) ≤ 6001 ∧ (∃ s ∈ P.drop (j + 1), s.spoilt = true) ∧ Same H H3, fun σ' H3 ⟨P, xs, ts, v4, v5, v6, q1, q2, q3, q4, q5, q6, q7, q8, q9⟩ => ⟨_, ?_, j + 1, P, xs, ts, v4, v5, v6, q1, q2, q3, q4, q5, q6, q7, q8, q9, rfl⟩, ?_⟩
        · omega
        refine ⟨_, rfl, _, rfl, l, _, _, _, rfl, rfl, SqL.of hl', atI_nat ex, ?_⟩
        generalize P[j] = pj at sx dr sum sp
        cases pj with
        | bad =>
          cases sx with
          | non => exact ⟨_, rfl, _, _, _, _, false, rfl, .ty _, .base .non, kit_ty (by decide +kernel), false, rfl, iteT (kk _ sm)⟩
          | int i => exact ⟨_, rfl, _, _, _, _, false, rfl, .ty _, .base (.int i), kit_ty (by decide +kernel), false, rfl, iteT (kk _ sm)⟩
          | str i => exact ⟨_, rfl, _, _, _, _, false, rfl, .ty _, .base (.str i), kit_ty (by decide +kernel), false, rfl, iteT (kk _ sm)⟩
          | bl i => exact ⟨_, rfl, _, _, _, _, false, rfl, .ty _, .base (.bl i), kit_ty (by decide +kernel), false, rfl, iteT (kk _ sm)⟩
          | lst q => exact ⟨_, rfl, _, _, _, _, false, rfl, .ty _, .base (.lst q), kit_ty (by decide +kernel), false, rfl, iteT (kk _ sm)⟩
          | dct q => exact ⟨_, rfl, _, _, _, _, false, rfl, .ty _, .base (.dK q), kit_ty (by decide +kernel), false, rfl, iteT (kk _ sm)⟩
          | @tup b ys q hl3 =>
            refine ⟨_, rfl, _, _, _, _, true, rfl, .ty _, .base (.tup q), kit_ty (by decide +kernel), true, rfl, iteF ?_⟩
            refine ⟨_, rfl, b, _, rfl, .inr (SqT.of q), rfl, _, rfl, ite2 (fun e => absurd (of_decide_eq_true e) (by intro z; injection z with z; omega)) (fun _ => ?_)⟩
            exact ⟨_, rfl, b, _, rfl, .inr (SqT.of q), _, _, rfl, rfl, _, rfl, ite2 (fun _ => kk _ sm) (fun e => absurd (decide_eq_true (by omega)) e)⟩
        | e =>
          obtain ⟨b, rfl, hb2⟩ := sx
          have sp2 : ∃ s ∈ P.drop (j + 1), s.spoilt = true := by
            obtain ⟨s, hs, q⟩ := sp
            rcases List.mem_cons.mp hs with rfl | hs
            · cases q
            · exact ⟨s, hs, q⟩
          refine ⟨_, rfl, _, _, _, _, true, rfl, .ty _, .base (.tup hb2), kit_ty (by decide +kernel), true, rfl, iteF ?_⟩
          refine ⟨_, rfl, b, _, rfl, .inr (SqT.of hb2), rfl, _, rfl, ?_⟩
          refine ite2 (fun e => absurd (of_decide_eq_true e) (by intro z; injection z with z; exact absurd z (by decide))) (fun _ => ?_)
          refine ⟨_, rfl, b, _, rfl, .inr (SqT.of hb2), _, _, rfl, rfl, _, rfl, ite2 (fun e => absurd (of_decide_eq_true e) (by decide)) (fun _ => ?_)⟩
          exact ⟨_, rfl, _, _, rfl, rfl, P, xs, ts', _, _, _, rfl, hl', hm', by omega, vp, jl, by simp only [Bt.many] at sum; omega, sp2, sm⟩
        | n l' r' =>
          obtain ⟨b, x', y', rfl, hb', hx', hy'⟩ := sx
          refine ⟨_, rfl, _, _, _, _, true, rfl, .ty _, .base (.tup hb'), kit_ty (by decide +kernel), true, rfl, iteF ?_⟩
          refine ⟨_, rfl, b, _, rfl, .inr (SqT.of hb'), rfl, _, rfl, ite2 (fun _ => ?_) (fun e => absurd (decide_eq_true rfl) e)⟩
          refine ⟨_, rfl, b, _, rfl, SqT.of hb', rfl, _, _, rfl, _, _, rfl, rfl, ?_⟩
          refine ⟨_, rfl, .inl ⟨rfl, _, SqL.of hm'⟩, _, rfl, _, rfl, l, _, rfl, .inl (SqL.of hl'), (by show 2 ≤ sizeLine; decide), fun t' nt => ?_⟩
          have s3 : Same H' (upd H' t' (.tup [.int (j : Int), .int ((xs.length : Nat) : Int)])) := same_new nt
          generalize upd H' t' (.tup [.int (j : Int), .int ((xs.length : Nat) : Int)]) = H3 at s3 ⊢
          have hl3 := s3 _ _ hl'
          refine ⟨m, _, _, rfl, rfl, s3 _ _ hm', Nat.lt_of_le_of_lt (show ts'.length ≤ 6001 by omega) (by decide), ?_⟩
          have k4 : KindK H3 (upd H3 m (.lst (ts' ++ [.ref t']))) := KindK.upd (s3 _ _ hm')
          have hl4 : upd H3 m (.lst (ts' ++ [.ref t'])) l = some (.lst xs) := by rw [upd_ne nlm]; exact hl3
          have hm4 : upd H3 m (.lst (ts' ++ [.ref t'])) m = some (.lst (ts' ++ [.ref t'])) := upd_same
          have sm4 : Same H (upd H3 m (.lst (ts' ++ [.ref t']))) := fun c o q => by rw [upd_ne (ne_of_none q nmH)]; exact s3 _ _ (sm _ _ q)
          generalize upd H3 m (.lst (ts' ++ [.ref t'])) = H4 at k4 hl4 hm4 sm4 ⊢
          refine ⟨_, rfl, .inl ⟨rfl, _, SqL.of hl4⟩, _, rfl, l, _, _, rfl, rfl, hl4, Nat.lt_of_le_of_lt (show xs.length ≤ 6001 by omega) (by decide), ?_⟩
          have hl5 : upd H4 l (.lst (xs ++ [x'])) l = some (.lst (xs ++ [x'])) := upd_same
          refine ⟨_, rfl, .inl ⟨rfl, _, SqL.of hl5⟩, _, rfl, l, _, _, rfl, rfl, hl5, Nat.lt_of_le_of_lt (show (xs ++ [x']).length ≤ 6003 by rw [List.length_append]; show xs.length + 1 ≤ 6003; omega) (by decide), ?_⟩
          have k5 : KindK H4 (upd H4 l (.lst (xs ++ [x']))) := KindK.upd hl4
          have k6 : KindK (upd H4 l (.lst (xs ++ [x']))) (upd (upd H4 l (.lst (xs ++ [x']))) l (.lst (xs ++ [x'] ++ [y']))) := KindK.upd hl5
          have kk6 := ((Same.kind s3).trans k4).trans (k5.trans k6)
          have dr2 : (P ++ [l', r']).drop (j + 1) = P.drop (j + 1) ++ [l', r'] := List.drop_append_of_le_length (by omega)
          refine ⟨_, rfl, _, _, rfl, rfl, P ++ [l', r'], xs ++ [x', y'], ts' ++ [.ref t'], _, _, _, rfl, ?_, ?_, ?_, ?_, ?_, ?_, ?_, ?_⟩
          · rw [upd_same, List.append_assoc]; rfl
          · rw [upd_ne nlm.symm, upd_ne nlm.symm]; exact hm4
          · rw [List.length_append]; show ts'.length + 1 ≤ j + 1; omega
          · exact VB.snoc2 (vp.keep kk6) (hx'.keep kk6) (hy'.keep kk6)
          · rw [List.length_append]; omega
          · rw [dr2, totB_app]; simp only [totB]; simp only [Bt.many] at sum; omega
          · rw [dr2]
            obtain ⟨s, hs, q⟩ := sp
            rcases List.mem_cons.mp hs with rfl | hs
            · have q : (l'.spoilt || r'.spoilt) = true := q
              rcases Bool.or_eq_true_iff.mp q with q | q
              · exact ⟨l', by simp, q⟩
              · exact ⟨r', by simp, q⟩
            · exact ⟨s, List.mem_append_left _ hs, q⟩
          · exact fun c o q => by
              have := ne_of_none q nl
              rw [upd_ne this, upd_ne this]; exact sm4 _ _ q
      · have e : ¬ ((j : Int) < (xs.length : Nat)) := fun z => e (decide_eq_true z)
        obtain ⟨s, hs, _⟩ := sp
        rw [List.drop_of_length_le (by omega)] at hs
        cases hs
end
end Ev
namespace Ev
open PySem L2 PySem.Spec PyProof.Rows
abbrev sKept : Stmt := top 1
section
variable {X : Cx}
theorem pe_never {e : Expr} : PE X e (fun _ _ _ => False) := ⟨fun _ _ _ _ _ _ h => h.elim⟩
end
/-- v is a value of the built-in type T, one that holds nothing -/
structure Flat (v : V) (T : String) : Prop where
  ty : ∀ (K : PySem.W.Frag) (H : Hp), TyX K H v (.type T)
  l : kitB T "list" = some false
  t : kitB T "tuple" = some false
  d : kitB T "dict" = some false
theorem flat_int (i : Int) : Flat (.int i) "int" := ⟨fun _ _ => .base (.int i), by decide +kernel, by decide +kernel, by decide +kernel⟩
theorem flat_str (x : Str) : Flat (.str x) "str" := ⟨fun _ _ => .base (.str x), by decide +kernel, by decide +kernel, by decide +kernel⟩
theorem kit2 {K : PySem.W.Frag} {T a b : String} (h1 : kitB T a = some false) (h2 : kitB T b = some false) : PySem.W.kitAny K (.type T) [.type a, .type b] = some false :=
  kitAny_cons (kit_ty h1) (fun _ => kitAny_cons (kit_ty h2) (fun _ => kitAny_nil) (fun z => by cases z)) (fun z => by cases z)
theorem kit3 {K : PySem.W.Frag} {T a b c : String} (h1 : kitB T a = some false) (h2 : kitB T b = some false) (h3 : kitB T c = some false) : PySem.W.kitAny K (.type T) [.type a, .type b, .type c] = some false :=
  kitAny_cons (kit_ty h1) (fun _ => kitAny_cons (kit_ty h2) (fun _ => kitAny_cons (kit_ty h3) (fun _ => kitAny_nil) (fun z => by cases z)) (fun z => by cases z)) (fun z => by cases z)
def spKept : Sp := fun vs H Q _ => ∃ (v : V) (T : String), vs = [v] ∧ Flat v T ∧ ∀ (H' : Hp), Same H H' → Q v H'
section
variable {P : Program} {w : World} {K : PySem.W.Frag} {mg : Str → Option Value} {base : Heap}
theorem scKept : FnScope ["value"] ["value"] (defScope sKept) := ⟨rfl, rfl, rfl, by decide +kernel, rfl, by decide +kernel, by decide +kernel⟩
theorem ok_kept {f : Addr} {fd : FuncData} (F : Fun K "kept" "kept" sKept f fd) (T : Blt mg) (md : mg "dict" = none) : FnOk P w K mg base CX0 1 f fd ["value"] spKept := by
  refine F.ok scKept (fun vs H Q E h => ?_) (fun cdv A outer s H vs Q E hr h => ?_)
  · obtain ⟨v, TT, rfl, _⟩ := h
    rfl
  · obtain ⟨v, TT, rfl, fl, kk⟩ := h
    refine ⟨_, pss_cons (ps_if (pt_not (pt_val (pe_callB call_isiT (by rfl) T.isi (by decide +kernel) (pa_cons (pv 0) (pa_cons (pe_tup (pa_cons (pe_bltn (v := .ty "list") (by rfl) T.list (by decide +kernel) rfl) (pa_cons (pe_bltn (v := .ty "tuple") (by rfl) T.tuple (by decide +kernel) rfl) (pa_cons (pe_bltn (v := .ty "dict") (by rfl) md (by decide +kernel) rfl) pa_nil)))) pa_nil))))) (pss_one (ps_ret (pv 0))) pss_nil)
      (pss_cons ps_never (pss_one ps_never)), ?_⟩
    refine ⟨_, rfl, (by show 3 ≤ sizeLine; decide), fun tp ntp => ⟨v, tp, _, _, _, false, rfl, upd_same, .cons (.ty _) (.cons (.ty _) (.cons (.ty _) .nil)), fl.ty _ _, kit3 fl.l fl.t fl.d, _, rfl, iteT ⟨_, rfl, ?_⟩⟩⟩
    exact kk _ (same_new ntp)
end
end Ev
namespace Ev
open PySem L2 PySem.Spec PyProof.Rows
abbrev sOInit : Stmt := inClass (top 11) 0
def spOI (C : Addr) : Sp := fun vs H Q _ => ∃ (a : Addr) (x : Str), vs = [.ref a, .str x] ∧ H a = some (exo a C none) ∧
  ∀ (d : Addr) (H' : Hp), H d = none → H' a = some (exo a C (some d)) → H' d = some (exd d [(("part" : Str), .str x)]) → (∀ b o, b ≠ a → H b = some o → H' b = some o) → Q .non H'
/-- BadOther, as it is made -/
structure OtC (P : Program) (w : World) (K : PySem.W.Frag) (mg : Str → Option Value) (base : Heap) (C : Addr) : Prop where
  cl : OexC K C
  g : mg "BadOther" = some (.ref C)
  ex : ∃ (f : Addr) (fd : FuncData), PySem.W.findIn K (.ref C) "__init__" = some (some (.ref f)) ∧ PySem.W.typeIn K (.ref f) = some (.type "function") ∧ FnOk P w K mg base CX0 2 f fd ["self", "part"] (spOI C) ∧ Binds K fd ["self", "part"] []
/-- the error is told -/
def TellO (C : Addr) (H : Hp) (E : XK) : Prop := ∀ (d : Addr) (H' : Hp), Same H H' → H' d = some (.xd [("part", .str "shape")]) → E (.ref C) (some d) H'
def spNeedPX (C : Addr) (NS : Hp → V → Prop) : Sp := fun vs H Q E => ∃ v : V, vs = [v] ∧ NS H v ∧ TellO C H E
section
variable {P : Program} {w : World} {K : PySem.W.Frag} {mg : Str → Option Value} {base : Heap}
/-- a def that may raise, under its name -/
structure DfX (P : Program) (w : World) (K : PySem.W.Frag) (mg : Str → Option Value) (base : Heap) (k : Nat) (x : Str) (ps : List Str) (sp : Sp) : Prop where
  ex : ∃ (f : Addr) (fd : FuncData), FnOk P w K mg base (L2.CX P w) k f fd ps sp ∧ mg x = some (.ref f) ∧ PySem.W.keepIn K (.ref f) = true ∧ Binds K fd ps []
theorem scOI : FnScope ["self", "part"] ["self", "part"] (defScope sOInit) := ⟨rfl, rfl, rfl, by decide +kernel, rfl, by decide +kernel, by decide +kernel⟩
theorem ok_oi {f C : Addr} {fd : FuncData} (F : Fun K "__init__" "BadOther.__init__" sOInit f fd) (T : OexC K C) (no : PySem.W.findIn K (.ref C) "part" = some none) (D : Df P w K mg base 1 "kept" ["value"] spKept) : FnOk P w K mg base CX0 2 f fd ["self", "part"] (spOI C) := by
  obtain ⟨f1, fd1, G1, g1, k1, b1⟩ := D.ex
  refine F.ok scOI (fun vs H Q E h => ?_) (fun cdv A outer s H vs Q E hr h => ?_)
  · obtain ⟨a, v, rfl, _⟩ := h
    rfl
  · obtain ⟨a, v, rfl, ha, kk⟩ := h
    refine ⟨_, pss_one (ps_ost (pv 0) (pe_call G1 hr (by rfl) g1 k1 b1 .nil pass0 (pa_cons (pv 1) pa_nil))), ?_⟩
    refine ⟨_, rfl, .str v, "str", rfl, flat_str v, fun H1 s1 => ⟨_, rfl, a, C, rfl, T, no, .inl ⟨s1 _ _ ha, fun dx nd dne => ?_⟩⟩⟩
    refine kk dx _ (s1.free nd) upd_same (by rw [upd_ne dne]; exact upd_same) fun b o nb e => ?_
    rw [upd_ne nb, upd_ne (ne_of_none (s1 _ _ e) nd)]
    exact s1 _ _ e
theorem ok_needJX {f C : Addr} {fd : FuncData} {NS : Hp → V → Prop} {k : Nat} (F : Fun K "need_joints" "need_joints" sNeedJoints f fd) (D : Df P w K mg base (k + 4) "joints_of" ["shape"] (spJoints NS)) (B : OtC P w K mg base C) : FnOk P w K mg base (L2.CX P w) (k + 5) f fd ["shape"] (spNeedPX C NS) := by
  obtain ⟨f1, fd1, G1, g1, k1, b1⟩ := D.ex
  obtain ⟨TC, gC, fi, fdi, iC, tI, GI, bI⟩ := id B
  refine F.okX scNeedJoints (fun vs H Q E h => ?_) (fun cdv A outer s H vs Q E hr h => ?_)
  · obtain ⟨v, rfl, _⟩ := h
    rfl
  · obtain ⟨v, rfl, ns, tell⟩ := h
    have hr4 : Room 3 _ := hr.mono (by omega)
    refine ⟨_, pss_cons (ps_set (i := 1) scNeedJoints.nd rfl (.inl rfl) (pe_call G1 hr (by rfl) g1 k1 b1 .nil pass0 (pa_cons (pv 0) pa_nil)))
      (pss_cons (ps_if (pt_cmpR op_isN (pv 1) pe_non (nomark _)) (pss_one (ps_raise rfl (takes_of rfl rfl rfl rfl) (pmk_oex TC iC tI GI hr4 bI .nil pass0 (by rfl) gC (pa_cons pe_str pa_nil)))) pss_nil) (pss_one ps_never)), ?_⟩
    refine ⟨_, rfl, v, rfl, .inr ⟨ns, fun H0 s0 => ?_⟩⟩
    refine ⟨_, rfl, rfl, _, rfl, iteT ?_⟩
    refine ⟨by decide, fun a' na => ⟨a', "shape", rfl, upd_same, fun d H' nd ha' hd bt => ⟨rfl, d, _, ha', hd, ?_, ?_⟩⟩⟩
    · have dne : d ≠ a' := fun z => by rw [z, upd_same] at nd; cases nd
      rw [upd_ne dne] at nd
      exact nd
    · have dne : d ≠ a' := fun z => by rw [z, upd_same] at nd; cases nd
      rw [upd_ne dne] at nd
      refine tell _ _ (fun b o e => ?_) upd_same
      have e0 := s0 _ _ e
      rw [upd_ne (ne_of_none e0 nd), del_ne (ne_of_none e0 na)]
      exact bt b o (ne_of_none e0 na) (by rw [upd_ne (ne_of_none e0 na)]; exact e0)
theorem ok_keysOfX {f C : Addr} {fd : FuncData} {NS : Hp → V → Prop} {k : Nat} (F : Fun K "keys_of" "keys_of" sKeysOf f fd) (T : Blt mg) (D : DfX P w K mg base k "need_joints" ["shape"] (spNeedPX C NS)) : FnOk P w K mg base (L2.CX P w) (k + 1) f fd ["shape"] (spNeedPX C NS) := by
  obtain ⟨f1, fd1, G1, g1, k1, b1⟩ := D.ex
  refine F.okX scKeysOf (fun vs H Q E h => ?_) (fun cdv A outer s H vs Q E hr h => ?_)
  · obtain ⟨v, rfl, _⟩ := h
    rfl
  · obtain ⟨v, rfl, ns, tell⟩ := h
    refine ⟨_, pss_one (ps_ret (pe_callB call_len_seq (by rfl) T.len PySem.boot_len (pa_cons (pe_callS G1 hr (by rfl) g1 k1 b1 (fun σ => passAt (takes_of rfl rfl rfl rfl) σ) (pa_cons (pv 0) pa_nil)) pa_nil))), ?_⟩
    exact ⟨_, rfl, v, rfl, ns, tell⟩
theorem ok_heightOfX {f C : Addr} {fd : FuncData} {NS : Hp → V → Prop} {k : Nat} (F : Fun K "height_of" "height_of" sHeightOf f fd) (T : Blt mg) (D : DfX P w K mg base k "need_joints" ["shape"] (spNeedPX C NS)) : FnOk P w K mg base (L2.CX P w) (k + 1) f fd ["shape"] (spNeedPX C NS) := by
  obtain ⟨f1, fd1, G1, g1, k1, b1⟩ := D.ex
  refine F.okX scHeightOf (fun vs H Q E h => ?_) (fun cdv A outer s H vs Q E hr h => ?_)
  · obtain ⟨v, rfl, _⟩ := h
    rfl
  · obtain ⟨v, rfl, ns, tell⟩ := h
    refine ⟨_, pss_cons (ps_set (i := 1) scHeightOf.nd rfl (.inl rfl) (pe_callS G1 hr (by rfl) g1 k1 b1 (fun σ => passAt (takes_of rfl rfl rfl rfl) σ) (pa_cons (pv 0) pa_nil)))
      (pss_cons ps_never (pss_cons ps_never (pss_one ps_never))), ?_⟩
    exact ⟨_, rfl, v, rfl, ns, tell⟩
end
end Ev
namespace Ev
open PySem L2 PySem.Spec PyProof.Rows
/-! An error that was caught stays in a local behind its suite: its object is told of from then on. -/
def Held (cls : Value) (d : Option Addr) (a : Addr) : HO := .ext fun h => ∃ oe : Obj, h.get? a = some oe ∧ Zc cls d oe ∧ ∃ vs : Array Value, oe.data = .fields vs
theorem held_ok {P : Program} {w : World} {H : Hp} {h : Heap} {a : Addr} {cls : Value} {d : Option Addr} {oe : Obj}
    (e : h.get? a = some oe) (z : Zc cls d oe) (f : ∃ vs : Array Value, oe.data = .fields vs) : ObjOk P w H h a (Held cls d a) :=
  ⟨⟨oe, e, z, f⟩, ⟨oe, e⟩, fun _ _ t k => by obtain ⟨o, q, r⟩ := t; exact ⟨o, k _ q, r⟩⟩
section
variable {X : Cx} {pins : List (Addr × Obj)} {σ : L2.St} {H : Hp} {s : Shared} {a : Addr} {cls : Value} {d : Option Addr} {oe : Obj}
theorem inv_hold (I : Inv X pins σ H s) (e : s.heap.get? a = some oe) (z : Zc cls d oe) (f : ∃ vs : Array Value, oe.data = .fields vs) (n : H a = none)
    (n0 : X.s_0.heap.get? a = none) (nL : a ≠ X.env.locals) (np : ∀ p ∈ X.pn ++ pins, p.1 ≠ a) : Inv X pins σ (upd H a (Held cls d a)) s := by
  have other : ∀ {b : Addr} {o : HO}, H b = some o → upd H a (Held cls d a) b = some o := fun {b o} q => by rw [upd_ne (ne_of_none q n)]; exact q
  constructor
  · exact I.ok
  · exact I.os
  · exact I.bare
  · constructor
    · exact I.base.keep
    · exact I.base.slot
    · intro b o q1 q2 q3
      have nb : b ≠ a := fun t => by rw [t, n0] at q1; cases q1
      rw [upd_ne nb]; exact I.base.free b o q1 q2 q3
    · exact I.base.there
    · exact fun b xs q => other (I.base.tups b xs q)
    · exact fun b o u q => other (I.base.frzs b o u q)
    · intro b ps q
      obtain ⟨more, t⟩ := I.base.tbls b ps q
      exact ⟨more, other t⟩
  · exact I.loc
  · exact I.cell
  · rw [upd_ne nL.symm]; exact I.free
  · intro x c q
    have nb : c ≠ a := fun t => by
      obtain ⟨v, o, q1, q2⟩ := I.cell x c q
      obtain ⟨vs, q3⟩ := f
      rw [t, e] at q1; cases q1
      rw [q3] at q2; cases q2
    rw [upd_ne nb]; exact I.freeC x c q
  · intro p hp
    obtain ⟨q1, q2, q3⟩ := I.pin p hp
    exact ⟨q1, by rw [upd_ne (np p hp)]; exact q2, q3⟩
  · intro b o q
    by_cases nb : b = a
    · subst nb
      rw [upd_same] at q
      cases q
      exact held_ok e z f
    · rw [upd_ne nb] at q
      exact (I.hok b o q).stay (fun _ _ _ t => t) (fun _ t => other t) (fun _ _ t => other t)
  · exact I.len
end
/-- what the clause wishes: the suite reads the error in slot i; behind it the error is told of, slot i is empty -/
def wHeld (K : PySem.W.Frag) (c : Value) (i : Nat) (ts : Addr → Value → Option Addr → TS) (Wout : WX) (n : Nat) (D : Ends) : WX := fun cls d σ H => σ.length = n →
  ∃ b, PySem.W.exmOne K cls c = some b ∧ (b = false → Wout cls d σ H) ∧ (b = true → ∀ a, H a = none →
    ts a cls d { nx := fun τ G => G a = none → D.nx (τ.set i none) (upd G a (Held cls d a)), rt := fun v G => D.rt v G, bk := fun τ G => D.bk (τ.set i none) G, ct := fun τ G => D.ct (τ.set i none) G } (σ.set i (some (.ref a))) H)
section
variable {X : Cx} {x n : Str} {c : Value} {i : Nat} {body suite : List Stmt} {b₀ : Stmt} {np pos pos' : Pos} {tb : WX → TS} {ts : Addr → Value → Option Addr → TS} {Wout : WX}
theorem ps_try_held (hs : X.stack = X.env :: X.outer) (hf : X.env.frame = some X.env.locals) (hex : X.ex = []) (hN : X.N.Nodup) (hi : X.N[i]? = some n) (hln : X.env.kindOf n = some .local) (hc : Names X x c) (tk : Takes X Wout)
    (hb : ∀ (W : WX) (pn : List (Addr × Obj)) (xe : Value → Shared → Prop), Takes (X.tr pn xe) W → PSs (X.tr pn xe) body (tb W))
    (hsu : ∀ (a : Addr) (oe : Obj) (cls : Value) (d : Option Addr) (pn : List (Addr × Obj)), Zc cls d oe → (∃ vs, oe.data = .fields vs) → PSs (X.suite a ((a, oe) :: pn)) (b₀ :: suite) (ts a cls d)) :
    PS X (.Try body [.ExceptHandler (some (.Name x np)) (some n) (b₀ :: suite) pos'] [] [] pos) (fun D σ H => tb (wHeld X.K c i ts Wout X.N.length D) D σ H) := by
  constructor
  intro pins s σ H D I h
  have ok := I.ok
  have frames : X.A.frames = some (X.env :: X.outer) := by rw [ok.frames, hs]
  have isLoc : Loc X.env.scope n := .inl hln
  let hands : List ExceptHandler := [.ExceptHandler (some (.Name x np)) (some n) (b₀ :: suite) pos']
  let land : Value → Shared → Prop := fun e s1 => wpAny (model X.prog X.w) X.A (noteFrame e X.env) (fun _ s2 => wpAny (model X.prog X.w) X.A (setFlight e none)
    (fun _ s3 => wpAny (model X.prog X.w) X.A (handleBy e X.env hands) (SP X pins D) X.xe s3) X.xe s2) X.xe s1
  have caught : Takes (X.tr (X.pn ++ pins) land) (wHeld X.K c i ts Wout X.N.length D) := by
    rintro u s' ⟨a, B, sI, pins', σ', H', cls, d, rfl, J', nb, up, sky, na, os, ag, wish⟩
    obtain ⟨b, hb1, hno, hyes⟩ := wish J'.len
    have J : Inv X pins σ' H' sI := J'.ofTry ok
    have sky2 : Sky B (X.env :: X.outer) a (Zc cls d) X.env.locals s'.heap := by rw [← hs]; exact sky
    refine Sky.land Zc.steady frames hf sky2 fun h3 fl3 up3 => ?_
    have J3 : Inv X pins σ' H' { s' with heap := h3 } := J.landed nb fl3.1 (up.trans up3) os ag
    obtain ⟨oe3, vs3, he3, hz3, hd3⟩ := fl3.there
    have nfr : a ∉ frs (X.env :: X.outer) := by
      intro hm
      obtain ⟨_, o2, e2, nf⟩ := fl3.2.2.1.mem hm
      rw [he3] at e2; cases e2
      exact nf _ hd3
    have nfr2 : a ∉ frs X.stack := by rw [hs]; exact nfr
    have nL : a ≠ X.env.locals := fun z => nfr (List.mem_filterMap.mpr ⟨_, List.mem_cons_self, by rw [hf, z]⟩)
    have nF : a ∉ X.fs := by
      intro hm
      obtain ⟨e, he, q⟩ := List.mem_filterMap.mp hm
      exact nfr (List.mem_filterMap.mpr ⟨e, List.mem_cons_of_mem _ he, q⟩)
    have nI : sI.heap.get? a = none := by
      cases q : sI.heap.get? a with
      | none => rfl
      | some o =>
        have z := nb a o q nfr2
        rw [fl3.2.1] at z; cases z
    have n0 : X.s_0.heap.get? a = none := by
      cases q : X.s_0.heap.get? a with
      | none => rfl
      | some o =>
        obtain ⟨o2, z⟩ := J.base.there a o q (by rw [hex]; simp)
        rw [nI] at z; cases z
    have npin : ∀ p ∈ X.pn ++ pins, p.1 ≠ a := fun p hp z => by
      have q := (J.pin p hp).1
      rw [z, nI] at q; cases q
    have S3 := J3.suite he3 hd3 na nL nF
    refine wpAny_handleBy_cons (codeAny_handlers_test ?_) (fun q => nomatch q)
    have LT : PySem.W.Looks (model X.prog X.w) h3 (typeOf (.ref a)) cls := by
      intro A Q E s k q
      exact wpAny_typeOf_ref (k _ _ he3) (by rw [hz3.1]; exact q)
    have LM := PySem.W.exm_one (M := model X.prog X.w) J3.kIn LT hb1
    have named : ∀ {Q E : Value → Shared → Prop}, Q c { s' with heap := h3 } → wpAny (model X.prog X.w) (X.A.mark (some (.ref a))) (eval (.Name x np) X.env) Q E { s' with heap := h3 } := by
      intro Q E q
      obtain ⟨g1, g2, g3⟩ := hc
      rcases g3 with m | ⟨m, v, nn⟩
      · exact ld_glob (X := X.suite a ((a, oe3) :: (X.pn ++ pins))) S3 g1 m q g2
      · exact ld_blt (X := X.suite a ((a, oe3) :: (X.pn ++ pins))) S3 g1 m v q nn g2
    refine named (LM.here ?_)
    cases b with
    | false =>
      refine wpAny_handleBy_nil (e := .ref a) (env := X.env) ?_
      obtain ⟨k1, k2, k3, oe, vs, T, oT, ts', he, hz, hd, h1, hr⟩ := id fl3
      unfold PySem.passOn
      refine wpAny_bind (wpAny_field he hd h1 ?_)
      rw [if_neg (by simp : ¬ ((Value.ref T == Value.none) = true))]
      have on : wpAny (model X.prog X.w) X.A (setFlight (.ref a) X.env.frame) (fun _ s4 => wpAny (model X.prog X.w) X.A (throw (.ref a) : Sem Flow) (SP X pins D) X.xe s4) X.xe { s' with heap := h3 } := by
        rw [hf]
        refine HandSPX.setFlight_upZ fl3 fun h4 hh4 up4 => ?_
        refine wpAny_throw (tk _ _ ⟨a, B, sI, pins, σ', H', cls, d, rfl, J, nb, (up.trans up3).trans up4, ?_, na, os, ag, hno rfl⟩)
        rw [hs]; exact .inr (.inr hh4)
      first
        | exact wpAny_bind (wpAny_pure (wpAny_bind on))
        | exact wpAny_bind on
    | true =>
      refine codeAny_handlers_suite_as (HandSPX.lands_againZ fl3 fun h4 fl4 up4 => ?_)
      have J4 : Inv X pins σ' H' { s' with heap := h4 } := J.landed nb fl4.1 ((up.trans up3).trans up4) os ag
      obtain ⟨oe4, vs4, he4, hz4, hd4⟩ := fl4.there
      refine store_ok (X := X.suite a ((a, oe4) :: (X.pn ++ pins))) (v := .ref a) (J4.suite he4 hd4 na nL nF) hN hi isLoc rfl (fun s5 S5 => ?_) (.inr hln)
      have suite := (hsu a oe4 cls d (X.pn ++ pins) hz4 ⟨_, hd4⟩).run [] s5 _ H' _ S5 (hyes rfl a na)
      refine wpAny_mono suite (fun f s6 hsp => ?_) (fun _ _ z => False.elim z)
      have gone : ∀ {τ : L2.St} {G : Hp} {Q : Shared → Prop}, Inv X pins τ G s6 → (∀ s7, Inv X pins (τ.set i none) G s7 → Q s7) →
          wpAny (model X.prog X.w) X.A (do bindName X.env n .none; unbindBehindTheSuite X.env n pos') (fun _ s7 => Q s7) X.xe s6 := by
        intro τ G Q S6 hq
        exact gone_ok S6 hN hi hln hq
      cases f with
      | next =>
        obtain ⟨τ, G, S6, q6⟩ := hsp
        obtain ⟨p1, p2, _⟩ := S6.pin (a, oe4) (List.mem_append_left _ List.mem_cons_self)
        exact gone (inv_hold (S6.unsuite ok) p1 hz4 ⟨_, hd4⟩ p2 n0 nL npin) fun s7 J7 => ⟨_, _, J7, q6 p2⟩
      | brk =>
        obtain ⟨τ, G, S6, q6⟩ := hsp
        exact gone (S6.unsuite ok) fun s7 J7 => ⟨_, _, J7, q6⟩
      | cont =>
        obtain ⟨τ, G, S6, q6⟩ := hsp
        exact gone (S6.unsuite ok) fun s7 J7 => ⟨_, _, J7, q6⟩
      | ret u =>
        obtain ⟨v, τ, G, S6, r6, q6⟩ := hsp
        exact gone (S6.unsuite ok) fun s7 J7 => ⟨_, _, _, J7, r6, q6⟩
  refine wpAny_Try_except (wpAny_mono ((hb _ (X.pn ++ pins) land caught).run [] s σ H D (I.toTry _) h) (fun f s1 hsp => ?_) (fun e s1 he => he))
  cases f with
  | next =>
    obtain ⟨τ, G, J, q⟩ := hsp
    exact wpAny_execs_nil ⟨τ, G, J.ofTry ok, q⟩
  | brk =>
    obtain ⟨τ, G, J, q⟩ := hsp
    exact ⟨τ, G, J.ofTry ok, q⟩
  | cont =>
    obtain ⟨τ, G, J, q⟩ := hsp
    exact ⟨τ, G, J.ofTry ok, q⟩
  | ret u =>
    obtain ⟨v, τ, G, J, r, q⟩ := hsp
    exact ⟨v, τ, G, J.ofTry ok, r, q⟩
end
/-- what the class of such an error says -/
structure HeldC (K : PySem.W.Frag) (C : Addr) : Prop where
  cl : (PySem.W.clsIn K C).isSome = true
  ga : PySem.W.findIn K (.ref C) "__getattribute__" = some (some (.builtin "BaseException.__getattribute__"))
  gg : PySem.W.findIn K (.ref C) "__getattr__" = some none
  ex : PySem.W.subIn K (.ref C) (.type "BaseException") = some true
  hd : PySem.W.hasDictIn K C = true
  ca : PySem.W.findIn K (.ref C) "__class__" = some (some (.builtin "object.__class__"))
  sp : PySem.W.specialIn K (.builtin "object.__class__") "__get__" = some (some (.builtin "getset_descriptor.__get__"))
  tk : PySem.W.takesIn K (.builtin "object.__class__") = some true
  mo : PySem.W.mroIn K C (.type "object") = some true
section
variable {X : Cx}
theorem held_at {pins : List (Addr × Obj)} {σ : L2.St} {H : Hp} {s : Shared} {a : Addr} {cls : Value} {d : Option Addr} (I : Inv X pins σ H s) (e : H a = some (Held cls d a)) :
    ∃ oe : Obj, s.heap.get? a = some oe ∧ Zc cls d oe ∧ ∃ vs : Array Value, oe.data = .fields vs := by
  have x : ObjOk X.prog X.w H s.heap a (.ext fun h => ∃ oe : Obj, h.get? a = some oe ∧ Zc cls d oe ∧ ∃ vs : Array Value, oe.data = .fields vs) := I.hok a _ e
  exact x.1
theorem held_inst {pins : List (Addr × Obj)} {σ : L2.St} {H : Hp} {s : Shared} {a C dd : Addr} {fs : List (Str × V)} (I : Inv X pins σ H s) (e : H a = some (Held (.ref C) (some dd) a)) (ed : H dd = some (.xd fs)) :
    ∃ (oe od : Obj) (mA : Str → Option Value), PySem.W.InstAt s.heap a oe C (some od) ∧ (∀ f, RelO (fs.lookup f) (mA f)) ∧ ∀ n, PySem.W.lookIn n od = some (mA n) := by
  obtain ⟨oe, he, hz, vs, hd⟩ := held_at I e
  obtain ⟨mA, hns, hr⟩ := (show ObjOk X.prog X.w H s.heap dd (.xd fs) from I.hok dd _ ed)
  obtain ⟨od, ho, hl⟩ := lookIn_ns hns
  exact ⟨oe, od, mA, ⟨he, hz.1, by unfold PySem.W.notCls; rw [hd] <;> rfl, by rw [hz.2]; exact ho⟩, hr, hl⟩
/-- isinstance(e, c), e such an error -/
def rIsHeld (K : PySem.W.Frag) : List V → Hp → VK → Prop := fun xs H Q => ∃ (a C dd : Addr) (fs : List (Str × V)) (c : V) (u : Value) (b : Bool),
  xs = [.ref a, c] ∧ H a = some (Held (.ref C) (some dd) a) ∧ H dd = some (.xd fs) ∧ HeldC K C ∧ ClsV c u ∧ PySem.W.kitOne K (.ref C) u = some b ∧ Q (.bl b) H
theorem call_isHeld : CallR X (.builtin "isinstance") (rIsHeld X.K) := by
  intro pins s σ H xs us Q I r h
  obtain ⟨a, C, dd, fs, c, u, b, rfl, ea, ed, T, k, e, q⟩ := h
  obtain ⟨u1, u2, rfl, r1, r2⟩ := vals2 r
  have e2 := k.eq r2
  subst e2
  cases r1
  obtain ⟨oe, od, mA, J, _, _⟩ := held_inst I ea ed
  exact PySem.W.kia_one (PySem.W.kitx_exc T.cl T.ga T.gg T.ex T.ca T.sp T.tk T.mo) I.kIn J e (fun z => nomatch z) fun tk => ⟨.bl b, H, I.tok tk, rfl, q⟩
/-- e.n, e such an error -/
def tHeldFld (K : PySem.W.Frag) (n : Str) (te : TE) : TE := fun σ H Q => te σ H fun x H1 => ∃ (a C dd : Addr) (fs : List (Str × V)) (v : V),
  x = .ref a ∧ H1 a = some (Held (.ref C) (some dd) a) ∧ H1 dd = some (.xd fs) ∧ HeldC K C ∧ PySem.W.findIn K (.ref C) n = some none ∧ fs.lookup n = some v ∧ Q v H1
theorem pe_heldFld {e : Expr} {te : TE} {pos : Pos} {n : Str} (he : PE X e te) (hb : attributeBase e n X.env (eval e X.env) = eval e X.env := by rfl) : PE X (.Attribute e n pos) (tHeldFld X.K n te) := by
  constructor
  intro pins s σ H Q I h
  refine attr_of hb (thn (he.run pins s σ H _ I h) fun u s1 hh => ?_)
  obtain ⟨x, H1, I1, rx, a, C, dd, fs, v, rfl, ea, ed, T, hno, l, q⟩ := hh
  obtain rfl : u = Value.ref a := rx
  obtain ⟨oe, od, mA, J, hr, hl⟩ := held_inst I1 ea ed
  obtain ⟨u, hu, ru⟩ := RelO.some_of (v := v) (o := mA n) (by rw [← l]; exact hr n)
  exact HandSPX.exc_get I1.kIn J T.ga T.gg T.ex (PySem.W.findObj_own T.hd hno rfl (by rw [hl, hu])) (handed_of ru) ⟨v, H1, I1.tok _, ru, q⟩
end
end Ev
namespace Ev
open PySem L2 PySem.Spec PyProof.Rows LamX
/-! The law's own call, where the law makes lambdas: the table of its code object is told of. -/
section
variable {P : Program} {w : World} {K : PySem.W.Frag} {mg mb : Str → Option Value}
theorem law_callT {k : Nat} {fa a c T : Addr} {fd : FuncData} {x : Str} {sp : Sp} {s : Shared} {vs : List Value} {ns : List Int}
    (inK : K.In s.heap) (ns1 : s.heap.Ns mainGlobals mg) (ns2 : s.heap.Ns builtinsNs mb) (blt : ∀ x : Str, x ≠ "__name__" → mb x = bootBuiltins x)
    (noLim : s.heap.NoLimit) (hg : s.gens = #[]) (hT : s.heap.get? T = some { cls := .none, data := .fields #[] }) (nT : K.lookup T = none) (hc : PySem.W.CodeHd s.heap c T)
    (hbm : ∃ (bm : Addr) (ob : Obj), mg "__builtins__" = some (.ref bm) ∧ bm ≠ builtinsNs ∧ s.heap.get? bm = some ob ∧ ob.cls = .type "module" ∧ ob.dict = some builtinsNs ∧ ob.data = .plain)
    (ha : s.heap.get? a = some { cls := .type "list", data := .seq vs.toArray }) (hi : IntsAre vs ns) (hl : ns.length ≤ sizeLine) (hr : Room k callerA)
    (F : ∀ base : Heap, K.In base → base.Ns mainGlobals mg → TabB base mg c T → FnG P w K mg base k fa fd [x] sp)
    (bt : ∀ (s : Shared) (u : Value), BindsTo s fd ⟨[u], []⟩ [(x, u)])
    (hsp : ∀ H : Hp, H T = some (.tbl #[]) → SqL K H a (ns.map V.int) → sp [.ref a] H (fun v _ => v = .bl true) fun _ _ _ => False) :
    codeAny (model P w) callerA (.call (.ref fa) ⟨[.ref a], []⟩)
      (fun r s' => r = .ok (.ret (.bool true)) ∧ OldK s.heap s'.heap ∧ s'.os = s.os ∧ AllBare s'.gens) s := by
  have rv := vals_ints hi
  have lv := hi.length
  have aT : a ≠ T := fun z => by
    rw [z, hT] at ha
    cases ha
  have key : ∀ H : Hp, H T = some (.tbl #[]) → (∀ b u, H b = some u → b ≠ T → b = a ∧ K.lookup a = none ∧ u = .frz { cls := .type "list", data := .seq vs.toArray } (.lst (ns.map V.int))) →
      SqL K H a (ns.map V.int) → codeAny (model P w) callerA (.call (.ref fa) ⟨[.ref a], []⟩)
        (fun r s' => r = .ok (.ret (.bool true)) ∧ OldK s.heap s'.heap ∧ s'.os = s.os ∧ AllBare s'.gens) s := by
    intro H eT only sq
    have ok : HOk P w H s.heap := by
      intro b u e
      by_cases zb : b = T
      · subst zb
        rw [eT] at e
        cases e
        exact hT
      · obtain ⟨rfl, _, rfl⟩ := only b u e zb
        exact ⟨ha, by rw [List.length_map]; exact hl, vs, _, rv, ha⟩
    have plain : ∀ {b : Addr} {o : Obj}, s.heap.get? b = some o → (∀ vs n, o.data ≠ .seq vs n) → o.data ≠ .fields #[] → H b = none := by
      intro b o e d1 d2
      cases q : H b with
      | none => rfl
      | some u =>
        by_cases zb : b = T
        · subst zb
          rw [hT] at e
          cases e
          exact absurd rfl d2
        · obtain ⟨rfl, _, _⟩ := only b u q zb
          rw [ha] at e
          cases e
          exact absurd rfl (d1 _ _)
    have names : ∀ {b : Addr} {m : Str → Option Value}, s.heap.Ns b m → (hidT s.heap H).Ns b m := by
      rintro b m ⟨o, es, n, e, d, r⟩
      exact ⟨o, es, n, hidT_get e (plain e (fun _ _ z => by rw [d] at z; cases z) fun z => by rw [d] at z; cases z), d, r⟩
    have inB : K.In (hidT s.heap H) := by
      intro b o e
      refine hidT_get (inK b o e) ?_
      cases q : H b with
      | none => rfl
      | some u =>
        by_cases zb : b = T
        · rw [zb, nT] at e
          cases e
        · obtain ⟨rfl, n, _⟩ := only b u q zb
          rw [n] at e
          cases e
    have tb : TabB (hidT s.heap H) mg c T := by
      obtain ⟨bm, ob, b1, b2, b3, b4, b5, b6⟩ := hbm
      refine ⟨?_, ⟨bm, ob, b1, b2, fun q => ?_, fun q => ?_, hidT_get b3 (plain b3 (fun _ _ z => by rw [b6] at z; cases z) fun z => by rw [b6] at z; cases z), b4, b5, b6⟩, fun z => ?_⟩
      · obtain ⟨o, us, file, tf, flags, tg, inF, text, tt, e1, r1, r2, r3, rest⟩ := hc
        refine ⟨o, us, file, tf, flags, tg, inF, text, tt, hidT_get e1 (plain e1 (fun _ _ z => by rw [r2] at z; cases z) fun z => ?_), r1, r2, r3, rest⟩
        rw [r2] at z
        cases z
        simp at r3
      · obtain ⟨o, es, n, e, d, _⟩ := ns1
        rw [q, e] at b3
        cases b3
        rw [d] at b6
        cases b6
      · rw [q, hT] at b3
        cases b3
        cases b6
      · obtain ⟨o, es, n, e, d, _⟩ := ns1
        rw [z, hT] at e
        cases e
        cases d
    obtain ⟨mc, l1, l2⟩ := noLim
    have md : Mod K mg (hidT s.heap H) := ⟨inB, names ns1, ⟨mb, names ns2, blt⟩, ⟨mc, names l1, l2⟩⟩
    have env : Env0 P w K mg (hidT s.heap H) callerA [] s H :=
      ⟨rfl, md, fun b o e => of_hidT e, Nat.le_of_eq (hidT_size _ _), trivial, (fun b hb => by cases hb), ok, .of_eq hg⟩
    have go := (F _ inB (names ns1) tb).goes callerA [] s H ⟨[.ref a], []⟩ [.ref a] [.ref a] _ _ hr rfl env (bt s (.ref a)) (.cons rfl .nil) (hsp H eT sq)
    refine codeAny_mono go fun r s2 h2 => ?_
    cases r with
    | error e => exact False.elim h2
    | ok fl =>
      cases fl with
      | next => exact False.elim h2
      | brk => exact False.elim h2
      | cont => exact False.elim h2
      | ret u =>
        obtain ⟨v, H2, os, bare, un, ok2, rr, q⟩ := h2
        obtain rfl : v = V.bl true := q
        obtain rfl : u = Value.bool true := rr
        have others : ∀ b o, b ≠ T → s.heap.get? b = some o → s2.heap.get? b = some o := by
          intro b o nb e
          cases q : H b with
          | none => exact un.keep b o e q (by intro z; cases z) (by simp)
          | some u =>
            obtain ⟨rfl, _, rfl⟩ := only b u q nb
            obtain ⟨e1, _⟩ := ok b _ q
            obtain ⟨e2, _⟩ := ok2 b _ (un.frzs b _ _ q)
            rw [e] at e1
            cases e1
            exact e2
        obtain ⟨more, eM⟩ := un.tbls T #[] eT
        have grown : s2.heap.get? T = some { cls := .none, data := .fields (#[] ++ more) } := ok2 T _ eM
        refine ⟨rfl, ⟨fun b o e => ?_, fun b o e => ?_⟩, os, bare⟩
        · by_cases nb : b = T
          · subst nb
            rw [hT] at e
            cases e
            exact .inr (.inl ⟨(hc.tab hT).isCodeTable, rfl, #[], more, rfl, grown⟩)
          · exact .inl (others b o nb e)
        · by_cases nb : b = T
          · subst nb
            exact ⟨_, grown⟩
          · exact ⟨o, others b o nb e⟩
  cases hk : K.lookup a with
  | none =>
    refine key (fun b => if b = T then some (.tbl #[]) else if b = a then some (.frz { cls := .type "list", data := .seq vs.toArray } (.lst (ns.map V.int))) else none) (if_pos rfl) (fun b u e nb => ?_)
      (.inl (.inr ⟨_, (if_neg aT).trans (if_pos rfl)⟩))
    rw [if_neg nb] at e
    by_cases z : b = a
    · rw [if_pos z] at e
      cases e
      exact ⟨z, hk, rfl⟩
    · rw [if_neg z] at e
      cases e
  | some o =>
    have e := inK a o hk
    rw [ha] at e
    cases e
    refine key (fun b => if b = T then some (.tbl #[]) else none) (if_pos rfl) (fun b u e nb => by rw [if_neg nb] at e; cases e) (.inr ⟨_, vs.toArray, _, hk, rfl, rfl, rfl, ?_, by simpa using rv⟩)
    rw [List.size_toArray, lv]
    exact hl
end
/-- the law's call, the table of another def's code object told -/
theorem walk_ofGT {l : PySem.W.OpenLaw} {n k : Nat} {q : Program} {loose : List Str} {XP : (Str → Option Value) → Heap → Prop} {YP : World → Heap → Prop}
    {d : DefRec} {x xr : Str} (hn : l.most = some n) (hn2 : n ≤ sizeLine) (hdf : d.params.defaults = []) (hr : Room k callerA) (hrec : ((recsOf q).any fun e => e.name == xr) = true)
    (F : ∀ (w : World) (mg : Str → Option Value) (fa : Addr) (h : Heap), YP w h → h.Ns mainGlobals mg → mg d.name = some (.ref fa) →
      ∃ (K : PySem.W.Frag) (fd fdr : FuncData) (sp : Sp) (fr c T : Addr) (o : Obj), K.In h ∧ (∀ (s : Shared) (u : Value), BindsTo s fd ⟨[u], []⟩ [(x, u)]) ∧
        mg xr = some (.ref fr) ∧ K.lookup fr = some o ∧ o.data = .func fdr ∧ fdr.code = .ref c ∧ PySem.W.codeHdIn K c T = true ∧ K.lookup T = none ∧
        (∀ (H : Hp) (a : Addr) (ns : List Int), ns.length ≤ n → H T = some (.tbl #[]) → SqL K H a (ns.map V.int) → sp [.ref a] H (fun v _ => v = .bl true) fun _ _ _ => False) ∧
        ∀ base : Heap, K.In base → base.Ns mainGlobals mg → TabB base mg c T → FnG l.prog w K mg base k fa fd [x] sp) :
    PySem.W.WalkO q loose XP YP l.row.toRowW d [] (fun f vs => PySem.call f vs) := by
  refine Att.attach_callB hn hdf fun w s0 s1 mg mb fa o pm cd doc a vs ns G Y h1 h2 h3 h4 h5 h6 h7 hbits h8 => ?_
  obtain ⟨K, fd, fdr, sp, fr, c, T, o1, inK, bt, k0, k1, k2, k3, kc, kT, hsp, hF⟩ := F w mg fa _ Y G.T.g h4
  have hc := PySem.W.codeHd_of_K inK kc
  have hT : s1.heap.get? T = some { cls := .none, data := .fields #[] } := by
    obtain ⟨dL, hm, e1⟩ := List.any_eq_true.mp hrec
    obtain ⟨a2, o2, fd2, c2, P2, g1, g2, g3, g4, g5, g6⟩ := G.T.tab dL hm
    rw [beq_iff_eq.mp e1, k0] at g1
    cases g1
    rw [inK _ _ k1] at g2
    cases g2
    rw [k2] at g3
    cases g3
    rw [k3] at g4
    cases g4
    obtain ⟨⟨oc, vc, e1, _, e3, e4⟩, hP⟩ := g6
    obtain ⟨oc', vs', file, tf, flags, tg, inF, text, tt, f1, f2, f3, f4, _⟩ := id hc
    rw [f1] at e1
    cases e1
    rw [f3] at e3
    cases e3
    rw [f4] at e4
    cases e4
    exact hP
  exact law_callT inK G.T.g G.T.b G.T.builtins G.T.nolimit h8 hT kT hc G.T.bmain h5 h6 (Nat.le_trans h7 hn2) hr hF bt (fun H eT sq => hsp H a ns h7 eT sq)
end Ev
namespace Ev
open PySem L2 PySem.Spec PyProof.Rows
/-! ### repr of a value that holds nothing but scalars -/
def sclr : V → PyData → Bool
  | .non, .none => true
  | .bl a, .bool b => a == b
  | .int a, .int b => decide (a = b)
  | .str a, .str b => a == b
  | _, _ => false
def keyD : Key → PyData
  | .inl i => .int i
  | .inr x => .str x
inductive Vd (K : PySem.W.Frag) (H : Hp) : V → PyData → Prop
  | plain {v : V} {d : PyData} : Dp K H v d → d.hasDict = false → Vd K H v d
  | dct {a : Addr} {kvs : List (Key × V)} {ds : List (PyData × PyData)} : H a = some (.dK kvs) → ds.map (·.1) = kvs.map (fun p => keyD p.1) → Paired (fun v d => sclr v d = true) (kvs.map (·.2)) (ds.map (·.2)) → Vd K H (.ref a) (.dict ds)
theorem reads_sc {h : Heap} {v : V} {d : PyData} {u : Value} (e : sclr v d = true) (r : RelV v u) : Reads h u d [] := by
  cases v <;> cases d <;> first | cases e | skip
  · cases (show u = Value.none from r); exact .none
  · obtain rfl := beq_iff_eq.mp e
    cases (show u = Value.bool _ from r); exact .bool _
  · obtain rfl := of_decide_eq_true e
    obtain ⟨t, q⟩ := (show ∃ t, u = Value.int _ t from r); cases q; exact .int _ _
  · obtain rfl := beq_iff_eq.mp e
    obtain ⟨t, q⟩ := (show ∃ t, u = Value.str _ t from r); cases q; exact .str _ _
theorem reads_scs {h : Heap} : ∀ {vs : List V} {ds : List PyData} {us : List Value}, Paired (fun v d => sclr v d = true) vs ds → Vals vs us → ReadsAll h us ds []
  | _, _, _, .nil, .nil => .nil
  | _, _, _, .cons e t, .cons r q => .cons (as := []) (bs := []) (reads_sc e r) (reads_scs t q)
theorem pair_vals {P : Program} {w : World} : ∀ {es : List DictEntry} {vs : List (Key × Value)}, Pairs (mixKind P w) es vs → es.map (·.val) = vs.map (·.2)
  | _, _, .nil => rfl
  | _, _, .cons h1 h2 t => by
    rw [List.map_cons, List.map_cons, h2, pair_vals t]
theorem reads_keys {P : Program} {w : World} {h : Heap} : ∀ {es : List DictEntry} {kvs : List (Key × V)} {vs : List (Key × Value)}, Pairs (mixKind P w) es vs → KV kvs vs → ReadsAll h (es.map (·.key)) (kvs.map fun p => keyD p.1) []
  | _, _, _, .nil, .nil => .nil
  | _, _, _, .cons h1 h2 t, .cons r q => by
    refine .cons (as := []) (bs := []) ?_ (reads_keys t q)
    dsimp only
    rw [r.1]
    rcases keyIs_shape (show keyIs _ _ = true from h1) with ⟨i, tk, e1, e2⟩ | ⟨x, tk, e1, e2⟩
    · rw [e1, e2]; exact .int _ _
    · rw [e1, e2]; exact .str _ _
theorem vals_snd : ∀ {kvs : List (Key × V)} {vs : List (Key × Value)}, KV kvs vs → Vals (kvs.map (·.2)) (vs.map (·.2))
  | _, _, .nil => .nil
  | _, _, .cons h t => .cons h.2 (vals_snd t)
section
variable {X : Cx}
/-- repr of such a value, where none is under way -/
def rReprV (K : PySem.W.Frag) : List V → Hp → VK → Prop := fun xs H Q => ∃ (v : V) (d : PyData), xs = [v] ∧ Vd K H v d ∧
  d.showable = true ∧ d.depth ≤ 32 ∧ d.shown.length ≤ sizeLine ∧ Q (.str d.shown) H
theorem call_reprV (gd : X.A.guards = some []) (hu : X.A.units + 64 < cLine) : CallR X (.builtin "repr") (rReprV X.K) := by
  intro pins s σ H xs us Q I r h
  obtain ⟨v, d, rfl, hd, h1, h3, h4, q⟩ := h
  obtain ⟨u, rfl, ru⟩ := vals1 r
  have fin : ∀ (h' : Heap) (t : Tok) (tk : Nat), (∀ b o, s.heap.get? b = some o → h'.get? b = some o) → EP X pins σ Q (.str d.shown t) { s with heap := h', toks := tk } := fun h' t tk hk => ⟨.str d.shown, H, I.kept hk, ⟨t, rfl⟩, q⟩
  have byRef : ∀ (a : Addr) (as : List Addr), u = .ref a → Reads s.heap (.ref a) d as → (d.hasDict = true → sysModules ∉ as) → wpAny (model X.prog X.w) X.A (call (.builtin "repr") [u]) (EP X pins σ Q) X.xe s := by
    intro a as eu rd hm
    subst eu
    exact repr_of_reads' rd h1 hm gd (by omega) (fun _ _ e => e) (fun h' t tk hk => fin h' t tk hk) h4
  cases hd with
  | plain dp nd =>
    cases dp with
    | non => cases ru; exact PySem.P.repr_of_none (fin s.heap _ _ fun _ _ e => e)
    | bl b => cases ru; exact PySem.P.repr_of_bool (fin s.heap _ _ fun _ _ e => e)
    | int i => obtain ⟨t, rfl⟩ := ru; exact PySem.P.repr_of_int (of_decide_eq_true h1) (fin s.heap _ _ fun _ _ e => e)
    | str x => obtain ⟨t, rfl⟩ := ru; exact PySem.P.repr_of_str (fin s.heap _ _ fun _ _ e => e) h4
    | lst sq al =>
      cases ru
      obtain ⟨as, rd⟩ := Dp.reads I _ _ _ (.lst sq al) rfl
      exact byRef _ as rfl rd fun z => by rw [nd] at z; cases z
    | tup sq al =>
      cases ru
      obtain ⟨as, rd⟩ := Dp.reads I _ _ _ (.tup sq al) rfl
      exact byRef _ as rfl rd fun z => by rw [nd] at z; cases z
  | @dct a kvs ds e ek ev =>
    cases ru
    obtain ⟨hz, hs0, vs, kv, hdo⟩ := (show ObjOk X.prog X.w H s.heap a (.dK kvs) from I.hok a _ e)
    obtain ⟨ep, ob, es, ho, ex, hdat, hko, hpr, hnd⟩ := hdo.dictAt
    have e1 : ReadsAll s.heap (es.toList.map (·.key)) (ds.map (·.1)) [] := by
      rw [ek]; exact reads_keys hpr kv
    have e2 : ReadsAll s.heap (es.toList.map (·.val)) (ds.map (·.2)) [] := by
      refine reads_scs ev ?_
      have e3 : es.toList.map (·.val) = vs.map (·.2) := pair_vals hpr
      rw [e3]; exact vals_snd kv
    refine byRef a (a :: [] ++ []) rfl (.dict ho ex.1 hdat e1 e2) fun _ z => ?_
    simp at z
    rw [← z] at hs0
    simp at hs0
end
end Ev
namespace Ev
open PySem L2 PySem.Spec PyProof.Rows LamX
/-! A lambda that is called within a try: what it raises is wished at the very locals of the call. -/
abbrev CxG (X : Cx) (N : List Str) (x : Str) (sg : Scope) (g : Addr) (cd : Value) (s : Shared) (H : Hp) : Cx := cxOf C8.CX0 X.prog X.w X.K X.mg X.base N x sg g cd X.A X.stack s H C8.E0
abbrev tActS (f c : Addr) (q : Str) (tl : XK → Hp → VK → Prop) (W : WX) : TE := fun τ G R =>
  τ[0]? = some (some (.ref f)) ∧ G c = some (CodeO c q) ∧ tl (WE W τ) G R
def GivesS (X : Cx) (N : List Str) (x : Str) (sg : Scope) (g : Addr) (cd : Value) (body : List Stmt) (a q : Str) (TT : (XK → Hp → VK → Prop) → Hp → VK → Prop) : Prop :=
  ∀ (f c : Addr) (s : Shared) (H : Hp) (Q : VK) (tl : XK → Hp → VK → Prop),
    (∀ (W : WX) (pn : List (Addr × Obj)) (xe : Value → Shared → Prop) (p1 p2 : Pos), Takes ((CxG X N x sg g cd s H).tr pn xe) W →
      PE ((CxG X N x sg g cd s H).tr pn xe) (.Call (.Name a p1) [] [] p2) (tActS f c q tl W)) →
    H c = some (CodeO c q) → TT tl H Q →
    ∃ t, PSs (CxG X N x sg g cd s H).nox body t ∧ t { nx := fun _ G => Q .non G, rt := Q } (L2.start N [.ref f]) H
section
variable {X : Cx}
abbrev lamO (X : Cx) (params : Arguments) (body : Expr) (scope : Scope) (pm : Value) (c : Addr) (ct : Value) : Obj :=
  PySem.W.kla_obj "<lambda>" (X.env.qual ++ "<lambda>") params body scope (cloFrom X.env.cells scope.names []) pm c ct
theorem act_s {pins : List (Addr × Obj)} {σ : L2.St} {H : Hp} {s : Shared} {N : List Str} {x a : Str} {sg scope : Scope} {g f c : Addr} {cd pm ct : Value} {params : Arguments} {body : Expr} {k : Nat} {pn : List (Addr × Obj)} {xe : Value → Shared → Prop} {W : WX} {t : XK → TE} {p1 p2 : Pos}
    (I : Inv X pins σ H s) (LS : LamS X.env.scope scope) (ho : s.heap.get? f = some (lamO X params body scope pm c ct)) (fresh : H f = none) (apart : f ∉ frs X.stack)
    (none' : bindArgs (PySem.W.kla_fn "<lambda>" (X.env.qual ++ "<lambda>") params body scope (cloFrom X.env.cells scope.names []) pm (.ref c) ct) ⟨[], []⟩ = pure [])
    (tk : Takes ((CxG X N x sg g cd s H).tr pn xe) W) (room : Room (k + 1) (X.A.deeper (envOfC x sg s.heap.objs.size g cd)))
    (within : ∀ (A : Around) (outer : List Env) (s' : Shared) (G : Hp) (E : XK), Room k (A.deeper (lamEnv X scope s'.heap.objs.size f c)) → PE (lamCx X A outer s' G E scope f c) body (t E))
    (first : N[0]? = some a) (vis : Vis sg a) (d1 : (a == ("__debug__" : Str)) = false) (d2 : (a == ("__classdict__" : Str)) = false) :
    PE ((CxG X N x sg g cd s H).tr pn xe) (.Call (.Name a p1) [] [] p2) (tActS f c (X.env.qual ++ "<lambda>") (fun E G R => t E σ G R) W) := by
  constructor
  intro pz sz τ G R J ⟨slot, code, rd⟩
  have name := (pe_var (X := (CxG X N x sg g cd s H).tr pn xe) (pos := p1) (i := 0) first vis d1 d2).run pz sz τ G (fun v G' => v = .ref f ∧ G' = G) J ⟨.ref f, slot, rfl, rfl⟩
  refine wpAny_Call_Name_kw (thn name fun u s1 got => ?_)
  obtain ⟨v, G', J1, rel, rfl, rfl⟩ := got
  obtain rfl : u = Value.ref f := rel
  have here : s1.heap.get? f = some (lamO X params body scope pm c ct) := J1.base.keep f _ ho fresh apart (by intro z; cases z)
  have grown : Un (frs X.stack) [] H G' s.heap s1.heap := J1.base
  obtain ⟨⟨oc, vs, tc, o1, o2, o3⟩, _, _⟩ := J1.hok c _ code
  have ran : codeAny (model X.prog X.w) (X.A.deeper (envOfC x sg s.heap.objs.size g cd)) (.call (.ref f) ⟨[], []⟩) (CR (L2.CX X.prog X.w) (envOfC x sg s.heap.objs.size g cd :: X.stack) X.prog X.w G' s1 R (WE W τ)) s1 := by
    refine PySem.W.kla_callFunE room.depth here rfl LS.co LS.gen rfl ⟨c, oc, vs, tc, rfl, o1, o2, o3⟩ ?_
    rw [none']
    refine wpAny_pure (wpAny_newFunctionEnv (fun y hy => (LS.own y hy).2) (fun y hy => absurd hy (by simp)) (fun h1 names sub => ⟨J1.nolimit.fresh _ sub, ?_⟩) LS.kind)
    show codeAny _ _ (.expr body (lamEnv X scope s1.heap.objs.size f c)) _ _
    have stays : ∀ b o, s1.heap.get? b = some o → h1.get? b = some o := fun b o e => sub.extBut b o (Nat.ne_of_lt (Heap.lt_size e)) (Heap.get?_push_of_some _ e)
    have J2 : Inv (lamCx X (X.A.deeper (envOfC x sg s.heap.objs.size g cd)) (envOfC x sg s.heap.objs.size g cd :: X.stack) s1 G' (WE W τ) scope f c) [] σ G' { s1 with heap := h1, toks := s1.toks + ([] : List (Str × Value)).length } := lam_start2 I LS J1.env0 room.hd grown names stays
    have went := (within _ _ s1 G' (WE W τ) (room.deeper _)).run [] _ _ G' R J2 rd
    refine PySem.W.kla_codeExpr (wpAny_mono went (fun v2 s3 q => ?_) fun e s3 q => q)
    obtain ⟨w2, G2, J3, rel2, q⟩ := q
    exact ⟨w2, G2, J3.os, J3.bare, J3.base, J3.hok, rel2, q⟩
  refine PySem.W.callWith_F0 ⟨_, _, _, _, here⟩ (wpAny_call (codeAny_mono ran fun r s2 out => ?_))
  cases r with
  | error e => exact passAt tk τ pz G' s1 e s2 J1 out
  | ok fl =>
    cases fl with
    | ret u => exact J1.after out
    | next => exact False.elim out
    | brk => exact False.elim out
    | cont => exact False.elim out
/-- x(lambda: body), where x calls it within a try -/
theorem pe_lamS {T : List (Addr × Str)} {TT : (XK → Hp → VK → Prop) → Hp → VK → Prop} {x a : Str} {g c P : Addr} {k : Nat} {pg : Arguments} {bg : List Stmt} {sg : Scope} {dV kV doc pm cd ct oc : Value} {an od : Option Addr} {osl : Array (Option Value)} {N : List Str}
    {params : Arguments} {body : Expr} {scope : Scope} {t : XK → TE} {p lpos pos : Pos} (glob : Gl X x) (at_ : X.mg x = some (.ref g)) (keep : PySem.W.keepIn X.K (.ref g) = true)
    (lk : X.K.lookup g = some ⟨oc, od, .func (PySem.W.fnOf x x pg bg sg dV kV doc pm an cd ct), osl⟩) (code : PySem.W.codeIn X.K cd x = true) (bd : L2.Binds X.K (PySem.W.fnOf x x pg bg sg dV kV doc pm an cd ct) [a] [])
    (S : FnScope N [a] sg) (first : N[0]? = some a) (vis : Vis sg a) (gives : GivesS X N x sg g cd bg a (X.env.qual ++ "<lambda>") TT)
    (tab : TabB X.base X.mg c P) (own : X.env.code = .ref c) (mem : (P, X.env.qual ++ "<lambda>") ∈ T) (uniq : ∀ e ∈ T, e.1 = P → e.2 = X.env.qual ++ "<lambda>") (room : Room (k + 2) X.A)
    (LS : LamS X.env.scope scope) (plain : defaultsOf params X.env = ([], []))
    (none' : ∀ (q : Str) (cl : List (Str × Addr)) (pm cv ctv : Value), bindArgs (PySem.W.kla_fn "<lambda>" q params body scope cl pm cv ctv) ⟨[], []⟩ = pure [])
    (within : ∀ (A : Around) (outer : List Env) (s : Shared) (G : Hp) (E : XK) (f c' : Addr), Room k (A.deeper (lamEnv X scope s.heap.objs.size f c')) → PE (lamCx X A outer s G E scope f c') body (t E))
    (d0 : (x == ("__debug__" : Str)) = false) (d1 : (a == ("__debug__" : Str)) = false) (d2 : (a == ("__classdict__" : Str)) = false) :
    PE X (.Call (.Name x p) [.Lambda params body scope lpos] [] pos) (tLam T TT t) := by
  constructor
  intro pins s σ H Q I ⟨tabs, rd⟩
  refine wpAny_Call_Name_kw (ld_glob I glob at_ ?_ d0)
  refine PySem.W.callWith_K (h₀ := X.base) I.ok.mod.kin keep ?_ (by rfl) (by rfl)
  show wpAny _ _ (spliced ((false, eval (.Lambda params body scope lpos) X.env) :: backTo pos (starEach [] X.env))) _ _ s
  refine Calls.spliced_cons (lam_make2 I tab own mem uniq tabs plain (LS.has I.ok) fun f c' pm' ctv G s1 J more tabs1 ho fresh apart cd1 => Calls.spliced_nil ⟨J.kIn, ?_⟩)
  have ran : codeAny (model X.prog X.w) X.A (.call (.ref g) ⟨[.ref f], []⟩) (CR C8.CX0 X.stack X.prog X.w G s1 Q C8.E0) s1 :=
    run_ofS (N := N) (ps := [a]) (us := [.ref f]) (vs := [.ref f]) lk code S room J.env0 (bd s1 [.ref f] J.kIn rfl) (.cons rfl .nil) rfl fun room' => by
      obtain ⟨t', ht, hq⟩ := gives f c' s1 G Q (fun E G' R => t E σ G' R)
        (fun W pn xe p1 p2 tk => act_s J LS ho fresh apart (none' _ _ _ _ _) tk room' (fun A outer s2 G2 E hr => within A outer s2 G2 E f c' hr) first vis d1 d2) cd1 (rd G more tabs1)
      exact ⟨t', ht.nox, hq⟩
  refine wpAny_call (codeAny_mono ran fun r s2 out => ?_)
  cases r with
  | error e => exact (show False from out).elim
  | ok fl =>
    cases fl with
    | ret u => exact J.after out
    | next => exact False.elim out
    | brk => exact False.elim out
    | cont => exact False.elim out
end
end Ev
namespace Ev
open PySem L2 PySem.Spec PyProof.Rows LamX
abbrev sHeard : Stmt := top 64
abbrev nHeard : List Str := ["_law_ask", "_law_caught", "_law_found", "_law_told", "error"]
/-- what is heard of a call that is refused -/
def THeard (C : Addr) : (XK → Hp → VK → Prop) → Hp → VK → Prop := fun tl H Q => ∀ (E : XK) (G0 : Hp) (Qn : VK), Same H G0 →
  (∀ (dd : Addr) (H' : Hp), Same G0 H' → H' dd = some (.xd [("part", .str "shape")]) → (∀ (r : Addr) (G : Hp), Same H G → H r = none → G r = some (.tup [.str "other", .str (PyData.str "shape").shown]) → Q (.ref r) G) → E (.ref C) (some dd) H') → tl E G0 Qn
theorem held_lst {cls : Value} {d : Option Addr} {a : Addr} {xs : List V} : HO.lst xs ≠ Held cls d a := fun z => by
  have z : HO.lst xs = HO.ext _ := z
  cases z
theorem Same.gone {H H' : Hp} {a : Addr} (k : Same H H') (h : H' a = none) : H a = none := by
  cases e : H a with
  | none => rfl
  | some o => rw [k _ _ e] at h; cases h
theorem scHeard : FnScope nHeard ["_law_ask"] (defScope sHeard) := ⟨rfl, rfl, rfl, by decide +kernel, rfl, by decide +kernel, by decide +kernel⟩
theorem part_d (H : Hp) {K : PySem.W.Frag} : Vd K H (.str "shape") (.str "shape") ∧ (PyData.str "shape").showable = true ∧ (PyData.str "shape").depth ≤ 32 ∧ (PyData.str "shape").shown.length ≤ sizeLine :=
  ⟨.plain (.str _) rfl, rfl, by decide +kernel, by decide +kernel⟩
section
variable {X : Cx}
theorem heard_gives {C FE : Addr} {q : Str} {g : Addr} {cdg : Value} (gd : X.A.guards = some []) {k : Nat} (hr : Room (k + 1) X.A) (T : Blt X.mg) (mv : X.mg "ValueError" = none) (mr : X.mg "repr" = none) (gF : X.mg "FairError" = some (.ref FE)) (gB : X.mg "BadOther" = some (.ref C)) (HC : HeldC X.K C)
    (no : PySem.W.findIn X.K (.ref C) "part" = some none) (te : PySem.W.exmOne X.K (.ref C) (.ref FE) = some true) (i1 : PySem.W.kitOne X.K (.ref C) (.ref C) = some true) (i2 : PySem.W.kitOne X.K (.ref C) (.type "ValueError") = some true) :
    GivesS X nHeard "_law_heard" (defScope sHeard) g cdg (defBody sHeard) "_law_ask" q (THeard C) := by
  intro f c' s H Q tl act hc h
  refine ⟨_, pss_cons (ps_par3 (i := 1) (j := 2) (l := 3) (by rfl) scHeard.nd rfl rfl rfl (by decide) (by decide) (by decide) rfl rfl rfl (pa_cons pe_non (pa_cons pe_non (pa_cons (pe_lst pa_nil) pa_nil))) (by rfl))
    (pss_cons (ps_try_held (X := (CxG X nHeard "_law_heard" (defScope sHeard) g cdg s H).nox) (c := .ref FE) (i := 4) (Wout := fun _ _ _ _ => False)
      (tb := fun W D σ H => σ[0]? = some (some (.ref f)) ∧ H c' = some (CodeO c' q) ∧ tl (WE W σ) H fun v H' => D.nx (σ.set 2 (some v)) H')
      (ts := fun a cls d => tAsg (tVar 4) (gName 1)) rfl rfl rfl scHeard.nd rfl rfl ⟨rfl, by decide, .inl gF⟩ L2.takes0 (fun W pn xe tk => ?_) (fun a oe cls d pn _ _ => pss_one (ps_set (i := 1) scHeard.nd rfl (.inl rfl) (pv 4))))
    (pss_cons (ps_if (pt_cmpR op_isN (pv 1) pe_non (nomark _)) (pss_one (ps_ret (pe_lst (pa_cons (pv 2) pa_nil)))) pss_nil)
    (pss_cons (ps_if (pt_val (pe_callB call_isHeld (by rfl) T.isi (by decide +kernel) (pa_cons (pv 1) (pa_cons (pe_glob (v := .ref C) rfl gB rfl) pa_nil))))
      (pss_one (ps_expr (pe_bm PySem.F.plainAttrs_list PySem.F.slot_list_append PySem.F.type_list_append mt_append (pv 3) (pa_cons (pe_tup (pa_cons pe_str (pa_cons (pe_callB (call_reprV gd (Room.units (hr.deeper _))) (by rfl) mr (by decide +kernel) (pa_cons (pe_heldFld (pv 1)) pa_nil)) pa_nil))) pa_nil)))) pss_nil)
    (pss_one (ps_ret (pe_ifExp (PW.pt (pw_and (pt_cmpR op_eq (pe_callB call_len_seq (by rfl) T.len PySem.boot_len (pa_cons (pv 3) pa_nil)) pe_int (nomark _))
      (pw_and1 (pt_val (pe_callB call_isHeld (by rfl) T.isi (by decide +kernel) (pa_cons (pv 1) (pa_cons (pe_bltn (v := .ty "ValueError") (by rfl) mv (by decide +kernel) rfl) pa_nil)))))))
      (pe_ix ix_list (pv 3) pe_int (fun _ _ => rfl)) pe_never)))))), ?_⟩
  · refine ⟨fun pins s' σ H' D I h' => ?_⟩
    exact (pss_one (ps_set (i := 2) scHeard.nd rfl (.inl rfl) (act W pn xe _ _ tk))).run pins s' σ H' D I h'
  · refine ⟨(by show 0 ≤ sizeLine; decide), fun l nl => ⟨_, _, _, rfl, ?_⟩⟩
    have s0 : Same H (upd H l (.lst [])) := same_new nl
    have hl0 : upd H l (.lst []) l = some (.lst []) := upd_same
    have hc0 := s0 _ _ hc
    generalize upd H l (.lst []) = H0 at s0 hl0 hc0 ⊢
    refine ⟨rfl, hc0, h _ _ _ s0 fun dd H' s1 ed fin hlen => ?_⟩
    have hl1 := s1 _ _ hl0
    refine ⟨true, te, (fun z => by cases z), fun _ a na => ⟨_, rfl, fun _ => ?_⟩⟩
    have sA : Same H' (upd H' a (Held (.ref C) (some dd) a)) := same_new na
    have hA : upd H' a (Held (.ref C) (some dd) a) a = some (Held (.ref C) (some dd) a) := upd_same
    have hD := sA _ _ ed
    have hl := sA _ _ hl1
    generalize upd H' a (Held (.ref C) (some dd) a) = HA at sA hA hD hl
    refine ⟨_, rfl, rfl, _, rfl, iteF ?_⟩
    refine ⟨_, rfl, a, C, dd, _, _, _, true, rfl, hA, hD, HC, .own C, i1, _, rfl, iteT ?_⟩
    obtain ⟨vd, v1, v2, v3⟩ := part_d (K := X.K) HA
    refine ⟨_, rfl, .inl ⟨rfl, _, SqL.of hl⟩, _, rfl, a, C, dd, _, _, rfl, hA, hD, HC, no, rfl, .str "shape", .str "shape", rfl, vd, v1, v2, v3, (by show 2 ≤ sizeLine; decide), fun tq ntq => ?_⟩
    have sB : Same HA (upd HA tq (.tup [.str "other", .str (PyData.str "shape").shown])) := same_new ntq
    have hq : upd HA tq (.tup [.str "other", .str (PyData.str "shape").shown]) tq = some (.tup [.str "other", .str (PyData.str "shape").shown]) := upd_same
    have ntH : H' tq = none := Same.gone sA ntq
    generalize upd HA tq (.tup [.str "other", .str (PyData.str "shape").shown]) = HB at sB hq
    refine ⟨l, _, _, rfl, rfl, sB _ _ hl, (by show 0 < sizeLine; decide), ?_⟩
    have nq : tq ≠ l := ne_of hq (sB _ _ hl) (by intro z; cases z)
    have hq2 : upd HB l (.lst [.ref tq]) tq = some (.tup [.str "other", .str (PyData.str "shape").shown]) := by rw [upd_ne nq]; exact hq
    have hl2 : upd HB l (.lst [.ref tq]) l = some (.lst [.ref tq]) := upd_same
    have al : a ≠ l := fun z => by rw [z] at hA; rw [hl] at hA; exact held_lst (Option.some.inj hA)
    have dl : dd ≠ l := fun z => by rw [z] at hD; rw [hl] at hD; cases hD
    have hA2 : upd HB l (.lst [.ref tq]) a = some (Held (.ref C) (some dd) a) := by rw [upd_ne al]; exact sB _ _ hA
    have hD2 : upd HB l (.lst [.ref tq]) dd = some (.xd [("part", .str "shape")]) := by rw [upd_ne dl]; exact sB _ _ hD
    refine ⟨_, rfl, l, _, rfl, .inl (SqL.of hl2), rfl, _, rfl, iteT ?_⟩
    refine ⟨_, rfl, a, C, dd, _, _, _, true, rfl, hA2, hD2, HC, .ty _, i2, _, rfl, iteT ?_⟩
    refine ⟨_, rfl, l, _, 0, _, rfl, rfl, SqL.of hl2, atI_nat (j := 0) rfl, ?_⟩
    refine fin tq _ (fun b o e => ?_) (Same.gone s0 (Same.gone s1 ntH)) hq2
    rw [upd_ne (ne_of_none e nl)]
    exact sB _ _ (sA _ _ (s1 _ _ (s0 _ _ e)))
end
end Ev
namespace Ev
open PySem L2 PySem.Spec PyProof.Rows LamX
/-! ### a def called by keywords alone -/
section
variable {X : Cx}
def tCallK0 (sp : Sp) (gV : List V → List V → List V) (E : XK) (tk : TA) : TE := fun σ H Q => tk σ H fun zs H2 => sp (gV [] zs) H2 Q E
theorem pe_callK0 {CX : CXT} {k : Nat} {f : Addr} {fd : FuncData} {ps ks : List Str} {sp : Sp} {E : XK} {x : Str} {p pos : Pos} {kws : List Keyword} {tk : TA} {g : List Value → List Value → List Value} {gV : List V → List V → List V}
    (F : FnOk X.prog X.w X.K X.mg X.base CX k f fd ps sp) (hr : Room k X.A) (hg : Gl X x) (hm : X.mg x = some (.ref f)) (hk : PySem.W.keepIn X.K (.ref f) = true) (hb : KBinds X.K fd ps ks g gV) (hx : Passes CX X E)
    (hkw : PK X kws tk) (hall : (backToKw pos (keywordEach kws X.env)).all (·.1.isSome) = true := by rfl) (hks : (backToKw pos (keywordEach kws X.env)).filterMap (·.1) = ks := by rfl)
    (hdb : (x == ("__debug__" : Str)) = false := by decide)
    (hpl : ((backTo pos (starEach [] X.env)).any (·.1) || (backToKw pos (keywordEach kws X.env)).any (·.1.isNone)) = false := by rfl) :
    PE X (.Call (.Name x p) [] kws pos) (tCallK0 sp gV E tk) := by
  refine ⟨fun pins s σ H Q I h => ?_⟩
  refine wpAny_Call_Name_kw (ld_glob I hg hm ?_ hdb)
  refine PySem.W.callWith_KW0 (first := []) (h₀ := X.base) I.ok.mod.kin hk hall ?_ hpl
  refine thn (hkw.run pos pins s σ H _ I h) fun ws s2 ⟨zs, H2, I2, rz, q2⟩ => ⟨I2.kIn, ?_⟩
  rw [hks]
  exact run_fnk (us := []) (vs := []) F hr hb hx I2 .nil rz q2
end
def gK {α : Type} : List α → List α → List α
  | [], [a] => [a]
  | _, _ => []
theorem gK_rel {vs zs : List V} {us ws : List Value} (r1 : Vals vs us) (r2 : Vals zs ws) : Vals (gK vs zs) (gK us ws) := by
  cases r1 with
  | cons a t => exact .nil
  | nil =>
    cases r2 with
    | nil => exact .nil
    | cons a t =>
      cases t with
      | nil => exact .cons a .nil
      | cons b t => exact .nil
theorem gK_len {α : Type} {us ws : List α} (h : (gK us ws).length = 1) : ∃ a, us = [] ∧ ws = [a] := by
  match us, ws, h with
  | [], [a], _ => exact ⟨a, rfl, rfl⟩
def gG {α : Type} : List α → List α → List α
  | [], [a, b] => [b, a]
  | _, _ => []
theorem gG_rel {vs zs : List V} {us ws : List Value} (r1 : Vals vs us) (r2 : Vals zs ws) : Vals (gG vs zs) (gG us ws) := by
  cases r1 with
  | cons a t => exact .nil
  | nil =>
    cases r2 with
    | nil => exact .nil
    | cons a t =>
      cases t with
      | nil => exact .nil
      | cons b t =>
        cases t with
        | nil => exact .cons b (.cons a .nil)
        | cons d t => exact .nil
theorem gG_len {α : Type} {us ws : List α} (h : (gG us ws).length = 2) : ∃ a b, us = [] ∧ ws = [a, b] := by
  match us, ws, h with
  | [], [a, b], _ => exact ⟨a, b, rfl, rfl⟩
/-- a def that stands under its name, called by place and by keywords -/
structure DfK (P : Program) (w : World) (K : PySem.W.Frag) (mg : Str → Option Value) (base : Heap) (k : Nat) (x : Str) (ps ks : List Str) (g : List Value → List Value → List Value) (gV : List V → List V → List V) (sp : Sp) : Prop where
  ex : ∃ (f : Addr) (fd : FuncData), FnOk P w K mg base CX0 k f fd ps sp ∧ mg x = some (.ref f) ∧ PySem.W.keepIn K (.ref f) = true ∧ Binds K fd ps [] ∧ KBinds K fd ps ks g gV
/-! ### how pairs show -/
theorem small_log {n : Nat} (h : n < 2000) : n.log2 < 11 := by
  by_cases z : n = 0
  · subst z; decide
  · exact (Nat.log2_lt z).mpr (by omega)
theorem small_show {n : Nat} (h : n < 2000) : n.log2 < 1920 := by
  have := small_log h
  omega
theorem small_leaf {n : Nat} (h : n < 2000) : (PyData.int (n : Int)).leavesShort 2000 = true := by
  have e := int_text_length_le (a := (n : Int)) (k := 1920) (by decide) (by
    rw [Int.natAbs_natCast]
    exact small_show h)
  refine decide_eq_true ?_
  show (Str.ofString (toString (n : Int))).length ≤ 2000
  rw [PySem.ofString_length]
  omega
theorem small_weight {n : Nat} (h : n < 2000) : (PyData.int (n : Int)).weight ≤ 1002 := by
  have e : (n : Int) = 0 ∨ (n : Int).natAbs.log2 < 1000 := by
    by_cases z : n = 0
    · exact .inl (by omega)
    · exact .inr (by
        rw [Int.natAbs_natCast]
        have := small_log h
        omega)
  simp only [PyData.weight]
  split
  · omega
  · rename_i z
    have : ¬ (n : Int) = 0 := by simpa using z
    omega
theorem show_len {d : PyData} (h : d.leavesShort 2000 = true) (hw : d.weight ≤ 8000) : d.shown.length ≤ sizeLine := by
  have := PyData.shown_le 2000 (by decide) d h
  rw [sizeLine_eq]
  omega
def pairD (a b : Nat) : PyData := .list [.int (a : Int), .int (b : Int)]
theorem Same.extN {H H' : Hp} (k : Same H H') : ExtN H H' := fun b o e _ => k b o e
theorem Pen.ext {L p : Addr} {H H' : Hp} {B : Int} (h : Pen L H p B) (k : ExtN H H') : Pen L H' p B := by
  obtain ⟨ns, t, c, h1, h2, h3⟩ := h
  exact ⟨ns, t, c, k _ _ h1 (fun _ z => by cases z), k _ _ h2 (fun _ z => by cases z), h3⟩
theorem Tabs.but {T : List (Addr × Str)} {p : Addr} {H H' : Hp} {xs : List V} (t : Tabs T H) (hp : H p = some (.lst xs)) (k : But p H H') : Tabs T H' := by
  intro q hq
  obtain ⟨ps, h1, h2, h3⟩ := t q hq
  refine ⟨ps, k _ _ (fun z => by rw [z, hp] at h1; cases h1) h1, h2, fun pos cv hc => ?_⟩
  obtain ⟨c, e1, e2⟩ := h3 pos cv hc
  refine ⟨c, e1, k _ _ (fun z => ?_) e2⟩
  rw [z, hp] at e2
  have e3 : HO.lst xs = HO.ext _ := Option.some.inj e2
  cases e3
theorem two {H H1 G1 H2 G3 : Hp} {l r1 r2 : Addr} {o : HO} {T : List (Addr × Str)} (ho : ∀ ps, o ≠ .tbl ps) (e1 : ExtN H H1) (s1 : Same H1 G1) (h1 : G1 r1 = some o) (nl : G1 l = none) (e2 : ExtN (upd G1 l (.lst [.ref r1])) H2) (T2 : Tabs T H2)
    (s2 : Same H2 G3) (n2 : H2 r2 = none) (h2 : G3 r2 = some o) :
    G3 l = some (.lst [.ref r1]) ∧ ExtN H (upd G3 l (.lst [.ref r1, .ref r2])) ∧ Tabs T (upd G3 l (.lst [.ref r1, .ref r2])) ∧ upd G3 l (.lst [.ref r1, .ref r2]) l = some (.lst [.ref r1, .ref r2]) ∧ upd G3 l (.lst [.ref r1, .ref r2]) r1 = some o ∧ upd G3 l (.lst [.ref r1, .ref r2]) r2 = some o := by
  have r1l : r1 ≠ l := ne_of_none h1 nl
  have hl2 : H2 l = some (.lst [.ref r1]) := e2 _ _ upd_same (fun _ z => by cases z)
  have hl3 := s2 _ _ hl2
  have r2l : r2 ≠ l := fun z => by rw [z, hl2] at n2; cases n2
  have hr1 : G3 r1 = some o := s2 _ _ (e2 _ _ (by rw [upd_ne r1l]; exact h1) ho)
  refine ⟨hl3, fun b u e n => ?_, Tabs.but (T2.ext s2) hl3 But.upd_at, upd_same, by rw [upd_ne r1l]; exact hr1, by rw [upd_ne r2l]; exact h2⟩
  have g1 := s1 _ _ (e1 b u e n)
  have bl : b ≠ l := ne_of_none g1 nl
  rw [upd_ne bl]
  exact s2 _ _ (e2 b u (by rw [upd_ne bl]; exact g1) n)
theorem ExtN.kind {H H' : Hp} (k : ExtN H H') : KindK H H' := ⟨fun _ _ e => k _ _ e (fun _ z => by cases z), fun _ _ e => ⟨_, k _ _ e (fun _ z => by cases z)⟩, fun _ _ e => ⟨_, k _ _ e (fun _ z => by cases z)⟩⟩
theorem ObjAt.ext {Ct Cn : Addr} {H H' : Hp} {r : Addr} {row : Row} (h : ObjAt Ct Cn H r row) (k : ExtN H H') : ObjAt Ct Cn H' r row := by
  cases row with
  | tr p q k0 =>
    obtain ⟨dx, a, h1, h2⟩ := h
    exact ⟨dx, a, k _ _ h1 (fun _ z => by cases z), k _ _ h2 (fun _ z => by cases z)⟩
  | tn p q k0 t s c =>
    obtain ⟨dx, a, b, h1, h2, h3⟩ := h
    exact ⟨dx, a, b, k _ _ h1 (fun _ z => by cases z), k _ _ h2 (fun _ z => by cases z), k _ _ h3 (fun _ z => by cases z)⟩
theorem But.tup {L p a : Addr} {H H' : Hp} {B : Int} {xs : List V} (h : H a = some (.tup xs)) (pn : Pen L H p B) (t : But p H H') : H' a = some (.tup xs) := by
  obtain ⟨ys, e⟩ := pn.some
  exact t _ _ (ne_of h e (by intro z; cases z)) h
theorem Tabs.pen {T : List (Addr × Str)} {p L : Addr} {H H' : Hp} {b : Int} (t : Tabs T H) (pn : Pen L H p b) (k : But p H H') : Tabs T H' := by
  obtain ⟨xs, e⟩ := pn.some
  exact Tabs.but t e k
theorem pe_imp {X : Cx} {e : Expr} {t t' : TE} (h : PE X e t) (k : ∀ σ H Q, t' σ H Q → t σ H Q) : PE X e t' := ⟨fun pins s σ H Q I q => h.run pins s σ H Q I (k σ H Q q)⟩
def tSh (s : Sh) : TE := fun _ H Q => ∀ v H', Same H H' → ShAt H' s v → Q v H'
theorem rd_e : ∀ σ H Q, tSh .e σ H Q → tTup tNil σ H Q := fun σ H Q h => ⟨by show 0 ≤ sizeLine; decide, fun p np => h _ _ (same_new np) ⟨p, rfl, upd_same⟩⟩
theorem rd_n {a b : Sh} : ∀ σ H Q, tSh (.n a b) σ H Q → tTup (tCons (tSh a) (tCons (tSh b) tNil)) σ H Q := fun σ H Q h x H1 s1 h1 y H2 s2 h2 =>
  ⟨by show 2 ≤ sizeLine; decide, fun p np => h _ _ (Same.trans s1 (Same.trans s2 (same_new np))) ⟨p, x, y, rfl, upd_same, (h1.keep s2).keep (same_new np), h2.keep (same_new np)⟩⟩
theorem wt_many : ∀ s : Sh, s.wt = s.many + 1
  | .e => rfl
  | .n l r => by
    show l.wt + r.wt = ((l.many + r.many + 1 : Nat) : Int) + 1
    rw [wt_many l, wt_many r]; omega
theorem ht_nn : ∀ s : Sh, 0 ≤ s.ht ∧ s.ht ≤ s.many
  | .e => ⟨by decide, by decide⟩
  | .n l r => by
    have h1 := ht_nn l
    have h2 := ht_nn r
    have e : (Sh.n l r).ht = 1 + if r.ht < l.ht then l.ht else r.ht := rfl
    have e2 : ((Sh.n l r).many : Int) = (l.many : Int) + r.many + 1 := by show ((l.many + r.many + 1 : Nat) : Int) = _; omega
    rw [e, e2]
    split <;> omega
end Ev
namespace Ev
open PySem L2 PySem.Spec PyProof.Rows LamX
abbrev sRight : Stmt := top 68
abbrev nRight : List Str := ["_law_pen_here", "_law_some", "_law_rule_so", "_law_shape_so", "_law_due", "_law_told", "_law_bad", "_law_heard_here"]
theorem scRight : FnScope nRight ["_law_pen_here"] (defScope sRight) := ⟨rfl, rfl, rfl, by decide +kernel, rfl, by decide +kernel, by decide +kernel⟩
def spRight (T : List (Addr × Str)) : Sp := fun vs H Q _ => ∃ (p L : Addr) (B : Int), vs = [.ref p] ∧ B ≤ 800000 ∧ Pen L H p B ∧ Tabs T H ∧ ∀ H', Pen L H' p (B + 1000) → Tabs T H' → Q (.bl true) H'
def triD (a b : Nat) (c : Bool) : PyData := .list [.int (a : Int), .int (b : Int), .bool c]
theorem tri_show {a b : Nat} (ha : a < 2000) (hb : b < 2000) (c : Bool) : (triD a b c).showable = true ∧ (triD a b c).depth ≤ 32 ∧ (triD a b c).shown.length ≤ sizeLine := by
  have bl : (PyData.bool c).leavesShort 2000 = true := by cases c <;> decide +kernel
  refine ⟨?_, by simp [triD, PyData.depth, PyData.depthAll], show_len ?_ ?_⟩
  · have e1 := small_show ha
    have e2 := small_show hb
    simp only [triD, PyData.showable, PyData.showableAll, Bool.and_true]
    simp [e1, e2]
  · have e1 := small_leaf ha
    have e2 := small_leaf hb
    simp only [triD, PyData.leavesShort, PyData.leavesShortAll, Bool.and_true] at e1 e2 bl ⊢
    simp [e1, e2, bl]
  · have e1 := small_weight ha
    have e2 := small_weight hb
    simp only [triD, PyData.weight, PyData.weightAll] at e1 e2 ⊢
    omega
theorem tri_dp {K : PySem.W.Frag} {H : Hp} {l : Addr} {a b : Nat} {c : Bool} (h : H l = some (.lst [.int (a : Int), .int (b : Int), .bl c])) : Dp K H (.ref l) (triD a b c) := .lst (SqL.of h) (.cons (.int _) (.cons (.int _) (.cons (.bl _) .nil)))
def oneD : PyData := .tuple [.str "other", .str (PyData.str "shape").shown]
theorem one_dp {K : PySem.W.Frag} {H : Hp} {r : Addr} (h : H r = some (.tup [.str "other", .str (PyData.str "shape").shown])) : Dp K H (.ref r) oneD := .tup (SqT.of h) (.cons (.str _) (.cons (.str _) .nil))
theorem one_shaped : SeqAt.shaped (.list [oneD, oneD]) = true := by decide +kernel
theorem one_eqv : PyData.eqv (.list [oneD, oneD]) (.list [oneD, oneD]) = true := by decide +kernel
theorem one_text : (PyData.str "shape").shown = "'shape'" := by decide +kernel
section
variable {P : Program} {w : World} {K : PySem.W.Frag} {mg : Str → Option Value} {base : Heap}
theorem ok_right {f C FE Ct Cn cc TT : Addr} {fd : FuncData} {q : Str} (F : Fun K "_law_right" "_law_right" sRight f fd) (T : Blt mg) (hc : fd.code = .ref cc) (TB : TabB base mg cc TT) (mr : mg "repr" = none) (mv : mg "ValueError" = none)
    (hq : q = (envOfC "_law_right" (defScope sRight) 0 f (.ref cc)).qual ++ ("<lambda>" : Str))
    (D1 : Df P w K mg base 1 "_law_draw" ["_law_pen_here", "_law_many"] spDraw) (D2 : Df P w K mg base 3 "_law_numbers" ["_law_pen_here"] spNums) (D3 : Df P w K mg base 8 "_law_rule" ["_law_some", "_law_is_turn"] (spRule Ct Cn))
    {f7 : Addr} {fd7 : FuncData} {k7 : Nat} (G7 : FnOk P w K mg base CX0 k7 f7 fd7 ["_law_pen_here", "_law_many", "_law_deep"] (spShape 7)) (hk7 : k7 ≤ 20) {k75 : Nat} (G5 : FnOk P w K mg base CX0 k75 f7 fd7 ["_law_pen_here", "_law_many", "_law_deep"] (spShape 5)) (hk75 : k75 ≤ 20) (g7 : mg "_law_shape" = some (.ref f7)) (kp7 : PySem.W.keepIn K (.ref f7) = true) (b7 : Binds K fd7 ["_law_pen_here", "_law_many", "_law_deep"] [])
    {f8 : Addr} {fd8 : FuncData} {k8 : Nat} (G8 : FnOk P w K mg base CX0 k8 f8 fd8 ["_law_some", "_law_shape_so"] (spSeen 7)) (hk8 : k8 ≤ 20) (g8 : mg "_law_seen" = some (.ref f8)) (kp8 : PySem.W.keepIn K (.ref f8) = true) (b8 : Binds K fd8 ["_law_some", "_law_shape_so"] [])
    {f9 : Addr} {fd9 : FuncData} {k9 : Nat} (G9 : FnOk P w K mg base CX0 k9 f9 fd9 ["_law_pen_here", "_law_shape_so"] (spSpoilt 5)) (hk9 : k9 ≤ 20) (g9 : mg "_law_spoilt" = some (.ref f9)) (kp9 : PySem.W.keepIn K (.ref f9) = true) (b9 : Binds K fd9 ["_law_pen_here", "_law_shape_so"] [])
    (DK : Df P w K mg base 4 "keys_of" ["shape"] spKeysOf) (DH : DfK P w K mg base 4 "height_of" ["shape"] ["shape"] gK gK spHeightOf) (DF : DfK P w K mg base 4 "is_fair" ["rule", "shape"] ["shape", "rule"] gG gG (spIsFair Ct Cn NoSh))
    (DKX : DfX P w K mg base 7 "keys_of" ["shape"] (spNeedPX C NoSh)) (DHX : DfX P w K mg base 7 "height_of" ["shape"] (spNeedPX C NoSh))
    {fh : Addr} {fdh : FuncData} (FH : Fun K "_law_heard" "_law_heard" sHeard fh fdh) (gh : mg "_law_heard" = some (.ref fh)) (bh : Binds K fdh ["_law_ask"] [])
    (gF : mg "FairError" = some (.ref FE)) (gB : mg "BadOther" = some (.ref C)) (HC : HeldC K C) (no : PySem.W.findIn K (.ref C) "part" = some none) (te : PySem.W.exmOne K (.ref C) (.ref FE) = some true) (i1 : PySem.W.kitOne K (.ref C) (.ref C) = some true) (i2 : PySem.W.kitOne K (.ref C) (.type "ValueError") = some true) :
    FnG P w K mg base 21 f fd ["_law_pen_here"] (spRight [(TT, q)]) := by
  obtain ⟨f1, fd1, G1, g1, k1, b1⟩ := D1.ex
  obtain ⟨f2, fd2, G2, g2, k2, b2⟩ := D2.ex
  obtain ⟨f3, fd3, G3, g3, k3, b3⟩ := D3.ex
  obtain ⟨fk, fdk, GK, gK', kK, bK⟩ := DK.ex
  obtain ⟨fg, fdg, GH, gH, kH, bH, bHk⟩ := DH.ex
  obtain ⟨ff, fdf, GF, gFr, kF, bF, bFk⟩ := DF.ex
  obtain ⟨fx, fdx, GX, gX, kX, bX⟩ := DKX.ex
  obtain ⟨fy, fdy, GY, gY, kY, bY⟩ := DHX.ex
  have kh := FH.kp
  obtain ⟨och, odh, kVh, doch, pmh, anh, cdvh, cth, oslh, rfl, lkh, hcdh⟩ := FH.ex
  refine fng_code F scRight (fun vs H Q E h => ?_) (fun cdv ecd A outer s H vs Q E hr gd h => ?_)
  · obtain ⟨p, L, B, rfl, _⟩ := h
    rfl
  · obtain ⟨p, L, B, rfl, hB, pn, hT, kk⟩ := h
    obtain rfl : cdv = .ref cc := ecd.symm.trans hc
    have hr1 : Room 1 _ := hr.mono (by decide)
    have hr3 : Room 3 _ := hr.mono (by decide)
    have hr4 : Room 4 _ := hr.mono (by decide)
    have hr8 : Room 8 _ := hr.mono (by decide)
    have hrs : Room k7 _ := hr.mono (by omega)
    have hrs5 : Room k75 _ := hr.mono (by omega)
    have hre : Room k8 _ := hr.mono (by omega)
    have hrp : Room k9 _ := hr.mono (by omega)
    have hr9 : Room 9 _ := hr.mono (by decide)
    have hq' : q = (cxOf CX0 P w K mg base nRight "_law_right" (defScope sRight) f (.ref cc) A outer s H E).nox.env.qual ++ ("<lambda>" : Str) := hq
    have lam : ∀ {params : Arguments} {body : Expr} {scope : Scope} {lpos pos p : Pos} {t : XK → TE}, LamS (defScope sRight) scope → defaultsOf params (cxOf CX0 P w K mg base nRight "_law_right" (defScope sRight) f (.ref cc) A outer s H E).env = ([], []) →
        (∀ (q : Str) (cl : List (Str × Addr)) (pm cv ctv : Value), bindArgs (PySem.W.kla_fn "<lambda>" q params body scope cl pm cv ctv) ⟨[], []⟩ = pure []) →
        (∀ (A' : Around) (outer' : List Env) (s' : Shared) (H' : Hp) (E' : XK) (f' c' : Addr), Room 7 (A'.deeper (lamEnv (cxOf CX0 P w K mg base nRight "_law_right" (defScope sRight) f (.ref cc) A outer s H E).nox scope s'.heap.objs.size f' c')) →
          PE (lamCx (cxOf CX0 P w K mg base nRight "_law_right" (defScope sRight) f (.ref cc) A outer s H E).nox A' outer' s' H' E' scope f' c') body (t E')) →
        PE (cxOf CX0 P w K mg base nRight "_law_right" (defScope sRight) f (.ref cc) A outer s H E).nox (.Call (.Name "_law_heard" p) [.Lambda params body scope lpos] [] pos) (tLam [(TT, q)] (THeard C) t) := by
      intro params body scope lpos pos p t LS hdef hbind hbody
      subst hq'
      have h4 : Gl (cxOf CX0 P w K mg base nRight "_law_right" (defScope sRight) f (.ref cc) A outer s H E).nox "_law_heard" := by rfl
      refine pe_lamS (X := (cxOf CX0 P w K mg base nRight "_law_right" (defScope sRight) f (.ref cc) A outer s H E).nox) (k := 7) (T := [(TT, _)]) (TT := THeard C) (x := "_law_heard") (a := "_law_ask") (g := fh) (c := cc) (P := TT) (pg := defArgs sHeard) (bg := defBody sHeard) (sg := defScope sHeard)
        (N := nHeard) h4 gh kh lkh hcdh bh scHeard ?_ ?_ ?_ ?_ ?_ ?_ ?_ ?_ ?_ ?_ ?_ ?_ ?_ ?_ ?_
      · rfl
      · exact .inl rfl
      · exact heard_gives gd hr9 T mv mr gF gB HC no te i1 i2
      · exact TB
      · rfl
      · exact List.mem_singleton.mpr rfl
      · exact fun p hp _ => by rw [List.mem_singleton.mp hp]
      · exact hr9
      · exact LS
      · exact hdef
      · exact hbind
      · exact hbody
      · decide
      · decide
      · decide
    have hu : (cxOf CX0 P w K mg base nRight "_law_right" (defScope sRight) f (.ref cc) A outer s H E).nox.A.units + 64 < cLine := Room.units hr
    refine ⟨_, (pss_cons (ps_set (i := 1) scRight.nd rfl (.inl rfl) (pe_call G2 hr3 (by rfl) g2 k2 b2 .nil pass0 (pa_cons (pv 0) pa_nil)))
      (pss_cons (ps_par (i := 2) (j := 3) (by rfl) scRight.nd rfl rfl (by decide) rfl rfl (pa_cons (pe_call G3 hr8 (by rfl) g3 k3 b3 .nil pass0 (pa_cons (pv 1) (pa_cons (pe_cmpR op_eq (pe_call G1 hr1 (by rfl) g1 k1 b1 .nil pass0 (pa_cons (pv 0) (pa_cons pe_int pa_nil))) pe_int (nomark _)) pa_nil))) (pa_cons (pe_call G7 hrs (by rfl) g7 kp7 b7 .nil pass0 (pa_cons (pv 0) (pa_cons (pe_call G1 hr1 (by rfl) g1 k1 b1 .nil pass0 (pa_cons (pv 0) (pa_cons pe_int pa_nil))) (pa_cons pe_int pa_nil)))) pa_nil)) (by rfl))
      (pss_cons (ps_set (i := 4) scRight.nd rfl (.inl rfl) (pe_call G8 hre (by rfl) g8 kp8 b8 .nil pass0 (pa_cons (pv 1) (pa_cons (pv 3) pa_nil))))
      (pss_cons (ps_set (i := 5) scRight.nd rfl (.inl rfl) (pe_lst (pa_cons (pe_call GK hr4 (by rfl) gK' kK bK .nil pass0 (pa_cons (pv 3) pa_nil)) (pa_cons (pe_callK0 GH hr4 (by rfl) gH kH bHk (E := E0) pass0 (pk_cons (pv 3) pk_nil)) (pa_cons (pe_callK0 GF hr4 (by rfl) gFr kF bFk (E := E0) pass0 (pk_cons (pv 3) (pk_cons (pv 2) pk_nil))) pa_nil)))))
      (pss_cons (ps_if (pt_cmpR op_ne (pe_callB (call_reprV gd hu) (by rfl) mr (by decide +kernel) (pa_cons (pv 5) pa_nil)) (pe_callB (call_reprV gd hu) (by rfl) mr (by decide +kernel) (pa_cons (pe_lst (pa_cons (pe_op op_sub (pe_ix ix_tup (pv 4) pe_int (fun _ _ => rfl)) pe_int) (pa_cons (pe_ix ix_tup (pv 4) pe_int (fun _ _ => rfl)) (pa_cons (pe_ix ix_tup (pv 4) pe_int (fun _ _ => rfl)) pa_nil)))) pa_nil)) (nomark _))
        (pss_one (ps_ret pe_bl)) pss_nil)
      (pss_cons (ps_set (i := 6) scRight.nd rfl (by first | exact .inl rfl | exact .inr rfl) (pe_call G9 hrp (by rfl) g9 kp9 b9 .nil pass0 (pa_cons (pv 0) (pa_cons (pe_call G5 hrs5 (by rfl) g7 kp7 b7 .nil pass0 (pa_cons (pv 0) (pa_cons (pe_call G1 hr1 (by rfl) g1 k1 b1 .nil pass0 (pa_cons (pv 0) (pa_cons pe_int pa_nil))) (pa_cons pe_int pa_nil)))) pa_nil))))
      (pss_cons (ps_set (i := 7) scRight.nd rfl (.inl rfl) (pe_lst (pa_cons (lam (t := fun E' => tCall (spNeedPX C NoSh) [] E' (tCons (tVar 6) tNil)) (lamS_by (by decide +kernel)) rfl (fun _ _ _ _ _ => rfl) (fun _ _ _ _ E' _ _ hrL => pe_call GX hrL (by rfl) gX kX bX .nil (E := E') (passes_call (takes_of rfl rfl rfl rfl) (fun _ _ _ _ h => h)) (pa_cons (pv 6) pa_nil))) pa_nil)))
      (pss_cons (ps_expr (pe_bm PySem.F.plainAttrs_list PySem.F.slot_list_append PySem.F.type_list_append mt_append (pv 7) (pa_cons (lam (t := fun E' => tCall (spNeedPX C NoSh) [] E' (tCons (tVar 6) tNil)) (lamS_by (by decide +kernel)) rfl (fun _ _ _ _ _ => rfl) (fun _ _ _ _ E' _ _ hrL => pe_call GY hrL (by rfl) gY kY bY .nil (E := E') (passes_call (takes_of rfl rfl rfl rfl) (fun _ _ _ _ h => h)) (pa_cons (pv 6) pa_nil))) pa_nil)))
      (pss_one (ps_ret (pe_and (pe_cmpR (op_eqD hu) (pv 7) (pe_op op_rep (pe_lst (pa_cons (pe_tup (pa_cons pe_str (pa_cons pe_str pa_nil))) pa_nil)) pe_int) (nomark _)) (pe_one (pe_cmpR op_is_bl (pe_call GF hr4 (by rfl) gFr kF bF .nil pass0 (pa_cons (pv 2) (pa_cons (pv 6) pa_nil))) pe_bl (nomark _)))))))))))))), ?_⟩
    refine ⟨_, rfl, p, L, _, rfl, by omega, pn, fun a1 p' q' k' t' s' c' H1 okn okt na ha b1' pn1 => ?_⟩
    have hT1 := Tabs.pen hT pn b1'
    refine ⟨_, rfl, _, rfl, p, L, _, _, rfl, by decide, by decide, by omega, pn1, fun d H2 b2' pn2 d1 d2 => ⟨rfl, ?_⟩⟩
    have ha2 := But.tup ha pn1 b2'
    have hT2 := Tabs.pen hT1 pn1 b2'
    refine ⟨a1, p', q', k', t', s', c', _, rfl, ha2, okn, okt, fun r H3 row s3 ob ok e1 e2 e3 => ?_⟩
    have pn3 := pn2.keep s3
    have hT3 := hT2.ext s3
    have ha3 := s3 _ _ ha2
    refine ⟨_, rfl, _, rfl, p, L, _, _, rfl, by decide, by decide, by omega, pn3, fun d' H4 b4' pn4 d3 d4 => ?_⟩
    have ob4 : ObjAt Ct Cn H4 r row := by
      obtain ⟨xs, hx⟩ := pn3.some
      exact ob.but hx b4'
    have ha4 := But.tup ha3 pn3 b4'
    have hT4 := Tabs.pen hT3 pn3 b4'
    refine ⟨p, L, _, d', rfl, d3, by omega, by show _ + 2 * 2 ^ 7 ≤ (900000 : Int); omega, pn4, fun v sh H5 b5' pn5 hs hm hd => ⟨_, _, rfl, ?_⟩⟩
    have ob5 : ObjAt Ct Cn H5 r row := by
      obtain ⟨xs, hx⟩ := pn4.some
      exact ob4.but hx b5'
    have ha5 := But.tup ha4 pn4 b5'
    have hT5 := Tabs.pen hT4 pn4 b5'
    have pn5 : Pen L H5 p (B + 300) := pn5.mono (by show _ + 2 * 2 ^ 7 - 2 ≤ B + 300; omega)
    clear b1' b2' b4' b5' pn pn1 pn2 pn3 pn4 ha ha2 ha3 ha4 hT hT1 hT2 hT3 hT4 ob ob4 s3 na
    refine ⟨_, rfl, _, rfl, a1, p', q', k', v, sh, rfl, ⟨t', s', c', ha5⟩, okn, hs, hd, by decide, fun a6 H6 n6 s6 h6 => ?_⟩
    have hs6 := hs.keep s6
    refine ⟨_, rfl, v, sh, rfl, hs6, by omega, fun H7 s7 => ?_⟩
    refine ⟨_, rfl, v, sh, rfl, hs6.keep s7, by omega, fun H8 s8 => ?_⟩
    have ob8 := ((ob5.keep s6).keep s7).keep s8
    refine ⟨_, rfl, _, rfl, r, row, v, rfl, ob8, ok, .inl ⟨sh, (hs6.keep s7).keep s8, by omega, fun H9 s9 => ⟨(by show 3 ≤ sizeLine; decide), fun l nl => ?_⟩⟩⟩
    rw [e1, e2, e3]
    have s69 := Same.trans s7 (Same.trans s8 s9)
    have s10 := same_new (o := .lst [.int (sh.many : Int), .int sh.ht, .bl (sh.fair p' q' k')]) nl
    have hl : upd H9 l (.lst [.int (sh.many : Int), .int sh.ht, .bl (sh.fair p' q' k')]) l = some (.lst [.int (sh.many : Int), .int sh.ht, .bl (sh.fair p' q' k')]) := upd_same
    generalize upd H9 l (.lst [.int (sh.many : Int), .int sh.ht, .bl (sh.fair p' q' k')]) = H10 at s10 hl ⊢
    have sA := Same.trans s6 (Same.trans s69 s10)
    have h10 := s10 _ _ (s69 _ _ h6)
    obtain ⟨n, hn⟩ := Int.eq_ofNat_of_zero_le (ht_nn sh).1
    have hn2 := (ht_nn sh).2
    have ts := tri_show (a := sh.many) (b := n) (by omega) (by omega) (sh.fair p' q' k')
    rw [hn] at hl h10
    refine ⟨_, rfl, _, triD sh.many n (sh.fair p' q' k'), rfl, .plain (tri_dp hl) rfl, ts.1, ts.2.1, ts.2.2, ?_⟩
    refine ⟨_, rfl, a6, _, _, _, rfl, rfl, SqT.of h10, i3_0, _, _, rfl, rfl, _, rfl, a6, _, _, _, rfl, rfl, SqT.of h10, i3_1, _, rfl, a6, _, _, _, rfl, rfl, SqT.of h10, i3_2, (by show 3 ≤ sizeLine; decide), fun l2 nl2 => ?_⟩
    have s11 : Same H10 (upd H10 l2 (.lst [.int (sh.wt - 1), .int (n : Int), .bl (sh.fair p' q' k')])) := same_new nl2
    have hl2 : upd H10 l2 (.lst [.int (sh.wt - 1), .int (n : Int), .bl (sh.fair p' q' k')]) l2 = some (.lst [.int (sh.many : Int), .int (n : Int), .bl (sh.fair p' q' k')]) := by
      rw [upd_same, show sh.wt - 1 = (sh.many : Int) by rw [wt_many]; omega]
    refine ⟨_, triD sh.many n (sh.fair p' q' k'), rfl, .plain (tri_dp hl2) rfl, ts.1, ts.2.1, ts.2.2, rfl, _, rfl, iteNS rfl ?_⟩
    have sB := Same.trans sA s11
    have pnB := pn5.keep sB
    have hTB := hT5.ext sB
    have obB := ob5.keep sB
    clear sA sB s6 s69 s10 s11 hl hl2 h10 h6 nl hs6 ob8 s7 s8 s9 n6 pn5 hT5 ob5 ts
    -- what is spoilt
    refine ⟨_, rfl, _, rfl, _, rfl, p, L, _, _, rfl, by decide, by decide, by omega, pnB, fun d5 H12 b12 pn12 d6 d7 => ?_⟩
    refine ⟨p, L, _, d5, rfl, d6, by omega, by show _ + 2 * 2 ^ 5 ≤ (900000 : Int); omega, pn12, fun v5 sh5 H13 b13 pn13 hs5 hm5 hd5 => ?_⟩
    have pn13 : Pen L H13 p (B + 400) := pn13.mono (by show _ + 2 * 2 ^ 5 - 2 ≤ B + 400; omega)
    refine ⟨p, L, _, v5, sh5, rfl, hs5, hd5, by decide, by omega, by show B + 400 + 3 * ((5 : Int) + 1) ≤ 900000; omega, pn13, fun vb t H14 b14 pn14 ts tm hb => ?_⟩
    have pn14 : Pen L H14 p (B + 500) := pn14.mono (by show B + 400 + 3 * ((5 : Int) + 1) ≤ B + 500; omega)
    have ob14 : ObjAt Ct Cn H14 r row := by
      obtain ⟨x1, y1⟩ := pnB.some
      obtain ⟨x2, y2⟩ := pn12.some
      obtain ⟨x3, y3⟩ := pn13.some
      exact ((obB.but y1 b12).but y2 b13).but y3 b14
    have hT14 := Tabs.pen (Tabs.pen (Tabs.pen hTB pnB b12) pn12 b13) pn13 b14
    have ns : NoSh H14 vb := ⟨t, ts, by omega, hb⟩
    clear pnB hTB obB b12 b13 b14 pn12 pn13 hb ts tm hs5
    -- heard
    refine ⟨hT14, fun H6 e6 T6 => ?_⟩
    intro E1 G0 Q1 s0 acc1
    have ns6 := (ns.keep (ExtN.kind e6)).keep (Same.kind s0)
    refine ⟨_, rfl, vb, rfl, ns6, fun dd H' sH hdd => acc1 dd H' sH hdd fun r1 G1 s1 n1 h1 => ?_⟩
    refine ⟨(by show 1 ≤ sizeLine; decide), fun lh nlh => ?_⟩
    refine ⟨_, rfl, .inl ⟨rfl, _, SqL.of upd_same⟩, (T6.ext s1).ext (same_new nlh), fun H7 e7 T7 => ?_⟩
    intro E2 G2 Q2 s2 acc2
    have e17 : ExtN H14 H7 := (e6.trans (Same.extN s1)).trans ((Same.extN (same_new nlh)).trans e7)
    have ns7 := (ns.keep (ExtN.kind e17)).keep (Same.kind s2)
    refine ⟨_, rfl, vb, rfl, ns7, fun dd2 H2' sH2 hdd2 => acc2 dd2 H2' sH2 hdd2 fun r2 G3 s3 n3 h3 => ?_⟩
    obtain ⟨hl, kE, kT, gl, gr1, gr2⟩ := two (fun _ z => by cases z) e6 s1 h1 nlh e7 T7 s3 n3 h3
    refine ⟨lh, _, _, rfl, rfl, hl, (by show 1 < sizeLine; decide), ?_⟩
    generalize hG : upd G3 lh (HO.lst ([V.ref r1] ++ [V.ref r2])) = G4
    have hG' : upd G3 lh (HO.lst [V.ref r1, V.ref r2]) = G4 := hG
    rw [hG'] at kE kT gl gr1 gr2
    have pn5 := pn14.ext kE
    have ob5 := ob14.ext kE
    have ns5 := ns.keep (ExtN.kind kE)
    clear hG hG' hl e6 T6 s1 n1 h1 nlh e7 T7 e17 s2 s3 n3 h3 ns6 ns7 ns pn14 ob14 hT14 kE acc1 acc2 s0
    refine ⟨_, rfl, (by show 2 ≤ sizeLine; decide), fun tq ntq => ⟨(by show 1 ≤ sizeLine; decide), fun a5 na5 => ⟨a5, 2, _, rfl, rfl, upd_same, by decide, by decide, (by show 1 * 2 ≤ sizeLine; decide), fun a6 na6 => ?_⟩⟩⟩
    have sa : Same G4 (upd (upd (upd G4 tq (.tup [.str "other", .str "'shape'"])) a5 (.lst [.ref tq])) a6 (.lst [.ref tq, .ref tq])) := (same_new ntq).trans ((same_new na5).trans (same_new na6))
    have htq : upd (upd (upd G4 tq (.tup [.str "other", .str "'shape'"])) a5 (.lst [.ref tq])) a6 (.lst [.ref tq, .ref tq]) tq = some (.tup [.str "other", .str (PyData.str "shape").shown]) := by
      rw [one_text]
      exact same_new na6 _ _ (same_new na5 _ _ upd_same)
    have ha6 : upd (upd (upd G4 tq (.tup [.str "other", .str "'shape'"])) a5 (.lst [.ref tq])) a6 (.lst [.ref tq, .ref tq]) a6 = some (.lst [.ref tq, .ref tq]) := upd_same
    have hfl : (List.replicate (Int.toNat 2) [V.ref tq]).flatten = [V.ref tq, V.ref tq] := rfl
    rw [hfl]
    generalize upd (upd (upd G4 tq (.tup [.str "other", .str "'shape'"])) a5 (.lst [.ref tq])) a6 (.lst [.ref tq, .ref tq]) = G8 at sa htq ha6 ⊢
    refine ⟨.list [oneD, oneD], .list [oneD, oneD], .lst (SqL.of (sa _ _ gl)) (.cons (one_dp (sa _ _ gr1)) (.cons (one_dp (sa _ _ gr2)) .nil)), .lst (SqL.of ha6) (.cons (one_dp htq) (.cons (one_dp htq) .nil)), one_shaped, one_shaped, true, by rw [one_eqv], iteT ?_⟩
    refine ⟨_, rfl, _, rfl, r, row, vb, rfl, ob5.keep sa, ok, .inr ⟨ns5.keep (Same.kind sa), fun H9 s9 => ⟨_, _, rfl, rfl, ?_⟩⟩⟩
    show Q (.bl true) H9
    exact kk H9 (((pn5.keep sa).keep s9).mono (by omega)) ((kT.ext sa).ext s9)
end
end Ev
namespace Ev
open PySem L2 PySem.Spec PyProof.Rows LamX
def spPen (K : PySem.W.Frag) : Sp := fun vs H Q _ => ∃ (a : Addr) (ns : List Int), vs = [.ref a] ∧ SqL K H a (ns.map V.int) ∧ ns.length ≤ 63 ∧
  ∀ (p L : Addr) (H' : Hp), H p = none → Same H H' → Pen L H' p 0 → Q (.ref p) H'
def spLawT (K : PySem.W.Frag) (T : Addr) : Sp := fun vs H Q _ => ∃ (a : Addr) (ns : List Int), vs = [.ref a] ∧ SqL K H a (ns.map V.int) ∧ ns.length ≤ 63 ∧ H T = some (.tbl #[]) ∧ ∀ H', Q (.bl true) H'
theorem cut_ints (ns : List Int) (h : Int) : ∃ ms : List Int, cutV (ns.map V.int) none (some h) = ms.map V.int ∧ ms.length ≤ ns.length := by
  unfold cutV
  generalize HT.sIx (ns.map V.int).length 0 none = x
  generalize HT.sIx (ns.map V.int).length (ns.map V.int).length (some h) - x = y
  refine ⟨(ns.drop x).take y, ?_, ?_⟩
  · rw [List.map_take, List.map_drop]
  · rw [List.length_take, List.length_drop]; omega
abbrev nLaw : List Str := ["_law_script", "_law_pen_here", "_law_turn", "_law_thrice", "_law_some", "_law_told", "_law_thing"]
def s1 : Sh := .n .e .e
def s3 : Sh := .n (.n s1 .e) .e
def s4 : Sh := .n s3 .e
def dues : List Bool := [true, true, true, false, false, false]
theorem due_eqv : PyData.eqv (.list (dues.map PyData.bool)) (.list (dues.map PyData.bool)) = true := by decide +kernel
theorem due_shaped : SeqAt.shaped (.list (dues.map PyData.bool)) = true := by decide +kernel
/-- what the last row asks of its things -/
def ThingAt (H : Hp) (v : V) (b : Bool) : Prop := (∃ s, ShAt H s v ∧ s.many ≤ 3000 ∧ s.fair 3 1 0 = b) ∨ (NoSh H v ∧ b = false)
theorem ThingAt.keep {H H' : Hp} {v : V} {b : Bool} (h : ThingAt H v b) (k : Same H H') : ThingAt H' v b := by
  rcases h with ⟨s, h1, h2, h3⟩ | ⟨h1, h2⟩
  · exact .inl ⟨s, h1.keep k, h2, h3⟩
  · exact .inr ⟨h1.keep (Same.kind k), h2⟩
section
variable {P : Program} {w : World} {K : PySem.W.Frag} {mg : Str → Option Value} {base : Heap}
theorem scPen : FnScope ["_law_script"] ["_law_script"] (defScope sPen) := ⟨rfl, rfl, rfl, by decide +kernel, rfl, by decide +kernel, by decide +kernel⟩
theorem ok_pen {f : Addr} {fd : FuncData} (F : Fun K "_law_pen" "_law_pen" sPen f fd) (T : Blt mg) : FnOk P w K mg base CX0 1 f fd ["_law_script"] (spPen K) := by
  refine F.ok scPen (fun vs H Q E h => ?_) (fun cdv A outer s H vs Q E hr h => ?_)
  · obtain ⟨a, ns, rfl, _⟩ := h
    rfl
  · obtain ⟨a, ns, rfl, hS, hlen, kk⟩ := h
    refine ⟨_, pss_one (ps_ret (pe_lst (pa_cons (pe_callTy call_list_of (by rfl) T.list (by decide +kernel) (pa_cons (pe_slice sl_list (pv 0) po_none (po_some pe_int)) pa_nil)) (pa_cons pe_int (pa_cons pe_int pa_nil))))), ?_⟩
    refine ⟨_, rfl, _, rfl, a, _, rfl, hS, fun l1 nl1 => ⟨l1, _, rfl, .inl (SqL.of upd_same), fun l2 nl2 => ⟨(by show 3 ≤ sizeLine; decide), fun p np => ?_⟩⟩⟩
    obtain ⟨ms, e1, e2⟩ := cut_ints ns 63
    rw [e1] at nl2 np ⊢
    have s1 : Same H (upd (upd H l1 (.lst (ms.map V.int))) l2 (.lst (ms.map V.int))) := (same_new nl1).trans (same_new nl2)
    have s2 := s1.trans (same_new (o := .lst [.ref l2, .int 0, .int 0]) np)
    refine kk p l2 _ ?_ s2 ⟨ms, 0, 0, upd_same, by rw [upd_ne (ne_of_none upd_same np)]; exact upd_same, ne_of_none upd_same np, by omega, by decide, by decide, by decide⟩
    cases z : H p with
    | none => rfl
    | some o => rw [s1 _ _ z] at np; cases np
theorem scLaw : FnScope nLaw ["_law_script"] (defScope sLaw) := ⟨rfl, rfl, rfl, by decide +kernel, rfl, by decide +kernel, by decide +kernel⟩
theorem ok_law {f Ct Cn fT TT : Addr} {fd fdT : FuncData} {q : Str} (F : Fun K "law" "law" sLaw f fd) (T : Blt mg) (gT : mg "TryRule" = some (.ref Ct)) (MT : Mk K Ct fT)
    (GT : FnOk P w K mg base CX0 6 fT fdT ["self", "times", "plus"] (spTryInit Ct)) {ds : List Value} (bT : Binds K fdT ["self", "times", "plus"] ds) (dT : Vals [V.int 0] ds)
    (D1 : Df P w K mg base 1 "_law_pen" ["_law_script"] (spPen K)) (DF : DfK P w K mg base 4 "is_fair" ["rule", "shape"] ["shape", "rule"] gG gG (spIsFair Ct Cn NoSh))
    {f8 : Addr} {fd8 : FuncData} (G8 : FnG P w K mg base 21 f8 fd8 ["_law_pen_here"] (spRight [(TT, q)])) (g8 : mg "_law_right" = some (.ref f8)) (k8 : PySem.W.keepIn K (.ref f8) = true) (b8 : Binds K fd8 ["_law_pen_here"] []) :
    FnG P w K mg base 22 f fd ["_law_script"] (spLawT K TT) := by
  obtain ⟨f1, fd1, G1, g1, k1, b1⟩ := D1.ex
  obtain ⟨ff, fdf, GF, gFr, kF, bF, bFk⟩ := DF.ex
  refine fng_of F scLaw (fun vs H Q E h => ?_) (fun cdv A outer s H vs Q E hr gd h => ?_)
  · obtain ⟨a, ns, rfl, _⟩ := h
    rfl
  · obtain ⟨a, ns, rfl, hS, hlen, hT, kk⟩ := h
    have hr1 : Room 1 _ := hr.mono (by decide)
    have hr4 : Room 4 _ := hr.mono (by decide)
    have hr7 : Room 7 _ := hr.mono (by decide)
    obtain ⟨tR, hR, qR⟩ : ∃ t : TS, PSs (cxOf CX0 P w K mg base nLaw "law" (defScope sLaw) f cdv A outer s H E).nox ((defBody sLaw).drop 4) t ∧ ∀ (G : Hp) (v0 v1 v2 : Option V) (r l : Addr) (xs : List V), G l = some (.lst xs) → xs.length = 6 → ObjAt Ct Cn G r (.tr 3 1 0) →
        (∀ (i : Nat) (x : V), xs[i]? = some x → ThingAt G x (dues.getD i false)) →
        t { nx := fun _ H' => Q .non H', rt := Q } [v0, v1, v2, some (.ref r), some (.ref l), none, none] G := by
      refine ⟨_, pss_cons (ps_setLc (i := 5) (own := [("_law_thing", 6)]) (g := gName 6) (tt := tYes) (te := tCall (spIsFair Ct Cn NoSh) [] E0 (tCons (tVar 3) (tCons (tVar 6) tNil))) (by rfl) scLaw.nd rfl rfl (sw_true rfl rfl rfl (by decide +kernel)) (pi_list (pv 4))
            (blkOk_by (own := [("_law_thing", 6)]) (N := nLaw) (sc := defScope sLaw) (by decide +kernel)) (fun _ _ _ _ _ => pg_name (i := 6) scLaw.nd rfl (.inl rfl)) (fun _ _ _ _ _ => pts_nil)
            (fun _ _ _ _ _ => pe_call GF hr4 (by rfl) gFr kF bF .nil pass0 (pa_cons (pv 3) (pa_cons (pv 6) pa_nil))))
        (pss_one (ps_ret (pe_cmpR (op_eqD hr.units) (pv 5) (pe_lst (pa_cons pe_bl (pa_cons pe_bl (pa_cons pe_bl (pa_cons pe_bl (pa_cons pe_bl (pa_cons pe_bl pa_nil))))))) (nomark _)))), ?_⟩
      intro G v0 v1 v2 r l xs hl hx ob th
      refine ⟨_, rfl, l, rfl, ⟨_, SqL.of hl⟩, fun D nD => ?_⟩
      refine lc_list (K := K) (a := l) (xs := xs) (fun i H' => H' D = some (.lst ((dues.take i).map V.bl)) ∧ Same G H') ⟨upd_same, same_new nD⟩ (fun i H' _ h => SqL.of (h.2 _ _ hl)) (fun i x H3 hi h => ?_) (fun H3 h => ?_)
      · obtain ⟨e1, e2⟩ := h
        have il : i < 6 := by rw [← hx]; exact (List.getElem?_eq_some_iff.mp hi).1
        have fin : ∀ H4 : Hp, Same H3 H4 → ∃ acc, H4 D = some (.lst acc) ∧ acc.length < sizeLine ∧ ((upd H4 D (.lst (acc ++ [.bl (dues.getD i false)]))) D = some (.lst ((dues.take (i + 1)).map V.bl)) ∧ Same G (upd H4 D (.lst (acc ++ [.bl (dues.getD i false)])))) := by
          intro H4 s4
          refine ⟨_, s4 _ _ e1, ?_, ?_, fun b u e => by rw [upd_ne (ne_of_none e nD)]; exact s4 _ _ (e2 _ _ e)⟩
          · rw [List.length_map, List.length_take]; exact small1000 (Nat.le_trans (Nat.min_le_left _ _) (by omega))
          · rw [upd_same]
            rcases (show i = 0 ∨ i = 1 ∨ i = 2 ∨ i = 3 ∨ i = 4 ∨ i = 5 by omega) with rfl | rfl | rfl | rfl | rfl | rfl <;> rfl
        refine ⟨rfl, _, rfl, _, rfl, r, .tr 3 1 0, x, rfl, ob.keep e2, ⟨by decide, by decide, by decide, by decide, by decide, by decide⟩, ?_⟩
        rcases (th i x hi).keep e2 with ⟨s, h1, h2, h3⟩ | ⟨h1, h2⟩
        · refine .inl ⟨s, h1, h2, fun H4 s4 => ?_⟩
          have e3 : s.fair (Row.tr 3 1 0).p (Row.tr 3 1 0).q (Row.tr 3 1 0).k = dues.getD i false := h3
          rw [e3]
          exact fin H4 s4
        · refine .inr ⟨h1, fun H4 s4 => ?_⟩
          rw [← h2]
          exact fin H4 s4
      · obtain ⟨e1, e2⟩ := h
        rw [hx] at e1
        have e1 : H3 D = some (.lst (dues.map V.bl)) := e1
        refine ⟨_, rfl, (by show 6 ≤ sizeLine; decide), fun l2 nl2 => ?_⟩
        have hl2 : upd H3 l2 (.lst (dues.map V.bl)) l2 = some (.lst (dues.map V.bl)) := upd_same
        have dd : ∀ {G : Hp} {b : Addr}, G b = some (.lst (dues.map V.bl)) → Dp K G (.ref b) (.list (dues.map PyData.bool)) := fun e => .lst (SqL.of e) (.cons (.bl _) (.cons (.bl _) (.cons (.bl _) (.cons (.bl _) (.cons (.bl _) (.cons (.bl _) .nil))))))
        refine ⟨_, _, dd (same_new nl2 _ _ e1), dd hl2, due_shaped, due_shaped, ?_⟩
        rw [due_eqv]
        exact kk _
    obtain ⟨tS, hSs, qS⟩ : ∃ t : TS, PSs (cxOf CX0 P w K mg base nLaw "law" (defScope sLaw) f cdv A outer s H E).nox ((defBody sLaw).drop 3) t ∧ ∀ (G : Hp) (v0 v1 v2 : Option V) (r : Addr), ObjAt Ct Cn G r (.tr 3 1 0) →
        t { nx := fun _ H' => Q .non H', rt := Q } [v0, v1, v2, some (.ref r), none, none, none] G := by
      refine ⟨_, pss_cons (ps_set (i := 4) scLaw.nd rfl (by first | exact .inl rfl | exact .inr rfl) (pe_lst (pa_cons (pe_imp (pe_tup pa_nil) rd_e) (pa_cons (pe_imp (pe_tup (pa_cons (pe_imp (pe_tup pa_nil) rd_e) (pa_cons (pe_imp (pe_tup pa_nil) rd_e) pa_nil))) rd_n) (pa_cons (pe_imp (pe_tup (pa_cons (pe_imp (pe_tup (pa_cons (pe_imp (pe_tup (pa_cons (pe_imp (pe_tup pa_nil) rd_e) (pa_cons (pe_imp (pe_tup pa_nil) rd_e) pa_nil))) rd_n) (pa_cons (pe_imp (pe_tup pa_nil) rd_e) pa_nil))) rd_n) (pa_cons (pe_imp (pe_tup pa_nil) rd_e) pa_nil))) rd_n) (pa_cons (pe_imp (pe_tup (pa_cons (pe_imp (pe_tup (pa_cons (pe_imp (pe_tup (pa_cons (pe_imp (pe_tup (pa_cons (pe_imp (pe_tup pa_nil) rd_e) (pa_cons (pe_imp (pe_tup pa_nil) rd_e) pa_nil))) rd_n) (pa_cons (pe_imp (pe_tup pa_nil) rd_e) pa_nil))) rd_n) (pa_cons (pe_imp (pe_tup pa_nil) rd_e) pa_nil))) rd_n) (pa_cons (pe_imp (pe_tup pa_nil) rd_e) pa_nil))) rd_n) (pa_cons (pe_tup (pa_cons (pe_imp (pe_tup pa_nil) rd_e) pa_nil)) (pa_cons (pe_lst pa_nil) pa_nil)))))))) hR, ?_⟩
      intro G v0 v1 v2 r ob x0 G0 t0 h0 x1 G1 t1 h1 x3 G3 t3 h3 x4 G4 t4 h4 x5 G5 t5 h5
      refine ⟨by show 1 ≤ sizeLine; decide, fun y ny => ⟨by show 0 ≤ sizeLine; decide, fun z nz => ⟨by show 6 ≤ sizeLine; decide, fun l nl => ?_⟩⟩⟩
      have u1 : Same G5 (upd G5 y (.tup [x5])) := same_new ny
      have hy : upd G5 y (.tup [x5]) y = some (.tup [x5]) := upd_same
      generalize upd G5 y (.tup [x5]) = G6 at u1 hy nz nl ⊢
      have u2 : Same G6 (upd G6 z (.lst [])) := same_new nz
      have hz : upd G6 z (.lst []) z = some (.lst []) := upd_same
      generalize upd G6 z (.lst []) = G7 at u2 hz nl ⊢
      have u3 : Same G7 (upd G7 l (.lst [x0, x1, x3, x4, .ref y, .ref z])) := same_new nl
      have hl : upd G7 l (.lst [x0, x1, x3, x4, .ref y, .ref z]) l = some (.lst [x0, x1, x3, x4, .ref y, .ref z]) := upd_same
      generalize upd G7 l (.lst [x0, x1, x3, x4, .ref y, .ref z]) = G8 at u3 hl ⊢
      have k5 := Same.trans t5 (Same.trans u1 (Same.trans u2 u3))
      have k4 := Same.trans t4 k5
      have k3 := Same.trans t3 k4
      have k1' := Same.trans t1 k3
      refine qR G8 _ _ _ r l _ hl rfl (ob.keep (Same.trans t0 k1')) (fun i x hi => ?_)
      have il : i < 6 := (List.getElem?_eq_some_iff.mp hi).1
      rcases (show i = 0 ∨ i = 1 ∨ i = 2 ∨ i = 3 ∨ i = 4 ∨ i = 5 by omega) with rfl | rfl | rfl | rfl | rfl | rfl
      · obtain rfl := Option.some.inj hi
        exact .inl ⟨.e, h0.keep k1', by decide, by decide⟩
      · obtain rfl := Option.some.inj hi
        exact .inl ⟨s1, h1.keep k3, by decide, by decide⟩
      · obtain rfl := Option.some.inj hi
        exact .inl ⟨s3, h3.keep k4, by decide, by decide⟩
      · obtain rfl := Option.some.inj hi
        exact .inl ⟨s4, h4.keep k5, by decide, by decide⟩
      · obtain rfl := Option.some.inj hi
        exact .inr ⟨⟨.bad, rfl, by decide, .tup (Same.trans u2 u3 _ _ hy) (.inl rfl)⟩, rfl⟩
      · obtain rfl := Option.some.inj hi
        exact .inr ⟨⟨.bad, rfl, by decide, .lst (u3 _ _ hz)⟩, rfl⟩
    refine ⟨_, pss_cons (ps_set (i := 1) scLaw.nd rfl (.inl rfl) (pe_call G1 hr1 (by rfl) g1 k1 b1 .nil pass0 (pa_cons (pv 0) pa_nil)))
      (pss_cons (ps_for PassesOwn.never rfl (pi_range1 (by rfl) T.range (pa_cons pe_int pa_nil)) (pg_name (i := 2) scLaw.nd rfl (.inl rfl))
        (pss_one (ps_if (pt_not (pt_val (pe_callG (E := E0) G8 hr gd (by rfl) g8 k8 b8 (pa_cons (pv 1) pa_nil)))) (pss_one (ps_ret pe_bl)) pss_nil)))
      (pss_cons (ps_set (i := 3) scLaw.nd rfl (by first | exact .inl rfl | exact .inr rfl) (pe_make MT GT hr7 (by rfl) gT bT dT pass0 (pa_cons (pe_tup (pa_cons pe_int (pa_cons pe_int pa_nil))) pa_nil))) hSs)), ?_⟩
    refine ⟨_, rfl, a, ns, rfl, hS, hlen, fun p L H1 np s1' pn0 => ?_⟩
    have tb1 : Tabs [(TT, q)] H1 := fun z hz => by rw [List.mem_singleton.mp hz]; exact TabS.nil (s1' _ _ hT)
    refine ⟨12, rfl, by decide, by decide, for_range (n := 12) (fun i σ H2 => (∃ v2 : Option V, σ = [some (.ref a), some (.ref p), v2, none, none, none, none]) ∧ Pen L H2 p (1000 * (i : Int)) ∧ Tabs [(TT, q)] H2) ⟨⟨none, rfl⟩, pn0.mono (by decide), tb1⟩ ?_ ?_⟩
    · rintro i σ H4 hi ⟨⟨v2, rfl⟩, pn, tb⟩
      exact ⟨_, rfl, p, L, _, rfl, by omega, pn, tb, fun H6 p6 T6 => ⟨_, rfl, iteF ⟨⟨_, rfl⟩, p6.mono (by omega), T6⟩⟩⟩
    · rintro σ H4 ⟨⟨v2, rfl⟩, pn, tb⟩
      refine ⟨(by show 2 ≤ sizeLine; decide), fun t nt => fun x dx nx ndx nex => ?_⟩
      have ht : upd H4 t (.tup [.int 3, .int 1]) t = some (.tup [.int 3, .int 1]) := upd_same
      generalize upd H4 t (.tup [.int 3, .int 1]) = H5 at ht nx ndx ⊢
      have keep : ∀ (o1 o2 : HO) (b : Addr) (u : HO), H5 b = some u → upd (upd H5 dx o1) x o2 b = some u := fun o1 o2 b u e => by
        rw [upd_ne (ne_of_none e nx), upd_ne (ne_of_none e ndx)]; exact e
      refine ⟨x, dx, t, 3, 1, 0, rfl, upd_same, keep _ _ _ _ ht, by decide, by decide, by decide, by decide, by decide, by decide, fun H6 t6 hx6 => ⟨rfl, ?_⟩⟩
      exact qS H6 _ _ _ x ⟨dx, t, hx6, t6 _ _ (ne_of_none ht nx) (keep _ _ _ _ ht)⟩
end
end Ev
namespace Ev
open PySem L2 PySem.Spec PyProof.Rows LamX
/-- the table of a code object -/
def tabAt (K : PySem.W.Frag) (c : Addr) : Addr := match K.lookup c with
  | some ⟨_, _, .fields vs, _⟩ => (match (vs[11]? : Option Value) with | some (.ref T) => T | _ => 0)
  | _ => 0
theorem kb_gK {K : PySem.W.Frag} {x qual y : Str} {st : Stmt} {f : Addr} {fd : FuncData} (F : Fun K x qual st f fd)
    (h : ∀ (kV doc pm : Value) (an : Option Addr) (cdv ct a : Value), bindArgs (PySem.W.fnOf x qual (defArgs st) (defBody st) (defScope st) .none kV doc pm an cdv ct) ⟨[], [(y, a)]⟩ = pure [(y, a)]) : KBinds K fd [y] [y] gK gK := by
  obtain ⟨oc, od, kV, doc, pm, an, cdv, ct, osl, rfl, lk, hcd⟩ := F.ex
  refine ⟨fun s us ws _ hl => ?_, gK_rel⟩
  obtain ⟨a, rfl, rfl⟩ := gK_len hl
  exact .of_eq (h _ _ _ _ _ _ _)
theorem kb_gG {K : PySem.W.Frag} {x qual y z : Str} {st : Stmt} {f : Addr} {fd : FuncData} (F : Fun K x qual st f fd)
    (h : ∀ (kV doc pm : Value) (an : Option Addr) (cdv ct a b : Value), bindArgs (PySem.W.fnOf x qual (defArgs st) (defBody st) (defScope st) .none kV doc pm an cdv ct) ⟨[], ([y, z] : List Str).zip [a, b]⟩ = pure (([z, y] : List Str).zip [b, a])) : KBinds K fd [z, y] [y, z] gG gG := by
  obtain ⟨oc, od, kV, doc, pm, an, cdv, ct, osl, rfl, lk, hcd⟩ := F.ex
  refine ⟨fun s us ws _ hl => ?_, gG_rel⟩
  obtain ⟨a, b, rfl, rfl⟩ := gG_len hl
  exact .of_eq (h _ _ _ _ _ _ _ _)
theorem kit_bty {K : PySem.W.Frag} {t : Value} (h : PySem.W.subIn K t (.type "ValueError") = some true) : PySem.W.kitOne K t (.type "ValueError") = some true := by
  unfold PySem.W.kitOne
  split
  · rfl
  · unfold PySem.W.kitCls
    simp only
    rw [if_pos (by decide +kernel)]
    exact h
theorem walk_ofGTK {l : PySem.W.OpenLaw} {n k : Nat} {q : Program} {loose : List Str} {XP : (Str → Option Value) → Heap → Prop} {YP : World → Heap → Prop}
    {d : DefRec} {K : Params → PySem.W.Frag} {x xr : Str} (hn : l.most = some n) (hn2 : n ≤ sizeLine) (hdf : d.params.defaults = []) (hr : Room k callerA) (hrec : ((recsOf q).any fun e => e.name == xr) = true)
    (hY : ∀ (w : World) (h : Heap), YP w h → (K w.params).In h)
    (F : ∀ (w : World) (mg : Str → Option Value) (fa : Addr) (h : Heap), (K w.params).In h → h.Ns mainGlobals mg → mg d.name = some (.ref fa) →
      ∃ (fd fdr : FuncData) (sp : Sp) (fr c T : Addr) (o : Obj), (∀ (s : Shared) (u : Value), BindsTo s fd ⟨[u], []⟩ [(x, u)]) ∧
        mg xr = some (.ref fr) ∧ (K w.params).lookup fr = some o ∧ o.data = .func fdr ∧ fdr.code = .ref c ∧ PySem.W.codeHdIn (K w.params) c T = true ∧ (K w.params).lookup T = none ∧
        (∀ (H : Hp) (a : Addr) (ns : List Int), ns.length ≤ n → H T = some (.tbl #[]) → SqL (K w.params) H a (ns.map V.int) → sp [.ref a] H (fun v _ => v = .bl true) fun _ _ _ => False) ∧
        ∀ base : Heap, (K w.params).In base → base.Ns mainGlobals mg → TabB base mg c T → FnG l.prog w (K w.params) mg base k fa fd [x] sp) :
    PySem.W.WalkO q loose XP YP l.row.toRowW d [] (fun f vs => PySem.call f vs) :=
  walk_ofGT hn hn2 hdf hr hrec fun w mg fa h Y ns hm => by
    obtain ⟨fd, fdr, sp, fr, c, T, o, r⟩ := F w mg fa h (hY w h Y) ns hm
    exact ⟨K w.params, fd, fdr, sp, fr, c, T, o, hY w h Y, r⟩
theorem kit_clsB {K : PySem.W.Frag} {t : Value} {C : Addr} {b : Bool} (h1 : PySem.W.isClsIn K C = true) (h2 : PySem.W.typeIn K (.ref C) = some (.type "type")) (h3 : PySem.W.subIn K t (.ref C) = some b) : PySem.W.kitCls K t (.ref C) = some b := by
  have h1 : (PySem.W.clsIn K C).isSome = true := h1
  unfold PySem.W.kitCls
  simp only [h1, h2, h3]
  cases b <;> decide
theorem kit_own {K : PySem.W.Frag} {t : Value} {C : Addr} (h1 : PySem.W.isClsIn K C = true) (h2 : PySem.W.typeIn K (.ref C) = some (.type "type")) (h3 : PySem.W.subIn K t (.ref C) = some true) : PySem.W.kitOne K t (.ref C) = some true := by
  unfold PySem.W.kitOne
  split
  · rfl
  · exact kit_clsB h1 h2 h3
theorem kit_not {K : PySem.W.Frag} {D C : Addr} (h1 : PySem.W.isClsIn K C = true) (h2 : PySem.W.typeIn K (.ref C) = some (.type "type")) (h3 : PySem.W.subIn K (.ref D) (.ref C) = some false) (h4 : PySem.W.subIn K (.ref C) (.ref C) = some true) : PySem.W.kitOne K (.ref D) (.ref C) = some false := by
  unfold PySem.W.kitOne
  split
  · rename_i z
    by_cases e : D = C
    · rw [e, h4] at h3
      cases h3
    · have n : ((Value.ref D) == (Value.ref C)) = false := by simp [e]
      rw [n] at z
      cases z
  · exact kit_clsB h1 h2 h3
theorem exm_own {K : PySem.W.Frag} {t : Value} {C : Addr} (h1 : PySem.W.isClsIn K C = true) (h2 : PySem.W.typeIn K (.ref C) = some (.type "type")) (h3 : PySem.W.subIn K t (.ref C) = some true) (h4 : PySem.W.subIn K (.ref C) (.type "BaseException") = some true) : PySem.W.exmOne K t (.ref C) = some true := by
  unfold PySem.W.exmOne
  rw [h4, if_pos (by decide)]
  exact kit_clsB h1 h2 h3
theorem sqT_K {K : PySem.W.Frag} {H : Hp} {a : Addr} {od : Option Addr} {us : List Value} {n : Nat} {sl : Array (Option Value)} {xs : List V} (h : K.lookup a = some ⟨.type "tuple", od, .seq us.toArray n, sl⟩) (hl : xs.length ≤ 1000) (r : Vals xs us) : SqT K H a xs := by
  have hl2 : us.length ≤ 1000 := by rw [← r.length]; exact hl
  exact .inr ⟨_, us.toArray, n, h, rfl, rfl, by rw [List.size_toArray]; exact Nat.le_trans hl2 (by decide), by simpa using r⟩
set_option maxHeartbeats 4000000 in
theorem all_mk {l : PySem.W.OpenLaw} {w : World} {K : PySem.W.Frag} {h : Heap} {mg : Str → Option Value} {f0 f1 f2 f3 f4 f5 f6 f7 f8 f9 f10 f11 f12 f13 f14 f15 f16 f17 f18 f19 f20 f21 f22 f23 f24 f25 f26 f27 f28 f29 f30 cL f31 Ct Cn CW T70 f70 T73 f73 CO f80 FE fa : Addr} {od0 an0 od1 an1 od2 an2 od3 an3 od4 an4 od5 an5 od6 an6 od7 an7 od8 an8 od9 an9 od10 an10 od11 an11 od12 an12 od13 an13 od14 an14 od15 an15 od16 an16 od17 an17 od18 an18 od19 an19 od20 an20 od21 an21 od22 an22 od23 an23 od24 an24 od25 an25 od26 an26 od27 an27 od28 an28 od29 an29 od30 an30 od31 an31 td70 od70 an70 td73 od73 an73 od80 an80 : Option Addr} {sl0 sl1 sl2 sl3 sl4 sl5 sl6 sl7 sl8 sl9 sl10 sl11 sl12 sl13 sl14 sl15 sl16 sl17 sl18 sl19 sl20 sl21 sl22 sl23 sl24 sl25 sl26 sl27 sl28 sl29 sl30 sl31 ts70 sl70 ts73 sl73 sl80 : Array (Option Value)} {oc0 dc0 pm0 cd0 ct0 kV0 oc1 dc1 pm1 cd1 ct1 kV1 oc2 dc2 pm2 cd2 ct2 kV2 oc3 dc3 pm3 cd3 ct3 kV3 oc4 dc4 pm4 cd4 ct4 kV4 oc5 dc5 pm5 cd5 ct5 kV5 oc6 dc6 pm6 cd6 ct6 kV6 oc7 dc7 pm7 cd7 ct7 kV7 oc8 dc8 pm8 cd8 ct8 kV8 oc9 dc9 pm9 cd9 ct9 kV9 oc10 dc10 pm10 cd10 ct10 kV10 oc11 dc11 pm11 cd11 ct11 kV11 oc12 dc12 pm12 cd12 ct12 kV12 oc13 dc13 pm13 cd13 ct13 kV13 oc14 dc14 pm14 cd14 ct14 kV14 oc15 dc15 pm15 cd15 ct15 kV15 oc16 dc16 pm16 cd16 ct16 kV16 oc17 dc17 pm17 cd17 ct17 kV17 oc18 dc18 pm18 cd18 ct18 kV18 oc19 dc19 pm19 cd19 ct19 kV19 oc20 dc20 pm20 cd20 ct20 kV20 oc21 dc21 pm21 cd21 ct21 kV21 oc22 dc22 pm22 cd22 ct22 kV22 oc23 dc23 pm23 cd23 ct23 kV23 oc24 dc24 pm24 cd24 ct24 kV24 oc25 dc25 pm25 cd25 ct25 kV25 oc26 dc26 pm26 cd26 ct26 kV26 oc27 dc27 pm27 cd27 ct27 kV27 oc28 dc28 pm28 cd28 ct28 kV28 oc29 dc29 pm29 cd29 ct29 kV29 oc30 dc30 pm30 ct30 kV30 oc31 dc31 pm31 cd31 ct31 kV31 tc70 oc70 dc70 pm70 cd70 ct70 kV70 tc73 oc73 dc73 pm73 cd73 ct73 kV73 oc80 dc80 pm80 cd80 ct80 kV80 : Value} {tt700 tt730 tW tgP tgT : Tok} {tn70 tn73 : Nat} {nmCO qCO nsCO bsCO bmCO snCO subCO abCO colCO ddCO k0CO k1CO k2CO k3CO k5CO : _} (X : K.In h) (G : h.Ns mainGlobals mg) (hfa : mg "law" = some (.ref fa))
    (a0 : PySem.W.nsIn K mainGlobals "is_integer" = some (some (.ref f0)))
    (l0 : K.lookup f0 = some ⟨oc0, od0, .func (PySem.W.fnOf "is_integer" "is_integer" (defArgs sIsInt) (defBody sIsInt) (defScope sIsInt) .none kV0 dc0 pm0 an0 cd0 ct0), sl0⟩)
    (c0 : PySem.W.codeIn K cd0 "is_integer" = true)
    (k0 : PySem.W.keepIn K (.ref f0) = true)
    (a1 : PySem.W.nsIn K mainGlobals "is_within" = some (some (.ref f1)))
    (l1 : K.lookup f1 = some ⟨oc1, od1, .func (PySem.W.fnOf "is_within" "is_within" (defArgs sWithin) (defBody sWithin) (defScope sWithin) .none kV1 dc1 pm1 an1 cd1 ct1), sl1⟩)
    (c1 : PySem.W.codeIn K cd1 "is_within" = true)
    (k1 : PySem.W.keepIn K (.ref f1) = true)
    (a2 : PySem.W.nsIn K mainGlobals "need_rule" = some (some (.ref f2)))
    (l2 : K.lookup f2 = some ⟨oc2, od2, .func (PySem.W.fnOf "need_rule" "need_rule" (defArgs sNeedR) (defBody sNeedR) (defScope sNeedR) .none kV2 dc2 pm2 an2 cd2 ct2), sl2⟩)
    (c2 : PySem.W.codeIn K cd2 "need_rule" = true)
    (k2 : PySem.W.keepIn K (.ref f2) = true)
    (a3 : PySem.W.nsIn K mainGlobals "is_pair" = some (some (.ref f3)))
    (l3 : K.lookup f3 = some ⟨oc3, od3, .func (PySem.W.fnOf "is_pair" "is_pair" (defArgs sPair) (defBody sPair) (defScope sPair) .none kV3 dc3 pm3 an3 cd3 ct3), sl3⟩)
    (c3 : PySem.W.codeIn K cd3 "is_pair" = true)
    (k3 : PySem.W.keepIn K (.ref f3) = true)
    (a4 : PySem.W.nsIn K mainGlobals "is_times" = some (some (.ref f4)))
    (l4 : K.lookup f4 = some ⟨oc4, od4, .func (PySem.W.fnOf "is_times" "is_times" (defArgs sTimes) (defBody sTimes) (defScope sTimes) .none kV4 dc4 pm4 an4 cd4 ct4), sl4⟩)
    (c4 : PySem.W.codeIn K cd4 "is_times" = true)
    (k4 : PySem.W.keepIn K (.ref f4) = true)
    (a5 : PySem.W.nsIn K mainGlobals "is_plus" = some (some (.ref f5)))
    (l5 : K.lookup f5 = some ⟨oc5, od5, .func (PySem.W.fnOf "is_plus" "is_plus" (defArgs sPlus) (defBody sPlus) (defScope sPlus) .none kV5 dc5 pm5 an5 cd5 ct5), sl5⟩)
    (c5 : PySem.W.codeIn K cd5 "is_plus" = true)
    (k5 : PySem.W.keepIn K (.ref f5) = true)
    (a6 : PySem.W.nsIn K mainGlobals "is_turn" = some (some (.ref f6)))
    (l6 : K.lookup f6 = some ⟨oc6, od6, .func (PySem.W.fnOf "is_turn" "is_turn" (defArgs sTurn) (defBody sTurn) (defScope sTurn) .none kV6 dc6 pm6 an6 cd6 ct6), sl6⟩)
    (c6 : PySem.W.codeIn K cd6 "is_turn" = true)
    (k6 : PySem.W.keepIn K (.ref f6) = true)
    (a7 : PySem.W.nsIn K mainGlobals "need_times" = some (some (.ref f7)))
    (l7 : K.lookup f7 = some ⟨oc7, od7, .func (PySem.W.fnOf "need_times" "need_times" (defArgs sNeedT) (defBody sNeedT) (defScope sNeedT) .none kV7 dc7 pm7 an7 cd7 ct7), sl7⟩)
    (c7 : PySem.W.codeIn K cd7 "need_times" = true)
    (k7 : PySem.W.keepIn K (.ref f7) = true)
    (a8 : PySem.W.nsIn K mainGlobals "has_halves" = some (some (.ref f8)))
    (l8 : K.lookup f8 = some ⟨oc8, od8, .func (PySem.W.fnOf "has_halves" "has_halves" (defArgs sHalves) (defBody sHalves) (defScope sHalves) .none kV8 dc8 pm8 an8 cd8 ct8), sl8⟩)
    (c8 : PySem.W.codeIn K cd8 "has_halves" = true)
    (k8 : PySem.W.keepIn K (.ref f8) = true)
    (a9 : PySem.W.nsIn K mainGlobals "need_halves" = some (some (.ref f9)))
    (l9 : K.lookup f9 = some ⟨oc9, od9, .func (PySem.W.fnOf "need_halves" "need_halves" (defArgs sNeedH) (defBody sNeedH) (defScope sNeedH) .none kV9 dc9 pm9 an9 cd9 ct9), sl9⟩)
    (c9 : PySem.W.codeIn K cd9 "need_halves" = true)
    (k9 : PySem.W.keepIn K (.ref f9) = true)
    (a10 : PySem.W.nsIn K mainGlobals "are_fair" = some (some (.ref f10)))
    (l10 : K.lookup f10 = some ⟨oc10, od10, .func (PySem.W.fnOf "are_fair" "are_fair" (defArgs sFair) (defBody sFair) (defScope sFair) .none kV10 dc10 pm10 an10 cd10 ct10), sl10⟩)
    (c10 : PySem.W.codeIn K cd10 "are_fair" = true)
    (k10 : PySem.W.keepIn K (.ref f10) = true)
    (a11 : PySem.W.nsIn K mainGlobals "joints_of" = some (some (.ref f11)))
    (l11 : K.lookup f11 = some ⟨oc11, od11, .func (PySem.W.fnOf "joints_of" "joints_of" (defArgs sJointsOf) (defBody sJointsOf) (defScope sJointsOf) .none kV11 dc11 pm11 an11 cd11 ct11), sl11⟩)
    (c11 : PySem.W.codeIn K cd11 "joints_of" = true)
    (k11 : PySem.W.keepIn K (.ref f11) = true)
    (a12 : PySem.W.nsIn K mainGlobals "weights_of" = some (some (.ref f12)))
    (l12 : K.lookup f12 = some ⟨oc12, od12, .func (PySem.W.fnOf "weights_of" "weights_of" (defArgs sWeightsOf) (defBody sWeightsOf) (defScope sWeightsOf) .none kV12 dc12 pm12 an12 cd12 ct12), sl12⟩)
    (c12 : PySem.W.codeIn K cd12 "weights_of" = true)
    (k12 : PySem.W.keepIn K (.ref f12) = true)
    (a13 : PySem.W.nsIn K mainGlobals "are_joints_fair" = some (some (.ref f13)))
    (l13 : K.lookup f13 = some ⟨oc13, od13, .func (PySem.W.fnOf "are_joints_fair" "are_joints_fair" (defArgs sAreJointsFair) (defBody sAreJointsFair) (defScope sAreJointsFair) .none kV13 dc13 pm13 an13 cd13 ct13), sl13⟩)
    (c13 : PySem.W.codeIn K cd13 "are_joints_fair" = true)
    (k13 : PySem.W.keepIn K (.ref f13) = true)
    (a14 : PySem.W.nsIn K mainGlobals "keys_of" = some (some (.ref f14)))
    (l14 : K.lookup f14 = some ⟨oc14, od14, .func (PySem.W.fnOf "keys_of" "keys_of" (defArgs sKeysOf) (defBody sKeysOf) (defScope sKeysOf) .none kV14 dc14 pm14 an14 cd14 ct14), sl14⟩)
    (c14 : PySem.W.codeIn K cd14 "keys_of" = true)
    (k14 : PySem.W.keepIn K (.ref f14) = true)
    (a15 : PySem.W.nsIn K mainGlobals "height_of" = some (some (.ref f15)))
    (l15 : K.lookup f15 = some ⟨oc15, od15, .func (PySem.W.fnOf "height_of" "height_of" (defArgs sHeightOf) (defBody sHeightOf) (defScope sHeightOf) .none kV15 dc15 pm15 an15 cd15 ct15), sl15⟩)
    (c15 : PySem.W.codeIn K cd15 "height_of" = true)
    (k15 : PySem.W.keepIn K (.ref f15) = true)
    (a16 : PySem.W.nsIn K mainGlobals "is_fair" = some (some (.ref f16)))
    (l16 : K.lookup f16 = some ⟨oc16, od16, .func (PySem.W.fnOf "is_fair" "is_fair" (defArgs sIsFair) (defBody sIsFair) (defScope sIsFair) .none kV16 dc16 pm16 an16 cd16 ct16), sl16⟩)
    (c16 : PySem.W.codeIn K cd16 "is_fair" = true)
    (k16 : PySem.W.keepIn K (.ref f16) = true)
    (a17 : PySem.W.nsIn K mainGlobals "need_joints" = some (some (.ref f17)))
    (l17 : K.lookup f17 = some ⟨oc17, od17, .func (PySem.W.fnOf "need_joints" "need_joints" (defArgs sNeedJoints) (defBody sNeedJoints) (defScope sNeedJoints) .none kV17 dc17 pm17 an17 cd17 ct17), sl17⟩)
    (c17 : PySem.W.codeIn K cd17 "need_joints" = true)
    (k17 : PySem.W.keepIn K (.ref f17) = true)
    (a18 : PySem.W.nsIn K mainGlobals "kept" = some (some (.ref f18)))
    (l18 : K.lookup f18 = some ⟨oc18, od18, .func (PySem.W.fnOf "kept" "kept" (defArgs sKept) (defBody sKept) (defScope sKept) .none kV18 dc18 pm18 an18 cd18 ct18), sl18⟩)
    (c18 : PySem.W.codeIn K cd18 "kept" = true)
    (k18 : PySem.W.keepIn K (.ref f18) = true)
    (a19 : PySem.W.nsIn K mainGlobals "_law_pen" = some (some (.ref f19)))
    (l19 : K.lookup f19 = some ⟨oc19, od19, .func (PySem.W.fnOf "_law_pen" "_law_pen" (defArgs sPen) (defBody sPen) (defScope sPen) .none kV19 dc19 pm19 an19 cd19 ct19), sl19⟩)
    (c19 : PySem.W.codeIn K cd19 "_law_pen" = true)
    (k19 : PySem.W.keepIn K (.ref f19) = true)
    (a20 : PySem.W.nsIn K mainGlobals "_law_draw" = some (some (.ref f20)))
    (l20 : K.lookup f20 = some ⟨oc20, od20, .func (PySem.W.fnOf "_law_draw" "_law_draw" (defArgs sDraw) (defBody sDraw) (defScope sDraw) .none kV20 dc20 pm20 an20 cd20 ct20), sl20⟩)
    (c20 : PySem.W.codeIn K cd20 "_law_draw" = true)
    (k20 : PySem.W.keepIn K (.ref f20) = true)
    (a21 : PySem.W.nsIn K mainGlobals "_law_pick" = some (some (.ref f21)))
    (l21 : K.lookup f21 = some ⟨oc21, od21, .func (PySem.W.fnOf "_law_pick" "_law_pick" (defArgs sPick) (defBody sPick) (defScope sPick) .none kV21 dc21 pm21 an21 cd21 ct21), sl21⟩)
    (c21 : PySem.W.codeIn K cd21 "_law_pick" = true)
    (k21 : PySem.W.keepIn K (.ref f21) = true)
    (a22 : PySem.W.nsIn K mainGlobals "_law_numbers" = some (some (.ref f22)))
    (l22 : K.lookup f22 = some ⟨oc22, od22, .func (PySem.W.fnOf "_law_numbers" "_law_numbers" (defArgs sNums) (defBody sNums) (defScope sNums) .none kV22 dc22 pm22 an22 cd22 ct22), sl22⟩)
    (c22 : PySem.W.codeIn K cd22 "_law_numbers" = true)
    (k22 : PySem.W.keepIn K (.ref f22) = true)
    (a23 : PySem.W.nsIn K mainGlobals "_law_rule" = some (some (.ref f23)))
    (l23 : K.lookup f23 = some ⟨oc23, od23, .func (PySem.W.fnOf "_law_rule" "_law_rule" (defArgs sRule) (defBody sRule) (defScope sRule) .none kV23 dc23 pm23 an23 cd23 ct23), sl23⟩)
    (c23 : PySem.W.codeIn K cd23 "_law_rule" = true)
    (k23 : PySem.W.keepIn K (.ref f23) = true)
    (a24 : PySem.W.nsIn K mainGlobals "_law_top" = some (some (.ref f24)))
    (l24 : K.lookup f24 = some ⟨oc24, od24, .func (PySem.W.fnOf "_law_top" "_law_top" (defArgs sTop) (defBody sTop) (defScope sTop) .none kV24 dc24 pm24 an24 cd24 ct24), sl24⟩)
    (c24 : PySem.W.codeIn K cd24 "_law_top" = true)
    (k24 : PySem.W.keepIn K (.ref f24) = true)
    (a25 : PySem.W.nsIn K mainGlobals "_law_is_even" = some (some (.ref f25)))
    (l25 : K.lookup f25 = some ⟨oc25, od25, .func (PySem.W.fnOf "_law_is_even" "_law_is_even" (defArgs sEven) (defBody sEven) (defScope sEven) .none kV25 dc25 pm25 an25 cd25 ct25), sl25⟩)
    (c25 : PySem.W.codeIn K cd25 "_law_is_even" = true)
    (k25 : PySem.W.keepIn K (.ref f25) = true)
    (a26 : PySem.W.nsIn K mainGlobals "_law_heard" = some (some (.ref f26)))
    (l26 : K.lookup f26 = some ⟨oc26, od26, .func (PySem.W.fnOf "_law_heard" "_law_heard" (defArgs sHeard) (defBody sHeard) (defScope sHeard) .none kV26 dc26 pm26 an26 cd26 ct26), sl26⟩)
    (c26 : PySem.W.codeIn K cd26 "_law_heard" = true)
    (k26 : PySem.W.keepIn K (.ref f26) = true)
    (a27 : PySem.W.nsIn K mainGlobals "_law_shape" = some (some (.ref f27)))
    (l27 : K.lookup f27 = some ⟨oc27, od27, .func (PySem.W.fnOf "_law_shape" "_law_shape" (defArgs sShape) (defBody sShape) (defScope sShape) .none kV27 dc27 pm27 an27 cd27 ct27), sl27⟩)
    (c27 : PySem.W.codeIn K cd27 "_law_shape" = true)
    (k27 : PySem.W.keepIn K (.ref f27) = true)
    (a28 : PySem.W.nsIn K mainGlobals "_law_seen" = some (some (.ref f28)))
    (l28 : K.lookup f28 = some ⟨oc28, od28, .func (PySem.W.fnOf "_law_seen" "_law_seen" (defArgs sSeen) (defBody sSeen) (defScope sSeen) .none kV28 dc28 pm28 an28 cd28 ct28), sl28⟩)
    (c28 : PySem.W.codeIn K cd28 "_law_seen" = true)
    (k28 : PySem.W.keepIn K (.ref f28) = true)
    (a29 : PySem.W.nsIn K mainGlobals "_law_spoilt" = some (some (.ref f29)))
    (l29 : K.lookup f29 = some ⟨oc29, od29, .func (PySem.W.fnOf "_law_spoilt" "_law_spoilt" (defArgs sSpoilt) (defBody sSpoilt) (defScope sSpoilt) .none kV29 dc29 pm29 an29 cd29 ct29), sl29⟩)
    (c29 : PySem.W.codeIn K cd29 "_law_spoilt" = true)
    (k29 : PySem.W.keepIn K (.ref f29) = true)
    (a30 : PySem.W.nsIn K mainGlobals "_law_right" = some (some (.ref f30)))
    (l30 : K.lookup f30 = some ⟨oc30, od30, .func (PySem.W.fnOf "_law_right" "_law_right" (defArgs sRight) (defBody sRight) (defScope sRight) .none kV30 dc30 pm30 an30 (.ref cL) ct30), sl30⟩)
    (c30 : PySem.W.codeIn K (.ref cL) "_law_right" = true)
    (k30 : PySem.W.keepIn K (.ref f30) = true)
    (a31 : PySem.W.nsIn K mainGlobals "law" = some (some (.ref f31)))
    (l31 : K.lookup f31 = some ⟨oc31, od31, .func (PySem.W.fnOf "law" "law" (defArgs sLaw) (defBody sLaw) (defScope sLaw) .none kV31 dc31 pm31 an31 cd31 ct31), sl31⟩)
    (c31 : PySem.W.codeIn K cd31 "law" = true)
    (k31 : PySem.W.keepIn K (.ref f31) = true)
    (aCt : PySem.W.nsIn K mainGlobals "TryRule" = some (some (.ref Ct)))
    (pgCt : PySem.W.plainGet K Ct Str.empty = true)
    (hdCt : PySem.W.hasDictIn K Ct = true)
    (poCt : PySem.W.plainOver K Ct = true)
    (saCt : PySem.W.findIn K (.ref Ct) "__setattr__" = some (some (.builtin "object.__setattr__")))
    (mkCt : PySem.W.makesIn K Ct = true)
    (kcCt : PySem.W.keepIn K (.ref Ct) = true)
    (n0Ct : PySem.W.findIn K (.ref Ct) "times" = some none)
    (n1Ct : PySem.W.findIn K (.ref Ct) "plus" = some none)
    (n2Ct : PySem.W.findIn K (.ref Ct) "turn" = some none)
    (n3Ct : PySem.W.findIn K (.ref Ct) "turn_plus" = some none)
    (aCn : PySem.W.nsIn K mainGlobals "TurnRule" = some (some (.ref Cn)))
    (pgCn : PySem.W.plainGet K Cn Str.empty = true)
    (hdCn : PySem.W.hasDictIn K Cn = true)
    (poCn : PySem.W.plainOver K Cn = true)
    (saCn : PySem.W.findIn K (.ref Cn) "__setattr__" = some (some (.builtin "object.__setattr__")))
    (mkCn : PySem.W.makesIn K Cn = true)
    (kcCn : PySem.W.keepIn K (.ref Cn) = true)
    (n0Cn : PySem.W.findIn K (.ref Cn) "times" = some none)
    (n1Cn : PySem.W.findIn K (.ref Cn) "plus" = some none)
    (n2Cn : PySem.W.findIn K (.ref Cn) "turn" = some none)
    (n3Cn : PySem.W.findIn K (.ref Cn) "turn_plus" = some none)
    (aCW : PySem.W.nsIn K mainGlobals "WeightRule" = some (some (.ref CW)))
    (hcCt : PySem.W.findIn K (.ref Ct) "__class__" = some (some (.builtin "object.__class__")))
    (moCt : PySem.W.mroIn K Ct (.type "object") = some true)
    (suCt : PySem.W.subIn K (.ref Ct) (.ref CW) = some true)
    (hcCn : PySem.W.findIn K (.ref Cn) "__class__" = some (some (.builtin "object.__class__")))
    (moCn : PySem.W.mroIn K Cn (.type "object") = some true)
    (suCn : PySem.W.subIn K (.ref Cn) (.ref CW) = some true)
    (icCW : PySem.W.isClsIn K CW = true)
    (ttCW : PySem.W.typeIn K (.ref CW) = some (.type "type"))
    (ikn : PySem.W.specialIn K (.builtin "object.__class__") "__get__" = some (some (.builtin "getset_descriptor.__get__")))
    (ikt : PySem.W.takesIn K (.builtin "object.__class__") = some true)
    (m70 : PySem.W.findIn K (.ref Ct) "__init__" = some (some (.ref f70)))
    (i70 : PySem.W.isFn K (.ref f70) = true)
    (l70 : K.lookup f70 = some ⟨oc70, od70, .func (PySem.W.fnOf "__init__" "TryRule.__init__" (defArgs sTryInit) (defBody sTryInit) (defScope sTryInit) (.ref T70) kV70 dc70 pm70 an70 cd70 ct70), sl70⟩)
    (c70 : PySem.W.codeIn K cd70 "TryRule.__init__" = true)
    (k70 : PySem.W.keepIn K (.ref f70) = true)
    (t70 : K.lookup T70 = some ⟨tc70, td70, .seq #[Value.int 0 tt700] tn70, ts70⟩)
    (m73 : PySem.W.findIn K (.ref Cn) "__init__" = some (some (.ref f73)))
    (i73 : PySem.W.isFn K (.ref f73) = true)
    (l73 : K.lookup f73 = some ⟨oc73, od73, .func (PySem.W.fnOf "__init__" "TurnRule.__init__" (defArgs sTurnInit) (defBody sTurnInit) (defScope sTurnInit) (.ref T73) kV73 dc73 pm73 an73 cd73 ct73), sl73⟩)
    (c73 : PySem.W.codeIn K cd73 "TurnRule.__init__" = true)
    (k73 : PySem.W.keepIn K (.ref f73) = true)
    (t73 : K.lookup T73 = some ⟨tc73, td73, .seq #[Value.int 0 tt730] tn73, ts73⟩)
    (rdW : PySem.W.readsIn K CW (.type "type") = true)
    (gaW : PySem.W.specialIn K (.ref CW) "__getattribute__" = some (some (.builtin "type.__getattribute__")))
    (cvW : PySem.W.findCls K (.ref CW) (.type "type") "MOST" = some (.val (.int 6 tW)))
    (hgP : PySem.W.nsIn K mainGlobals "MOST_PLUS" = some (some (.int 6 tgP)))
    (hgT : PySem.W.nsIn K mainGlobals "MOST_TURN" = some (some (.int 8 tgT)))
    (aCO : PySem.W.nsIn K mainGlobals "BadOther" = some (some (.ref CO)))
    (icCO : PySem.W.isClsIn K CO = true)
    (ttCO : PySem.W.typeIn K (.ref CO) = some (.type "type"))
    (gaCO : PySem.W.findIn K (.ref CO) "__getattribute__" = some (some (.builtin "BaseException.__getattribute__")))
    (ggCO : PySem.W.findIn K (.ref CO) "__getattr__" = some none)
    (hdCO : PySem.W.hasDictIn K CO = true)
    (hcCO : PySem.W.findIn K (.ref CO) "__class__" = some (some (.builtin "object.__class__")))
    (moCO : PySem.W.mroIn K CO (.type "object") = some true)
    (saCO : PySem.W.findIn K (.ref CO) "__setattr__" = some (some (.builtin "object.__setattr__")))
    (exCO : PySem.W.subIn K (.ref CO) (.type "BaseException") = some true)
    (keCO : PySem.W.keepIn K (.ref CO) = true)
    (vECO : PySem.W.subIn K (.ref CO) (.type "ValueError") = some true)
    (sSCO : PySem.W.subIn K (.ref CO) (.ref CO) = some true)
    (no0CO : PySem.W.findIn K (.ref CO) "part" = some none)
    (lxCO : K.lookup CO = some (excClassObj nmCO qCO CO nsCO bsCO bmCO true snCO subCO abCO colCO ddCO k0CO k1CO k2CO k3CO k5CO "ValueError.__new__"))
    (rxCO : PySem.HandSPX.refsVE bmCO = true)
    (m80 : PySem.W.findIn K (.ref CO) "__init__" = some (some (.ref f80)))
    (l80 : K.lookup f80 = some ⟨oc80, od80, .func (PySem.W.fnOf "__init__" "BadOther.__init__" (defArgs sOInit) (defBody sOInit) (defScope sOInit) .none kV80 dc80 pm80 an80 cd80 ct80), sl80⟩)
    (c80 : PySem.W.codeIn K cd80 "BadOther.__init__" = true)
    (k80 : PySem.W.keepIn K (.ref f80) = true)
    (ty80 : PySem.W.typeIn K (.ref f80) = some (.type "function"))
    (aFE : PySem.W.nsIn K mainGlobals "FairError" = some (some (.ref FE)))
    (icFE : PySem.W.isClsIn K FE = true)
    (ttFE : PySem.W.typeIn K (.ref FE) = some (.type "type"))
    (suOF : PySem.W.subIn K (.ref CO) (.ref FE) = some true)
    (suFX : PySem.W.subIn K (.ref FE) (.type "BaseException") = some true)
    (zint : PySem.W.nsIn K mainGlobals "int" = some none)
    (zlen : PySem.W.nsIn K mainGlobals "len" = some none)
    (zabs : PySem.W.nsIn K mainGlobals "abs" = some none)
    (zlist : PySem.W.nsIn K mainGlobals "list" = some none)
    (zmin : PySem.W.nsIn K mainGlobals "min" = some none)
    (zmax : PySem.W.nsIn K mainGlobals "max" = some none)
    (zisinstance : PySem.W.nsIn K mainGlobals "isinstance" = some none)
    (zbool : PySem.W.nsIn K mainGlobals "bool" = some none)
    (ztuple : PySem.W.nsIn K mainGlobals "tuple" = some none)
    (zall : PySem.W.nsIn K mainGlobals "all" = some none)
    (zrange : PySem.W.nsIn K mainGlobals "range" = some none)
    (zrepr : PySem.W.nsIn K mainGlobals "repr" = some none)
    (zdict : PySem.W.nsIn K mainGlobals "dict" = some none)
    (zValueError : PySem.W.nsIn K mainGlobals "ValueError" = some none)
    (hdL : PySem.W.codeHdIn K cL (tabAt K cL) = true)
    (noT : K.lookup (tabAt K cL) = none) :
    ∃ (fd fdr : FuncData) (sp : Sp) (fr c T : Addr) (o : Obj), (∀ (s : Shared) (u : Value), BindsTo s fd ⟨[u], []⟩ [("_law_script", u)]) ∧ mg "_law_right" = some (.ref fr) ∧ K.lookup fr = some o ∧ o.data = .func fdr ∧ fdr.code = .ref c ∧ PySem.W.codeHdIn K c T = true ∧ K.lookup T = none ∧
      (∀ (H : Hp) (a : Addr) (ns : List Int), ns.length ≤ 63 → H T = some (.tbl #[]) → SqL K H a (ns.map V.int) → sp [.ref a] H (fun v _ => v = .bl true) fun _ _ _ => False) ∧
      ∀ base : Heap, K.In base → base.Ns mainGlobals mg → TabB base mg c T → FnG l.prog w K mg base 22 fa fd ["_law_script"] sp := by
  have e := hfa.symm.trans (PySem.W.mg_of X G a31)
  cases e
  have F0 := fun_mk (st := sIsInt) l0 c0 k0
  have b0 := F0.binds (ps := ["value"]) fun _ _ _ _ _ _ us hl => match us, hl with | [_], _ => rfl
  have F1 := fun_mk (st := sWithin) l1 c1 k1
  have b1 := F1.binds (ps := ["value", "least", "most"]) fun _ _ _ _ _ _ us hl => match us, hl with | [_, _, _], _ => rfl
  have F2 := fun_mk (st := sNeedR) l2 c2 k2
  have b2 := F2.binds (ps := ["value"]) fun _ _ _ _ _ _ us hl => match us, hl with | [_], _ => rfl
  have F3 := fun_mk (st := sPair) l3 c3 k3
  have b3 := F3.binds (ps := ["value", "most"]) fun _ _ _ _ _ _ us hl => match us, hl with | [_, _], _ => rfl
  have F4 := fun_mk (st := sTimes) l4 c4 k4
  have b4 := F4.binds (ps := ["value"]) fun _ _ _ _ _ _ us hl => match us, hl with | [_], _ => rfl
  have F5 := fun_mk (st := sPlus) l5 c5 k5
  have b5 := F5.binds (ps := ["value"]) fun _ _ _ _ _ _ us hl => match us, hl with | [_], _ => rfl
  have F6 := fun_mk (st := sTurn) l6 c6 k6
  have b6 := F6.binds (ps := ["value"]) fun _ _ _ _ _ _ us hl => match us, hl with | [_], _ => rfl
  have F7 := fun_mk (st := sNeedT) l7 c7 k7
  have b7 := F7.binds (ps := ["times", "plus"]) fun _ _ _ _ _ _ us hl => match us, hl with | [_, _], _ => rfl
  have F8 := fun_mk (st := sHalves) l8 c8 k8
  have b8 := F8.binds (ps := ["times", "plus"]) fun _ _ _ _ _ _ us hl => match us, hl with | [_, _], _ => rfl
  have F9 := fun_mk (st := sNeedH) l9 c9 k9
  have b9 := F9.binds (ps := ["times", "plus"]) fun _ _ _ _ _ _ us hl => match us, hl with | [_, _], _ => rfl
  have F10 := fun_mk (st := sFair) l10 c10 k10
  have b10 := F10.binds (ps := ["rule", "x", "y"]) fun _ _ _ _ _ _ us hl => match us, hl with | [_, _, _], _ => rfl
  have F11 := fun_mk (st := sJointsOf) l11 c11 k11
  have b11 := F11.binds (ps := ["shape"]) fun _ _ _ _ _ _ us hl => match us, hl with | [_], _ => rfl
  have F12 := fun_mk (st := sWeightsOf) l12 c12 k12
  have b12 := F12.binds (ps := ["joints"]) fun _ _ _ _ _ _ us hl => match us, hl with | [_], _ => rfl
  have F13 := fun_mk (st := sAreJointsFair) l13 c13 k13
  have b13 := F13.binds (ps := ["rule", "joints", "weights"]) fun _ _ _ _ _ _ us hl => match us, hl with | [_, _, _], _ => rfl
  have F14 := fun_mk (st := sKeysOf) l14 c14 k14
  have b14 := F14.binds (ps := ["shape"]) fun _ _ _ _ _ _ us hl => match us, hl with | [_], _ => rfl
  have F15 := fun_mk (st := sHeightOf) l15 c15 k15
  have b15 := F15.binds (ps := ["shape"]) fun _ _ _ _ _ _ us hl => match us, hl with | [_], _ => rfl
  have F16 := fun_mk (st := sIsFair) l16 c16 k16
  have b16 := F16.binds (ps := ["rule", "shape"]) fun _ _ _ _ _ _ us hl => match us, hl with | [_, _], _ => rfl
  have F17 := fun_mk (st := sNeedJoints) l17 c17 k17
  have b17 := F17.binds (ps := ["shape"]) fun _ _ _ _ _ _ us hl => match us, hl with | [_], _ => rfl
  have F18 := fun_mk (st := sKept) l18 c18 k18
  have b18 := F18.binds (ps := ["value"]) fun _ _ _ _ _ _ us hl => match us, hl with | [_], _ => rfl
  have F19 := fun_mk (st := sPen) l19 c19 k19
  have b19 := F19.binds (ps := ["_law_script"]) fun _ _ _ _ _ _ us hl => match us, hl with | [_], _ => rfl
  have F20 := fun_mk (st := sDraw) l20 c20 k20
  have b20 := F20.binds (ps := ["_law_pen_here", "_law_many"]) fun _ _ _ _ _ _ us hl => match us, hl with | [_, _], _ => rfl
  have F21 := fun_mk (st := sPick) l21 c21 k21
  have b21 := F21.binds (ps := ["_law_pen_here", "_law_some"]) fun _ _ _ _ _ _ us hl => match us, hl with | [_, _], _ => rfl
  have F22 := fun_mk (st := sNums) l22 c22 k22
  have b22 := F22.binds (ps := ["_law_pen_here"]) fun _ _ _ _ _ _ us hl => match us, hl with | [_], _ => rfl
  have F23 := fun_mk (st := sRule) l23 c23 k23
  have b23 := F23.binds (ps := ["_law_some", "_law_is_turn"]) fun _ _ _ _ _ _ us hl => match us, hl with | [_, _], _ => rfl
  have F24 := fun_mk (st := sTop) l24 c24 k24
  have b24 := F24.binds (ps := ["_law_some", "_law_x"]) fun _ _ _ _ _ _ us hl => match us, hl with | [_, _], _ => rfl
  have F25 := fun_mk (st := sEven) l25 c25 k25
  have b25 := F25.binds (ps := ["_law_some", "_law_x", "_law_y"]) fun _ _ _ _ _ _ us hl => match us, hl with | [_, _, _], _ => rfl
  have F26 := fun_mk (st := sHeard) l26 c26 k26
  have b26 := F26.binds (ps := ["_law_ask"]) fun _ _ _ _ _ _ us hl => match us, hl with | [_], _ => rfl
  have F27 := fun_mk (st := sShape) l27 c27 k27
  have b27 := F27.binds (ps := ["_law_pen_here", "_law_many", "_law_deep"]) fun _ _ _ _ _ _ us hl => match us, hl with | [_, _, _], _ => rfl
  have F28 := fun_mk (st := sSeen) l28 c28 k28
  have b28 := F28.binds (ps := ["_law_some", "_law_shape_so"]) fun _ _ _ _ _ _ us hl => match us, hl with | [_, _], _ => rfl
  have F29 := fun_mk (st := sSpoilt) l29 c29 k29
  have b29 := F29.binds (ps := ["_law_pen_here", "_law_shape_so"]) fun _ _ _ _ _ _ us hl => match us, hl with | [_, _], _ => rfl
  have F30 := fun_mk (st := sRight) l30 c30 k30
  have b30 := F30.binds (ps := ["_law_pen_here"]) fun _ _ _ _ _ _ us hl => match us, hl with | [_], _ => rfl
  have F31 := fun_mk (st := sLaw) l31 c31 k31
  have b31 := F31.binds (ps := ["_law_script"]) fun _ _ _ _ _ _ us hl => match us, hl with | [_], _ => rfl
  have F80 := fun_mk (st := sOInit) l80 c80 k80
  have b80 := F80.binds (ps := ["self", "part"]) fun _ _ _ _ _ _ us hl => match us, hl with | [_, _], _ => rfl
  refine ⟨PySem.W.fnOf "law" "law" (defArgs sLaw) (defBody sLaw) (defScope sLaw) .none kV31 dc31 pm31 an31 cd31 ct31, PySem.W.fnOf "_law_right" "_law_right" (defArgs sRight) (defBody sRight) (defScope sRight) .none kV30 dc30 pm30 an30 (.ref cL) ct30, spLawT K (tabAt K cL), f30, cL, tabAt K cL, _, fun s v => .of_eq rfl, PySem.W.mg_of X G a30, l30, rfl, rfl, hdL, noT, fun H a ns hl hT hS => ⟨a, ns, rfl, hS, hl, hT, fun _ => rfl⟩, fun base _ _ TB => ?_⟩
  have T : Blt mg := ⟨PySem.W.mg_none_of X G zint, PySem.W.mg_none_of X G zlen, PySem.W.mg_none_of X G zabs, PySem.W.mg_none_of X G zlist, PySem.W.mg_none_of X G zmin, PySem.W.mg_none_of X G zmax, PySem.W.mg_none_of X G zisinstance, PySem.W.mg_none_of X G zbool, PySem.W.mg_none_of X G ztuple, PySem.W.mg_none_of X G zall, PySem.W.mg_none_of X G zrange, PySem.W.mg_none_of X G zrepr⟩
  have RT : RCls K Ct := ⟨⟨pgCt, hdCt, poCt, saCt⟩, n0Ct, n1Ct, n2Ct, n3Ct⟩
  have RN : RCls K Cn := ⟨⟨pgCn, hdCn, poCn, saCn⟩, n0Cn, n1Cn, n2Cn, n3Cn⟩
  have ik : InsK K := ⟨ikn, ikt⟩
  have KT : RK K Ct CW := ⟨RT, hcCt, moCt, kit_own icCW ttCW suCt⟩
  have KN : RK K Cn CW := ⟨RN, hcCn, moCn, kit_own icCW ttCW suCn⟩
  have D70 : FunD K "__init__" "TryRule.__init__" (defArgs sTryInit) (defBody sTryInit) (defScope sTryInit) [.int 0] [] f70 _ := ⟨⟨_, _, _, _, _, _, _, _, _, _, rfl, l70, c70, .inr ⟨by simp, T70, _, [Value.int 0 tt700], tn70, rfl, t70, rfl, .cons ⟨_, rfl⟩ .nil⟩, .inl rfl⟩, k70⟩
  have D73 : FunD K "__init__" "TurnRule.__init__" (defArgs sTurnInit) (defBody sTurnInit) (defScope sTurnInit) [.int 0] [] f73 _ := ⟨⟨_, _, _, _, _, _, _, _, _, _, rfl, l73, c73, .inr ⟨by simp, T73, _, [Value.int 0 tt730], tn73, rfl, t73, rfl, .cons ⟨_, rfl⟩ .nil⟩, .inl rfl⟩, k73⟩
  obtain ⟨ds70, v70, b70⟩ := FunD.binds1 (ps := ["self", "times", "plus"]) D70 3 1 (by simp) rfl (fun _ _ _ _ _ _ _ us its h1 h2 => match us, its, h1, h2 with | [_, _, _], [_], _, _ => ⟨_, rfl, rfl⟩)
  cases v70
  obtain ⟨ds71, v71, b71⟩ := FunD.binds1 (ps := ["self", "times", "plus"]) D70 2 0 (by simp) rfl (fun _ _ _ _ _ _ _ us its h1 h2 => match us, its, h1, h2 with | [_, _], [_], _, _ => ⟨_, rfl, rfl⟩)
  obtain ⟨its73, b73⟩ := FunD.kbindsD (ps := ["self", "times", "plus", "turn", "turn_plus"]) D73 3 ["turn", "turn_plus"] (fun us _ ws => us ++ ws) (by simp) (fun r1 _ r2 => r1.append r2)
    (fun _ _ _ _ _ _ _ us its ws h1 h2 h3 => match us, its, ws, h1, h2, h3 with | [_, _, _], [_], [_, _], _, _, _ => ⟨_, rfl, rfl⟩)
  have kbH := kb_gK (y := "shape") F15 (fun _ _ _ _ _ _ _ => rfl)
  have kbF := kb_gG (y := "shape") (z := "rule") F16 (fun _ _ _ _ _ _ _ _ => rfl)
  have d0 : Df l.prog w K mg base 1 "is_integer" ["value"] _ := ⟨f0, _, ok_isInt F0 T, PySem.W.mg_of X G a0, F0.kp, b0⟩
  obtain ⟨_, _, GI, gI, kI, bI⟩ := d0.ex
  have d1 : Df l.prog w K mg base 2 "is_within" ["value", "least", "most"] _ := ⟨f1, _, ok_within F1 T GI gI kI bI, PySem.W.mg_of X G a1, F1.kp, b1⟩
  have d2 : Df l.prog w K mg base 1 "need_rule" ["value"] _ := ⟨f2, _, ok_needR F2 T (PySem.W.mg_of X G aCW) KT KN ik, PySem.W.mg_of X G a2, F2.kp, b2⟩
  have d3 : Df l.prog w K mg base 3 "is_pair" ["value", "most"] _ := ⟨f3, _, ok_pair F3 T d1, PySem.W.mg_of X G a3, F3.kp, b3⟩
  have d4 : Df l.prog w K mg base 4 "is_times" ["value"] _ := ⟨f4, _, ok_times F4 d3 (PySem.W.mg_of X G aCW) ⟨rdW, gaW⟩ ⟨cvW, ⟨_, rfl⟩⟩, PySem.W.mg_of X G a4, F4.kp, b4⟩
  have d5 : Df l.prog w K mg base 3 "is_plus" ["value"] _ := ⟨f5, _, ok_plus F5 d1 (PySem.W.mg_of X G hgP), PySem.W.mg_of X G a5, F5.kp, b5⟩
  have d6 : Df l.prog w K mg base 4 "is_turn" ["value"] _ := ⟨f6, _, ok_turn F6 d3 (PySem.W.mg_of X G hgT), PySem.W.mg_of X G a6, F6.kp, b6⟩
  have d7 : Df l.prog w K mg base 5 "need_times" ["times", "plus"] _ := ⟨f7, _, ok_needT F7 d4 d5, PySem.W.mg_of X G a7, F7.kp, b7⟩
  have d8 : Df l.prog w K mg base 1 "has_halves" ["times", "plus"] _ := ⟨f8, _, ok_halves F8, PySem.W.mg_of X G a8, F8.kp, b8⟩
  have d9 : Df l.prog w K mg base 2 "need_halves" ["times", "plus"] _ := ⟨f9, _, ok_needH F9 d8, PySem.W.mg_of X G a9, F9.kp, b9⟩
  have d11 : Df l.prog w K mg base 2 "joints_of" ["shape"] _ := ⟨f11, _, ok_jointsOf (k := 1) F11 T, PySem.W.mg_of X G a11, F11.kp, b11⟩
  have d11b : Df l.prog w K mg base 3 "joints_of" ["shape"] _ := ⟨f11, _, ok_jointsOf (k := 2) F11 T, PySem.W.mg_of X G a11, F11.kp, b11⟩
  have d11c : Df l.prog w K mg base 5 "joints_of" ["shape"] _ := ⟨f11, _, ok_jointsOf (k := 4) F11 T, PySem.W.mg_of X G a11, F11.kp, b11⟩
  have d12 : Df l.prog w K mg base 2 "weights_of" ["joints"] _ := ⟨f12, _, ok_wof F12 T, PySem.W.mg_of X G a12, F12.kp, b12⟩
  have d13 : Df l.prog w K mg base 1 "are_joints_fair" ["rule", "joints", "weights"] _ := ⟨f13, _, ok_areJF F13, PySem.W.mg_of X G a13, F13.kp, b13⟩
  have d17 : Df l.prog w K mg base 3 "need_joints" ["shape"] _ := ⟨f17, _, ok_needJ (k := 2) F17 d11, PySem.W.mg_of X G a17, F17.kp, b17⟩
  have d14 : Df l.prog w K mg base 4 "keys_of" ["shape"] _ := ⟨f14, _, ok_keysOf (k := 3) F14 T d17, PySem.W.mg_of X G a14, F14.kp, b14⟩
  have d15 : DfK l.prog w K mg base 4 "height_of" ["shape"] ["shape"] gK gK spHeightOf := ⟨f15, _, ok_heightOf (k := 2) F15 T d17, PySem.W.mg_of X G a15, F15.kp, b15, kbH⟩
  have d16 : DfK l.prog w K mg base 4 "is_fair" ["rule", "shape"] ["shape", "rule"] gG gG (spIsFair Ct Cn NoSh) := ⟨f16, _, ok_isFair (k := 1) F16 T RT RN d2 d11b d12 d13, PySem.W.mg_of X G a16, F16.kp, b16, kbF⟩
  have d18 : Df l.prog w K mg base 1 "kept" ["value"] _ := ⟨f18, _, ok_kept F18 T (PySem.W.mg_none_of X G zdict), PySem.W.mg_of X G a18, F18.kp, b18⟩
  have oO : OexC K CO := ⟨⟨_, _, _, _, _, _, _, _, _, _, _, _, _, _, _, lxCO, rxCO⟩, saCO, exCO, ttCO, keCO⟩
  have G80 := ok_oi (P := l.prog) (w := w) (mg := mg) (base := base) F80 oO no0CO d18
  have OC : OtC l.prog w K mg base CO := ⟨oO, PySem.W.mg_of X G aCO, ⟨f80, _, m80, ty80, G80, b80⟩⟩
  have HC : HeldC K CO := ⟨icCO, gaCO, ggCO, exCO, hdCO, hcCO, ikn, ikt, moCO⟩
  have d17x : DfX l.prog w K mg base 6 "need_joints" ["shape"] _ := ⟨f17, _, ok_needJX (k := 1) F17 d11c OC, PySem.W.mg_of X G a17, F17.kp, b17⟩
  have d14x : DfX l.prog w K mg base 7 "keys_of" ["shape"] _ := ⟨f14, _, ok_keysOfX (k := 6) F14 T d17x, PySem.W.mg_of X G a14, F14.kp, b14⟩
  have d15x : DfX l.prog w K mg base 7 "height_of" ["shape"] _ := ⟨f15, _, ok_heightOfX (k := 6) F15 T d17x, PySem.W.mg_of X G a15, F15.kp, b15⟩
  have GT0 := ok_tryInit (P := l.prog) (w := w) (mg := mg) (base := base) D70 RT d7 d9
  have GN0 := ok_turnInit (P := l.prog) (w := w) (mg := mg) (base := base) D73 RN d7 d9 d6 d5
  have MTT : Mk K Ct f70 := ⟨mkCt, m70, i70, kcCt⟩
  have d19 : Df l.prog w K mg base 1 "_law_pen" ["_law_script"] _ := ⟨f19, _, ok_pen F19 T, PySem.W.mg_of X G a19, F19.kp, b19⟩
  have d20 : Df l.prog w K mg base 1 "_law_draw" ["_law_pen_here", "_law_many"] _ := ⟨f20, _, ok_draw F20 T, PySem.W.mg_of X G a20, F20.kp, b20⟩
  have d21 : Df l.prog w K mg base 2 "_law_pick" ["_law_pen_here", "_law_some"] _ := ⟨f21, _, ok_pick F21 T d20, PySem.W.mg_of X G a21, F21.kp, b21⟩
  have d22 : Df l.prog w K mg base 3 "_law_numbers" ["_law_pen_here"] _ := ⟨f22, _, ok_nums F22 T d20 d21, PySem.W.mg_of X G a22, F22.kp, b22⟩
  have d23 : Df l.prog w K mg base 8 "_law_rule" ["_law_some", "_law_is_turn"] _ := ⟨f23, _, ok_rule F23 T (PySem.W.mg_of X G aCt) (PySem.W.mg_of X G aCn) MTT ⟨mkCn, m73, i73, kcCn⟩ GT0 b70 GN0 b73, PySem.W.mg_of X G a23, F23.kp, b23⟩
  have d24 : Df l.prog w K mg base 1 "_law_top" ["_law_some", "_law_x"] _ := ⟨f24, _, ok_top F24, PySem.W.mg_of X G a24, F24.kp, b24⟩
  have d25 : Df l.prog w K mg base 2 "_law_is_even" ["_law_some", "_law_x", "_law_y"] _ := ⟨f25, _, ok_even F25 d24, PySem.W.mg_of X G a25, F25.kp, b25⟩
  have GS := fun d => ok_shape (P := l.prog) (w := w) (mg := mg) (base := base) F27 T (PySem.W.mg_of X G a27) b27 d20 d21 d
  have GE := fun d => ok_seen (P := l.prog) (w := w) (mg := mg) (base := base) F28 T (PySem.W.mg_of X G a28) b28 d25 d
  have GP := fun d => ok_spoilt (P := l.prog) (w := w) (mg := mg) (base := base) F29 T (PySem.W.mg_of X G a29) b29 d20 d21 d
  have GR := ok_right (P := l.prog) (w := w) (mg := mg) (base := base) F30 T rfl TB (PySem.W.mg_none_of X G zrepr) (PySem.W.mg_none_of X G zValueError) rfl d20 d22 d23 (GS 7) (by decide) (GS 5) (by decide) (PySem.W.mg_of X G a27) F27.kp b27 (GE 7) (by decide) (PySem.W.mg_of X G a28) F28.kp b28 (GP 5) (by decide) (PySem.W.mg_of X G a29) F29.kp b29
    d14 d15 d16 d14x d15x F26 (PySem.W.mg_of X G a26) b26 (PySem.W.mg_of X G aFE) (PySem.W.mg_of X G aCO) HC no0CO (exm_own icFE ttFE suOF suFX) (kit_own icCO ttCO sSCO) (kit_bty vECO)
  exact ok_law F31 T (PySem.W.mg_of X G aCt) MTT GT0 b71 v71 d19 d16 GR (PySem.W.mg_of X G a30) F30.kp b30
end Ev
open PySem PySem.W PyProof.Rows
set_option maxRecDepth 100000 in
set_option maxHeartbeats 0 in
theorem PySem.Challenge.cw_evenrules_k30_shapes_measured_holds : PySem.Challenge.rw_evenrules_k30_shapes_measured.Holds := by
  exact hd (by
    k_fill
    refine Ev.walk_ofGTK (l := PySem.Challenge.rw_evenrules_k30_shapes_measured) (n := 63) (k := 22) (x := "_law_script") (xr := "_law_right") rfl (by decide) rfl ⟨rfl, by decide, by decide⟩ (by kernel_rfl) (fun w h Y => PySem.W.km_in_of Y) ?F
    case F =>
      intro w mg fa h KX G hmg
      refine' Ev.all_mk KX G hmg ?a0 ?l0 ?c0 ?k0 ?a1 ?l1 ?c1 ?k1 ?a2 ?l2 ?c2 ?k2 ?a3 ?l3 ?c3 ?k3 ?a4 ?l4 ?c4 ?k4 ?a5 ?l5 ?c5 ?k5 ?a6 ?l6 ?c6 ?k6 ?a7 ?l7 ?c7 ?k7 ?a8 ?l8 ?c8 ?k8 ?a9 ?l9 ?c9 ?k9 ?a10 ?l10 ?c10 ?k10 ?a11 ?l11 ?c11 ?k11 ?a12 ?l12 ?c12 ?k12 ?a13 ?l13 ?c13 ?k13 ?a14 ?l14 ?c14 ?k14 ?a15 ?l15 ?c15 ?k15 ?a16 ?l16 ?c16 ?k16 ?a17 ?l17 ?c17 ?k17 ?a18 ?l18 ?c18 ?k18 ?a19 ?l19 ?c19 ?k19 ?a20 ?l20 ?c20 ?k20 ?a21 ?l21 ?c21 ?k21 ?a22 ?l22 ?c22 ?k22 ?a23 ?l23 ?c23 ?k23 ?a24 ?l24 ?c24 ?k24 ?a25 ?l25 ?c25 ?k25 ?a26 ?l26 ?c26 ?k26 ?a27 ?l27 ?c27 ?k27 ?a28 ?l28 ?c28 ?k28 ?a29 ?l29 ?c29 ?k29 ?a30 ?l30 ?c30 ?k30 ?a31 ?l31 ?c31 ?k31 ?aCt ?pgCt ?hdCt ?poCt ?saCt ?mkCt ?kcCt ?n0Ct ?n1Ct ?n2Ct ?n3Ct ?aCn ?pgCn ?hdCn ?poCn ?saCn ?mkCn ?kcCn ?n0Cn ?n1Cn ?n2Cn ?n3Cn ?aCW ?hcCt ?moCt ?suCt ?hcCn ?moCn ?suCn ?icCW ?ttCW ?ikn ?ikt ?m70 ?i70 ?l70 ?c70 ?k70 ?t70 ?m73 ?i73 ?l73 ?c73 ?k73 ?t73 ?rdW ?gaW ?cvW ?hgP ?hgT ?aCO ?icCO ?ttCO ?gaCO ?ggCO ?hdCO ?hcCO ?moCO ?saCO ?exCO ?keCO ?vECO ?sSCO ?no0CO ?lxCO ?rxCO ?m80 ?l80 ?c80 ?k80 ?ty80 ?aFE ?icFE ?ttFE ?suOF ?suFX ?zint ?zlen ?zabs ?zlist ?zmin ?zmax ?zisinstance ?zbool ?ztuple ?zall ?zrange ?zrepr ?zdict ?zValueError ?hdL ?noT
      (case a0 => k_is)
      (case l0 => k_is)
      (case c0 => k_is)
      (case k0 => k_is)
      (case a1 => k_is)
      (case l1 => k_is)
      (case c1 => k_is)
      (case k1 => k_is)
      (case a2 => k_is)
      (case l2 => k_is)
      (case c2 => k_is)
      (case k2 => k_is)
      (case a3 => k_is)
      (case l3 => k_is)
      (case c3 => k_is)
      (case k3 => k_is)
      (case a4 => k_is)
      (case l4 => k_is)
      (case c4 => k_is)
      (case k4 => k_is)
      (case a5 => k_is)
      (case l5 => k_is)
      (case c5 => k_is)
      (case k5 => k_is)
      (case a6 => k_is)
      (case l6 => k_is)
      (case c6 => k_is)
      (case k6 => k_is)
      (case a7 => k_is)
      (case l7 => k_is)
      (case c7 => k_is)
      (case k7 => k_is)
      (case a8 => k_is)
      (case l8 => k_is)
      (case c8 => k_is)
      (case k8 => k_is)
      (case a9 => k_is)
      (case l9 => k_is)
      (case c9 => k_is)
      (case k9 => k_is)
      (case a10 => k_is)
      (case l10 => k_is)
      (case c10 => k_is)
      (case k10 => k_is)
      (case a11 => k_is)
      (case l11 => k_is)
      (case c11 => k_is)
      (case k11 => k_is)
      (case a12 => k_is)
      (case l12 => k_is)
      (case c12 => k_is)
      (case k12 => k_is)
      (case a13 => k_is)
      (case l13 => k_is)
      (case c13 => k_is)
      (case k13 => k_is)
      (case a14 => k_is)
      (case l14 => k_is)
      (case c14 => k_is)
      (case k14 => k_is)
      (case a15 => k_is)
      (case l15 => k_is)
      (case c15 => k_is)
      (case k15 => k_is)
      (case a16 => k_is)
      (case l16 => k_is)
      (case c16 => k_is)
      (case k16 => k_is)
      (case a17 => k_is)
      (case l17 => k_is)
      (case c17 => k_is)
      (case k17 => k_is)
      (case a18 => k_is)
      (case l18 => k_is)
      (case c18 => k_is)
      (case k18 => k_is)
      (case a19 => k_is)
      (case l19 => k_is)
      (case c19 => k_is)
      (case k19 => k_is)
      (case a20 => k_is)
      (case l20 => k_is)
      (case c20 => k_is)
      (case k20 => k_is)
      (case a21 => k_is)
      (case l21 => k_is)
      (case c21 => k_is)
      (case k21 => k_is)
      (case a22 => k_is)
      (case l22 => k_is)
      (case c22 => k_is)
      (case k22 => k_is)
      (case a23 => k_is)
      (case l23 => k_is)
      (case c23 => k_is)
      (case k23 => k_is)
      (case a24 => k_is)
      (case l24 => k_is)
      (case c24 => k_is)
      (case k24 => k_is)
      (case a25 => k_is)
      (case l25 => k_is)
      (case c25 => k_is)
      (case k25 => k_is)
      (case a26 => k_is)
      (case l26 => k_is)
      (case c26 => k_is)
      (case k26 => k_is)
      (case a27 => k_is)
      (case l27 => k_is)
      (case c27 => k_is)
      (case k27 => k_is)
      (case a28 => k_is)
      (case l28 => k_is)
      (case c28 => k_is)
      (case k28 => k_is)
      (case a29 => k_is)
      (case l29 => k_is)
      (case c29 => k_is)
      (case k29 => k_is)
      (case a30 => k_is)
      (case l30 => k_is)
      (case c30 => k_is)
      (case k30 => k_is)
      (case a31 => k_is)
      (case l31 => k_is)
      (case c31 => k_is)
      (case k31 => k_is)
      (case aCt => k_is)
      (case pgCt => k_is)
      (case hdCt => k_is)
      (case poCt => k_is)
      (case saCt => k_is)
      (case mkCt => k_is)
      (case kcCt => k_is)
      (case n0Ct => k_is)
      (case n1Ct => k_is)
      (case n2Ct => k_is)
      (case n3Ct => k_is)
      (case aCn => k_is)
      (case pgCn => k_is)
      (case hdCn => k_is)
      (case poCn => k_is)
      (case saCn => k_is)
      (case mkCn => k_is)
      (case kcCn => k_is)
      (case n0Cn => k_is)
      (case n1Cn => k_is)
      (case n2Cn => k_is)
      (case n3Cn => k_is)
      (case aCW => k_is)
      (case hcCt => k_is)
      (case moCt => k_is)
      (case suCt => k_is)
      (case hcCn => k_is)
      (case moCn => k_is)
      (case suCn => k_is)
      (case icCW => k_is)
      (case ttCW => k_is)
      (case ikn => k_is)
      (case ikt => k_is)
      (case m70 => k_is)
      (case i70 => k_is)
      (case l70 => k_is)
      (case c70 => k_is)
      (case k70 => k_is)
      (case t70 => k_is)
      (case m73 => k_is)
      (case i73 => k_is)
      (case l73 => k_is)
      (case c73 => k_is)
      (case k73 => k_is)
      (case t73 => k_is)
      (case rdW => k_is)
      (case gaW => k_is)
      (case cvW => k_is)
      (case hgP => k_is)
      (case hgT => k_is)
      (case aCO => k_is)
      (case icCO => k_is)
      (case ttCO => k_is)
      (case gaCO => k_is)
      (case ggCO => k_is)
      (case hdCO => k_is)
      (case hcCO => k_is)
      (case moCO => k_is)
      (case saCO => k_is)
      (case exCO => k_is)
      (case keCO => k_is)
      (case vECO => k_is)
      (case sSCO => k_is)
      (case no0CO => k_is)
      (case lxCO => k_is)
      (case rxCO => decide +kernel)
      (case m80 => k_is)
      (case l80 => k_is)
      (case c80 => k_is)
      (case k80 => k_is)
      (case ty80 => k_is)
      (case aFE => k_is)
      (case icFE => k_is)
      (case ttFE => k_is)
      (case suOF => k_is)
      (case suFX => k_is)
      (case zint => k_is)
      (case zlen => k_is)
      (case zabs => k_is)
      (case zlist => k_is)
      (case zmin => k_is)
      (case zmax => k_is)
      (case zisinstance => k_is)
      (case zbool => k_is)
      (case ztuple => k_is)
      (case zall => k_is)
      (case zrange => k_is)
      (case zrepr => k_is)
      (case zdict => k_is)
      (case zValueError => k_is)
      (case hdL => kernel_rfl)
      (case noT => kernel_rfl))
