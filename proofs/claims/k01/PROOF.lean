import PyProof.Rows.All
import Wide.All
import OpenK.AllK
import Wide.FinOn
import HandS.ForMost
import HandS.Wide
import HandS.Codes
import HandS.IsInst
import HandS.Defaults
import HandS.MakeKw
import HandS.MakeKwOnly
import HandS.ClsMeth
import HandS.TupAny
import HandS.Style
import HandS.Iter
import HandS.ExcInit
import KE.KExcIs
import HandS.ForExc
import HandS.Lambda
import HandS.EndTab
import HandS.Conv
import HandS.Zip
import HandS.DictComp
import KE.KDictList
import HandS.Walk
import HandS.ExcValue
import HandS.ExcOwn
import PySem.Challenge.RW_evenrules_k01_errors_and_their_fields
open PySem PySem.W PyProof.Rows
set_option Elab.async false
set_option linter.all false
set_option maxRecDepth 100000 in
set_option maxHeartbeats 0 in
open_top hd for PySem.Challenge.rw_evenrules_k01_errors_and_their_fields
set_option maxRecDepth 100000
set_option maxHeartbeats 4000000
namespace Ev
open PySem L2
def top (i : Nat) : Stmt := PySem.Challenge.pw_evenrules_k01_errors_and_their_fields.main.body.getD i (.Pass ⟨0, 0, 0, 0⟩)
abbrev sDraw : Stmt := top 28
/-- all that was tracked is as it was, but at p -/
def But (p : Addr) (H H' : Hp) : Prop := ∀ b o, b ≠ p → H b = some o → H' b = some o
theorem But.refl (p : Addr) (H : Hp) : But p H H := fun _ _ _ e => e
theorem But.trans {p : Addr} {H H1 H2 : Hp} (a : But p H H1) (b : But p H1 H2) : But p H H2 := fun c o n e => b c o n (a c o n e)
theorem Same.but {p : Addr} {H H' : Hp} (a : Same H H') : But p H H' := fun c o _ e => a c o e
theorem But.upd_new {p q : Addr} {H : Hp} {o : HO} (h : H q = none) : But p H (upd H q o) := fun b u _ e => by
  rw [upd_ne (ne_of_none e h)]; exact e
theorem But.upd_at {p : Addr} {H : Hp} {o : HO} : But p H (upd H p o) := fun b u n e => by
  rw [upd_ne n]; exact e
/-- the pen: a list of a list of ints, how often it was asked, and a rest -/
def Pen (L : Addr) (H : Hp) (p : Addr) (B : Int) : Prop := ∃ (ns : List Int) (turn carry : Int),
  H p = some (.lst [.ref L, .int turn, .int carry]) ∧ H L = some (.lst (ns.map V.int)) ∧ L ≠ p ∧ ns.length ≤ 63 ∧ 0 ≤ turn ∧ turn ≤ B ∧ 0 ≤ carry
theorem Pen.keep {L : Addr} {H H' : Hp} {p : Addr} {B : Int} (h : Pen L H p B) (k : Same H H') : Pen L H' p B := by
  obtain ⟨ns, t, c, h1, h2, h3, h4, h5, h6, h7⟩ := h
  exact ⟨ns, t, c, k _ _ h1, k _ _ h2, h3, h4, h5, h6, h7⟩
theorem Pen.mono {L : Addr} {H : Hp} {p : Addr} {B B' : Int} (h : Pen L H p B) (k : B ≤ B') : Pen L H p B' := by
  obtain ⟨ns, t, c, h1, h2, h3, h4, h5, h6, h7⟩ := h
  exact ⟨ns, t, c, h1, h2, h3, h4, h5, by omega, h7⟩
def spDraw : Sp := fun vs H Q _ => ∃ (p L : Addr) (m B : Int), vs = [.ref p, .int m] ∧ 1 ≤ m ∧ m ≤ 1000000000000 ∧ B ≤ 1000000 ∧ Pen L H p B ∧
  ∀ (d : Int) (H' : Hp), But p H H' → Pen L H' p (B + 1) → 0 ≤ d → d < m → Q (.int d) H'
theorem dpInts {K : PySem.W.Frag} {H : Hp} : ∀ ns : List Int, DpAll K H (ns.map V.int) (ns.map PyData.int)
  | [] => .nil
  | n :: r => .cons (.int n) (dpInts r)
theorem sh_ints (ns : List Int) : SeqAt.shaped (.list (ns.map PyData.int)) = true := by
  have h1 : ∀ ns : List Int, PyData.canLayAll0 (ns.map PyData.int) = true := by
    intro ns
    induction ns with
    | nil => rfl
    | cons n r ih => simp [PyData.canLayAll0, PyData.canLay0, ih]
  have h2 : ∀ ns : List Int, PyData.depthAll (ns.map PyData.int) ≤ 1 := by
    intro ns
    induction ns with
    | nil => simp [PyData.depthAll]
    | cons n r ih => simp [PyData.depthAll, PyData.depth]; omega
  unfold SeqAt.shaped
  rw [Bool.and_eq_true]
  refine ⟨by simp [PyData.canLay0, h1], decide_eq_true ?_⟩
  have := h2 ns
  simp [PyData.depth]; omega
theorem eqv_nil (ns : List Int) : PyData.eqv (.list (ns.map PyData.int)) (.list []) = ns.isEmpty := by
  cases ns <;> simp [PyData.eqv, PyData.eqvAll]
section
variable {P : Program} {w : World} {K : PySem.W.Frag} {mg : Str → Option Value} {base : Heap}
/-- built-ins that the program does not cover -/
structure Blt (mg : Str → Option Value) : Prop where
  int : mg "int" = none
  len : mg "len" = none
  abs : mg "abs" = none
  list : mg "list" = none
  min : mg "min" = none
  max : mg "max" = none
  isi : mg "isinstance" = none
  bool : mg "bool" = none
  tuple : mg "tuple" = none
  all : mg "all" = none
  range : mg "range" = none
  repr : mg "repr" = none
theorem scD : FnScope ["_law_pen_here", "_law_many", "_law_digit", "_law_turn", "_law_cell", "_law_great", "_law_mixed"] ["_law_pen_here", "_law_many"] (defScope sDraw) := ⟨rfl, rfl, rfl, by decide +kernel, rfl, by decide +kernel, by decide +kernel⟩
theorem fmod_lo (a : Int) {m : Int} (h : 1 ≤ m) : 0 ≤ a.fmod m := by rw [Int.fmod_eq_emod_of_nonneg a (by omega)]; exact Int.emod_nonneg a (by omega)
theorem fmod_hi (a : Int) {m : Int} (h : 1 ≤ m) : a.fmod m < m := by rw [Int.fmod_eq_emod_of_nonneg a (by omega)]; exact Int.emod_lt_of_pos a (by omega)
theorem fdiv_lo {a m : Int} (h : 1 ≤ m) (h0 : 0 ≤ a) : 0 ≤ a.fdiv m := by rw [Int.fdiv_eq_ediv_of_nonneg a (by omega)]; exact Int.ediv_nonneg h0 (by omega)
theorem cell_at {ns : List Int} (h : ns ≠ []) (t : Int) : ∃ c : Int, atI (ns.map V.int) (t.fmod (((ns.map V.int).length : Nat) : Int)) = some (V.int c) := by
  rw [List.length_map]
  have l : 0 < ns.length := List.length_pos_iff.mpr h
  have h1 : 0 ≤ t.fmod (ns.length : Int) := fmod_lo t (by omega)
  have h2 : t.fmod (ns.length : Int) < ns.length := fmod_hi t (by omega)
  generalize t.fmod (ns.length : Int) = i at h1 h2
  obtain ⟨j, rfl⟩ := Int.eq_ofNat_of_zero_le h1
  have hj : j < ns.length := by omega
  exact ⟨ns[j], atI_nat (by rw [List.getElem?_map, List.getElem?_eq_getElem hj]; rfl)⟩
theorem mul_le_of {a b A B : Int} (a0 : 0 ≤ a) (b0 : 0 ≤ b) (ha : a ≤ A) (hb : b ≤ B) : 0 ≤ a * b ∧ a * b ≤ A * B :=
  ⟨Int.mul_nonneg a0 b0, Int.mul_le_mul ha hb b0 (by omega)⟩
theorem bound1 (c : Int) {M C D t : Int} (hM : 1 ≤ M) (hM2 : M ≤ 4294967296) (hC : 0 ≤ C ∧ C ≤ 1000000) (hD : 0 ≤ D ∧ D ≤ 1000000) (h0 : 0 ≤ t) (h1 : t ≤ 1000000) : (c.fmod M + C * t + D).natAbs < 2 ^ 64 := by
  have a1 := fmod_lo c hM
  have a2 := fmod_hi c hM
  have ⟨a3, a4⟩ := mul_le_of hC.1 h0 hC.2 h1
  omega
theorem bound2 {x C5 C6 C7 t : Int} (hx : 0 ≤ x ∧ x < 4294967296) (h5 : 0 ≤ C5 ∧ C5 ≤ 1000000) (h6 : 0 ≤ C6 ∧ C6 ≤ 1000000) (h7 : 0 ≤ C7 ∧ C7 ≤ 1000000) (h0 : 0 ≤ t) (h1 : t ≤ 1000000) :
    (x * (2 * t + C5) + C6 * t * t + C7).natAbs < 2 ^ 64 := by
  have ⟨a1, a2⟩ := mul_le_of (b := 2 * t + C5) (A := 4294967296) (B := 3000000) hx.1 (by omega) (by omega) (by omega)
  have ⟨a3, a4⟩ := mul_le_of h6.1 h0 h6.2 h1
  have ⟨a5, a6⟩ := mul_le_of a3 h0 a4 h1
  omega
theorem great_nn {c e : Int} (h : e ≤ (if c < 0 then -c else c)) (b : Bool) : 0 ≤ 2 * ((if c < 0 then -c else c) - e) + (if b = true then 1 else 0) := by
  cases b
  · rw [if_neg Bool.false_ne_true]; omega
  · rw [if_pos rfl]; omega
theorem lt64 {x : Int} (h : 0 ≤ x ∧ x < 4294967296) : -(2 ^ 64) < x ∧ x < 2 ^ 64 := ⟨by omega, by omega⟩
theorem nz {M : Int} (h : 0 < M) : M ≠ 0 := by omega
theorem divW {i m : Int} (h : 1 ≤ m) (h2 : m ≤ 1000000000000) : CDivW i m := wide_div (b := 41) (by omega) (by omega) (by decide) (by decide)
theorem ediv_lo {a m : Int} (h : 1 ≤ m) (h0 : 0 ≤ a) : 0 ≤ a / m := Int.ediv_nonneg h0 (by omega)
theorem ok_draw {f : Addr} {fd : FuncData} (F : Fun K "_law_draw" "_law_draw" sDraw f fd) (T : Blt mg) : FnOk P w K mg base CX0 1 f fd ["_law_pen_here", "_law_many"] spDraw := by
  refine F.ok scD (fun vs H Q E h => ?_) (fun cdv A outer s H vs Q E hr h => ?_)
  · obtain ⟨p, L, m, B, rfl, _⟩ := h
    rfl
  · obtain ⟨p, L, m, B, rfl, hm, hm2, hB, ⟨ns, tn, ca, hp, hL, Lp, hlen, t0, tB, c0⟩, k⟩ := h
    have hu := hu_of hr
    refine ⟨_, pss_cons (ps_if (pt_cmpR op_gt (pe_ix ix_list (pv 0) pe_int (fun _ _ => rfl)) pe_int (nomark _))
        (pss_cons (ps_set (i := 2) scD.nd rfl (.inl rfl) (pe_op op_modN (pe_callTy call_int1 (by rfl) T.int (by decide +kernel) (pa_cons (pe_ix ix_list (pv 0) pe_int (fun _ _ => rfl)) pa_nil)) (pv 1)))
        (pss_cons (ps_asg (pe_op op_fdivW (pe_callTy call_int1 (by rfl) T.int (by decide +kernel) (pa_cons (pe_ix ix_list (pv 0) pe_int (fun _ _ => rfl)) pa_nil)) (pv 1)) (pg_sub (pv 0) pe_int set_list))
        (pss_one (ps_ret (pv 2))))) pss_nil)
      (pss_cons (ps_set (i := 3) scD.nd rfl (.inl rfl) (pe_ix ix_list (pv 0) pe_int (fun _ _ => rfl)))
      (pss_cons (ps_asg (pe_op op_add (pv 3) pe_int) (pg_sub (pv 0) pe_int set_list))
      (pss_cons (ps_set (i := 4) scD.nd rfl (.inl rfl) (pe_op op_add (pe_op op_mul pe_int (pv 3)) pe_int))
      (pss_cons (ps_if (pt_cmpR (op_neD hr.units) (pe_ix ix_list (pv 0) pe_int (fun _ _ => rfl)) (pe_lst pa_nil) (nomark _))
        (pss_one (ps_set (i := 4) scD.nd rfl (.inl rfl) (pe_ix ix_list (pe_ix ix_list (pv 0) pe_int (fun _ _ => rfl))
          (pe_op op_modN (pe_callTy call_int1 (by rfl) T.int (by decide +kernel) (pa_cons (pv 3) pa_nil)) (pe_callB call_len_seq (by rfl) T.len PySem.boot_len (pa_cons (pe_ix ix_list (pv 0) pe_int (fun _ _ => rfl)) pa_nil))) (fun _ _ => rfl)))) pss_nil)
      (pss_cons (ps_if (PW.pt (pw_and (pt_cmpR op_lt (pv 3) (pe_callB call_len_seq (by rfl) T.len PySem.boot_len (pa_cons (pe_ix ix_list (pv 0) pe_int (fun _ _ => rfl)) pa_nil)) (nomark _))
          (pw_and1 (pt_cmpR op_ge (pe_callB call_abs (by rfl) T.abs (by decide +kernel) (pa_cons (pv 4) pa_nil)) (pe_op op_pow pe_int pe_int) (nomark _)))))
        (pss_cons (ps_set (i := 5) scD.nd rfl (.inl rfl) (pe_op op_add (pe_op op_mul pe_int (pe_op op_sub (pe_callB call_abs (by rfl) T.abs (by decide +kernel) (pa_cons (pv 4) pa_nil)) (pe_op op_pow pe_int pe_int)))
            (pe_callTy call_int1 (by rfl) T.int (by decide +kernel) (pa_cons (pe_cmpR op_lt (pv 4) pe_int (nomark _)) pa_nil))))
        (pss_cons (ps_asg (pe_op op_fdivW (pe_callTy call_int1 (by rfl) T.int (by decide +kernel) (pa_cons (pv 5) pa_nil)) (pv 1)) (pg_sub (pv 0) pe_int set_list))
        (pss_one (ps_ret (pe_op op_modN (pe_callTy call_int1 (by rfl) T.int (by decide +kernel) (pa_cons (pv 5) pa_nil)) (pv 1)))))) pss_nil)
      (pss_cons (ps_set (i := 6) scD.nd rfl (.inl rfl) (pe_op op_modN (pe_callTy call_int1 (by rfl) T.int (by decide +kernel) (pa_cons (pe_op op_pow (pe_op op_add (pe_op op_add
          (pe_op op_modN (pe_callTy call_int1 (by rfl) T.int (by decide +kernel) (pa_cons (pv 4) pa_nil)) pe_int) (pe_op op_mul pe_int (pv 3))) pe_int) pe_int) pa_nil)) pe_int))
      (pss_cons (ps_set (i := 6) scD.nd rfl (.inl rfl) (pe_op op_modN (pe_callTy call_int1 (by rfl) T.int (by decide +kernel) (pa_cons (pe_op op_pow (pe_op op_add (pe_op op_add
          (pe_op op_mul (pv 6) (pe_op op_add (pe_op op_mul pe_int (pv 3)) pe_int)) (pe_op op_mul (pe_op op_mul pe_int (pv 3)) (pv 3))) pe_int) pe_int) pa_nil)) pe_int))
      (pss_one (ps_ret (pe_op op_modN (pe_callTy call_int1 (by rfl) T.int (by decide +kernel) (pa_cons (pe_op op_fdivN (pv 6) pe_int) pa_nil)) (pv 1))))))))))), ?_⟩
    have i2 : ∀ {a b c : V}, atI [a, b, c] 2 = some c := fun {a b c} => atI_nat (j := 2) rfl
    have i1 : ∀ {a b c : V}, atI [a, b, c] 1 = some b := fun {a b c} => atI_nat (j := 1) rfl
    have i0 : ∀ {a b c : V}, atI [a, b, c] 0 = some a := fun {a b c} => atI_nat (j := 0) rfl
    -- if pen[2] > 0
    refine ⟨_, rfl, p, _, 2, _, rfl, rfl, SqL.of hp, i2, _, _, rfl, rfl, _, rfl, ite2 (fun e => ?_) (fun e => ?_)⟩
    · -- digit
      refine ⟨_, rfl, p, _, 2, _, rfl, rfl, SqL.of hp, i2, .inl ⟨_, rfl, _, rfl, _, _, rfl, rfl, (by omega), ?_⟩⟩
      refine ⟨_, rfl, p, _, 2, _, rfl, rfl, SqL.of hp, i2, .inl ⟨_, rfl, _, rfl, _, _, rfl, rfl, divW hm hm2, _, rfl, p, _, _, 2, rfl, rfl, hp, rfl, ?_⟩⟩
      refine ⟨_, rfl, ?_⟩
      exact k _ _ But.upd_at ⟨ns, tn, _, upd_same, by rw [upd_ne Lp]; exact hL, Lp, hlen, t0, by omega, ediv_lo hm c0⟩ (fmod_lo _ hm) (fmod_hi _ hm)
    · -- turn
      refine ⟨_, rfl, p, _, 1, _, rfl, rfl, SqL.of hp, i1, ?_⟩
      refine ⟨_, rfl, _, _, rfl, rfl, _, rfl, p, _, _, 1, rfl, rfl, hp, rfl, ?_⟩
      have hp1 : upd H p (.lst ([V.ref L, V.int tn, V.int ca].set 1 (V.int (tn + 1)))) p = some (.lst [.ref L, .int (tn + 1), .int ca]) := upd_same
      have hL1 : upd H p (.lst ([V.ref L, V.int tn, V.int ca].set 1 (V.int (tn + 1)))) L = some (.lst (ns.map V.int)) := by rw [upd_ne Lp]; exact hL
      have b1 : But p H (upd H p (.lst ([V.ref L, V.int tn, V.int ca].set 1 (V.int (tn + 1))))) := But.upd_at
      generalize upd H p (.lst ([V.ref L, V.int tn, V.int ca].set 1 (V.int (tn + 1)))) = H1 at hp1 hL1 b1 ⊢
      -- cell = c * turn + c'
      refine ⟨_, rfl, _, _, rfl, rfl, .inl ⟨by decide, by decide⟩, _, _, rfl, rfl, ?_⟩
      -- if pen[0] != []
      refine ⟨_, rfl, p, _, 0, _, rfl, rfl, SqL.of hp1, i0, by decide, fun l hl => ?_⟩
      have n1 : p ≠ l := ne_of_none hp1 hl
      have n2 : L ≠ l := ne_of_none hL1 hl
      have hp2 : upd H1 l (.lst []) p = some (.lst [.ref L, .int (tn + 1), .int ca]) := by rw [upd_ne n1]; exact hp1
      have hL2 : upd H1 l (.lst []) L = some (.lst (ns.map V.int)) := by rw [upd_ne n2]; exact hL1
      have hl2 : upd H1 l (.lst []) l = some (.lst []) := upd_same
      have b2 : But p H (upd H1 l (.lst [])) := b1.trans (But.upd_new hl)
      clear b1 hp1 hL1
      generalize upd H1 l (.lst []) = H2 at hp2 hL2 hl2 b2
      refine ⟨_, _, .lst (SqL.of hL2) (dpInts ns), .lst (SqL.of hl2) .nil, sh_ints ns, sh_ints [], _, rfl, ?_⟩
      rw [eqv_nil]
      -- the rest, for any cell
      have hcell : ∀ c : Int, ∃ j : Int, (if c < 0 then -c else c) = j ∧ 0 ≤ j := fun c => by
        by_cases z : c < 0
        · exact ⟨_, rfl, by rw [if_pos z]; omega⟩
        · exact ⟨_, rfl, by rw [if_neg z]; omega⟩
      have fin : ∀ H' : Hp, H' p = some (.lst [.ref L, .int (tn + 1), .int ca]) → H' L = some (.lst (ns.map V.int)) → But p H H' → Pen L H' p (B + 1) := fun H' e1 e2 _ =>
        ⟨ns, tn + 1, ca, e1, e2, Lp, hlen, by omega, by omega, c0⟩
      have ht : tn ≤ 1000000 := by omega
      have hm6 : 0 ≤ 76705 * tn ∧ 76705 * tn ≤ 76705 * 1000000 := mul_le_of (by decide) t0 (Int.le_refl _) ht
      have hq : ∀ {x m : Int}, 1 ≤ m → m ≤ 4294967296 → 0 ≤ x.fmod m ∧ x.fmod m < 4294967296 := fun {x m} h1 h2 => ⟨fmod_lo x h1, by have := fmod_hi x h1; omega⟩
      cases hn : ns with
      | nil =>
        refine iteF ?_
        refine ⟨_, rfl, _, rfl, p, _, 0, _, rfl, rfl, SqL.of hp2, i0, L, _, rfl, .inl (SqL.of hL2), _, _, rfl, rfl, _, rfl, ite2 (fun e1 => ?_) (fun e1 => ?_)⟩
        · refine ⟨_, rfl, _, rfl, _, _, rfl, rfl, ⟨by decide, by decide, by decide⟩, _, _, rfl, rfl, _, rfl, ite2 (fun e2 => ?_) (fun e2 => ?_)⟩
          · refine ⟨_, rfl, _, rfl, _, _, rfl, rfl, ⟨by decide, by decide, by decide⟩, _, _, rfl, rfl, _, _, rfl, rfl, .inl ⟨by decide, by decide⟩, _, rfl, _, _, rfl, rfl, .inr ⟨_, rfl, _, _, rfl, rfl, ?_⟩⟩
            refine ⟨_, rfl, .inl ⟨_, rfl, _, rfl, _, _, rfl, rfl, divW hm hm2, _, rfl, p, _, _, 2, rfl, rfl, hp2, rfl, ?_⟩⟩
            refine ⟨_, rfl, .inl ⟨_, rfl, _, rfl, _, _, rfl, rfl, (by omega), ?_⟩⟩
            refine k _ _ (b2.trans But.upd_at) ⟨_, tn + 1, _, upd_same, by rw [upd_ne Lp]; exact hL2, Lp, hlen, by omega, by omega, ediv_lo hm ?_⟩ (fmod_lo _ hm) (fmod_hi _ hm)
            have e3 := of_decide_eq_true e2
            exact great_nn e3 _
          · skip
            refine ⟨_, rfl, .inl ⟨_, rfl, _, _, rfl, rfl, nz (by decide), _, rfl, _, _, rfl, rfl, .inl ⟨by decide, by decide⟩, _, _, rfl, rfl, _, _, rfl, rfl, _, _, rfl, rfl, ⟨by decide, by decide, bound1 _ (by decide) (by decide) (by decide) (by decide) t0 ht⟩, .inl ⟨_, rfl, _, _, rfl, rfl, nz (by decide), ?_⟩⟩⟩
            refine ⟨_, rfl, _, rfl, _, _, rfl, rfl, .inl ⟨by decide, by decide⟩, _, _, rfl, rfl, _, _, rfl, rfl, .inl ?_, _, rfl, _, _, rfl, rfl, .inl ⟨by decide, by decide⟩, _, rfl, _, _, rfl, rfl, .inl ?_, _, _, rfl, rfl, _, _, rfl, rfl, _, _, rfl, rfl, ⟨by decide, by decide, ?_⟩, .inl ⟨_, rfl, _, _, rfl, rfl, nz (by decide), ?_⟩⟩
            · exact lt64 (hq (by decide) (by decide))
            · exact ⟨by omega, by omega⟩
            · exact bound2 (hq (by decide) (by decide)) (by decide) (by decide) (by decide) t0 ht
            · refine ⟨_, rfl, _, _, rfl, rfl, ⟨by decide, by decide⟩, .inl ⟨_, rfl, _, rfl, _, _, rfl, rfl, (by omega), ?_⟩⟩
              exact k _ _ b2 (fin _ hp2 hL2 b2) (fmod_lo _ hm) (fmod_hi _ hm)
        · skip
          refine ⟨_, rfl, .inl ⟨_, rfl, _, _, rfl, rfl, nz (by decide), _, rfl, _, _, rfl, rfl, .inl ⟨by decide, by decide⟩, _, _, rfl, rfl, _, _, rfl, rfl, _, _, rfl, rfl, ⟨by decide, by decide, bound1 _ (by decide) (by decide) (by decide) (by decide) t0 ht⟩, .inl ⟨_, rfl, _, _, rfl, rfl, nz (by decide), ?_⟩⟩⟩
          refine ⟨_, rfl, _, rfl, _, _, rfl, rfl, .inl ⟨by decide, by decide⟩, _, _, rfl, rfl, _, _, rfl, rfl, .inl ?_, _, rfl, _, _, rfl, rfl, .inl ⟨by decide, by decide⟩, _, rfl, _, _, rfl, rfl, .inl ?_, _, _, rfl, rfl, _, _, rfl, rfl, _, _, rfl, rfl, ⟨by decide, by decide, ?_⟩, .inl ⟨_, rfl, _, _, rfl, rfl, nz (by decide), ?_⟩⟩
          · exact lt64 (hq (by decide) (by decide))
          · exact ⟨by omega, by omega⟩
          · exact bound2 (hq (by decide) (by decide)) (by decide) (by decide) (by decide) t0 ht
          · refine ⟨_, rfl, _, _, rfl, rfl, ⟨by decide, by decide⟩, .inl ⟨_, rfl, _, rfl, _, _, rfl, rfl, (by omega), ?_⟩⟩
            exact k _ _ b2 (fin _ hp2 hL2 b2) (fmod_lo _ hm) (fmod_hi _ hm)
      | cons n0 nr =>
        refine iteT ?_
        obtain ⟨c, hc⟩ := cell_at (ns := ns) (by rw [hn]; exact List.cons_ne_nil _ _) tn
        refine ⟨_, rfl, p, _, 0, _, rfl, rfl, SqL.of hp2, i0, _, rfl, .inl ⟨_, rfl, _, rfl, p, _, 0, _, rfl, rfl, SqL.of hp2, i0, L, _, rfl, .inl (SqL.of hL2), _, _, rfl, rfl, (by rw [List.length_map, hn, List.length_cons]; omega), L, _, _, _, rfl, rfl, SqL.of hL2, hc, ?_⟩⟩
        refine ⟨_, rfl, _, rfl, p, _, 0, _, rfl, rfl, SqL.of hp2, i0, L, _, rfl, .inl (SqL.of hL2), _, _, rfl, rfl, _, rfl, ite2 (fun e1 => ?_) (fun e1 => ?_)⟩
        · refine ⟨_, rfl, _, rfl, _, _, rfl, rfl, ⟨by decide, by decide, by decide⟩, _, _, rfl, rfl, _, rfl, ite2 (fun e2 => ?_) (fun e2 => ?_)⟩
          · refine ⟨_, rfl, _, rfl, _, _, rfl, rfl, ⟨by decide, by decide, by decide⟩, _, _, rfl, rfl, _, _, rfl, rfl, .inl ⟨by decide, by decide⟩, _, rfl, _, _, rfl, rfl, .inr ⟨_, rfl, _, _, rfl, rfl, ?_⟩⟩
            refine ⟨_, rfl, .inl ⟨_, rfl, _, rfl, _, _, rfl, rfl, divW hm hm2, _, rfl, p, _, _, 2, rfl, rfl, hp2, rfl, ?_⟩⟩
            refine ⟨_, rfl, .inl ⟨_, rfl, _, rfl, _, _, rfl, rfl, (by omega), ?_⟩⟩
            refine k _ _ (b2.trans But.upd_at) ⟨_, tn + 1, _, upd_same, by rw [upd_ne Lp]; exact hL2, Lp, hlen, by omega, by omega, ediv_lo hm ?_⟩ (fmod_lo _ hm) (fmod_hi _ hm)
            have e3 := of_decide_eq_true e2
            exact great_nn e3 _
          · skip
            refine ⟨_, rfl, .inl ⟨_, rfl, _, _, rfl, rfl, nz (by decide), _, rfl, _, _, rfl, rfl, .inl ⟨by decide, by decide⟩, _, _, rfl, rfl, _, _, rfl, rfl, _, _, rfl, rfl, ⟨by decide, by decide, bound1 _ (by decide) (by decide) (by decide) (by decide) t0 ht⟩, .inl ⟨_, rfl, _, _, rfl, rfl, nz (by decide), ?_⟩⟩⟩
            refine ⟨_, rfl, _, rfl, _, _, rfl, rfl, .inl ⟨by decide, by decide⟩, _, _, rfl, rfl, _, _, rfl, rfl, .inl ?_, _, rfl, _, _, rfl, rfl, .inl ⟨by decide, by decide⟩, _, rfl, _, _, rfl, rfl, .inl ?_, _, _, rfl, rfl, _, _, rfl, rfl, _, _, rfl, rfl, ⟨by decide, by decide, ?_⟩, .inl ⟨_, rfl, _, _, rfl, rfl, nz (by decide), ?_⟩⟩
            · exact lt64 (hq (by decide) (by decide))
            · exact ⟨by omega, by omega⟩
            · exact bound2 (hq (by decide) (by decide)) (by decide) (by decide) (by decide) t0 ht
            · refine ⟨_, rfl, _, _, rfl, rfl, ⟨by decide, by decide⟩, .inl ⟨_, rfl, _, rfl, _, _, rfl, rfl, (by omega), ?_⟩⟩
              exact k _ _ b2 (fin _ hp2 hL2 b2) (fmod_lo _ hm) (fmod_hi _ hm)
        · skip
          refine ⟨_, rfl, .inl ⟨_, rfl, _, _, rfl, rfl, nz (by decide), _, rfl, _, _, rfl, rfl, .inl ⟨by decide, by decide⟩, _, _, rfl, rfl, _, _, rfl, rfl, _, _, rfl, rfl, ⟨by decide, by decide, bound1 _ (by decide) (by decide) (by decide) (by decide) t0 ht⟩, .inl ⟨_, rfl, _, _, rfl, rfl, nz (by decide), ?_⟩⟩⟩
          refine ⟨_, rfl, _, rfl, _, _, rfl, rfl, .inl ⟨by decide, by decide⟩, _, _, rfl, rfl, _, _, rfl, rfl, .inl ?_, _, rfl, _, _, rfl, rfl, .inl ⟨by decide, by decide⟩, _, rfl, _, _, rfl, rfl, .inl ?_, _, _, rfl, rfl, _, _, rfl, rfl, _, _, rfl, rfl, ⟨by decide, by decide, ?_⟩, .inl ⟨_, rfl, _, _, rfl, rfl, nz (by decide), ?_⟩⟩
          · exact lt64 (hq (by decide) (by decide))
          · exact ⟨by omega, by omega⟩
          · exact bound2 (hq (by decide) (by decide)) (by decide) (by decide) (by decide) t0 ht
          · refine ⟨_, rfl, _, _, rfl, rfl, ⟨by decide, by decide⟩, .inl ⟨_, rfl, _, rfl, _, _, rfl, rfl, (by omega), ?_⟩⟩
            exact k _ _ b2 (fin _ hp2 hL2 b2) (fmod_lo _ hm) (fmod_hi _ hm)
end
end Ev
namespace Ev
open PySem L2
abbrev sPen : Stmt := top 27
abbrev sPick : Stmt := top 29
abbrev sValue : Stmt := top 30
abbrev sSigns : Stmt := top 31
abbrev sPlaced : Stmt := top 32
abbrev sNamed : Stmt := top 33
abbrev sPairs : Stmt := top 34
abbrev sLaw : Stmt := top 35
/-- a def that stands under its name -/
structure Df (P : Program) (w : World) (K : PySem.W.Frag) (mg : Str → Option Value) (base : Heap) (k : Nat) (x : Str) (ps : List Str) (sp : Sp) : Prop where
  ex : ∃ (f : Addr) (fd : FuncData), FnOk P w K mg base CX0 k f fd ps sp ∧ mg x = some (.ref f) ∧ PySem.W.keepIn K (.ref f) = true ∧ Binds K fd ps []
end Ev
namespace Ev
open PySem L2 PySem.Spec PyProof.Rows
abbrev sKept : Stmt := top 1
abbrev sParts : Stmt := top 4
theorem same_new {H : Hp} {q : Addr} {o : HO} (n : H q = none) : Same H (upd H q o) := fun b u e => by rw [upd_ne (ne_of_none e n)]; exact e
section
variable {X : Cx}
theorem pe_never {e : Expr} : PE X e (fun _ _ _ => False) := ⟨fun _ _ _ _ _ _ h => h.elim⟩
end
/-- v is a value of the built-in type T, one that holds nothing -/
structure Flat (v : V) (T : String) : Prop where
  ty : ∀ (K : PySem.W.Frag) (H : Hp), TyX K H v (.type T)
  l : kitB T "list" = some false
  t : kitB T "tuple" = some false
  d : kitB T "dict" = some false
theorem flat_int (i : Int) : Flat (.int i) "int" := ⟨fun _ _ => .base (.int i), by decide +kernel, by decide +kernel, by decide +kernel⟩
theorem flat_str (x : Str) : Flat (.str x) "str" := ⟨fun _ _ => .base (.str x), by decide +kernel, by decide +kernel, by decide +kernel⟩
theorem kit2 {K : PySem.W.Frag} {T a b : String} (h1 : kitB T a = some false) (h2 : kitB T b = some false) : PySem.W.kitAny K (.type T) [.type a, .type b] = some false :=
  kitAny_cons (kit_ty h1) (fun _ => kitAny_cons (kit_ty h2) (fun _ => kitAny_nil) (fun z => by cases z)) (fun z => by cases z)
def spParts : Sp := fun vs H Q _ => ∃ (v : V) (T : String), vs = [v] ∧ Flat v T ∧ ∀ (p : Addr) (H' : Hp), H p = none → Same H H' → H' p = some (.lst []) → Q (.ref p) H'
def spKept : Sp := fun vs H Q _ => ∃ (v : V) (T : String), vs = [v] ∧ Flat v T ∧ ∀ (H' : Hp), Same H H' → Q v H'
section
variable {P : Program} {w : World} {K : PySem.W.Frag} {mg : Str → Option Value} {base : Heap}
theorem scParts : FnScope ["value"] ["value"] (defScope sParts) := ⟨rfl, rfl, rfl, by decide +kernel, rfl, by decide +kernel, by decide +kernel⟩
theorem ok_parts {f : Addr} {fd : FuncData} (F : Fun K "parts_of" "parts_of" sParts f fd) (T : Blt mg) (md : mg "dict" = none) : FnOk P w K mg base CX0 1 f fd ["value"] spParts := by
  refine F.ok scParts (fun vs H Q E h => ?_) (fun cdv A outer s H vs Q E hr h => ?_)
  · obtain ⟨v, TT, rfl, _⟩ := h
    rfl
  · obtain ⟨v, TT, rfl, fl, kk⟩ := h
    refine ⟨_, pss_cons (ps_if (pt_val (pe_callB call_isiT (by rfl) T.isi (by decide +kernel) (pa_cons (pv 0) (pa_cons (pe_tup (pa_cons (pe_bltn (v := .ty "list") (by rfl) T.list (by decide +kernel) rfl) (pa_cons (pe_bltn (v := .ty "tuple") (by rfl) T.tuple (by decide +kernel) rfl) pa_nil))) pa_nil)))) (pss_one ps_never) pss_nil)
      (pss_one (ps_ret (pe_ifExp (pt_val (pe_callB call_isi (by rfl) T.isi (by decide +kernel) (pa_cons (pv 0) (pa_cons (pe_bltn (v := .ty "dict") (by rfl) md (by decide +kernel) rfl) pa_nil)))) pe_never (pe_lst pa_nil)))), ?_⟩
    refine ⟨_, rfl, (by show 2 ≤ sizeLine; decide), fun tp ntp => ⟨v, tp, _, _, _, false, rfl, upd_same, .cons (.ty _) (.cons (.ty _) .nil), fl.ty _ _, kit2 fl.l fl.t, _, rfl, iteF ?_⟩⟩
    refine ⟨_, rfl, v, _, _, _, false, rfl, .ty _, fl.ty _ _, kit_ty fl.d, _, rfl, iteF ⟨(by show 0 ≤ sizeLine; decide), fun p np => ?_⟩⟩
    refine kk p _ ?_ (fun b o e => ?_) upd_same
    · cases e : H p with
      | none => rfl
      | some o => rw [upd_ne (ne_of_none e ntp), e] at np; cases np
    · have e1 : upd H tp (.tup [.ty "list", .ty "tuple"]) b = some o := by rw [upd_ne (ne_of_none e ntp)]; exact e
      rw [upd_ne (ne_of_none e1 np)]; exact e1
theorem kit3 {K : PySem.W.Frag} {T a b c : String} (h1 : kitB T a = some false) (h2 : kitB T b = some false) (h3 : kitB T c = some false) : PySem.W.kitAny K (.type T) [.type a, .type b, .type c] = some false :=
  kitAny_cons (kit_ty h1) (fun _ => kitAny_cons (kit_ty h2) (fun _ => kitAny_cons (kit_ty h3) (fun _ => kitAny_nil) (fun z => by cases z)) (fun z => by cases z)) (fun z => by cases z)
theorem scKept : FnScope ["value"] ["value"] (defScope sKept) := ⟨rfl, rfl, rfl, by decide +kernel, rfl, by decide +kernel, by decide +kernel⟩
theorem ok_kept {f : Addr} {fd : FuncData} (F : Fun K "kept" "kept" sKept f fd) (T : Blt mg) (md : mg "dict" = none) (ma : mg "any" = none) (D : Df P w K mg base 1 "parts_of" ["value"] spParts) : FnOk P w K mg base CX0 2 f fd ["value"] spKept := by
  refine F.ok scKept (fun vs H Q E h => ?_) (fun cdv A outer s H vs Q E hr h => ?_)
  · obtain ⟨v, TT, rfl, _⟩ := h
    rfl
  · obtain ⟨v, TT, rfl, fl, kk⟩ := h
    refine ⟨_, pss_cons (ps_if (pt_not (pt_val (pe_callB call_isiT (by rfl) T.isi (by decide +kernel) (pa_cons (pv 0) (pa_cons (pe_tup (pa_cons (pe_bltn (v := .ty "list") (by rfl) T.list (by decide +kernel) rfl) (pa_cons (pe_bltn (v := .ty "tuple") (by rfl) T.tuple (by decide +kernel) rfl) (pa_cons (pe_bltn (v := .ty "dict") (by rfl) md (by decide +kernel) rfl) pa_nil)))) pa_nil))))) (pss_one (ps_ret (pv 0))) pss_nil)
      (pss_cons ps_never (pss_one ps_never)), ?_⟩
    refine ⟨_, rfl, (by show 3 ≤ sizeLine; decide), fun tp ntp => ⟨v, tp, _, _, _, false, rfl, upd_same, .cons (.ty _) (.cons (.ty _) (.cons (.ty _) .nil)), fl.ty _ _, kit3 fl.l fl.t fl.d, _, rfl, iteT ⟨_, rfl, ?_⟩⟩⟩
    exact kk _ (fun b u e => by rw [upd_ne (ne_of_none e ntp)]; exact e)
end
end Ev
namespace Ev
open PySem L2 PySem.Spec PyProof.Rows
/-! Promises of defs that are called while no repr is under way (so what they make can be shown). -/
structure FnG (P : Program) (w : World) (K : PySem.W.Frag) (mg : Str → Option Value) (base : Heap) (k : Nat) (f : Addr)
    (fd : FuncData) (ps : List Str) (sp : Sp) : Prop where
  many : ∀ vs H Q E, sp vs H Q E → vs.length = ps.length
  goes : ∀ (A : Around) (above : List Env) (s : Shared) (H : Hp) (args : Args) (us : List Value) (vs : List V) (Q : VK)
    (E : XK), Room k A → A.guards = some [] → Env0 P w K mg base A above s H → BindsTo s fd args (ps.zip us) → Vals vs us →
    sp vs H Q E → codeAny (model P w) A (.call (.ref f) args) (CR CX0 above P w H s Q E) s
theorem FnG.of {P : Program} {w : World} {K : PySem.W.Frag} {mg : Str → Option Value} {base : Heap} {k : Nat} {f : Addr}
    {fd : FuncData} {ps : List Str} {sp : Sp} (F : FnOk P w K mg base CX0 k f fd ps sp) : FnG P w K mg base k f fd ps sp :=
  ⟨F.len, fun A above s H args us vs Q E hr _ => F.run A above s H args us vs Q E hr⟩
section
variable {P : Program} {w : World} {K : PySem.W.Frag} {mg : Str → Option Value} {base : Heap}
/-- a def by its body, where no repr is under way -/
theorem fng_code {x qual : Str} {st : Stmt} {f : Addr} {fd : FuncData} {N ps : List Str} {k : Nat} {sp : Sp} (F : Fun K x qual st f fd)
    (S : FnScope N ps (defScope st)) (many : ∀ vs H Q E, sp vs H Q E → vs.length = ps.length)
    (body : ∀ (cdv : Value), fd.code = cdv → ∀ (A : Around) (above : List Env) (s : Shared) (H : Hp) (vs : List V) (Q : VK) (E : XK),
      Room k (A.deeper (envOfC qual (defScope st) s.heap.objs.size f cdv)) → A.guards = some [] → sp vs H Q E →
      ∃ t, PSs (cxOf CX0 P w K mg base N qual (defScope st) f cdv A above s H E).nox (defBody st) t ∧
        t { nx := fun _ H' => Q .non H', rt := Q } (start N vs) H) : FnG P w K mg base (k + 1) f fd ps sp := by
  obtain ⟨oc, od, kV, doc, pm, an, cdv, ct, osl, rfl, lk, hcd⟩ := F.ex
  constructor
  · exact many
  · intro A above s H args us vs Q E room gd env bt rv hs
    have inK : K.In s.heap := env.mod.kin.keeps fun b o e => (env.bs b o e).1
    have noLim : s.heap.NoLimit := env.mod.nolimit.keeps fun b o e => (env.bs b o e).1
    have kinds : ∀ y ∈ ps.zip us, (defScope st).names.lookup y.1 = some .local ∨
        ((defScope st).names.lookup y.1 = some .cell ∧ ((cellsFrom (s.heap.objs.size + 1) (defScope st).names []).lookup y.1).isSome = true) := by
      rintro ⟨n, v⟩ hy
      cases S.par n (List.of_mem_zip hy).1 with
      | inl q => exact .inl q
      | inr q => exact .inr ⟨q, PySem.W.cellsFrom_some _ _ _ (.inl q)⟩
    refine codeAny_call_function room.depth (inK _ _ lk) rfl S.co S.gen rfl (PySem.W.codeRec_of inK hcd) (bt _ _ _ _ ?_)
    refine wpAny_newFunctionEnv_cells S.kind kinds fun e2 he s2 x => ?_
    subst he
    refine ⟨noLim.keeps x.toInCall.keep, codeAny_func ?_⟩
    obtain ⟨t, ht, hq⟩ := body cdv rfl A above s H vs Q E (room.deeper _) gd hs
    have inv := inv_start (CX := CX0) (E := E) S room.hd env (many _ _ _ _ hs) rv x
    refine wpAny_mono (ht.nox.run [] s2 (start N vs) H _ inv hq) (fun fl s3 h3 => ?_) fun e s3 h3 => h3
    cases fl with
    | ret u =>
      obtain ⟨v, σ3, H3, J, rr, q⟩ := h3
      exact ⟨v, H3, J.os, J.bare, J.base, J.hok, rr, q⟩
    | next =>
      obtain ⟨σ3, H3, J, q⟩ := h3
      exact ⟨.non, H3, J.os, J.bare, J.base, J.hok, rfl, q⟩
    | brk =>
      obtain ⟨_, _, _, z⟩ := h3
      exact False.elim z
    | cont =>
      obtain ⟨_, _, _, z⟩ := h3
      exact False.elim z
theorem fng_of {x qual : Str} {st : Stmt} {f : Addr} {fd : FuncData} {N ps : List Str} {k : Nat} {sp : Sp} (F : Fun K x qual st f fd)
    (S : FnScope N ps (defScope st)) (many : ∀ vs H Q E, sp vs H Q E → vs.length = ps.length)
    (body : ∀ (cdv : Value) (A : Around) (above : List Env) (s : Shared) (H : Hp) (vs : List V) (Q : VK) (E : XK),
      Room k (A.deeper (envOfC qual (defScope st) s.heap.objs.size f cdv)) → A.guards = some [] → sp vs H Q E →
      ∃ t, PSs (cxOf CX0 P w K mg base N qual (defScope st) f cdv A above s H E).nox (defBody st) t ∧
        t { nx := fun _ H' => Q .non H', rt := Q } (start N vs) H) : FnG P w K mg base (k + 1) f fd ps sp :=
  fng_code F S many fun cdv _ => body cdv
end
section
variable {X : Cx}
/-- f(e, ..) of such a def -/
theorem pe_callG {k : Nat} {f : Addr} {fd : FuncData} {ps : List Str} {sp : Sp} {E : XK} {x : Str} {p pos : Pos} {e : Expr} {es : List Expr} {t : TA}
    (F : FnG X.prog X.w X.K X.mg X.base k f fd ps sp) (room : Room k X.A) (gd : X.A.guards = some []) (hg : Gl X x)
    (hm : X.mg x = some (.ref f)) (kp : PySem.W.keepIn X.K (.ref f) = true) (hb : Binds X.K fd ps []) (ha : PA X (e :: es) t)
    (hdb : (x == ("__debug__" : Str)) = false := by decide)
    (he : starEach (e :: es) X.env = (false, eval e X.env) :: starEach es X.env := by rfl)
    (hpl : (backTo pos (starEach es X.env)).any (·.1) = false := by rfl) :
    PE X (.Call (.Name x p) (e :: es) [] pos) (tCall sp [] E t) := by
  constructor
  intro pins s σ H Q I h
  refine wpAny_Call_Name_kw (ld_glob I hg hm ?_ hdb)
  refine PySem.W.callWith_K (h₀ := X.base) I.ok.mod.kin kp (thn (ha.run pos pins s σ H _ I h) fun us s1 d => ?_) he hpl
  obtain ⟨vs, H1, I1, rv, q⟩ := d
  refine ⟨I1.kIn, ?_⟩
  have q : sp vs H1 Q E := by
    have q' : sp (vs ++ []) H1 Q E := q
    rw [List.append_nil] at q'
    exact q'
  have hl : us.length = ps.length := rv.length.symm.trans (F.many _ _ _ _ q)
  have bt := hb s1 us I1.kIn (by rw [List.append_nil]; exact hl)
  rw [List.append_nil] at bt
  refine wpAny_call (codeAny_mono (F.goes X.A X.stack s1 H1 ⟨us, []⟩ us vs Q E room gd I1.env0 bt rv q) fun r s2 h2 => ?_)
  cases r with
  | error e => exact False.elim h2
  | ok fl =>
    cases fl with
    | ret u => exact I1.after h2
    | next => exact False.elim h2
    | brk => exact False.elim h2
    | cont => exact False.elim h2
/-- repr of data, where none is under way -/
def rRepr (K : PySem.W.Frag) : List V → Hp → VK → Prop := fun xs H Q => ∃ (a : Addr) (d : PyData), xs = [.ref a] ∧ Dp K H (.ref a) d ∧
  d.showable = true ∧ d.hasDict = false ∧ d.depth ≤ 32 ∧ d.shown.length ≤ sizeLine ∧ Q (.str d.shown) H
theorem call_repr (gd : X.A.guards = some []) (hu : X.A.units + 64 < cLine) : CallR X (.builtin "repr") (rRepr X.K) := by
  intro pins s σ H xs us Q I r h
  obtain ⟨a, d, rfl, hd, h1, h2, h3, h4, q⟩ := h
  cases r with
  | cons r1 r2 =>
    cases r2
    cases r1
    obtain ⟨as, rd⟩ := Dp.reads I d (.ref a) (.ref a) hd rfl
    exact repr_of_reads' rd h1 (fun z => by rw [h2] at z; cases z) gd (by omega) (fun _ _ e => e)
      (fun h' u tk hk => ⟨.str d.shown, H, I.kept hk, ⟨u, rfl⟩, q⟩) h4
end
/-! ### the law's own call -/
section
variable {P : Program} {w : World} {K : PySem.W.Frag} {mg mb : Str → Option Value}
theorem law_callG {k : Nat} {fa a : Addr} {fd : FuncData} {x : Str} {sp : Sp} {s : Shared} {vs : List Value} {ns : List Int}
    (inK : K.In s.heap) (ns1 : s.heap.Ns mainGlobals mg) (ns2 : s.heap.Ns builtinsNs mb) (blt : ∀ x : Str, x ≠ "__name__" → mb x = bootBuiltins x)
    (noLim : s.heap.NoLimit) (hg : s.gens = #[]) (ha : s.heap.get? a = some { cls := .type "list", data := .seq vs.toArray })
    (hi : IntsAre vs ns) (hl : ns.length ≤ sizeLine) (hr : Room k callerA)
    (F : ∀ base : Heap, K.In base → base.Ns mainGlobals mg → FnG P w K mg base k fa fd [x] sp)
    (bt : ∀ (s : Shared) (u : Value), BindsTo s fd ⟨[u], []⟩ [(x, u)])
    (hsp : ∀ H : Hp, SqL K H a (ns.map V.int) → sp [.ref a] H (fun v _ => v = .bl true) fun _ _ _ => False) :
    codeAny (model P w) callerA (.call (.ref fa) ⟨[.ref a], []⟩)
      (fun r s' => r = .ok (.ret (.bool true)) ∧ OldK s.heap s'.heap ∧ s'.os = s.os ∧ AllBare s'.gens) s := by
  have rv := vals_ints hi
  have lv := hi.length
  have key : ∀ H : Hp, (∀ b u, H b = some u → b = a ∧ K.lookup a = none ∧ u = .frz { cls := .type "list", data := .seq vs.toArray } (.lst (ns.map V.int))) →
      SqL K H a (ns.map V.int) → codeAny (model P w) callerA (.call (.ref fa) ⟨[.ref a], []⟩)
        (fun r s' => r = .ok (.ret (.bool true)) ∧ OldK s.heap s'.heap ∧ s'.os = s.os ∧ AllBare s'.gens) s := by
    intro H only sq
    have ok : HOk P w H s.heap := by
      intro b u e
      obtain ⟨rfl, _, rfl⟩ := only b u e
      exact ⟨ha, by rw [List.length_map]; exact hl, vs, _, rv, ha⟩
    have plain : ∀ {b : Addr} {o : Obj} {es : Array DictEntry} {n : Nat}, s.heap.get? b = some o → o.data = .dict es n → H b = none := by
      intro b o es n e d
      cases q : H b with
      | none => rfl
      | some u =>
        obtain ⟨rfl, _, _⟩ := only b u q
        rw [ha] at e
        cases e
        exact nomatch d
    have names : ∀ {b : Addr} {m : Str → Option Value}, s.heap.Ns b m → (hidT s.heap H).Ns b m := by
      rintro b m ⟨o, es, n, e, d, r⟩
      exact ⟨o, es, n, hidT_get e (plain e d), d, r⟩
    have inB : K.In (hidT s.heap H) := by
      intro b o e
      refine hidT_get (inK b o e) ?_
      cases q : H b with
      | none => rfl
      | some u =>
        obtain ⟨rfl, n, _⟩ := only b u q
        rw [n] at e
        cases e
    obtain ⟨mc, l1, l2⟩ := noLim
    have md : Mod K mg (hidT s.heap H) := ⟨inB, names ns1, ⟨mb, names ns2, blt⟩, ⟨mc, names l1, l2⟩⟩
    have env : Env0 P w K mg (hidT s.heap H) callerA [] s H :=
      ⟨rfl, md, fun b o e => of_hidT e, Nat.le_of_eq (hidT_size _ _), trivial, (fun b hb => by cases hb), ok, .of_eq hg⟩
    have go := (F _ inB (names ns1)).goes callerA [] s H ⟨[.ref a], []⟩ [.ref a] [.ref a] _ _ hr rfl env (bt s (.ref a)) (.cons rfl .nil) (hsp H sq)
    refine codeAny_mono go fun r s2 h2 => ?_
    cases r with
    | error e => exact False.elim h2
    | ok fl =>
      cases fl with
      | next => exact False.elim h2
      | brk => exact False.elim h2
      | cont => exact False.elim h2
      | ret u =>
        obtain ⟨v, H2, os, bare, un, ok2, rr, q⟩ := h2
        obtain rfl : v = V.bl true := q
        obtain rfl : u = Value.bool true := rr
        refine ⟨rfl, OldK.of_keep fun b o e => ?_, os, bare⟩
        cases q : H b with
        | none => exact un.keep b o e q (by intro z; cases z) (by simp)
        | some u =>
          obtain ⟨rfl, _, rfl⟩ := only b u q
          obtain ⟨e1, _⟩ := ok b _ q
          obtain ⟨e2, _⟩ := ok2 b _ (un.frzs b _ _ q)
          rw [e] at e1
          cases e1
          exact e2
  cases hk : K.lookup a with
  | none =>
    refine key (fun b => if b = a then some (.frz { cls := .type "list", data := .seq vs.toArray } (.lst (ns.map V.int))) else none) (fun b u e => ?_) (.inl (.inr ⟨_, if_pos rfl⟩))
    by_cases z : b = a
    · rw [if_pos z] at e
      cases e
      exact ⟨z, hk, rfl⟩
    · rw [if_neg z] at e
      cases e
  | some o =>
    have e := inK a o hk
    rw [ha] at e
    cases e
    refine key (fun _ => none) (fun b u e => by cases e) (.inr ⟨_, vs.toArray, _, hk, rfl, rfl, rfl, ?_, by simpa using rv⟩)
    rw [List.size_toArray, lv]
    exact hl
end
theorem walk_ofG {l : PySem.W.OpenLaw} {n k : Nat} {q : Program} {loose : List Str} {XP : (Str → Option Value) → Heap → Prop} {YP : World → Heap → Prop}
    {d : DefRec} {K : Params → PySem.W.Frag} {sp : World → Sp} {x : Str} (hn : l.most = some n) (hn2 : n ≤ sizeLine) (hdf : d.params.defaults = [])
    (hr : Room k callerA) (hY : ∀ (w : World) (h : Heap), YP w h → (K w.params).In h)
    (F : ∀ (w : World) (mg : Str → Option Value) (fa : Addr) (h : Heap), (K w.params).In h → h.Ns mainGlobals mg → mg d.name = some (.ref fa) →
      ∃ fd : FuncData, (∀ (s : Shared) (u : Value), BindsTo s fd ⟨[u], []⟩ [(x, u)]) ∧
        ∀ base : Heap, (K w.params).In base → base.Ns mainGlobals mg → FnG l.prog w (K w.params) mg base k fa fd [x] (sp w))
    (hsp : ∀ (w : World) (H : Hp) (a : Addr) (ns : List Int), ns.length ≤ n → SqL (K w.params) H a (ns.map V.int) → sp w [.ref a] H (fun v _ => v = .bl true) fun _ _ _ => False) :
    PySem.W.WalkO q loose XP YP l.row.toRowW d [] (fun f vs => PySem.call f vs) := by
  refine Att.attach_call hn hdf fun w s0 s1 mg mb fa o pm cd doc a vs ns G Y h1 h2 h3 h4 h5 h6 h7 h8 => ?_
  obtain ⟨fd, bt, hF⟩ := F w mg fa _ (hY w _ Y) G.T.g h4
  exact law_callG (hY w _ Y) G.T.g G.T.b G.T.builtins G.T.nolimit h8 h5 h6 (Nat.le_trans h7 hn2) hr hF bt (fun H sq => hsp w H a ns h7 sq)
end Ev
namespace Ev
open PySem L2 PySem.Spec PyProof.Rows
theorem walk_ofGE {l : PySem.W.OpenLaw} {n k : Nat} {q : Program} {loose : List Str} {XP : (Str → Option Value) → Heap → Prop} {YP : World → Heap → Prop}
    {d : DefRec} {x : Str} (hn : l.most = some n) (hn2 : n ≤ sizeLine) (hdf : d.params.defaults = []) (hr : Room k callerA)
    (F : ∀ (w : World) (mg : Str → Option Value) (fa : Addr) (h : Heap), YP w h → h.Ns mainGlobals mg → mg d.name = some (.ref fa) →
      ∃ (K : PySem.W.Frag) (fd : FuncData) (sp : Sp), K.In h ∧ (∀ (s : Shared) (u : Value), BindsTo s fd ⟨[u], []⟩ [(x, u)]) ∧
        (∀ (H : Hp) (a : Addr) (ns : List Int), ns.length ≤ n → SqL K H a (ns.map V.int) → sp [.ref a] H (fun v _ => v = .bl true) fun _ _ _ => False) ∧
        ∀ base : Heap, K.In base → base.Ns mainGlobals mg → FnG l.prog w K mg base k fa fd [x] sp) :
    PySem.W.WalkO q loose XP YP l.row.toRowW d [] (fun f vs => PySem.call f vs) := by
  refine Att.attach_call hn hdf fun w s0 s1 mg mb fa o pm cd doc a vs ns G Y h1 h2 h3 h4 h5 h6 h7 h8 => ?_
  obtain ⟨K, fd, sp, inK, bt, hsp, hF⟩ := F w mg fa _ Y G.T.g h4
  exact law_callG inK G.T.g G.T.b G.T.builtins G.T.nolimit h8 h5 h6 (Nat.le_trans h7 hn2) hr hF bt (fun H sq => hsp H a ns h7 sq)
end Ev
namespace Ev
open PySem L2 PySem.Spec PyProof.Rows
/-! An error that was caught stays in a local behind its suite: its object is told of from then on. -/
def Held (cls : Value) (d : Option Addr) (a : Addr) : HO := .ext fun h => ∃ oe : Obj, h.get? a = some oe ∧ Zc cls d oe ∧ ∃ vs : Array Value, oe.data = .fields vs
theorem held_ok {P : Program} {w : World} {H : Hp} {h : Heap} {a : Addr} {cls : Value} {d : Option Addr} {oe : Obj}
    (e : h.get? a = some oe) (z : Zc cls d oe) (f : ∃ vs : Array Value, oe.data = .fields vs) : ObjOk P w H h a (Held cls d a) :=
  ⟨⟨oe, e, z, f⟩, ⟨oe, e⟩, fun _ _ t k => by obtain ⟨o, q, r⟩ := t; exact ⟨o, k _ q, r⟩⟩
section
variable {X : Cx} {pins : List (Addr × Obj)} {σ : L2.St} {H : Hp} {s : Shared} {a : Addr} {cls : Value} {d : Option Addr} {oe : Obj}
theorem inv_hold (I : Inv X pins σ H s) (e : s.heap.get? a = some oe) (z : Zc cls d oe) (f : ∃ vs : Array Value, oe.data = .fields vs) (n : H a = none)
    (n0 : X.s_0.heap.get? a = none) (nL : a ≠ X.env.locals) (np : ∀ p ∈ X.pn ++ pins, p.1 ≠ a) : Inv X pins σ (upd H a (Held cls d a)) s := by
  have other : ∀ {b : Addr} {o : HO}, H b = some o → upd H a (Held cls d a) b = some o := fun {b o} q => by rw [upd_ne (ne_of_none q n)]; exact q
  constructor
  · exact I.ok
  · exact I.os
  · exact I.bare
  · constructor
    · exact I.base.keep
    · exact I.base.slot
    · intro b o q1 q2 q3
      have nb : b ≠ a := fun t => by rw [t, n0] at q1; cases q1
      rw [upd_ne nb]; exact I.base.free b o q1 q2 q3
    · exact I.base.there
    · exact fun b xs q => other (I.base.tups b xs q)
    · exact fun b o u q => other (I.base.frzs b o u q)
    · intro b ps q
      obtain ⟨more, t⟩ := I.base.tbls b ps q
      exact ⟨more, other t⟩
  · exact I.loc
  · exact I.cell
  · rw [upd_ne nL.symm]; exact I.free
  · intro x c q
    have nb : c ≠ a := fun t => by
      obtain ⟨v, o, q1, q2⟩ := I.cell x c q
      obtain ⟨vs, q3⟩ := f
      rw [t, e] at q1; cases q1
      rw [q3] at q2; cases q2
    rw [upd_ne nb]; exact I.freeC x c q
  · intro p hp
    obtain ⟨q1, q2, q3⟩ := I.pin p hp
    exact ⟨q1, by rw [upd_ne (np p hp)]; exact q2, q3⟩
  · intro b o q
    by_cases nb : b = a
    · subst nb
      rw [upd_same] at q
      cases q
      exact held_ok e z f
    · rw [upd_ne nb] at q
      exact (I.hok b o q).stay (fun _ _ _ t => t) (fun _ t => other t) (fun _ _ t => other t)
  · exact I.len
end
/-- what the clause wishes: the suite reads the error in slot i; behind it the error is told of, slot i is empty -/
def wHeld (K : PySem.W.Frag) (c : Value) (i : Nat) (ts : Addr → Value → Option Addr → TS) (Wout : WX) (n : Nat) (D : Ends) : WX := fun cls d σ H => σ.length = n →
  ∃ b, PySem.W.exmOne K cls c = some b ∧ (b = false → Wout cls d σ H) ∧ (b = true → ∀ a, H a = none →
    ts a cls d { nx := fun τ G => G a = none → D.nx (τ.set i none) (upd G a (Held cls d a)), rt := fun v G => D.rt v G, bk := fun τ G => D.bk (τ.set i none) G, ct := fun τ G => D.ct (τ.set i none) G } (σ.set i (some (.ref a))) H)
section
variable {X : Cx} {x n : Str} {c : Value} {i : Nat} {body suite : List Stmt} {b₀ : Stmt} {np pos pos' : Pos} {tb : WX → TS} {ts : Addr → Value → Option Addr → TS} {Wout : WX}
theorem ps_try_held (hs : X.stack = X.env :: X.outer) (hf : X.env.frame = some X.env.locals) (hex : X.ex = []) (hN : X.N.Nodup) (hi : X.N[i]? = some n) (hln : X.env.kindOf n = some .local) (hc : Names X x c) (tk : Takes X Wout)
    (hb : ∀ (W : WX) (pn : List (Addr × Obj)) (xe : Value → Shared → Prop), Takes (X.tr pn xe) W → PSs (X.tr pn xe) body (tb W))
    (hsu : ∀ (a : Addr) (oe : Obj) (cls : Value) (d : Option Addr) (pn : List (Addr × Obj)), Zc cls d oe → (∃ vs, oe.data = .fields vs) → PSs (X.suite a ((a, oe) :: pn)) (b₀ :: suite) (ts a cls d)) :
    PS X (.Try body [.ExceptHandler (some (.Name x np)) (some n) (b₀ :: suite) pos'] [] [] pos) (fun D σ H => tb (wHeld X.K c i ts Wout X.N.length D) D σ H) := by
  constructor
  intro pins s σ H D I h
  have ok := I.ok
  have frames : X.A.frames = some (X.env :: X.outer) := by rw [ok.frames, hs]
  have isLoc : Loc X.env.scope n := .inl hln
  let hands : List ExceptHandler := [.ExceptHandler (some (.Name x np)) (some n) (b₀ :: suite) pos']
  let land : Value → Shared → Prop := fun e s1 => wpAny (model X.prog X.w) X.A (noteFrame e X.env) (fun _ s2 => wpAny (model X.prog X.w) X.A (setFlight e none)
    (fun _ s3 => wpAny (model X.prog X.w) X.A (handleBy e X.env hands) (SP X pins D) X.xe s3) X.xe s2) X.xe s1
  have caught : Takes (X.tr (X.pn ++ pins) land) (wHeld X.K c i ts Wout X.N.length D) := by
    rintro u s' ⟨a, B, sI, pins', σ', H', cls, d, rfl, J', nb, up, sky, na, os, ag, wish⟩
    obtain ⟨b, hb1, hno, hyes⟩ := wish J'.len
    have J : Inv X pins σ' H' sI := J'.ofTry ok
    have sky2 : Sky B (X.env :: X.outer) a (Zc cls d) X.env.locals s'.heap := by rw [← hs]; exact sky
    refine Sky.land Zc.steady frames hf sky2 fun h3 fl3 up3 => ?_
    have J3 : Inv X pins σ' H' { s' with heap := h3 } := J.landed nb fl3.1 (up.trans up3) os ag
    obtain ⟨oe3, vs3, he3, hz3, hd3⟩ := fl3.there
    have nfr : a ∉ frs (X.env :: X.outer) := by
      intro hm
      obtain ⟨_, o2, e2, nf⟩ := fl3.2.2.1.mem hm
      rw [he3] at e2; cases e2
      exact nf _ hd3
    have nfr2 : a ∉ frs X.stack := by rw [hs]; exact nfr
    have nL : a ≠ X.env.locals := fun z => nfr (List.mem_filterMap.mpr ⟨_, List.mem_cons_self, by rw [hf, z]⟩)
    have nF : a ∉ X.fs := by
      intro hm
      obtain ⟨e, he, q⟩ := List.mem_filterMap.mp hm
      exact nfr (List.mem_filterMap.mpr ⟨e, List.mem_cons_of_mem _ he, q⟩)
    have nI : sI.heap.get? a = none := by
      cases q : sI.heap.get? a with
      | none => rfl
      | some o =>
        have z := nb a o q nfr2
        rw [fl3.2.1] at z; cases z
    have n0 : X.s_0.heap.get? a = none := by
      cases q : X.s_0.heap.get? a with
      | none => rfl
      | some o =>
        obtain ⟨o2, z⟩ := J.base.there a o q (by rw [hex]; simp)
        rw [nI] at z; cases z
    have npin : ∀ p ∈ X.pn ++ pins, p.1 ≠ a := fun p hp z => by
      have q := (J.pin p hp).1
      rw [z, nI] at q; cases q
    have S3 := J3.suite he3 hd3 na nL nF
    refine wpAny_handleBy_cons (codeAny_handlers_test ?_) (fun q => nomatch q)
    have LT : PySem.W.Looks (model X.prog X.w) h3 (typeOf (.ref a)) cls := by
      intro A Q E s k q
      exact wpAny_typeOf_ref (k _ _ he3) (by rw [hz3.1]; exact q)
    have LM := PySem.W.exm_one (M := model X.prog X.w) J3.kIn LT hb1
    have named : ∀ {Q E : Value → Shared → Prop}, Q c { s' with heap := h3 } → wpAny (model X.prog X.w) (X.A.mark (some (.ref a))) (eval (.Name x np) X.env) Q E { s' with heap := h3 } := by
      intro Q E q
      obtain ⟨g1, g2, g3⟩ := hc
      rcases g3 with m | ⟨m, v, nn⟩
      · exact ld_glob (X := X.suite a ((a, oe3) :: (X.pn ++ pins))) S3 g1 m q g2
      · exact ld_blt (X := X.suite a ((a, oe3) :: (X.pn ++ pins))) S3 g1 m v q nn g2
    refine named (LM.here ?_)
    cases b with
    | false =>
      refine wpAny_handleBy_nil (e := .ref a) (env := X.env) ?_
      obtain ⟨k1, k2, k3, oe, vs, T, oT, ts', he, hz, hd, h1, hr⟩ := id fl3
      unfold PySem.passOn
      refine wpAny_bind (wpAny_field he hd h1 ?_)
      rw [if_neg (by simp : ¬ ((Value.ref T == Value.none) = true))]
      have on : wpAny (model X.prog X.w) X.A (setFlight (.ref a) X.env.frame) (fun _ s4 => wpAny (model X.prog X.w) X.A (throw (.ref a) : Sem Flow) (SP X pins D) X.xe s4) X.xe { s' with heap := h3 } := by
        rw [hf]
        refine HandSPX.setFlight_upZ fl3 fun h4 hh4 up4 => ?_
        refine wpAny_throw (tk _ _ ⟨a, B, sI, pins, σ', H', cls, d, rfl, J, nb, (up.trans up3).trans up4, ?_, na, os, ag, hno rfl⟩)
        rw [hs]; exact .inr (.inr hh4)
      first
        | exact wpAny_bind (wpAny_pure (wpAny_bind on))
        | exact wpAny_bind on
    | true =>
      refine codeAny_handlers_suite_as (HandSPX.lands_againZ fl3 fun h4 fl4 up4 => ?_)
      have J4 : Inv X pins σ' H' { s' with heap := h4 } := J.landed nb fl4.1 ((up.trans up3).trans up4) os ag
      obtain ⟨oe4, vs4, he4, hz4, hd4⟩ := fl4.there
      refine store_ok (X := X.suite a ((a, oe4) :: (X.pn ++ pins))) (v := .ref a) (J4.suite he4 hd4 na nL nF) hN hi isLoc rfl (fun s5 S5 => ?_) (.inr hln)
      have suite := (hsu a oe4 cls d (X.pn ++ pins) hz4 ⟨_, hd4⟩).run [] s5 _ H' _ S5 (hyes rfl a na)
      refine wpAny_mono suite (fun f s6 hsp => ?_) (fun _ _ z => False.elim z)
      have gone : ∀ {τ : L2.St} {G : Hp} {Q : Shared → Prop}, Inv X pins τ G s6 → (∀ s7, Inv X pins (τ.set i none) G s7 → Q s7) →
          wpAny (model X.prog X.w) X.A (do bindName X.env n .none; unbindBehindTheSuite X.env n pos') (fun _ s7 => Q s7) X.xe s6 := by
        intro τ G Q S6 hq
        exact gone_ok S6 hN hi hln hq
      cases f with
      | next =>
        obtain ⟨τ, G, S6, q6⟩ := hsp
        obtain ⟨p1, p2, _⟩ := S6.pin (a, oe4) (List.mem_append_left _ List.mem_cons_self)
        exact gone (inv_hold (S6.unsuite ok) p1 hz4 ⟨_, hd4⟩ p2 n0 nL npin) fun s7 J7 => ⟨_, _, J7, q6 p2⟩
      | brk =>
        obtain ⟨τ, G, S6, q6⟩ := hsp
        exact gone (S6.unsuite ok) fun s7 J7 => ⟨_, _, J7, q6⟩
      | cont =>
        obtain ⟨τ, G, S6, q6⟩ := hsp
        exact gone (S6.unsuite ok) fun s7 J7 => ⟨_, _, J7, q6⟩
      | ret u =>
        obtain ⟨v, τ, G, S6, r6, q6⟩ := hsp
        exact gone (S6.unsuite ok) fun s7 J7 => ⟨_, _, _, J7, r6, q6⟩
  refine wpAny_Try_except (wpAny_mono ((hb _ (X.pn ++ pins) land caught).run [] s σ H D (I.toTry _) h) (fun f s1 hsp => ?_) (fun e s1 he => he))
  cases f with
  | next =>
    obtain ⟨τ, G, J, q⟩ := hsp
    exact wpAny_execs_nil ⟨τ, G, J.ofTry ok, q⟩
  | brk =>
    obtain ⟨τ, G, J, q⟩ := hsp
    exact ⟨τ, G, J.ofTry ok, q⟩
  | cont =>
    obtain ⟨τ, G, J, q⟩ := hsp
    exact ⟨τ, G, J.ofTry ok, q⟩
  | ret u =>
    obtain ⟨v, τ, G, J, r, q⟩ := hsp
    exact ⟨v, τ, G, J.ofTry ok, r, q⟩
end
/-- what the class of such an error says -/
structure HeldC (K : PySem.W.Frag) (C : Addr) : Prop where
  cl : (PySem.W.clsIn K C).isSome = true
  ga : PySem.W.findIn K (.ref C) "__getattribute__" = some (some (.builtin "BaseException.__getattribute__"))
  gg : PySem.W.findIn K (.ref C) "__getattr__" = some none
  ex : PySem.W.subIn K (.ref C) (.type "BaseException") = some true
  hd : PySem.W.hasDictIn K C = true
  ca : PySem.W.findIn K (.ref C) "__class__" = some (some (.builtin "object.__class__"))
  sp : PySem.W.specialIn K (.builtin "object.__class__") "__get__" = some (some (.builtin "getset_descriptor.__get__"))
  tk : PySem.W.takesIn K (.builtin "object.__class__") = some true
  mo : PySem.W.mroIn K C (.type "object") = some true
section
variable {X : Cx}
theorem held_at {pins : List (Addr × Obj)} {σ : L2.St} {H : Hp} {s : Shared} {a : Addr} {cls : Value} {d : Option Addr} (I : Inv X pins σ H s) (e : H a = some (Held cls d a)) :
    ∃ oe : Obj, s.heap.get? a = some oe ∧ Zc cls d oe ∧ ∃ vs : Array Value, oe.data = .fields vs := by
  have x : ObjOk X.prog X.w H s.heap a (.ext fun h => ∃ oe : Obj, h.get? a = some oe ∧ Zc cls d oe ∧ ∃ vs : Array Value, oe.data = .fields vs) := I.hok a _ e
  exact x.1
theorem held_inst {pins : List (Addr × Obj)} {σ : L2.St} {H : Hp} {s : Shared} {a C dd : Addr} {fs : List (Str × V)} (I : Inv X pins σ H s) (e : H a = some (Held (.ref C) (some dd) a)) (ed : H dd = some (.xd fs)) :
    ∃ (oe od : Obj) (mA : Str → Option Value), PySem.W.InstAt s.heap a oe C (some od) ∧ (∀ f, RelO (fs.lookup f) (mA f)) ∧ ∀ n, PySem.W.lookIn n od = some (mA n) := by
  obtain ⟨oe, he, hz, vs, hd⟩ := held_at I e
  obtain ⟨mA, hns, hr⟩ := (show ObjOk X.prog X.w H s.heap dd (.xd fs) from I.hok dd _ ed)
  obtain ⟨od, ho, hl⟩ := lookIn_ns hns
  exact ⟨oe, od, mA, ⟨he, hz.1, by unfold PySem.W.notCls; rw [hd] <;> rfl, by rw [hz.2]; exact ho⟩, hr, hl⟩
/-- isinstance(e, c), e such an error -/
def rIsHeld (K : PySem.W.Frag) : List V → Hp → VK → Prop := fun xs H Q => ∃ (a C dd : Addr) (fs : List (Str × V)) (c : V) (u : Value) (b : Bool),
  xs = [.ref a, c] ∧ H a = some (Held (.ref C) (some dd) a) ∧ H dd = some (.xd fs) ∧ HeldC K C ∧ ClsV c u ∧ PySem.W.kitOne K (.ref C) u = some b ∧ Q (.bl b) H
theorem call_isHeld : CallR X (.builtin "isinstance") (rIsHeld X.K) := by
  intro pins s σ H xs us Q I r h
  obtain ⟨a, C, dd, fs, c, u, b, rfl, ea, ed, T, k, e, q⟩ := h
  obtain ⟨u1, u2, rfl, r1, r2⟩ := vals2 r
  have e2 := k.eq r2
  subst e2
  cases r1
  obtain ⟨oe, od, mA, J, _, _⟩ := held_inst I ea ed
  exact PySem.W.kia_one (PySem.W.kitx_exc T.cl T.ga T.gg T.ex T.ca T.sp T.tk T.mo) I.kIn J e (fun z => nomatch z) fun tk => ⟨.bl b, H, I.tok tk, rfl, q⟩
/-- e.n, e such an error -/
def tHeldFld (K : PySem.W.Frag) (n : Str) (te : TE) : TE := fun σ H Q => te σ H fun x H1 => ∃ (a C dd : Addr) (fs : List (Str × V)) (v : V),
  x = .ref a ∧ H1 a = some (Held (.ref C) (some dd) a) ∧ H1 dd = some (.xd fs) ∧ HeldC K C ∧ PySem.W.findIn K (.ref C) n = some none ∧ fs.lookup n = some v ∧ Q v H1
theorem pe_heldFld {e : Expr} {te : TE} {pos : Pos} {n : Str} (he : PE X e te) (hb : attributeBase e n X.env (eval e X.env) = eval e X.env := by rfl) : PE X (.Attribute e n pos) (tHeldFld X.K n te) := by
  constructor
  intro pins s σ H Q I h
  refine attr_of hb (thn (he.run pins s σ H _ I h) fun u s1 hh => ?_)
  obtain ⟨x, H1, I1, rx, a, C, dd, fs, v, rfl, ea, ed, T, hno, l, q⟩ := hh
  obtain rfl : u = Value.ref a := rx
  obtain ⟨oe, od, mA, J, hr, hl⟩ := held_inst I1 ea ed
  obtain ⟨u, hu, ru⟩ := RelO.some_of (v := v) (o := mA n) (by rw [← l]; exact hr n)
  exact HandSPX.exc_get I1.kIn J T.ga T.gg T.ex (PySem.W.findObj_own T.hd hno rfl (by rw [hl, hu])) (handed_of ru) ⟨v, H1, I1.tok _, ru, q⟩
end
end Ev
namespace Ev
open PySem L2 PySem.Spec PyProof.Rows
abbrev sRebuilt : Stmt := top 5
/-! ### list(d.values()) -/
def tListVals (te : TE) : TE := fun σ H Q => te σ H fun x H1 => ∃ (d : Addr) (kvs : List (Key × V)), x = .ref d ∧ H1 d = some (.dK kvs) ∧ ∀ p, H1 p = none → Q (.ref p) (upd H1 p (.lst (kvs.map (·.2))))
section
variable {X : Cx} {e : Expr} {te : TE} {p apos cpos pos : Pos}
theorem vals_snd : ∀ {kvs : List (Key × V)} {vs : List (Key × Value)}, KV kvs vs → Vals (kvs.map (·.2)) (vs.map (·.2))
  | _, _, .nil => .nil
  | _, _, .cons h t => .cons h.2 (vals_snd t)
theorem pe_listVals (hc : X.calm = true) (he : PE X e te) (hg : Gl X "list") (hm : X.mg "list" = none) (hv : bootBuiltins "list" = some (.type "list")) (hbase : attributeBase e "values" X.env (eval e X.env) = eval e X.env := by rfl) (hline : (apos.endLine == cpos.line) = true := by rfl)
    (hs : starEach [.Call (.Attribute e "values" apos) [] [] cpos] X.env = (false, eval (.Call (.Attribute e "values" apos) [] [] cpos) X.env) :: starEach [] X.env := by rfl) :
    PE X (.Call (.Name "list" p) [.Call (.Attribute e "values" apos) [] [] cpos] [] pos) (tListVals te) := by
  constructor
  intro pins s σ H Q I hq
  refine wpAny_Call_Name_kw (ld_blt I hg hm hv ?_)
  refine PyProof.Rows.callWith_type1 ?_ hs rfl
  rw [hs]
  show wpAny _ _ (spliced ((false, eval (.Call (.Attribute e "values" apos) [] [] cpos) X.env) :: backTo pos (starEach [] X.env))) _ _ s
  refine Calls.spliced_cons ?_
  refine wpAny_Call_method (T := "dict") (id := "dict.values") hbase rfl hline F.plainAttrs_dict F.slot_dict_values F.type_dict_values (thn (he.run pins s σ H _ I hq) fun u s1 hh => ?_)
  obtain ⟨x, H1, I1, rx, d, kvs, rfl, hd, q⟩ := hh
  obtain rfl : u = Value.ref d := rx
  obtain ⟨hz, hs0, vs, kv, hdo⟩ := I1.hok d _ hd
  obtain ⟨ep, hat⟩ := hdo.dictAt
  have lk : kvs.length = vs.length := Paired.length kv
  refine ⟨hdo.typeIs, hdo.mapOf.noDict, ?_⟩
  show wpAny _ _ (callWith cpos (.builtin "dict.values") [.ref d] [] []) _ X.xe s1
  refine method_meetsIn F.slot_dict_values F.entry_dict_values rfl (PySem.evalArgs_none ⟨rfl, hdo.typeIs, F.args_dict_values_1 _, _, meets_dict_values (mixKind X.prog X.w) d hs0, ⟨vs, hdo⟩, ?_⟩)
  refine Calls.spliced_nil ?_
  have I2 : Inv X pins σ H1 { s1 with heap := s1.heap.push { cls := .type "dict_values", data := .fields #[.ref d] } } := I1.kept (t' := s1.toks) fun b ob q => Heap.get?_push_of_some _ q
  refine PySem.W.kdl_call (PySem.W.kdl_values (knd := mixKind X.prog X.w) (kvs := vs) (ep := ep)) (I1.ok.hd hc) ⟨⟨_, Heap.get?_push_size _ rfl, rfl, rfl⟩, hat.push _⟩ (by omega) fun h' tk acc c' hk hD hacc => ?_
  have e2 : acc.toList = vs.map (·.2) := PySem.W.kdl_vals_eq acc.toList (by rw [Array.length_toList]; exact hacc.1) fun j v e => hacc.2 j v (by rw [← Array.getElem?_toList]; exact e)
  refine ⟨.ref _, upd H1 _ (.lst (kvs.map (·.2))), I2.laid (t' := tk) hk (Nat.le_refl _) (show ObjOk X.prog X.w _ _ _ (.lst (kvs.map (·.2))) from ⟨by rw [List.length_map]; exact hz, acc.toList, c', by rw [e2]; exact vals_snd kv, by rw [Array.toArray_toList]; exact hD⟩), rfl, q _ (I2.hok.fresh (Nat.le_refl _))⟩
end
/-! ### what stands in a value -/
def AllFlat (us : List V) : Prop := ∀ u ∈ us, ∃ T, Flat u T
inductive Hold (H : Hp) : V → List V → Bool → Prop
  | flat {v : V} {T : String} : Flat v T → Hold H v [] false
  | tup {a : Addr} {us : List V} : H a = some (.tup us) → AllFlat us → us.length ≤ 900 → Hold H (.ref a) us false
  | lst {a : Addr} {us : List V} : H a = some (.lst us) → AllFlat us → us.length ≤ 900 → Hold H (.ref a) us true
  | dct {a : Addr} {kvs : List (Key × V)} : H a = some (.dK kvs) → AllFlat (kvs.map (·.2)) → kvs.length ≤ 900 → (kvs.map (·.1)).Nodup → Hold H (.ref a) (kvs.map (·.2)) true
/-- the copy of a value -/
inductive Alike (H : Hp) : V → Hp → V → Prop
  | same {v : V} {H' : Hp} : Alike H v H' v
  | lst {a b : Addr} {us : List V} {H' : Hp} : H a = some (.lst us) → H' b = some (.lst us) → Alike H (.ref a) H' (.ref b)
  | dct {a b : Addr} {kvs : List (Key × V)} {H' : Hp} : H a = some (.dK kvs) → H' b = some (.dK kvs) → Alike H (.ref a) H' (.ref b)
theorem Hold.keep {H H' : Hp} {v : V} {us : List V} {b : Bool} (h : Hold H v us b) (k : Same H H') : Hold H' v us b := by
  cases h with
  | flat f => exact .flat f
  | tup e a l => exact .tup (k _ _ e) a l
  | lst e a l => exact .lst (k _ _ e) a l
  | dct e a l n => exact .dct (k _ _ e) a l n
theorem Hold.len {H : Hp} {v : V} {us : List V} {b : Bool} (h : Hold H v us b) : us.length ≤ 900 := by
  cases h with
  | flat f => exact Nat.zero_le _
  | tup e a l => exact l
  | lst e a l => exact l
  | dct e a l n => rw [List.length_map]; exact l
theorem Hold.items {H : Hp} {v : V} {us : List V} {b : Bool} (h : Hold H v us b) : AllFlat us := by
  cases h with
  | flat f => exact fun u z => by cases z
  | tup e a l => exact a
  | lst e a l => exact a
  | dct e a l n => exact a
theorem Hold.ty {H : Hp} {v : V} {us : List V} {b : Bool} (h : Hold H v us b) : ∃ T : String, (∀ (K : PySem.W.Frag) (H' : Hp), Same H H' → TyX K H' v (.type T)) ∧ ∃ b1 b2 b3, kitB T "list" = some b1 ∧ kitB T "tuple" = some b2 ∧ kitB T "dict" = some b3 ∧ b = (b1 || b3) := by
  cases h with
  | @flat v T f => exact ⟨T, fun K H' _ => f.ty K H', false, false, false, f.l, f.t, f.d, rfl⟩
  | tup e a l => exact ⟨"tuple", fun K H' k => .base (.tup (k _ _ e)), false, true, false, by decide +kernel, by decide +kernel, by decide +kernel, rfl⟩
  | lst e a l => exact ⟨"list", fun K H' k => .base (.lst (k _ _ e)), true, false, false, by decide +kernel, by decide +kernel, by decide +kernel, rfl⟩
  | dct e a l n => exact ⟨"dict", fun K H' k => .base (.dK (k _ _ e)), false, false, true, by decide +kernel, by decide +kernel, by decide +kernel, rfl⟩
theorem kit_any2 {K : PySem.W.Frag} {T a b : String} {r1 r2 : Bool} (h1 : kitB T a = some r1) (h2 : kitB T b = some r2) : PySem.W.kitAny K (.type T) [.type a, .type b] = some (r1 || r2) := by
  refine kitAny_cons (kit_ty h1) (fun e => ?_) (fun e => by rw [e]; rfl)
  refine kitAny_cons (kit_ty h2) (fun e2 => ?_) (fun e2 => by rw [e, e2]; rfl)
  rw [e, e2]
  exact kitAny_nil
def spPartsV : Sp := fun vs H Q _ => ∃ (v : V) (us : List V) (b : Bool), vs = [v] ∧ Hold H v us b ∧ ∀ (p : Addr) (H' : Hp), H p = none → Same H H' → H' p = some (.lst us) → Q (.ref p) H'
def spRebuilt : Sp := fun vs H Q _ => ∃ (v : V) (us : List V) (p : Addr), vs = [v, .ref p] ∧ Hold H v us true ∧ H p = some (.lst us) ∧ ∀ (v' : V) (H' : Hp), Same H H' → Alike H v H' v' → Q v' H'
def spKeptV : Sp := fun vs H Q _ => ∃ (v : V) (us : List V) (b : Bool), vs = [v] ∧ Hold H v us b ∧ ∀ (v' : V) (H' : Hp), Same H H' → Alike H v H' v' → Q v' H'
theorem Same.gone {H H' : Hp} {p : Addr} (k : Same H H') (n : H' p = none) : H p = none := by
  cases e : H p with
  | none => rfl
  | some o => rw [k _ _ e] at n; cases n
section
variable {P : Program} {w : World} {K : PySem.W.Frag} {mg : Str → Option Value} {base : Heap}
theorem ok_partsV {f : Addr} {fd : FuncData} (F : Fun K "parts_of" "parts_of" sParts f fd) (T : Blt mg) (md : mg "dict" = none) : FnOk P w K mg base CX0 1 f fd ["value"] spPartsV := by
  refine F.ok scParts (fun vs H Q E h => ?_) (fun cdv A outer s H vs Q E hr h => ?_)
  · obtain ⟨v, us, b, rfl, _⟩ := h
    rfl
  · obtain ⟨v, us, b, rfl, hh, kk⟩ := h
    refine ⟨_, pss_cons (ps_if (pt_val (pe_callB call_isiT (by rfl) T.isi (by decide +kernel) (pa_cons (pv 0) (pa_cons (pe_tup (pa_cons (pe_bltn (v := .ty "list") (by rfl) T.list (by decide +kernel) rfl) (pa_cons (pe_bltn (v := .ty "tuple") (by rfl) T.tuple (by decide +kernel) rfl) pa_nil))) pa_nil))))
        (pss_one (ps_ret (pe_callTy call_list_of (by rfl) T.list (by decide +kernel) (pa_cons (pv 0) pa_nil)))) pss_nil)
      (pss_one (ps_ret (pe_ifExp (pt_val (pe_callB call_isi (by rfl) T.isi (by decide +kernel) (pa_cons (pv 0) (pa_cons (pe_bltn (v := .ty "dict") (by rfl) md (by decide +kernel) rfl) pa_nil)))) (pe_listVals rfl (pv 0) (by rfl) T.list (by decide +kernel)) (pe_lst pa_nil)))), ?_⟩
    have fin : ∀ (tp p : Addr) (ntp : H tp = none) (np : upd H tp (.tup [.ty "list", .ty "tuple"]) p = none), Q (.ref p) (upd (upd H tp (.tup [.ty "list", .ty "tuple"])) p (.lst us)) := fun tp p ntp np =>
      kk p _ (Same.gone (same_new ntp) np) ((same_new ntp).trans (same_new np)) upd_same
    cases hh with
    | @flat v TT f =>
      refine ⟨_, rfl, (by show 2 ≤ sizeLine; decide), fun tp ntp => ⟨_, tp, _, _, _, false, rfl, upd_same, .cons (.ty _) (.cons (.ty _) .nil), f.ty _ _, kit_any2 f.l f.t, _, rfl, iteF ?_⟩⟩
      exact ⟨_, rfl, _, _, _, _, false, rfl, .ty _, f.ty _ _, kit_ty f.d, _, rfl, iteF ⟨(by show 0 ≤ sizeLine; decide), fun p np => fin tp p ntp np⟩⟩
    | tup e a l =>
      refine ⟨_, rfl, (by show 2 ≤ sizeLine; decide), fun tp ntp => ⟨_, tp, _, _, _, true, rfl, upd_same, .cons (.ty _) (.cons (.ty _) .nil), .base (.tup (same_new ntp _ _ e)), kit_any2 (r1 := false) (r2 := true) (by decide +kernel) (by decide +kernel), _, rfl, iteT ?_⟩⟩
      exact ⟨_, rfl, _, _, rfl, .inr (SqT.of (same_new ntp _ _ e)), fun p np => fin tp p ntp np⟩
    | lst e a l =>
      refine ⟨_, rfl, (by show 2 ≤ sizeLine; decide), fun tp ntp => ⟨_, tp, _, _, _, true, rfl, upd_same, .cons (.ty _) (.cons (.ty _) .nil), .base (.lst (same_new ntp _ _ e)), kit_any2 (r1 := true) (r2 := false) (by decide +kernel) (by decide +kernel), _, rfl, iteT ?_⟩⟩
      exact ⟨_, rfl, _, _, rfl, .inl (SqL.of (same_new ntp _ _ e)), fun p np => fin tp p ntp np⟩
    | dct e a l n =>
      refine ⟨_, rfl, (by show 2 ≤ sizeLine; decide), fun tp ntp => ⟨_, tp, _, _, _, false, rfl, upd_same, .cons (.ty _) (.cons (.ty _) .nil), .base (.dK (same_new ntp _ _ e)), kit_any2 (r1 := false) (r2 := false) (by decide +kernel) (by decide +kernel), _, rfl, iteF ?_⟩⟩
      exact ⟨_, rfl, _, _, _, _, true, rfl, .ty _, .base (.dK (same_new ntp _ _ e)), kit_ty (by decide +kernel), _, rfl, iteT ⟨_, rfl, _, _, rfl, same_new ntp _ _ e, fun p np => fin tp p ntp np⟩⟩
theorem putK_take {kvs : List (Key × V)} (n : (kvs.map (·.1)).Nodup) {i : Nat} {k : Key} {z : V} (e : kvs[i]? = some (k, z)) : putK (kvs.take i) k z = kvs.take (i + 1) := by
  have hi : i < kvs.length := (List.getElem?_eq_some_iff.mp e).1
  have ei : kvs[i] = (k, z) := (List.getElem?_eq_some_iff.mp e).2
  have new : ((kvs.take i).any fun kv => decide (kv.1 = k)) = false := by
    rw [List.any_eq_false]
    intro p hp hq
    obtain ⟨j, hj, ej⟩ := List.mem_take_iff_getElem.mp hp
    have hq : p.1 = k := of_decide_eq_true hq
    have h1 : (kvs.map (·.1))[j]'(by rw [List.length_map]; omega) = k := by rw [List.getElem_map, ej, hq]
    have h2 : (kvs.map (·.1))[i]'(by rw [List.length_map]; omega) = k := by rw [List.getElem_map, ei]
    have h3 := (List.getElem_inj n).mp (h1.trans h2.symm)
    omega
  unfold putK
  rw [new, if_neg (by decide), List.take_add_one, e]
  rfl
theorem scRebuilt : FnScope ["value", "parts", "key", "part"] ["value", "parts"] (defScope sRebuilt) := ⟨rfl, rfl, rfl, by decide +kernel, rfl, by decide +kernel, by decide +kernel⟩
theorem ok_rebuilt {f : Addr} {fd : FuncData} (F : Fun K "rebuilt" "rebuilt" sRebuilt f fd) (T : Blt mg) (md : mg "dict" = none) (mz : mg "zip" = none) : FnOk P w K mg base CX0 1 f fd ["value", "parts"] spRebuilt := by
  refine F.ok scRebuilt (fun vs H Q E h => ?_) (fun cdv A outer s H vs Q E hr h => ?_)
  · obtain ⟨v, us, p, rfl, _⟩ := h
    rfl
  · obtain ⟨v, us, p, rfl, hh, hp, kk⟩ := h
    refine ⟨_, pss_cons (ps_if (pt_val (pe_callB call_isi (by rfl) T.isi (by decide +kernel) (pa_cons (pv 0) (pa_cons (pe_bltn (v := .ty "dict") (by rfl) md (by decide +kernel) rfl) pa_nil))))
        (pss_one (ps_ret (pe_dc (g := gTup K 2 (gCons (gName 2) (gCons (gName 3) gNil))) (tt := tYes) (tk := tVar 2) (tv := tVar 3) (own := [("key", 2), ("part", 3)]) rfl scRebuilt.nd (pi_zip (by rfl) mz (pa_cons (pe_callTy (call_list_dK rfl) (by rfl) T.list (by decide +kernel) (pa_cons (pv 0) pa_nil)) (pa_cons (pv 1) pa_nil)))
          (blkOk_by (own := [("key", 2), ("part", 3)]) (N := ["value", "parts", "key", "part"]) (sc := defScope sRebuilt) (by decide +kernel))
          (fun _ _ _ _ _ => pg_tup (by rfl) (pgs_cons (pg_name (i := 2) scRebuilt.nd rfl (.inl rfl)) (pgs_cons (pg_name (i := 3) scRebuilt.nd rfl (.inl rfl)) pgs_nil))) (fun _ _ _ _ _ => pts_nil) (fun _ _ _ _ _ => pv 2) (fun _ _ _ _ _ => pv 3)))) pss_nil)
      (pss_one (ps_ret (pe_ifExp (pt_val (pe_callB call_isi (by rfl) T.isi (by decide +kernel) (pa_cons (pv 0) (pa_cons (pe_bltn (v := .ty "tuple") (by rfl) T.tuple (by decide +kernel) rfl) pa_nil)))) pe_never (pv 1)))), ?_⟩
    generalize eb : true = bb at hh
    cases hh with
    | flat f => cases eb
    | tup e a l => cases eb
    | lst e a l =>
      refine ⟨_, rfl, _, _, _, _, false, rfl, .ty _, .base (.lst e), kit_ty (by decide +kernel), _, rfl, iteF ?_⟩
      refine ⟨_, rfl, _, _, _, _, false, rfl, .ty _, .base (.lst e), kit_ty (by decide +kernel), _, rfl, iteF ⟨_, rfl, ?_⟩⟩
      exact kk _ H (Same.refl H) (.lst e hp)
    | @dct a kvs e al l n =>
      refine ⟨_, rfl, _, _, _, _, true, rfl, .ty _, .base (.dK e), kit_ty (by decide +kernel), _, rfl, iteT ?_⟩
      refine ⟨_, rfl, a, kvs, rfl, e, fun q nq => ⟨_, rfl, q, p, _, _, rfl, SqL.of upd_same, SqL.of (same_new nq _ _ hp), fun D nD => ?_⟩⟩
      have hq1 := same_new (o := .dK []) nD _ _ (upd_same (H := H) (a := q) (o := .lst (kvs.map fun kv => kV kv.1)))
      have hp1 := same_new (o := .dK []) nD _ _ (same_new (o := .lst (kvs.map fun kv => kV kv.1)) nq _ _ hp)
      have hD1 : upd (upd H q (.lst (kvs.map fun kv => kV kv.1))) D (.dK []) D = some (.dK []) := upd_same
      have nDp : D ≠ p := fun z => by rw [z, same_new nq _ _ hp] at nD; cases nD
      have nDq : D ≠ q := fun z => by rw [z, upd_same] at nD; cases nD
      have s1 : Same H (upd (upd H q (.lst (kvs.map fun kv => kV kv.1))) D (.dK [])) := (same_new nq).trans (same_new nD)
      have nDH : H D = none := Same.gone (same_new nq) nD
      generalize upd (upd H q (.lst (kvs.map fun kv => kV kv.1))) D (.dK []) = H1 at hq1 hp1 hD1 s1
      refine ⟨fun i m G => m = kvs.length - i ∧ i ≤ kvs.length ∧ But D H1 G ∧ G D = some (.dK (kvs.take i)), ⟨_, rfl, Nat.zero_le _, But.refl _ _, hD1⟩, ?_⟩
      rintro i m G ⟨rfl, hi, bt, gD⟩
      have gq := bt _ _ nDq.symm hq1
      have gp := bt _ _ nDp.symm hp1
      by_cases hlt : i < kvs.length
      · right
        have ek : (kvs.map fun kv => kV kv.1)[i]? = some (kV kvs[i].1) := by rw [List.getElem?_map, List.getElem?_eq_getElem hlt]; rfl
        have ev : (kvs.map (·.2))[i]? = some kvs[i].2 := by rw [List.getElem?_map, List.getElem?_eq_getElem hlt]; rfl
        refine ⟨⟨_, _, _, _, SqL.of gq, SqL.of gp, ek, ev⟩, fun G' => But D H1 G' ∧ G' D = some (.dK (kvs.take (i + 1))), fun G' ⟨b2, d2⟩ => ⟨_, by omega, rfl, hlt, b2, d2⟩, fun x G' y => ?_⟩
        obtain ⟨tp, x1, x2, rfl, nt, rfl, h1, h2⟩ := y
        have e1 := h1 _ (SqL.of gq)
        have e2 := h2 _ (SqL.of gp)
        rw [ek] at e1
        rw [ev] at e2
        obtain rfl := Option.some.inj e1
        obtain rfl := Option.some.inj e2
        have gD2 := same_new (o := .tup [kV kvs[i].1, kvs[i].2]) nt _ _ gD
        refine ⟨_, _, rfl, SqT.of upd_same, rfl, _, _, rfl, _, _, rfl, rfl, rfl, ?_⟩
        refine ⟨_, rfl, _, rfl, _, kvs[i].1, rfl, gD2, ?_, ?_, ?_⟩
        · rw [List.length_take]
          exact Nat.lt_of_le_of_lt (show _ ≤ 900 by omega) (by rw [sizeLine_eq]; decide)
        · exact bt.trans ((Same.but (same_new nt)).trans But.upd_at)
        · rw [upd_same, show putK (kvs.take i) kvs[i].1 kvs[i].2 = kvs.take (i + 1) from putK_take n (by rw [List.getElem?_eq_getElem hlt])]
      · left
        have ei : i = kvs.length := by omega
        refine ⟨⟨_, _, SqL.of gq, SqL.of gp, .inl (by rw [List.length_map]; omega)⟩, ?_⟩
        rw [ei, List.take_length] at gD
        exact kk _ G (fun b o z => bt _ _ (ne_of_none z nDH) (s1 _ _ z)) (.dct e gD)
end
end Ev
namespace Ev
open PySem L2 PySem.Spec PyProof.Rows
theorem Alike.from {H H1 H' : Hp} {v v' : V} (k : Same H H1) (us : List V) (h : Hold H v us true) (a : Alike H1 v H' v') : Alike H v H' v' := by
  cases a with
  | same => exact .same
  | lst e1 e2 =>
    generalize eb : true = bb at h
    cases h with
    | flat f => cases eb
    | tup e a l => cases eb
    | lst e a l => rw [k _ _ e] at e1; cases e1; exact .lst e e2
    | dct e a l n => rw [k _ _ e] at e1; cases e1
  | dct e1 e2 =>
    generalize eb : true = bb at h
    cases h with
    | flat f => cases eb
    | tup e a l => cases eb
    | lst e a l => rw [k _ _ e] at e1; cases e1
    | dct e a l n => rw [k _ _ e] at e1; cases e1; exact .dct e e2
theorem flat_hold {H : Hp} {us : List V} (h : AllFlat us) {j : Nat} {u : V} (e : us[j]? = some u) : Hold H u [] false := by
  obtain ⟨T, f⟩ := h u (List.mem_of_getElem? e)
  exact .flat f
/-- the marks of the things -/
def marks (b : Bool) (n : Nat) : List Bool := b :: List.replicate n false
theorem marks_at {b : Bool} {n j : Nat} (h : j < n) : (marks b n)[j + 1]? = some false := by
  show (List.replicate n false)[j]? = some false
  rw [List.getElem?_replicate, if_pos h]
theorem ends_at {m n j : Nat} (h : j < m) : (List.replicate m (V.int (1 + (n : Int))))[j]? = some (V.int (1 + (n : Int))) := by
  rw [List.getElem?_replicate, if_pos h]
theorem cut_tail {x : V} {ys : List V} : cutV (x :: ys) (some 1) (some (1 + (ys.length : Int))) = ys := by
  unfold cutV
  have h1 : HT.sIx (x :: ys).length 0 (some 1) = 1 := by
    have := HT.sIx_nat (x :: ys).length 0 1
    rw [List.length_cons] at this ⊢
    rw [show ((1 : Nat) : Int) = 1 from rfl] at this
    rw [this]; omega
  have h2 : HT.sIx (x :: ys).length (x :: ys).length (some (1 + (ys.length : Int))) = ys.length + 1 := by
    have := HT.sIx_nat (x :: ys).length (x :: ys).length (ys.length + 1)
    rw [show ((ys.length + 1 : Nat) : Int) = 1 + (ys.length : Int) by omega] at this
    rw [this, List.length_cons]; omega
  rw [h1, h2, show (x :: ys).drop 1 = ys from rfl, show ys.length + 1 - 1 = ys.length by omega, List.take_length]
theorem cut_none {xs : List V} {h : Option Int} : cutV xs h h = [] ∨ h = none := by
  cases h with
  | none => exact .inr rfl
  | some k =>
    left
    unfold cutV
    have e : HT.sIx xs.length xs.length (some k) = HT.sIx xs.length 0 (some k) := rfl
    rw [e, Nat.sub_self, List.take_zero]
theorem cut_void {xs : List V} {k : Int} : cutV xs (some k) (some k) = [] := by
  rcases cut_none (xs := xs) (h := some k) with e | e
  · exact e
  · cases e
theorem ix_first {x : V} {ys : List V} : ixN (x :: ys).length 0 = some 0 := by
  unfold ixN
  rw [List.length_cons]
  simp
theorem any_none (n : Nat) : (List.replicate n false).any id = false := by
  rw [List.any_eq_false]
  intro x hx
  rw [List.eq_of_mem_replicate hx]
  decide
theorem Alike.put {H G : Hp} {v v' : V} {m : Addr} {xs : List V} {us : List V} (h : Alike H v G v') (hv : Hold H v us true) (hm : G m = some (.lst xs)) (nl : xs.length = us.length + 1) {o : HO} : Alike H v (upd G m o) v' := by
  cases h with
  | same => exact .same
  | lst e1 e2 =>
    refine .lst e1 ?_
    rw [upd_ne]
    · exact e2
    · intro z
      rw [z, hm] at e2
      cases e2
      generalize eb : true = bb at hv
      cases hv with
      | flat f => cases eb
      | tup e a l => cases eb
      | lst e a l => rw [e] at e1; cases e1; omega
      | dct e a l n => rw [e] at e1; cases e1
  | dct e1 e2 =>
    refine .dct e1 ?_
    rw [upd_ne]
    · exact e2
    · intro z
      rw [z, hm] at e2
      cases e2
abbrev sFlat : Stmt := top 2
abbrev sCopied : Stmt := top 3
theorem scCopied : FnScope ["value", "things", "ends", "at", "made", "loose", "place", "first", "end", "thing"] ["value"] (defScope sCopied) := ⟨rfl, rfl, rfl, by decide +kernel, rfl, by decide +kernel, by decide +kernel⟩
theorem scFlat : FnScope ["value", "part"] ["value"] (defScope sFlat) := ⟨rfl, rfl, rfl, by decide +kernel, rfl, by decide +kernel, by decide +kernel⟩
theorem kit_any3 {K : PySem.W.Frag} {T a b c : String} {r1 r2 r3 : Bool} (h1 : kitB T a = some r1) (h2 : kitB T b = some r2) (h3 : kitB T c = some r3) : PySem.W.kitAny K (.type T) [.type a, .type b, .type c] = some (r1 || (r2 || r3)) := by
  refine kitAny_cons (kit_ty h1) (fun e => ?_) (fun e => by rw [e]; rfl)
  rw [e]
  exact (kit_any2 h2 h3).trans rfl
def spFlat : Sp := fun vs H Q _ => ∃ (a : Addr) (us : List V), vs = [.ref a] ∧ H a = some (.tup us) ∧ AllFlat us ∧ us.length ≤ 900 ∧ ∀ H', Same H H' → Q (.bl true) H'
section
variable {P : Program} {w : World} {K : PySem.W.Frag} {mg : Str → Option Value} {base : Heap}
theorem ok_copied {f : Addr} {fd : FuncData} (F : Fun K "copied_deep" "copied_deep" sCopied f fd) (T : Blt mg) (md : mg "dict" = none) (ma : mg "any" = none) (D : Df P w K mg base 1 "parts_of" ["value"] spPartsV) (D2 : Df P w K mg base 1 "rebuilt" ["value", "parts"] spRebuilt) : FnOk P w K mg base CX0 2 f fd ["value"] spKeptV := by
  obtain ⟨f1, fd1, G1, g1, k1, b1⟩ := D.ex
  obtain ⟨f2, fd2, G2, g2, k2, b2⟩ := D2.ex
  refine F.ok scCopied (fun vs H Q E h => ?_) (fun cdv A outer s H vs Q E hr h => ?_)
  · obtain ⟨v, us, b, rfl, _⟩ := h
    rfl
  · obtain ⟨v, us, b, rfl, hh, kk⟩ := h
    refine ⟨_, pss_cons (ps_set (i := 1) scCopied.nd rfl (.inl rfl) (pe_lst (pa_cons (pv 0) pa_nil)))
      (pss_cons (ps_set (i := 2) scCopied.nd rfl (.inl rfl) (pe_lst pa_nil))
      (pss_cons (ps_set (i := 3) scCopied.nd rfl (.inl rfl) pe_int)
      (pss_cons (ps_while PassesOwn.never (pt_cmpR op_lt (pv 3) (pe_callB call_len_seq (by rfl) T.len PySem.boot_len (pa_cons (pv 1) pa_nil)) (nomark _))
        (pss_cons (ps_expr (pe_bm PySem.F.plainAttrs_list PySem.F.slot_list_extend PySem.F.type_list_extend mt_extend (pv 1) (pa_cons (pe_callTy call_list_of (by rfl) T.list (by decide +kernel) (pa_cons (pe_call G1 hr (by rfl) g1 k1 b1 .nil pass0 (pa_cons (pe_ix ix_list (pv 1) (pv 3) (fun _ _ => rfl)) pa_nil)) pa_nil)) pa_nil)))
        (pss_cons (ps_expr (pe_bm PySem.F.plainAttrs_list PySem.F.slot_list_append PySem.F.type_list_append mt_append (pv 2) (pa_cons (pe_callB call_len_seq (by rfl) T.len PySem.boot_len (pa_cons (pv 1) pa_nil)) pa_nil)))
        (pss_one (ps_aug (i := 3) scCopied.nd rfl (.inl rfl) pe_int ip_add)))))
      (pss_cons (ps_set (i := 4) scCopied.nd rfl (.inl rfl) (pe_callTy call_list_of (by rfl) T.list (by decide +kernel) (pa_cons (pv 1) pa_nil)))
      (pss_cons (ps_setLc (i := 5) (te := tCB (rIsiT K) (tCons (tVar 9) (tCons (tTup (tCons (tC (.ty "list")) (tCons (tC (.ty "dict")) tNil))) tNil))) (own := [("thing", 9)]) (g := gName 9) (by rfl) scCopied.nd rfl rfl (sw_true rfl rfl rfl (by decide +kernel)) (pi_list (pv 1))
          (blkOk_by (own := [("thing", 9)]) (N := ["value", "things", "ends", "at", "made", "loose", "place", "first", "end", "thing"]) (sc := defScope sCopied) (by decide +kernel))
          (fun _ _ _ _ _ => pg_name (i := 9) scCopied.nd rfl (.inl rfl)) (fun _ _ _ _ _ => pts_nil)
          (fun _ _ _ _ _ => pe_callB (id := "isinstance") call_isiT (by rfl) T.isi (by decide +kernel) (pa_cons (pv 9) (pa_cons (pe_tup (pa_cons (pe_bltn (v := .ty "list") (by rfl) T.list (by decide +kernel) rfl) (pa_cons (pe_bltn (v := .ty "dict") (by rfl) md (by decide +kernel) rfl) pa_nil))) pa_nil))))
      (pss_cons (ps_for PassesOwn.never rfl (pi_range3 rfl T.range (pa_cons (pe_op op_sub (pe_callB call_len_seq (by rfl) T.len PySem.boot_len (pa_cons (pv 1) pa_nil)) pe_int) (pa_cons (pe_un un_neg pe_int) (pa_cons (pe_un un_neg pe_int) pa_nil)))) (pg_name (i := 6) scCopied.nd rfl (.inl rfl))
        (pss_cons (ps_par (i := 7) (j := 8) rfl scCopied.nd rfl rfl (by decide) rfl rfl (pa_cons (pe_ifExp (pt_cmpR op_gt (pv 6) pe_int (nomark _)) (pe_ix ix_list (pv 2) (pe_op op_sub (pv 6) pe_int) (fun _ _ => rfl)) pe_int) (pa_cons (pe_ix ix_list (pv 2) (pv 6) (fun _ _ => rfl)) pa_nil)) (by rfl))
        (pss_cons (ps_if (pt_val (pe_callB (cr_any rfl) (by rfl) ma (by decide +kernel) (pa_cons (pe_slice sl_list (pv 5) (po_some (pv 7)) (po_some (pv 8))) pa_nil))) (pss_one ps_never) pss_nil)
        (pss_one (ps_if (pt_val (pe_ix ix_list (pv 5) (pv 6) (fun _ _ => rfl)))
          (pss_one (ps_asg (pe_call G2 hr (by rfl) g2 k2 b2 .nil pass0 (pa_cons (pe_ix ix_list (pv 1) (pv 6) (fun _ _ => rfl)) (pa_cons (pe_slice sl_list (pv 4) (po_some (pv 7)) (po_some (pv 8))) pa_nil))) (pg_sub (pv 4) (pv 6) set_list))) pss_nil)))))
      (pss_one (ps_ret (pe_ix ix_list (pv 4) pe_int (fun _ _ => rfl)))))))))), ?_⟩
    have hlen := hh.len
    have hit := hh.items
    have z1000 : ∀ {n : Nat}, n ≤ 902 → n ≤ sizeLine := fun h => Nat.le_trans h (by rw [sizeLine_eq]; decide)
    refine ⟨_, rfl, (by show 1 ≤ sizeLine; decide), fun t nt => ⟨(by show 0 ≤ sizeLine; decide), fun e ne => ?_⟩⟩
    have te : e ≠ t := fun z => by rw [z, upd_same] at ne; cases ne
    have s2 : Same H (upd (upd H t (.lst [v])) e (.lst [])) := (same_new nt).trans (same_new ne)
    have ht2 : upd (upd H t (.lst [v])) e (.lst []) t = some (.lst [v]) := same_new ne _ _ upd_same
    have he2 : upd (upd H t (.lst [v])) e (.lst []) e = some (.lst []) := upd_same
    have nte : H e = none := Same.gone (same_new nt) ne
    generalize upd (upd H t (.lst [v])) e (.lst []) = H2 at s2 ht2 he2 ⊢
    -- the walk over the things
    refine ⟨fun m σ H' => (m = us.length + 1 ∧ σ = [some v, some (.ref t), some (.ref e), some (.int 0), none, none, none, none, none, none] ∧ H' = H2) ∨
      (∃ k, k ≤ us.length ∧ m = us.length - k ∧ σ = [some v, some (.ref t), some (.ref e), some (.int (1 + (k : Int))), none, none, none, none, none, none] ∧ H' t = some (.lst (v :: us)) ∧ H' e = some (.lst (List.replicate (1 + k) (V.int (1 + (us.length : Int))))) ∧ Same H H'), ⟨_, .inl ⟨rfl, rfl, rfl⟩⟩, fun m σ H' h => ?_⟩
    rcases h with ⟨rfl, rfl, rfl⟩ | ⟨k, hk, rfl, rfl, ht, he, sm⟩
    · refine ⟨_, rfl, _, rfl, t, _, rfl, .inl (SqL.of ht2), _, _, rfl, rfl, _, rfl, ite2 (fun _ => ?_) (fun z => absurd (decide_eq_true (show (0 : Int) < ((1 : Nat) : Int) by decide)) z)⟩
      refine ⟨fun σ H' => σ = [some v, some (.ref t), some (.ref e), some (.int (1 + ((0 : Nat) : Int))), none, none, none, none, none, none] ∧ H' t = some (.lst (v :: us)) ∧ H' e = some (.lst (List.replicate (1 + 0) (V.int (1 + (us.length : Int))))) ∧ Same H H', fun σ' H' q => ⟨us.length, by omega, .inr ⟨0, Nat.zero_le _, rfl, q⟩⟩, ?_⟩
      refine ⟨_, rfl, .inl ⟨rfl, _, SqL.of ht2⟩, _, rfl, _, rfl, t, _, 0, v, rfl, rfl, SqL.of ht2, atI_nat (j := 0) rfl, v, us, b, rfl, hh.keep s2, fun p0 H30 np0 s30 hp0 => ⟨p0, _, rfl, .inl (SqL.of hp0), fun p np => ?_⟩⟩
      have s3 : Same H' (upd H30 p (.lst us)) := s30.trans (same_new np)
      have hp : upd H30 p (.lst us) p = some (.lst us) := upd_same
      generalize upd H30 p (.lst us) = H3 at s3 hp ⊢
      refine ⟨t, p, _, _, rfl, rfl, s3 _ _ ht2, hp, z1000 (by show 1 + us.length ≤ 902; omega), ?_⟩
      have he3 : upd H3 t (.lst ([v] ++ us)) e = some (.lst []) := by rw [upd_ne te]; exact s3 _ _ he2
      refine ⟨_, rfl, .inl ⟨rfl, _, SqL.of he3⟩, _, rfl, t, [v] ++ us, rfl, .inl (SqL.of upd_same), e, _, _, rfl, rfl, he3, (by show 0 < sizeLine; decide), ?_⟩
      refine ⟨_, rfl, _, _, rfl, rfl, rfl, ?_, ?_, fun b o q => ?_⟩
      · rw [upd_ne te.symm]; exact upd_same
      · have e1 : ((([v] ++ us).length : Nat) : Int) = 1 + (us.length : Int) := by rw [List.length_append, List.length_singleton]; omega
        rw [upd_same, e1]; rfl
      · rw [upd_ne (ne_of_none q nte), upd_ne (ne_of_none q nt)]
        exact s3 _ _ (s2 _ _ q)
    · by_cases hlt : k < us.length
      · have hge : (v :: us)[1 + k]? = some us[k] := by rw [Nat.add_comm]; exact List.getElem?_eq_getElem hlt
        have hix : atI (v :: us) (1 + (k : Int)) = some us[k] := by
          have := atI_nat (xs := v :: us) (j := 1 + k) hge
          rw [show ((1 + k : Nat) : Int) = 1 + (k : Int) by omega] at this
          exact this
        refine ⟨_, rfl, _, rfl, t, _, rfl, .inl (SqL.of ht), _, _, rfl, rfl, _, rfl, ite2 (fun _ => ?_) (fun z => absurd (decide_eq_true (show (1 + (k : Int)) < (((v :: us).length : Nat) : Int) by rw [List.length_cons]; omega)) z)⟩
        refine ⟨fun σ H' => σ = [some v, some (.ref t), some (.ref e), some (.int (1 + ((k + 1 : Nat) : Int))), none, none, none, none, none, none] ∧ H' t = some (.lst (v :: us)) ∧ H' e = some (.lst (List.replicate (1 + (k + 1)) (V.int (1 + (us.length : Int))))) ∧ Same H H', fun σ' H' q => ⟨us.length - (k + 1), by omega, .inr ⟨k + 1, hlt, rfl, q⟩⟩, ?_⟩
        refine ⟨_, rfl, .inl ⟨rfl, _, SqL.of ht⟩, _, rfl, _, rfl, t, _, _, us[k], rfl, rfl, SqL.of ht, hix, us[k], [], false, rfl, flat_hold hit (List.getElem?_eq_getElem hlt), fun p0 H30 np0 s30 hp0 => ⟨p0, _, rfl, .inl (SqL.of hp0), fun p np => ?_⟩⟩
        have s3 : Same H' (upd H30 p (.lst [])) := s30.trans (same_new np)
        have hp : upd H30 p (.lst []) p = some (.lst []) := upd_same
        generalize upd H30 p (.lst []) = H3 at s3 hp ⊢
        refine ⟨t, p, _, _, rfl, rfl, s3 _ _ ht, hp, z1000 (by show (v :: us).length + 0 ≤ 902; rw [List.length_cons]; omega), ?_⟩
        have he3 : upd H3 t (.lst ((v :: us) ++ [])) e = some (.lst (List.replicate (1 + k) (V.int (1 + (us.length : Int))))) := by rw [upd_ne te]; exact s3 _ _ he
        refine ⟨_, rfl, .inl ⟨rfl, _, SqL.of he3⟩, _, rfl, t, (v :: us) ++ [], rfl, .inl (SqL.of upd_same), e, _, _, rfl, rfl, he3, Nat.lt_of_lt_of_le (show (List.replicate (1 + k) (V.int (1 + (us.length : Int)))).length < 902 by rw [List.length_replicate]; omega) (z1000 (Nat.le_refl _)), ?_⟩
        refine ⟨_, rfl, _, _, rfl, rfl, ?_, ?_, ?_, fun b o q => ?_⟩
        · have e5 : (1 + (k : Int)) + 1 = 1 + ((k + 1 : Nat) : Int) := by omega
          show List.set _ 3 (some (V.int ((1 + (k : Int)) + 1))) = _
          rw [e5]; rfl
        · rw [upd_ne te.symm, upd_same, List.append_nil]
        · have e1 : ((((v :: us) ++ []).length : Nat) : Int) = 1 + (us.length : Int) := by rw [List.append_nil, List.length_cons]; omega
          rw [upd_same, e1, show 1 + (k + 1) = (1 + k) + 1 by omega, List.replicate_succ' (n := 1 + k)]
        · have e3 := s3 _ _ (sm _ _ q)
          rw [upd_ne (ne_of_none q nte), upd_ne (ne_of_none q nt)]
          exact e3
      · obtain rfl : k = us.length := by omega
        refine ⟨_, rfl, _, rfl, t, _, rfl, .inl (SqL.of ht), _, _, rfl, rfl, _, rfl, ite2 (fun z => absurd (of_decide_eq_true z) (show ¬ ((1 + (us.length : Int)) < (((v :: us).length : Nat) : Int)) by rw [List.length_cons]; omega)) (fun _ => ?_)⟩
        refine ⟨_, rfl, t, _, rfl, .inl (SqL.of ht), fun md nmd => ?_⟩
        have ht3 := same_new (o := .lst (v :: us)) nmd _ _ ht
        have he3 := same_new (o := .lst (v :: us)) nmd _ _ he
        have hm3 : upd H' md (.lst (v :: us)) md = some (.lst (v :: us)) := upd_same
        have sm3 := sm.trans (same_new (o := .lst (v :: us)) nmd)
        have nmH : H md = none := Same.gone sm nmd
        generalize upd H' md (.lst (v :: us)) = H3 at ht3 he3 hm3 sm3 ⊢
        refine ⟨_, rfl, t, rfl, ⟨_, SqL.of ht3⟩, fun D nD => ?_⟩
        refine lc_list (K := K) (a := t) (xs := v :: us) (fun i H' => H' D = some (.lst (((marks b us.length).take i).map V.bl)) ∧ But D H3 H') ⟨upd_same, But.upd_at⟩ (fun i H' _ q => SqL.of (q.2 _ _ (ne_of_none ht3 nD) ht3)) (fun i y H' hi ⟨e1, e2⟩ => ?_) (fun H' ⟨e1, e2⟩ => ?_)
        · have hil : i < us.length + 1 := (List.getElem?_eq_some_iff.mp hi).1
          obtain ⟨TT, r, hr1, ty, kit⟩ : ∃ (TT : String) (r : Bool), (marks b us.length)[i]? = some r ∧ (∀ (K : PySem.W.Frag) (G : Hp), Same H' G → TyX K G y (.type TT)) ∧ PySem.W.kitAny K (.type TT) [.type "list", .type "dict"] = some r := by
            cases i with
            | zero =>
              obtain rfl : v = y := Option.some.inj hi
              obtain ⟨TT, ty, b1, b2, b3, f1, f2, f3, eb⟩ := hh.ty
              refine ⟨TT, b, rfl, fun K G k => ty K G fun c o q => k _ _ (e2 _ _ (ne_of_none (sm3 _ _ q) nD) (sm3 _ _ q)), ?_⟩
              rw [eb]; exact kit_any2 f1 f3
            | succ j =>
              obtain ⟨TT, f⟩ := hit y (List.mem_of_getElem? (show us[j]? = some y from hi))
              exact ⟨TT, false, marks_at (by omega), fun K G _ => f.ty K G, kit_any2 f.l f.d⟩
          refine ⟨rfl, _, rfl, (by show 2 ≤ sizeLine; decide), fun tp ntp => ⟨y, tp, _, _, _, r, rfl, upd_same, .cons (.ty _) (.cons (.ty _) .nil), ty _ _ (same_new ntp), kit, _, same_new ntp _ _ e1, ?_, ?_, ?_⟩⟩
          · refine Nat.lt_of_lt_of_le (show _ < 902 from ?_) (z1000 (Nat.le_refl _))
            rw [List.length_map, List.length_take]; omega
          · rw [upd_same, List.take_add_one, hr1, List.map_append]; rfl
          · exact (e2.trans (Same.but (same_new ntp))).trans But.upd_at
        · have eM : (marks b us.length).take (v :: us).length = marks b us.length := by
            rw [List.take_of_length_le]
            show (List.replicate us.length false).length + 1 ≤ us.length + 1
            rw [List.length_replicate]; exact Nat.le_refl _
          rw [eM] at e1
          have s4 : Same H3 H' := fun b o q => e2 b o (ne_of_none q nD) q
          have ht4 := s4 _ _ ht3
          have he4 := s4 _ _ he3
          have hm4 := s4 _ _ hm3
          have s04 := sm3.trans s4
          have nDH : H D = none := Same.gone sm3 nD
          have lenI : ((((v :: us).length : Nat) : Int)) - 1 = (us.length : Int) := by rw [List.length_cons]; omega
          refine ⟨_, rfl, t, _, rfl, .inl (SqL.of ht4), _, _, rfl, rfl, _, rfl, _, rfl, (us.length : Int), -1, -1, us.length + 1, ?_, ?_, ?_⟩
          · show [V.int (((((v :: us).length : Nat) : Int)) - 1), V.int (-1), V.int (-1)] = _
            rw [lenI]
          · have h := RgC.neg (i := (us.length : Int)) (j := -1) (by omega) (by omega) (by decide) (by decide)
            rw [show ((us.length : Int) - -1).toNat = us.length + 1 by omega] at h
            exact h
          refine for_rangeC (lo := (us.length : Int)) (c := -1) (n := us.length + 1) (fun i σ H5 => (∃ v6 v7 v8 v9 : Option V, σ = [some v, some (.ref t), some (.ref e), some (.int (1 + (us.length : Int))), some (.ref md), some (.ref D), v6, v7, v8, v9]) ∧
            (i ≤ us.length → Same H' H5) ∧ (i = us.length + 1 → Same H H5 ∧ ∃ v', H5 md = some (.lst (v' :: us)) ∧ Alike H v H5 v')) ⟨⟨none, none, none, none, rfl⟩, fun _ => Same.refl _, fun z => by omega⟩ ?_ ?_
          · rintro i σ H5 hi ⟨⟨v6, v7, v8, v9, rfl⟩, u5, _⟩
            have s5 := u5 (by omega)
            clear u5
            have he5 := s5 _ _ he4
            have hD5 := s5 _ _ e1
            by_cases hlast : i = us.length
            · subst hlast
              have e0 : (us.length : Int) + ((us.length : Nat) : Int) * -1 = 0 := by omega
              rw [e0]
              refine ⟨_, rfl, _, _, rfl, rfl, _, rfl, ite2 (fun z => absurd (of_decide_eq_true z) (show ¬ ((0 : Int) < 0) by decide)) (fun _ => ?_)⟩
              refine ⟨_, rfl, _, rfl, e, _, _, _, rfl, rfl, SqL.of he5, atI_nat (j := 0) (ends_at (m := 1 + us.length) (by omega)), _, _, rfl, ?_⟩
              refine ⟨_, rfl, _, rfl, _, rfl, _, rfl, _, rfl, D, _, rfl, SqL.of hD5, fun sl nsl => ?_⟩
              have ecut : cutV ((marks b us.length).map V.bl) (some 1) (some (1 + (us.length : Int))) = (List.replicate us.length false).map V.bl := by
                have := cut_tail (x := V.bl b) (ys := (List.replicate us.length false).map V.bl)
                rw [List.length_map, List.length_replicate] at this
                exact this
              rw [ecut]
              refine ⟨sl, List.replicate us.length false, rfl, SqL.of upd_same, _, rfl, ?_⟩
              rw [any_none]
              refine iteF ?_
              have s6 := s5.trans (same_new (o := .lst ((List.replicate us.length false).map V.bl)) nsl)
              generalize upd H5 sl (.lst ((List.replicate us.length false).map V.bl)) = H6 at s6
              refine ⟨_, rfl, _, rfl, D, _, _, _, rfl, rfl, SqL.of (s6 _ _ e1), atI_nat (j := 0) rfl, _, rfl, ?_⟩
              cases b with
              | false => exact iteF ⟨⟨_, _, _, _, rfl⟩, fun z => by omega, fun _ => ⟨s04.trans s6, v, s6 _ _ hm4, .same⟩⟩
              | true =>
                refine iteT ⟨_, rfl, _, rfl, t, _, _, _, rfl, rfl, SqL.of (s6 _ _ ht4), atI_nat (j := 0) rfl, _, rfl, _, rfl, _, rfl, _, rfl, _, rfl, md, _, rfl, SqL.of (s6 _ _ hm4), fun q nq => ?_⟩
                rw [cut_tail]
                have s7 := s6.trans (same_new (o := .lst us) nq)
                have hq : upd H6 q (.lst us) q = some (.lst us) := upd_same
                generalize upd H6 q (.lst us) = H7 at s7 hq
                refine ⟨v, us, q, rfl, hh.keep (s04.trans s7), hq, fun v' H8 s8 al => ?_⟩
                have hm8 := s8 _ _ (s7 _ _ hm4)
                refine ⟨_, rfl, _, rfl, md, _, _, 0, rfl, rfl, hm8, ix_first, ?_⟩
                refine ⟨⟨_, _, _, _, rfl⟩, fun z => by omega, fun _ => ⟨fun c o z => ?_, v', upd_same, (al.from (s04.trans s7) us hh).put hh hm8 rfl⟩⟩
                rw [upd_ne (ne_of_none z nmH)]
                exact s8 _ _ (s7 _ _ (s04 _ _ z))
            · have hi2 : i < us.length := by omega
              obtain ⟨j, ej⟩ : ∃ j : Nat, us.length = i + j + 1 := ⟨us.length - i - 1, by omega⟩
              have e0 : (us.length : Int) + ((i : Nat) : Int) * -1 = ((j + 1 : Nat) : Int) := by omega
              rw [e0]
              have e9 : ((j + 1 : Nat) : Int) - 1 = ((j : Nat) : Int) := by omega
              refine ⟨_, rfl, _, _, rfl, rfl, _, rfl, ite2 (fun _ => ?_) (fun z => absurd (decide_eq_true (show (0 : Int) < ((j + 1 : Nat) : Int) by omega)) z)⟩
              have hfst : atI (List.replicate (1 + us.length) (V.int (1 + (us.length : Int)))) (((j + 1 : Nat) : Int) - 1) = some (V.int (1 + (us.length : Int))) := by
                rw [e9]
                exact atI_nat (ends_at (m := 1 + us.length) (by omega))
              refine ⟨_, rfl, _, rfl, _, _, rfl, rfl, e, _, _, V.int (1 + (us.length : Int)), rfl, rfl, SqL.of he5, hfst, ?_⟩
              refine ⟨_, rfl, _, rfl, e, _, _, _, rfl, rfl, SqL.of he5, atI_nat (j := j + 1) (ends_at (m := 1 + us.length) (by omega)), _, _, rfl, ?_⟩
              refine ⟨_, rfl, _, rfl, _, rfl, _, rfl, _, rfl, D, _, rfl, SqL.of hD5, fun sl nsl => ?_⟩
              rw [cut_void]
              refine ⟨sl, [], rfl, SqL.of upd_same, _, rfl, iteF ?_⟩
              refine ⟨_, rfl, _, rfl, D, _, _, _, rfl, rfl, SqL.of (same_new nsl _ _ hD5), atI_nat (j := j + 1) (show ((marks b us.length).map V.bl)[j + 1]? = some (V.bl false) by rw [List.getElem?_map, marks_at (by omega)]; rfl), _, rfl, iteF ?_⟩
              exact ⟨⟨_, _, _, _, rfl⟩, fun _ => s5.trans (same_new nsl), fun z => by omega⟩
          · rintro σ H5 ⟨⟨v6, v7, v8, v9, rfl⟩, _, s5⟩
            obtain ⟨s5, v', hm5, al⟩ := s5 rfl
            exact ⟨_, rfl, md, _, 0, v', rfl, rfl, SqL.of hm5, atI_nat (j := 0) rfl, kk _ H5 s5 al⟩
theorem ok_flat {f : Addr} {fd : FuncData} (F : Fun K "is_flat" "is_flat" sFlat f fd) (T : Blt mg) (md : mg "dict" = none) : FnOk P w K mg base CX0 2 f fd ["value"] spFlat := by
  refine F.ok scFlat (fun vs H Q E h => ?_) (fun cdv A outer s H vs Q E hr h => ?_)
  · obtain ⟨a, us, rfl, _⟩ := h
    rfl
  · obtain ⟨a, us, rfl, ha, af, hn, k⟩ := h
    refine ⟨_, pss_cons (ps_for PassesOwn.never rfl (pi_tup (pv 0)) (pg_name (i := 1) scFlat.nd rfl (.inl rfl))
        (pss_one (ps_if (pt_val (pe_callB call_isiT (by rfl) T.isi (by decide +kernel) (pa_cons (pv 1) (pa_cons (pe_tup (pa_cons (pe_bltn (v := .ty "list") (by rfl) T.list (by decide +kernel) rfl) (pa_cons (pe_bltn (v := .ty "tuple") (by rfl) T.tuple (by decide +kernel) rfl) (pa_cons (pe_bltn (v := .ty "dict") (by rfl) md (by decide +kernel) rfl) pa_nil)))) pa_nil)))) (pss_one ps_never) pss_nil)))
      (pss_one (ps_ret pe_bl)), ?_⟩
    refine ⟨_, rfl, a, rfl, ⟨_, SqT.of ha⟩, ?_⟩
    refine for_it (walk_tup (K := K) (a := a) (xs := us)) (fun i σ G => Same H G ∧ ∃ z, σ = [some (.ref a), z]) ⟨Same.refl _, _, rfl⟩ (fun i σ G _ h => SqT.of (h.1 _ _ ha)) (fun i v σ G2 G3 hi h y => ?_) (fun σ G h => ?_)
    · obtain ⟨s2, z, rfl⟩ := h
      obtain ⟨rfl, hx⟩ := y
      obtain ⟨TT, fl⟩ := af v (List.mem_of_getElem? hx)
      exact ⟨_, rfl, (by show 3 ≤ sizeLine; decide), fun tp ntp => ⟨v, tp, _, _, _, false, rfl, upd_same, .cons (.ty _) (.cons (.ty _) (.cons (.ty _) .nil)), fl.ty _ _, kit3 fl.l fl.t fl.d, _, rfl, iteF ⟨s2.trans (same_new ntp), _, rfl⟩⟩⟩
    · obtain ⟨s2, z, rfl⟩ := h
      exact k G s2
theorem ok_keptV {f : Addr} {fd : FuncData} (F : Fun K "kept" "kept" sKept f fd) (T : Blt mg) (md : mg "dict" = none) (D : Df P w K mg base 2 "is_flat" ["value"] spFlat) (D2 : Df P w K mg base 2 "copied_deep" ["value"] spKeptV) : FnOk P w K mg base CX0 3 f fd ["value"] spKeptV := by
  obtain ⟨f1, fd1, G1, g1, k1, b1⟩ := D.ex
  obtain ⟨f2, fd2, G2, g2, k2, b2⟩ := D2.ex
  refine F.ok scKept (fun vs H Q E h => ?_) (fun cdv A outer s H vs Q E hr h => ?_)
  · obtain ⟨v, us, b, rfl, _⟩ := h
    rfl
  · obtain ⟨v, us, b, rfl, hh, kk⟩ := h
    refine ⟨_, pss_cons (ps_if (pt_not (pt_val (pe_callB call_isiT (by rfl) T.isi (by decide +kernel) (pa_cons (pv 0) (pa_cons (pe_tup (pa_cons (pe_bltn (v := .ty "list") (by rfl) T.list (by decide +kernel) rfl) (pa_cons (pe_bltn (v := .ty "tuple") (by rfl) T.tuple (by decide +kernel) rfl) (pa_cons (pe_bltn (v := .ty "dict") (by rfl) md (by decide +kernel) rfl) pa_nil)))) pa_nil))))) (pss_one (ps_ret (pv 0))) pss_nil)
      (pss_cons (ps_if (PW.pt (pw_and (pt_val (pe_callB call_isi (by rfl) T.isi (by decide +kernel) (pa_cons (pv 0) (pa_cons (pe_bltn (v := .ty "tuple") (by rfl) T.tuple (by decide +kernel) rfl) pa_nil)))) (pw_and1 (pt_val (pe_call G1 hr (by rfl) g1 k1 b1 .nil pass0 (pa_cons (pv 0) pa_nil)))))) (pss_one (ps_ret (pv 0))) pss_nil)
      (pss_one (ps_ret (pe_call G2 hr (by rfl) g2 k2 b2 .nil pass0 (pa_cons (pv 0) pa_nil))))), ?_⟩
    cases hh with
    | @flat v TT fl =>
      refine ⟨_, rfl, (by show 3 ≤ sizeLine; decide), fun tp ntp => ⟨v, tp, _, _, _, false, rfl, upd_same, .cons (.ty _) (.cons (.ty _) (.cons (.ty _) .nil)), fl.ty _ _, kit3 fl.l fl.t fl.d, _, rfl, iteT ⟨_, rfl, ?_⟩⟩⟩
      exact kk _ _ (same_new ntp) .same
    | @tup a us e al l =>
      refine ⟨_, rfl, (by show 3 ≤ sizeLine; decide), fun tp ntp => ⟨_, tp, _, _, _, true, rfl, upd_same, .cons (.ty _) (.cons (.ty _) (.cons (.ty _) .nil)), .base (.tup (same_new ntp _ _ e)), kit_any3 (r1 := false) (r2 := true) (r3 := false) (by decide +kernel) (by decide +kernel) (by decide +kernel), _, rfl, iteF ?_⟩⟩
      have e1 := same_new (o := .tup [.ty "list", .ty "tuple", .ty "dict"]) ntp _ _ e
      refine ⟨_, rfl, _, _, _, _, true, rfl, .ty _, .base (.tup e1), kit_ty (by decide +kernel), _, rfl, iteT ?_⟩
      refine ⟨_, rfl, a, us, rfl, e1, al, l, fun H' s' => ⟨_, rfl, iteT ⟨_, rfl, ?_⟩⟩⟩
      exact kk _ _ ((same_new ntp).trans s') .same
    | @lst a us e al l =>
      refine ⟨_, rfl, (by show 3 ≤ sizeLine; decide), fun tp ntp => ⟨_, tp, _, _, _, true, rfl, upd_same, .cons (.ty _) (.cons (.ty _) (.cons (.ty _) .nil)), .base (.lst (same_new ntp _ _ e)), kit_any3 (r1 := true) (r2 := false) (r3 := false) (by decide +kernel) (by decide +kernel) (by decide +kernel), _, rfl, iteF ?_⟩⟩
      have s1 := same_new (H := H) (o := .tup [.ty "list", .ty "tuple", .ty "dict"]) ntp
      have e1 := s1 _ _ e
      refine ⟨_, rfl, _, _, _, _, false, rfl, .ty _, .base (.lst e1), kit_ty (by decide +kernel), _, rfl, iteF ?_⟩
      refine ⟨_, rfl, _, us, true, rfl, (Hold.lst e1 al l), fun v' H' s' al' => ?_⟩
      exact kk _ _ (s1.trans s') (al'.from s1 us (.lst e al l))
    | @dct a kvs e al l nd =>
      refine ⟨_, rfl, (by show 3 ≤ sizeLine; decide), fun tp ntp => ⟨_, tp, _, _, _, true, rfl, upd_same, .cons (.ty _) (.cons (.ty _) (.cons (.ty _) .nil)), .base (.dK (same_new ntp _ _ e)), kit_any3 (r1 := false) (r2 := false) (r3 := true) (by decide +kernel) (by decide +kernel) (by decide +kernel), _, rfl, iteF ?_⟩⟩
      have s1 := same_new (H := H) (o := .tup [.ty "list", .ty "tuple", .ty "dict"]) ntp
      have e1 := s1 _ _ e
      refine ⟨_, rfl, _, _, _, _, false, rfl, .ty _, .base (.dK e1), kit_ty (by decide +kernel), _, rfl, iteF ?_⟩
      refine ⟨_, rfl, _, _, true, rfl, (Hold.dct e1 al l nd), fun v' H' s' al' => ?_⟩
      exact kk _ _ (s1.trans s') (al'.from s1 _ (.dct e al l nd))
end
end Ev
namespace Ev
open PySem L2 PySem.Spec PyProof.Rows
/-! ### repr of a value that holds nothing but scalars -/
def sclr : V → PyData → Bool
  | .non, .none => true
  | .bl a, .bool b => a == b
  | .int a, .int b => decide (a = b)
  | .str a, .str b => a == b
  | _, _ => false
def keyD : Key → PyData
  | .inl i => .int i
  | .inr x => .str x
inductive Vd (K : PySem.W.Frag) (H : Hp) : V → PyData → Prop
  | plain {v : V} {d : PyData} : Dp K H v d → d.hasDict = false → Vd K H v d
  | dct {a : Addr} {kvs : List (Key × V)} {ds : List (PyData × PyData)} : H a = some (.dK kvs) → ds.map (·.1) = kvs.map (fun p => keyD p.1) → Paired (fun v d => sclr v d = true) (kvs.map (·.2)) (ds.map (·.2)) → Vd K H (.ref a) (.dict ds)
theorem reads_sc {h : Heap} {v : V} {d : PyData} {u : Value} (e : sclr v d = true) (r : RelV v u) : Reads h u d [] := by
  cases v <;> cases d <;> first | cases e | skip
  · cases (show u = Value.none from r); exact .none
  · obtain rfl := beq_iff_eq.mp e
    cases (show u = Value.bool _ from r); exact .bool _
  · obtain rfl := of_decide_eq_true e
    obtain ⟨t, q⟩ := (show ∃ t, u = Value.int _ t from r); cases q; exact .int _ _
  · obtain rfl := beq_iff_eq.mp e
    obtain ⟨t, q⟩ := (show ∃ t, u = Value.str _ t from r); cases q; exact .str _ _
theorem reads_scs {h : Heap} : ∀ {vs : List V} {ds : List PyData} {us : List Value}, Paired (fun v d => sclr v d = true) vs ds → Vals vs us → ReadsAll h us ds []
  | _, _, _, .nil, .nil => .nil
  | _, _, _, .cons e t, .cons r q => .cons (as := []) (bs := []) (reads_sc e r) (reads_scs t q)
theorem pair_vals {P : Program} {w : World} : ∀ {es : List DictEntry} {vs : List (Key × Value)}, Pairs (mixKind P w) es vs → es.map (·.val) = vs.map (·.2)
  | _, _, .nil => rfl
  | _, _, .cons h1 h2 t => by
    rw [List.map_cons, List.map_cons, h2, pair_vals t]
theorem reads_keys {P : Program} {w : World} {h : Heap} : ∀ {es : List DictEntry} {kvs : List (Key × V)} {vs : List (Key × Value)}, Pairs (mixKind P w) es vs → KV kvs vs → ReadsAll h (es.map (·.key)) (kvs.map fun p => keyD p.1) []
  | _, _, _, .nil, .nil => .nil
  | _, _, _, .cons h1 h2 t, .cons r q => by
    refine .cons (as := []) (bs := []) ?_ (reads_keys t q)
    dsimp only
    rw [r.1]
    rcases keyIs_shape (show keyIs _ _ = true from h1) with ⟨i, tk, e1, e2⟩ | ⟨x, tk, e1, e2⟩
    · rw [e1, e2]; exact .int _ _
    · rw [e1, e2]; exact .str _ _
section
variable {X : Cx}
/-- repr of such a value, where none is under way -/
def rReprV (K : PySem.W.Frag) : List V → Hp → VK → Prop := fun xs H Q => ∃ (v : V) (d : PyData), xs = [v] ∧ Vd K H v d ∧
  d.showable = true ∧ d.depth ≤ 32 ∧ d.shown.length ≤ sizeLine ∧ Q (.str d.shown) H
theorem call_reprV (gd : X.A.guards = some []) (hu : X.A.units + 64 < cLine) : CallR X (.builtin "repr") (rReprV X.K) := by
  intro pins s σ H xs us Q I r h
  obtain ⟨v, d, rfl, hd, h1, h3, h4, q⟩ := h
  obtain ⟨u, rfl, ru⟩ := vals1 r
  have fin : ∀ (h' : Heap) (t : Tok) (tk : Nat), (∀ b o, s.heap.get? b = some o → h'.get? b = some o) → EP X pins σ Q (.str d.shown t) { s with heap := h', toks := tk } := fun h' t tk hk => ⟨.str d.shown, H, I.kept hk, ⟨t, rfl⟩, q⟩
  have byRef : ∀ (a : Addr) (as : List Addr), u = .ref a → Reads s.heap (.ref a) d as → (d.hasDict = true → sysModules ∉ as) → wpAny (model X.prog X.w) X.A (call (.builtin "repr") [u]) (EP X pins σ Q) X.xe s := by
    intro a as eu rd hm
    subst eu
    exact repr_of_reads' rd h1 hm gd (by omega) (fun _ _ e => e) (fun h' t tk hk => fin h' t tk hk) h4
  cases hd with
  | plain dp nd =>
    cases dp with
    | non => cases ru; exact PySem.P.repr_of_none (fin s.heap _ _ fun _ _ e => e)
    | bl b => cases ru; exact PySem.P.repr_of_bool (fin s.heap _ _ fun _ _ e => e)
    | int i => obtain ⟨t, rfl⟩ := ru; exact PySem.P.repr_of_int (of_decide_eq_true h1) (fin s.heap _ _ fun _ _ e => e)
    | str x => obtain ⟨t, rfl⟩ := ru; exact PySem.P.repr_of_str (fin s.heap _ _ fun _ _ e => e) h4
    | lst sq al =>
      cases ru
      obtain ⟨as, rd⟩ := Dp.reads I _ _ _ (.lst sq al) rfl
      exact byRef _ as rfl rd fun z => by rw [nd] at z; cases z
    | tup sq al =>
      cases ru
      obtain ⟨as, rd⟩ := Dp.reads I _ _ _ (.tup sq al) rfl
      exact byRef _ as rfl rd fun z => by rw [nd] at z; cases z
  | @dct a kvs ds e ek ev =>
    cases ru
    obtain ⟨hz, hs0, vs, kv, hdo⟩ := (show ObjOk X.prog X.w H s.heap a (.dK kvs) from I.hok a _ e)
    obtain ⟨ep, ob, es, ho, ex, hdat, hko, hpr, hnd⟩ := hdo.dictAt
    have e1 : ReadsAll s.heap (es.toList.map (·.key)) (ds.map (·.1)) [] := by
      rw [ek]; exact reads_keys hpr kv
    have e2 : ReadsAll s.heap (es.toList.map (·.val)) (ds.map (·.2)) [] := by
      refine reads_scs ev ?_
      have e3 : es.toList.map (·.val) = vs.map (·.2) := pair_vals hpr
      rw [e3]; exact vals_snd kv
    refine byRef a (a :: [] ++ []) rfl (.dict ho ex.1 hdat e1 e2) fun _ z => ?_
    simp at z
    rw [← z] at hs0
    simp at hs0
end
end Ev
namespace Ev
open PySem L2 PySem.Spec PyProof.Rows
/-! An error that is made and kept, not raised. -/
section
variable {X : Cx}
theorem exo_inst {pins : List (Addr × Obj)} {σ : L2.St} {H : Hp} {s : Shared} {a C d : Addr} {fs : List (Str × V)} (I : Inv X pins σ H s) (e : H a = some (exo a C (some d))) (ed : H d = some (exd d fs)) :
    ∃ (oe od : Obj) (mA : Str → Option Value), PySem.W.InstAt s.heap a oe C (some od) ∧ (∀ f, RelO (fs.lookup f) (mA f)) ∧ ∀ n, PySem.W.lookIn n od = some (mA n) := by
  obtain ⟨t1, he⟩ := exo_at I.hok e
  obtain ⟨mA, hns, hr⟩ := exd_at I.hok ed
  obtain ⟨od, ho, hl⟩ := lookIn_ns hns
  exact ⟨_, od, mA, ⟨he, rfl, rfl, ho⟩, hr, hl⟩
theorem exo_bare {pins : List (Addr × Obj)} {σ : L2.St} {H : Hp} {s : Shared} {a C : Addr} (I : Inv X pins σ H s) (e : H a = some (exo a C none)) : ∃ oe : Obj, PySem.W.InstAt s.heap a oe C none := by
  obtain ⟨t1, he⟩ := exo_at I.hok e
  exact ⟨_, ⟨he, rfl, rfl, trivial⟩⟩
/-- an error of the class at C, its fields -/
def ErrAt (H : Hp) (a C : Addr) : Option (List (Str × V)) → Prop
  | none => H a = some (exo a C none)
  | some fs => ∃ d, H a = some (exo a C (some d)) ∧ H d = some (exd d fs)
theorem ErrAt.keep {H H' : Hp} {a C : Addr} {o : Option (List (Str × V))} (h : ErrAt H a C o) (k : Same H H') : ErrAt H' a C o := by
  cases o with
  | none => exact k _ _ h
  | some fs => obtain ⟨d, e1, e2⟩ := h; exact ⟨d, k _ _ e1, k _ _ e2⟩
def rIsErr (K : PySem.W.Frag) : List V → Hp → VK → Prop := fun xs H Q => ∃ (a C : Addr) (o : Option (List (Str × V))) (c : V) (u : Value) (b : Bool),
  xs = [.ref a, c] ∧ ErrAt H a C o ∧ HeldC K C ∧ ClsV c u ∧ PySem.W.kitOne K (.ref C) u = some b ∧ Q (.bl b) H
theorem call_isErr : CallR X (.builtin "isinstance") (rIsErr X.K) := by
  intro pins s σ H xs us Q I r h
  obtain ⟨a, C, o, c, u, b, rfl, ea, T, k, e, q⟩ := h
  obtain ⟨u1, u2, rfl, r1, r2⟩ := vals2 r
  have e2 := k.eq r2
  subst e2
  cases r1
  have J : ∃ (oe : Obj) (od : Option Obj), PySem.W.InstAt s.heap a oe C od := by
    cases o with
    | none => obtain ⟨oe, J⟩ := exo_bare I ea; exact ⟨oe, none, J⟩
    | some fs =>
      obtain ⟨d, e1, e2⟩ := ea
      obtain ⟨oe, od, _, J, _⟩ := exo_inst I e1 e2
      exact ⟨oe, some od, J⟩
  obtain ⟨oe, od, J⟩ := J
  exact PySem.W.kia_one (PySem.W.kitx_exc T.cl T.ga T.gg T.ex T.ca T.sp T.tk T.mo) I.kIn J e (fun z => nomatch z) fun tk => ⟨.bl b, H, I.tok tk, rfl, q⟩
def tErrFld (K : PySem.W.Frag) (n : Str) (te : TE) : TE := fun σ H Q => te σ H fun x H1 => ∃ (a C : Addr) (fs : List (Str × V)) (v : V),
  x = .ref a ∧ ErrAt H1 a C (some fs) ∧ HeldC K C ∧ PySem.W.findIn K (.ref C) n = some none ∧ fs.lookup n = some v ∧ Q v H1
theorem pe_errFld {e : Expr} {te : TE} {pos : Pos} {n : Str} (he : PE X e te) (hb : attributeBase e n X.env (eval e X.env) = eval e X.env := by rfl) : PE X (.Attribute e n pos) (tErrFld X.K n te) := by
  constructor
  intro pins s σ H Q I h
  refine attr_of hb (thn (he.run pins s σ H _ I h) fun u s1 hh => ?_)
  obtain ⟨x, H1, I1, rx, a, C, fs, v, rfl, ⟨d, ea, ed⟩, T, hno, l, q⟩ := hh
  obtain rfl : u = Value.ref a := rx
  obtain ⟨oe, od, mA, J, hr, hl⟩ := exo_inst I1 ea ed
  obtain ⟨u, hu, ru⟩ := RelO.some_of (v := v) (o := mA n) (by rw [← l]; exact hr n)
  exact HandSPX.exc_get I1.kIn J T.ga T.gg T.ex (PySem.W.findObj_own T.hd hno rfl (by rw [hl, hu])) (handed_of ru) ⟨v, H1, I1.tok _, ru, q⟩
end
end Ev
namespace Ev
open PySem L2 PySem.Spec PyProof.Rows
/-- C(e, ..): the error itself is the value -/
def tNewX (C : Addr) (sp : Sp) (ta : TA) : TE := fun σ H Q => ta σ H fun vs H1 => vs.length ≤ 1000 ∧ ∀ a, H1 a = none → sp (.ref a :: vs) (upd H1 a (exo a C none)) (fun v H2 => v = .non ∧ Q (.ref a) H2) (fun _ _ _ => False)
section
variable {X : Cx}
theorem pe_newX {CX : CXT} {x : Str} {C fI : Addr} {k : Nat} {fd : FuncData} {ps : List Str} {sp : Sp} {e : Expr} {es : List Expr} {ta : TA} {p pos : Pos} (T : OexC X.K C) (iC : PySem.W.findIn X.K (.ref C) "__init__" = some (some (.ref fI))) (tI : PySem.W.typeIn X.K (.ref fI) = some (.type "function"))
    (F1 : FnOk X.prog X.w X.K X.mg X.base CX k fI fd ps sp) (hr : Room (k + 1) X.A) (hb : Binds X.K fd ps []) (hx : Passes CX X (fun _ _ _ => False)) (hg : Gl X x) (hm : X.mg x = some (.ref C)) (ha : PA X (e :: es) ta)
    (hdb : (x == ("__debug__" : Str)) = false := by decide) (he : starEach (e :: es) X.env = (false, eval e X.env) :: starEach es X.env := by rfl) (hpl : (backTo pos (starEach es X.env)).any (·.1) = false := by rfl) :
    PE X (.Call (.Name x p) (e :: es) [] pos) (tNewX C sp ta) := by
  constructor
  intro pins s σ H Q I h
  obtain ⟨nm, q, N, bs, bm, sn, sub, ab, col, dd, k0, k1, k2, k3, k5, hC, hbm⟩ := T.cls
  refine wpAny_Call_Name_kw (ld_glob I hg hm ?_ hdb)
  refine PySem.W.callWith_K (h₀ := X.base) I.ok.mod.kin T.kC (thn (ha.run pos pins s σ H _ I h) fun us s1 hh => ?_) he hpl
  obtain ⟨vs, H1, I1, r1, hz, q1⟩ := hh
  refine ⟨I1.kIn, ?_⟩
  show wpAny _ _ (call (.ref C) us) _ _ _
  obtain ⟨hp, g, dr, tk, os⟩ := s1
  have up := Nat.le_succ hp.objs.size
  have q2 := q1 (hp.objs.size + 1) (I1.hok.fresh up)
  have old : ∀ b o, hp.get? b = some o → ((hp.push (PySem.W.kdv_tup us)).push (PySem.HandSPX.excO C hp.objs.size)).get? b = some o := fun b o e => Heap.get?_push_of_some _ (Heap.get?_push_of_some _ e)
  have here : ((hp.push (PySem.W.kdv_tup us)).push (PySem.HandSPX.excO C hp.objs.size)).get? (hp.objs.size + 1) = some (PySem.HandSPX.excO C hp.objs.size) := by heap_get
  have I2 := I1.laid (t' := tk) old up (exo_ok (H := upd H1 (hp.objs.size + 1) (exo (hp.objs.size + 1) C none)) here)
  have r2 : Vals (V.ref (hp.objs.size + 1) :: vs) (Value.ref (hp.objs.size + 1) :: us) := .cons rfl r1
  have ln : (Value.ref (hp.objs.size + 1) :: us).length = ps.length := by rw [← r2.length]; exact F1.len _ _ _ _ q2
  have fit : us.length ≤ sizeLine := by
    rw [← r1.length, sizeLine_eq]
    omega
  have bt := hb _ (Value.ref (hp.objs.size + 1) :: us) I2.kIn (by rw [List.append_nil]; exact ln)
  rw [List.append_nil] at bt
  refine wpAny_call (PySem.HandSPX.call_own F.excBase_ValueError (fun Y => PySem.HandSPX.refsVE_contains Y bm hbm) (I1.kIn _ _ hC) (PySem.W.looks_findIn I1.kIn iC) (fun self => PySem.W.bind_fn I1.kIn self tI) fit
    (codeAny_mono (F1.run _ X.stack _ _ ⟨_, []⟩ _ _ _ (fun _ _ _ => False) (hr.make C us []) (I2.env0.make C us []) bt r2 q2) fun r s' hq' => ?_))
  cases r with
  | error er => exact hx pins σ _ _ er s' I2 hq'
  | ok fl =>
    cases fl with
    | ret u =>
      obtain ⟨v, H3, I3, rv, ev, q3⟩ := I2.after hq'
      subst ev
      exact ⟨rv, ⟨V.ref (hp.objs.size + 1), H3, I3, rfl, q3⟩⟩
    | next => exact hq'.elim
    | brk => exact hq'.elim
    | cont => exact hq'.elim
end
end Ev
namespace PySem
namespace NewKw
open PySem.W PySem.Calls PyProof.Rows PySem.HandSPX
section
open Builtin Builtin.ObjectAttr
variable {prog : Program} {w : World} {A : Around} {E : Value → Shared → Prop} {R : Result → Shared → Prop} {hp : Heap} {gs : Array GenState} {dr : Drawn} {tk : Nat} {os : OsState} {M : Model}
variable {nm qn : Str} {C N : Addr} {bs bm bB : List Value} {hdct : Bool} {sn : List Str} {sub : List Value} {ab : Bool} {col : Option Bool} {dd : Option Addr} {k0 k1 k2 k3 k5 : Option Value} {B nI iI : String} {us : List Value} {kw : List (Str × Value)}
theorem nk_check {Q : Unit → Shared → Prop} (F : ExcBaseFacts B nI iI bB) (hT : ∀ X : String, bm.contains (.type X) = bB.contains (.type X))
    (hC : hp.get? C = some (excClassObj nm qn C N bs bm hdct sn sub ab col dd k0 k1 k2 k3 k5 nI)) (hq : Q () ⟨hp, gs, dr, tk, os⟩) :
    wpAny M A (checkBuiltinCall nI ⟨.ref C :: us, kw⟩) Q E ⟨hp, gs, dr, tk, os⟩ := by
  have c1 : (Value.ref C :: bm).contains (.type B) = true := by rw [List.contains_cons, hT, F.hasB, Bool.or_true]
  have c2 := F.noStar
  simp only [checkBuiltinCall, F.newKind, F.newSplit, F.newRow]
  repeat (first
    | refine wpAny_loadPart_at hC ?_
    | (refine wpAny_isSubtype_exc hC ?_; rw [c1])
    | refine wpAny_staticBase_exc hC ?_
    | refine wpAny_madeBy_exc hC ?_
    | simp only [bne_self_eq_false, Bool.false_eq_true, if_false]
    | wp_step)
  exact hq
theorem nk_new (F : ExcBaseFacts B nI iI bB) (hT : ∀ X : String, bm.contains (.type X) = bB.contains (.type X))
    (hC : hp.get? C = some (excClassObj nm qn C N bs bm hdct sn sub ab col dd k0 k1 k2 k3 k5 nI))
    (hq : R (.ok (.ret (.ref (hp.objs.size + 1)))) ⟨(hp.push (W.kdv_tup us)).push (excO C hp.objs.size), gs, dr, tk, os⟩) (hl : us.length ≤ sizeLine) :
    codeAny (model prog w) A (.builtin nI ⟨.ref C :: us, kw⟩) R ⟨hp, gs, dr, tk, os⟩ := by
  have e0 := F.ends
  have c1 : (Value.ref C :: bm).contains (.type B) = true := by rw [List.contains_cons, hT, F.hasB, Bool.or_true]
  have c2 : (Value.ref C :: bm).contains (.type "AttributeError") = false := by rw [List.contains_cons, hT, F.noAttr]; rfl
  have c3 : (Value.ref C :: bm).contains (.type "NameError") = false := by rw [List.contains_cons, hT, F.noName]; rfl
  refine codeAny_builtinAt F.entry ?_
  unfold Builtin.«BaseException.__new__»
  refine wpAt_bind ?_
  show wpAt _ _ _ (stack >>= _) _ _ _
  refine wpAt_bind (wpAt_stack fun p below => wpAt_of_wpAny ?_)
  wp_walk
  refine wpAt_of_wpAny ?_
  rw [F.owner]
  repeat (first
    | with_reducible refine wpAny_madeHere_exc F.canon hC ?_
    | with_reducible refine wpAny_loadPart_at hC ?_
    | (with_reducible refine wpAny_isSubtype_exc hC ?_; first | rw [c1] | rw [c2] | rw [c3])
    | wp_step)
  show R _ _
  rw [Heap.size_push]
  exact hq
theorem nk_type {fI : Addr} {Q : Fin → Shared → Prop} {E : Value → Shared → Prop} (F : ExcBaseFacts B nI iI bB) (hT : ∀ X : String, bm.contains (.type X) = bB.contains (.type X))
    (hC : hp.get? C = some (excClassObj nm qn C N bs bm hdct sn sub ab col dd k0 k1 k2 k3 k5 nI))
    (li : W.Looks (model prog w) hp (typeLookup (.ref C) "__init__") (some (.ref fI))) (lb : ∀ self, W.Looks (model prog w) hp (bindSpecial (.ref fI) self) (.ref fI, [self])) (hl : us.length ≤ sizeLine)
    (hq : codeAny (model prog w) A (.call (.ref fI) ⟨.ref (hp.objs.size + 1) :: us, kw⟩)
      (fun r s' => match r with
        | .ok (.ret v) => v = .none ∧ Q (.done (.ret (.ref (hp.objs.size + 1)))) s'
        | .ok _ => False
        | .error e => E e s')
      ⟨(hp.push (W.kdv_tup us)).push (excO C hp.objs.size), gs, dr, tk, os⟩) :
    wpAny (model prog w) A (Builtin.«type.__call__» ⟨.ref C :: us, kw⟩) Q E ⟨hp, gs, dr, tk, os⟩ := by
  repeat (first
    | with_reducible refine wpAny_loadPart_at hC ?_
    | with_reducible refine wpAny_madeBy_exc hC ?_
    | wp_step)
  refine codeAny_call_builtin_code (Code.quiet_builtin _ F.quiet) (nk_check F hT hC ?_)
  refine nk_new F hT hC ?_ hl
  show wpAny _ _ _ _ _ _
  have old : ∀ b o, hp.get? b = some o → ((hp.push (W.kdv_tup us)).push (excO C hp.objs.size)).get? b = some o := fun b o e => Heap.get?_push_of_some _ (Heap.get?_push_of_some _ e)
  have here : ((hp.push (W.kdv_tup us)).push (excO C hp.objs.size)).get? (hp.objs.size + 1) = some (excO C hp.objs.size) := by heap_get
  have own : (Value.ref C :: bm).contains (.ref C) = true := by simp
  have a1 := li.keeps old
  have a2 := (lb (.ref (hp.objs.size + 1))).keeps old
  unfold isInstance
  repeat (first
    | with_reducible refine wpAny_loadPart_at here ?_
    | (with_reducible refine wpAny_isSubtype_exc (old _ _ hC) ?_; rw [own])
    | wp_step)
  show wpAny _ _ (typeLookup (.ref C) _) _ _ _
  refine a1.at ?_
  refine wpAny_holding (wpAny_bind (a2.at ?_))
  refine wpAny_bind (wpAny_call (codeAny_mono hq fun r s' z => ?_))
  rcases r with e | (v | _ | _ | _) <;> first | exact z | exact z.elim | skip
  obtain ⟨rfl, z⟩ := z
  first
    | exact wpAny_pure (wpAny_pure z)
    | (wp_walk; exact z)
theorem nk_call {fI : Addr} (F : ExcBaseFacts B nI iI bB) (hT : ∀ X : String, bm.contains (.type X) = bB.contains (.type X))
    (hC : hp.get? C = some (excClassObj nm qn C N bs bm hdct sn sub ab col dd k0 k1 k2 k3 k5 nI))
    (li : W.Looks (model prog w) hp (typeLookup (.ref C) "__init__") (some (.ref fI))) (lb : ∀ self, W.Looks (model prog w) hp (bindSpecial (.ref fI) self) (.ref fI, [self])) (hl : us.length ≤ sizeLine)
    (hq : codeAny (model prog w) (A.under (.builtin "type.__call__" ⟨.ref C :: us, kw⟩)) (.call (.ref fI) ⟨.ref (hp.objs.size + 1) :: us, kw⟩) (W.InitBack (hp.objs.size + 1) R)
      ⟨(hp.push (W.kdv_tup us)).push (excO C hp.objs.size), gs, dr, tk, os⟩) :
    codeAny (model prog w) A (.call (.ref C) ⟨us, kw⟩) R ⟨hp, gs, dr, tk, os⟩ := by
  have f1 := tc_lookup
  have f2 := tc_bind (.ref C)
  have hTy : (⟨hp, gs, dr, tk, os⟩ : Shared).TypeIs (.ref C) "type" := ⟨_, hC, rfl⟩
  refine codeAny_of_tree ?_
  show wpAny _ _ (callAny (.ref C) _) _ _ _
  repeat (any_goals (first
    | assumption
    | with_reducible refine wpAny_loadPart_at hC ?_
    | wp_step))
  refine ⟨rfl, ?_⟩
  refine codeAny_call_builtin_at (Code.quiet_builtin _ (by decide +kernel)) entry_typeCall (wpAny_check_type_call_sub hC (nk_type F hT hC li lb hl ?_))
  refine codeAny_mono hq fun r s' z => ?_
  rcases r with e | (v | _ | _ | _) <;> exact z
end
end NewKw
end PySem
namespace Ev
open PySem L2 PySem.Spec PyProof.Rows
/-- C(k = v, ..): the error itself is the value -/
def tNewXK (C : Addr) (m : Nat) (sp : Sp) (gV : List V → List V → List V) (tk : TA) : TE := fun σ H Q => tk σ H fun zs H1 => zs.length = m ∧ ∀ a, H1 a = none → sp (gV [.ref a] zs) (upd H1 a (exo a C none)) (fun v H2 => v = .non ∧ Q (.ref a) H2) (fun _ _ _ => False)
section
variable {X : Cx}
theorem pe_newXK {CX : CXT} {x : Str} {C fI : Addr} {k : Nat} {fd : FuncData} {ps ks : List Str} {sp : Sp} {kws : List Keyword} {tk : TA} {g : List Value → List Value → List Value} {gV : List V → List V → List V} {p pos : Pos} (T : OexC X.K C)
    (iC : PySem.W.findIn X.K (.ref C) "__init__" = some (some (.ref fI))) (tI : PySem.W.typeIn X.K (.ref fI) = some (.type "function"))
    (F1 : FnOk X.prog X.w X.K X.mg X.base CX k fI fd ps sp) (hr : Room (k + 1) X.A) (hb : KBn X.K fd ps 1 ks g gV) (hx : Passes CX X (fun _ _ _ => False)) (hg : Gl X x) (hm : X.mg x = some (.ref C)) (hkw : PK X kws tk)
    (hall : (backToKw pos (keywordEach kws X.env)).all (·.1.isSome) = true := by rfl) (hks : (backToKw pos (keywordEach kws X.env)).filterMap (·.1) = ks := by rfl) (hdb : (x == ("__debug__" : Str)) = false := by decide)
    (hpl : ((backTo pos (starEach [] X.env)).any (·.1) || (backToKw pos (keywordEach kws X.env)).any (·.1.isNone)) = false := by rfl) :
    PE X (.Call (.Name x p) [] kws pos) (tNewXK C ks.length sp gV tk) := by
  constructor
  intro pins s σ H Q I h
  obtain ⟨nm, q, N, bs, bm, sn, sub, ab, col, dd, k0, k1, k2, k3, k5, hC, hbm⟩ := T.cls
  refine wpAny_Call_Name_kw (ld_glob I hg hm ?_ hdb)
  refine PySem.W.callWith_KW0 (h₀ := X.base) I.ok.mod.kin T.kC hall ?_ hpl
  refine thn (hkw.run pos pins s σ H _ I h) fun ws s1 hh => ?_
  obtain ⟨zs, H1, I1, r1, hz, q1⟩ := hh
  refine ⟨I1.kIn, ?_⟩
  rw [hks]
  show wpAny _ _ (call (.ref C) [] (ks.zip ws)) _ _ _
  obtain ⟨hp, gs, dr, tk, os⟩ := s1
  have up := Nat.le_succ hp.objs.size
  have q2 := q1 (hp.objs.size + 1) (I1.hok.fresh up)
  have old : ∀ b o, hp.get? b = some o → ((hp.push (PySem.W.kdv_tup [])).push (PySem.HandSPX.excO C hp.objs.size)).get? b = some o := fun b o e => Heap.get?_push_of_some _ (Heap.get?_push_of_some _ e)
  have here : ((hp.push (PySem.W.kdv_tup [])).push (PySem.HandSPX.excO C hp.objs.size)).get? (hp.objs.size + 1) = some (PySem.HandSPX.excO C hp.objs.size) := by heap_get
  have I2 := I1.laid (t' := tk) old up (exo_ok (H := upd H1 (hp.objs.size + 1) (exo (hp.objs.size + 1) C none)) here)
  have r2 := hb.rel (vs := [V.ref (hp.objs.size + 1)]) (us := [.ref (hp.objs.size + 1)]) (.cons rfl .nil) r1
  have bt := hb.to _ [.ref (hp.objs.size + 1)] ws I2.kIn rfl (r1.length.symm.trans hz)
  refine wpAny_call (PySem.NewKw.nk_call F.excBase_ValueError (fun Y => PySem.HandSPX.refsVE_contains Y bm hbm) (I1.kIn _ _ hC) (PySem.W.looks_findIn I1.kIn iC) (fun self => PySem.W.bind_fn I1.kIn self tI) (Nat.zero_le _)
    (codeAny_mono (F1.run _ X.stack _ _ ⟨_, ks.zip ws⟩ _ _ _ (fun _ _ _ => False) (hr.make C [] (ks.zip ws)) (I2.env0.make C [] (ks.zip ws)) bt r2 q2) fun r s' hq' => ?_))
  cases r with
  | error er => exact hx pins σ _ _ er s' I2 hq'
  | ok fl =>
    cases fl with
    | ret u =>
      obtain ⟨v, H3, I3, rv, ev, q3⟩ := I2.after hq'
      subst ev
      exact ⟨rv, ⟨V.ref (hp.objs.size + 1), H3, I3, rfl, q3⟩⟩
    | next => exact hq'.elim
    | brk => exact hq'.elim
    | cont => exact hq'.elim
end
end Ev
namespace Ev
open PySem L2 PySem.Spec PyProof.Rows
section
variable {X : Cx}
/-- C() of an own error class without an __init__ of its own -/
theorem pe_newX0 {C : Addr} {bmB : List Value} {B newId initId : String} {x : Str} {p pos : Pos} (F : ExcBaseFacts B newId initId bmB) (q : PySem.W.excIn X.K C bmB newId = true) (gC : X.mg x = some (.ref C)) (kC : PySem.W.keepIn X.K (.ref C) = true) (hg : Gl X x)
    (hdb : (x == ("__debug__" : Str)) = false := by decide) : PE X (.Call (.Name x p) [] [] pos) (fun σ H Q => ∀ a, H a = none → Q (.ref a) (upd H a (exo a C none))) := by
  constructor
  intro pins s σ H Q I h
  refine wpAny_Call_Name_kw (ld_glob I hg gC ?_ hdb)
  refine PySem.W.callWith_K0 I.kIn kC ?_
  show wpAny _ _ (call (.ref C) []) _ _ _
  obtain ⟨bm, N, nm, qn, bs, hdct, sn, sub, ab, col, dd, k0, k1, k2, k3, k5, mN, hC, hN, hni, T⟩ := exc_obj I.kIn q
  refine wpAny_call_exc_subT F T hC hN hni (fun h' a hm => ?_) (by show 0 ≤ sizeLine; exact Nat.zero_le _)
  have hn : H a = none := I.hok.gone hm.new
  obtain ⟨t, ht, _, _⟩ := hm.there
  exact ⟨.ref a, upd H a (exo a C none), I.laidN hm.keeps hm.new hn (exo_ok ht), rfl, h a hn⟩
end
end Ev
namespace Ev
open PySem L2 PySem.Spec PyProof.Rows
/-! repr of what holds a dict: only the dict itself must not be that of the modules. -/
section
variable {prog : Program} {w : World} {h : Heap}
def Item (prog : Program) (w : World) (h : Heap) (u : Value) (d : PyData) : Prop := ∃ as bs, Reads h u d as ∧ ReadAtMost h d.depth bs ∧ ReprK prog w bs h d.depth u d.shown
theorem item_flat {u : Value} {d : PyData} {as : List Addr} (r : Reads h u d as) (hs : d.showable = true) (nd : d.hasDict = false) (hz : d.shown.length ≤ sizeLine) : Item prog w h u d := by
  obtain ⟨bs, e1, e2⟩ := ReprK.of_reads (prog := prog) (w := w) r hs (fun z => by rw [nd] at z; cases z) hz
  exact ⟨as, bs, r, e1, e2⟩
theorem dict_parts {a : Addr} {o : Obj} {es : Array DictEntry} {n : Nat} {kvs : List (PyData × PyData)} {as bs : List Addr} (h1 : h.get? a = some o) (h2 : o.cls = .type "dict") (h3 : o.data = .dict es n)
    (rk : ReadsAll h (es.toList.map (·.key)) (kvs.map (·.1)) as) (rv : ReadsAll h (es.toList.map (·.val)) (kvs.map (·.2)) bs) (hs : PyData.showableKv kvs = true)
    (nk : PyData.hasDictAll (kvs.map (·.1)) = false) (nv : PyData.hasDictAll (kvs.map (·.2)) = false) (hz : (dictText (PyData.shownKv kvs)).length ≤ sizeLine) :
    ∃ cs, ReadAtMost h (PyData.depthKv kvs) cs ∧ a ∉ cs ∧ ReprEntriesK prog w cs h (PyData.depthKv kvs) es.toList (List.zipWith (fun k v : Str => k ++ ": " ++ v) (PyData.shownAll (kvs.map (·.1))) (PyData.shownAll (kvs.map (·.2)))) := by
  obtain ⟨g1, g2⟩ := PyData.showableKv_split kvs hs
  have z1 : ∀ t ∈ PyData.shownAll (kvs.map (·.1)), t.length ≤ sizeLine := fun t ht => by
    obtain ⟨p, hp, hl⟩ := PyData.shownKv_key_le kvs t ht
    exact Nat.le_trans hl (Nat.le_trans (dictText_mem_le hp) hz)
  have z2 : ∀ t ∈ PyData.shownAll (kvs.map (·.2)), t.length ≤ sizeLine := fun t ht => by
    obtain ⟨p, hp, hl⟩ := PyData.shownKv_val_le kvs t ht
    exact Nat.le_trans hl (Nat.le_trans (dictText_mem_le hp) hz)
  obtain ⟨c1, m1, k1⟩ := ReprAllK.of_readsAll (prog := prog) (w := w) rk g1 (fun z => by rw [nk] at z; cases z) z1
  obtain ⟨c2, m2, k2⟩ := ReprAllK.of_readsAll (prog := prog) (w := w) rv g2 (fun z => by rw [nv] at z; cases z) z2
  have m : ReadAtMost h (PyData.depthKv kvs) (c1 ++ c2) := (m1.mono (PyData.depthAll_keys_le kvs)).append (m2.mono (PyData.depthAll_vals_le kvs))
  refine ⟨c1 ++ c2, m, not_mem_of_deeper (.dict h1 h2 h3 rk rv) (by simp only [PyData.depth]; omega) m, ReprEntriesK.of_two _ _ _ ?_ ?_⟩
  · exact k1.more_le (fun b hb => List.mem_append_left _ hb) (PyData.depthAll_keys_le kvs)
  · exact k2.more_le (fun b hb => List.mem_append_right _ hb) (PyData.depthAll_vals_le kvs)
theorem item_dict {a : Addr} {o : Obj} {es : Array DictEntry} {n : Nat} {kvs : List (PyData × PyData)} {as bs : List Addr} (h1 : h.get? a = some o) (h2 : o.cls = .type "dict") (h3 : o.data = .dict es n) (ns : (a == sysModules) = false)
    (rk : ReadsAll h (es.toList.map (·.key)) (kvs.map (·.1)) as) (rv : ReadsAll h (es.toList.map (·.val)) (kvs.map (·.2)) bs) (hs : PyData.showableKv kvs = true)
    (nk : PyData.hasDictAll (kvs.map (·.1)) = false) (nv : PyData.hasDictAll (kvs.map (·.2)) = false) (hz : (dictText (PyData.shownKv kvs)).length ≤ sizeLine) : Item prog w h (.ref a) (.dict kvs) := by
  obtain ⟨cs, m, na, k⟩ := dict_parts (prog := prog) (w := w) h1 h2 h3 rk rv hs nk nv hz
  have r : Reads h (.ref a) (.dict kvs) _ := .dict h1 h2 h3 rk rv
  refine ⟨_, a :: cs, r, ReadAtMost.cons r (by simp only [PyData.depth]; omega) m, ?_⟩
  simp only [PyData.depth, PyData.shown, PyData.shownKv_eq]
  exact ReprK.dict h1 h2 h3 ns na k
theorem items {us : List Value} {ds : List PyData} (p : Paired (Item prog w h) us ds) : ∃ as bs, ReadsAll h us ds as ∧ ReadAtMost h (PyData.depthAll ds) bs ∧ ReprAllK prog w bs h (PyData.depthAll ds) us (PyData.shownAll ds) := by
  induction p with
  | nil => exact ⟨[], [], .nil, (fun _ z => nomatch z), by simp only [PyData.shownAll]; exact .nil⟩
  | cons x t ih =>
    obtain ⟨as, bs, r, m, k⟩ := x
    obtain ⟨as2, bs2, r2, m2, k2⟩ := ih
    refine ⟨_, bs ++ bs2, .cons r r2, ?_, ?_⟩
    · refine ReadAtMost.append (m.mono ?_) (m2.mono ?_)
      · simp only [PyData.depthAll]; exact Nat.le_max_left _ _
      · simp only [PyData.depthAll]; exact Nat.le_max_right _ _
    · simp only [PyData.depthAll, PyData.shownAll]
      refine .cons ((k.more fun b hb => List.mem_append_left _ hb).level_le (Nat.le_max_left _ _)) (k2.more_le (fun b hb => List.mem_append_right _ hb) (Nat.le_max_right _ _))
theorem sb_dict {a : Addr} {o : Obj} {es : Array DictEntry} {n : Nat} {kvs : List (PyData × PyData)} {as bs : List Addr} (h1 : h.get? a = some o) (h2 : o.cls = .type "dict") (h3 : o.data = .dict es n) (ns : (a == sysModules) = false)
    (rk : ReadsAll h (es.toList.map (·.key)) (kvs.map (·.1)) as) (rv : ReadsAll h (es.toList.map (·.val)) (kvs.map (·.2)) bs) (hs : PyData.showableKv kvs = true)
    (nk : PyData.hasDictAll (kvs.map (·.1)) = false) (nv : PyData.hasDictAll (kvs.map (·.2)) = false) (hz : (dictText (PyData.shownKv kvs)).length ≤ sizeLine) : ∃ T i, ShowsBy prog w h a (.dict kvs) T i := by
  obtain ⟨cs, m, na, k⟩ := dict_parts (prog := prog) (w := w) h1 h2 h3 rk rv hs nk nv hz
  refine ⟨"dict", "dict.__repr__", F.slot_dict_repr, F.slot_dict_str, F.slot_dict_format, fun s kp => ⟨o, kp _ _ h1, h2⟩, fun A E s Q hg hu kp hQ => ?_⟩
  simp only [PyData.depth] at hu
  simp only [PyData.shown, PyData.shownKv_eq] at hQ
  exact call_dict_reprK h1 h2 h3 ns na k hg (fun b _ => Clear.nil b) hu kp hQ (by rw [← PyData.shownKv_eq]; exact hz)
theorem sb_list {a : Addr} {o : Obj} {l : List Value} {n : Nat} {ds : List PyData} (h1 : h.get? a = some o) (h2 : o.cls = .type "list") (h3 : o.data = .seq l.toArray n) (ne : l ≠ [])
    (p : Paired (Item prog w h) l ds) (hz : (listText (PyData.shownAll ds)).length ≤ sizeLine) : ∃ T i, ShowsBy prog w h a (.list ds) T i := by
  obtain ⟨as, bs, r, m, k⟩ := items p
  have na : a ∉ bs := not_mem_of_deeper (.list h1 h2 h3 r) (by simp only [PyData.depth]; omega) m
  refine ⟨"list", "list.__repr__", F.slot_list_repr.toG, F.slot_list_str, F.slot_list_format, fun s kp => ⟨o, kp _ _ h1, h2⟩, fun A E s Q hg hu kp hQ => ?_⟩
  simp only [PyData.depth] at hu
  simp only [PyData.shown] at hQ
  cases l with
  | nil => exact absurd rfl ne
  | cons x l => exact call_list_reprK h1 h2 h3 na (by simpa using k.length_eq) (fun i y e => k.item i y (by simpa using e)) hg (fun b _ => Clear.nil b) hu kp hQ hz
end
/-- a value that holds no dict, or a dict of such values -/
def Vi (K : PySem.W.Frag) (H : Hp) (v : V) (d : PyData) : Prop := (Dp K H v d ∧ d.hasDict = false) ∨ ∃ (a : Addr) (kvs : List (Key × V)) (ds : List (PyData × PyData)), v = .ref a ∧ d = .dict ds ∧ H a = some (.dK kvs) ∧
  ds.map (·.1) = kvs.map (fun p => keyD p.1) ∧ DpAll K H (kvs.map (·.2)) (ds.map (·.2)) ∧ PyData.hasDictAll (ds.map (·.2)) = false
theorem keys_nodict : ∀ kvs : List (Key × V), PyData.hasDictAll (kvs.map fun p => keyD p.1) = false
  | [] => by simp only [List.map_nil, PyData.hasDictAll]
  | p :: r => by
    rw [List.map_cons, PyData.hasDictAll, keys_nodict r]
    rcases p with ⟨k | k, v⟩ <;> simp [keyD, PyData.hasDict]
section
variable {X : Cx} {pins : List (Addr × Obj)} {σ : L2.St} {H : Hp} {s : Shared}
theorem vi_dict (I : Inv X pins σ H s) {a : Addr} {kvs : List (Key × V)} {ds : List (PyData × PyData)} (e : H a = some (.dK kvs)) (ek : ds.map (·.1) = kvs.map (fun p => keyD p.1)) (ev : DpAll X.K H (kvs.map (·.2)) (ds.map (·.2))) :
    ∃ (o : Obj) (es : Array DictEntry) (n : Nat) (as bs : List Addr), s.heap.get? a = some o ∧ o.cls = .type "dict" ∧ o.data = .dict es n ∧ (a == sysModules) = false ∧ ReadsAll s.heap (es.toList.map (·.key)) (ds.map (·.1)) as ∧ ReadsAll s.heap (es.toList.map (·.val)) (ds.map (·.2)) bs := by
  obtain ⟨hz, hs0, vs, kv, hdo⟩ := (show ObjOk X.prog X.w H s.heap a (.dK kvs) from I.hok a _ e)
  obtain ⟨ep, ob, es, ho, ex, hdat, hko, hpr, hnd⟩ := hdo.dictAt
  have e1 : ReadsAll s.heap (es.toList.map (·.key)) (ds.map (·.1)) [] := by
    rw [ek]; exact reads_keys hpr kv
  have e3 : es.toList.map (·.val) = vs.map (·.2) := pair_vals hpr
  obtain ⟨bs, e2⟩ := Dp.readsAll I _ _ _ ev (vals_snd kv)
  exact ⟨ob, es, ep, [], bs, ho, ex.1, hdat, hs0, e1, by rw [e3]; exact e2⟩
theorem vi_item (I : Inv X pins σ H s) {v : V} {d : PyData} {u : Value} (h : Vi X.K H v d) (r : RelV v u) (hs : d.showable = true) (hz : d.shown.length ≤ sizeLine) : Item X.prog X.w s.heap u d := by
  rcases h with ⟨h, nd⟩ | ⟨a, kvs, ds, rfl, rfl, e, ek, ev, nd⟩
  · obtain ⟨as, rd⟩ := Dp.reads I _ _ _ h r
    exact item_flat rd hs nd hz
  · cases r
    obtain ⟨o, es, n, as, bs, h1, h2, h3, h4, h5, h6⟩ := vi_dict I e ek ev
    refine item_dict h1 h2 h3 h4 h5 h6 (by simpa [PyData.showable] using hs) ?_ nd (by simpa only [PyData.shown] using hz)
    rw [ek]; exact keys_nodict kvs
theorem vi_items (I : Inv X pins σ H s) : ∀ {vs : List V} {ds : List PyData} {us : List Value}, Paired (Vi X.K H) vs ds → Vals vs us → (∀ d ∈ ds, d.showable = true ∧ d.shown.length ≤ sizeLine) → Paired (Item X.prog X.w s.heap) us ds
  | _, _, _, .nil, .nil, _ => .nil
  | _, _, _, .cons h t, .cons r q, g => .cons (vi_item I h r (g _ List.mem_cons_self).1 (g _ List.mem_cons_self).2) (vi_items I t q fun d m => g d (List.mem_cons_of_mem _ m))
/-- repr of such a value, and of a list of them -/
def rReprI (K : PySem.W.Frag) : List V → Hp → VK → Prop := fun xs H Q => ∃ (v : V) (d : PyData), xs = [v] ∧ d.showable = true ∧ d.depth ≤ 32 ∧ d.shown.length ≤ sizeLine ∧
  (Vi K H v d ∨ ∃ (a : Addr) (vs : List V) (ds : List PyData), v = .ref a ∧ d = .list ds ∧ H a = some (.lst vs) ∧ vs ≠ [] ∧ Paired (Vi K H) vs ds ∧ ∀ d ∈ ds, d.showable = true ∧ d.shown.length ≤ sizeLine) ∧ Q (.str d.shown) H
theorem call_reprI (gd : X.A.guards = some []) (hu : X.A.units + 64 < cLine) : CallR X (.builtin "repr") (rReprI X.K) := by
  intro pins s σ H xs us Q I r h
  obtain ⟨v, d, rfl, h1, h3, h4, h, q⟩ := h
  have fin : ∀ (h' : Heap) (t : Tok) (tk : Nat), (∀ b o, s.heap.get? b = some o → h'.get? b = some o) → EP X pins σ Q (.str d.shown t) { s with heap := h', toks := tk } := fun h' t tk hk => ⟨.str d.shown, H, I.kept hk, ⟨t, rfl⟩, q⟩
  have by_sb : ∀ (a : Addr) (T i : String), us = [.ref a] → ShowsBy X.prog X.w s.heap a d T i → wpAny (model X.prog X.w) X.A (call (.builtin "repr") us) (EP X pins σ Q) X.xe s := by
    intro a T i eu S
    subst eu
    exact call_repr_slot (by omega) (S.typeIs s fun _ _ e => e) S.slotRepr (S.call X.A.in1 X.xe s _ gd (by show X.A.units + 1 + d.depth < cLine; omega) (fun _ _ e => e) fun h' u tk hk => ⟨_, _, rfl, fin h' u tk hk⟩)
  rcases h with (⟨h, nd⟩ | ⟨a, kvs, ds, rfl, rfl, e, ek, ev, nd⟩) | ⟨a, vs, ds, rfl, rfl, e, ne, p, g⟩
  · exact call_reprV gd hu pins s σ H _ us Q I r ⟨v, d, rfl, .plain h nd, h1, h3, h4, q⟩
  · obtain ⟨u, rfl, ru⟩ := vals1 r
    cases ru
    obtain ⟨o, es, n, as, bs, g1, g2, g3, g4, g5, g6⟩ := vi_dict I e ek ev
    obtain ⟨T, i, S⟩ := sb_dict (prog := X.prog) (w := X.w) g1 g2 g3 g4 g5 g6 (by simpa [PyData.showable] using h1) (by rw [ek]; exact keys_nodict kvs) nd (by simpa only [PyData.shown] using h4)
    exact by_sb a T i rfl S
  · obtain ⟨u, rfl, ru⟩ := vals1 r
    cases ru
    obtain ⟨hz, us2, n, rv, ho⟩ := (show ObjOk X.prog X.w H s.heap a (.lst vs) from I.hok a _ e)
    have ne2 : us2 ≠ [] := fun z => by
      rw [z] at rv
      cases rv
      exact ne rfl
    obtain ⟨T, i, S⟩ := sb_list (prog := X.prog) (w := X.w) (ds := ds) ho rfl rfl ne2 (vi_items I p rv g) (by simpa only [PyData.shown] using h4)
    exact by_sb a T i rfl S
end
end Ev
namespace Ev
open PySem L2 PySem.Spec PyProof.Rows
/-! kept of a dict with one list in it. -/
inductive HoldG (H : Hp) : V → List V → Bool → Prop
  | flat {v : V} {T : String} : Flat v T → HoldG H v [] false
  | tup {a : Addr} {us : List V} : H a = some (.tup us) → us.length ≤ 900 → HoldG H (.ref a) us false
  | lst {a : Addr} {us : List V} : H a = some (.lst us) → us.length ≤ 900 → HoldG H (.ref a) us true
  | dct {a : Addr} {kvs : List (Key × V)} : H a = some (.dK kvs) → kvs.length ≤ 900 → (kvs.map (·.1)).Nodup → HoldG H (.ref a) (kvs.map (·.2)) true
def spPartsG : Sp := fun vs H Q _ => ∃ (v : V) (us : List V) (b : Bool), vs = [v] ∧ HoldG H v us b ∧ ∀ (p : Addr) (H' : Hp), H p = none → Same H H' → H' p = some (.lst us) → Q (.ref p) H'
def spRebG : Sp := fun vs H Q _ => ∃ (a p : Addr), vs = [.ref a, .ref p] ∧ ((∃ us us' : List V, H a = some (.lst us) ∧ H p = some (.lst us') ∧ Q (.ref p) H) ∨
  ∃ kvs kvs' : List (Key × V), H a = some (.dK kvs) ∧ H p = some (.lst (kvs'.map (·.2))) ∧ kvs'.map (·.1) = kvs.map (·.1) ∧ kvs'.length ≤ 900 ∧ (kvs'.map (·.1)).Nodup ∧ ∀ (D : Addr) (H' : Hp), Same H H' → H' D = some (.dK kvs') → Q (.ref D) H')
section
variable {P : Program} {w : World} {K : PySem.W.Frag} {mg : Str → Option Value} {base : Heap}
theorem ok_partsG {f : Addr} {fd : FuncData} (F : Fun K "parts_of" "parts_of" sParts f fd) (T : Blt mg) (md : mg "dict" = none) : FnOk P w K mg base CX0 1 f fd ["value"] spPartsG := by
  refine F.ok scParts (fun vs H Q E h => ?_) (fun cdv A outer s H vs Q E hr h => ?_)
  · obtain ⟨v, us, b, rfl, _⟩ := h
    rfl
  · obtain ⟨v, us, b, rfl, hh, kk⟩ := h
    refine ⟨_, pss_cons (ps_if (pt_val (pe_callB call_isiT (by rfl) T.isi (by decide +kernel) (pa_cons (pv 0) (pa_cons (pe_tup (pa_cons (pe_bltn (v := .ty "list") (by rfl) T.list (by decide +kernel) rfl) (pa_cons (pe_bltn (v := .ty "tuple") (by rfl) T.tuple (by decide +kernel) rfl) pa_nil))) pa_nil))))
        (pss_one (ps_ret (pe_callTy call_list_of (by rfl) T.list (by decide +kernel) (pa_cons (pv 0) pa_nil)))) pss_nil)
      (pss_one (ps_ret (pe_ifExp (pt_val (pe_callB call_isi (by rfl) T.isi (by decide +kernel) (pa_cons (pv 0) (pa_cons (pe_bltn (v := .ty "dict") (by rfl) md (by decide +kernel) rfl) pa_nil)))) (pe_listVals rfl (pv 0) (by rfl) T.list (by decide +kernel)) (pe_lst pa_nil)))), ?_⟩
    have fin : ∀ (tp p : Addr) (ntp : H tp = none) (np : upd H tp (.tup [.ty "list", .ty "tuple"]) p = none), Q (.ref p) (upd (upd H tp (.tup [.ty "list", .ty "tuple"])) p (.lst us)) := fun tp p ntp np =>
      kk p _ (Same.gone (same_new ntp) np) ((same_new ntp).trans (same_new np)) upd_same
    cases hh with
    | @flat v TT f =>
      refine ⟨_, rfl, (by show 2 ≤ sizeLine; decide), fun tp ntp => ⟨_, tp, _, _, _, false, rfl, upd_same, .cons (.ty _) (.cons (.ty _) .nil), f.ty _ _, kit_any2 f.l f.t, _, rfl, iteF ?_⟩⟩
      exact ⟨_, rfl, _, _, _, _, false, rfl, .ty _, f.ty _ _, kit_ty f.d, _, rfl, iteF ⟨(by show 0 ≤ sizeLine; decide), fun p np => fin tp p ntp np⟩⟩
    | tup e l =>
      refine ⟨_, rfl, (by show 2 ≤ sizeLine; decide), fun tp ntp => ⟨_, tp, _, _, _, true, rfl, upd_same, .cons (.ty _) (.cons (.ty _) .nil), .base (.tup (same_new ntp _ _ e)), kit_any2 (r1 := false) (r2 := true) (by decide +kernel) (by decide +kernel), _, rfl, iteT ?_⟩⟩
      exact ⟨_, rfl, _, _, rfl, .inr (SqT.of (same_new ntp _ _ e)), fun p np => fin tp p ntp np⟩
    | lst e l =>
      refine ⟨_, rfl, (by show 2 ≤ sizeLine; decide), fun tp ntp => ⟨_, tp, _, _, _, true, rfl, upd_same, .cons (.ty _) (.cons (.ty _) .nil), .base (.lst (same_new ntp _ _ e)), kit_any2 (r1 := true) (r2 := false) (by decide +kernel) (by decide +kernel), _, rfl, iteT ?_⟩⟩
      exact ⟨_, rfl, _, _, rfl, .inl (SqL.of (same_new ntp _ _ e)), fun p np => fin tp p ntp np⟩
    | dct e l n =>
      refine ⟨_, rfl, (by show 2 ≤ sizeLine; decide), fun tp ntp => ⟨_, tp, _, _, _, false, rfl, upd_same, .cons (.ty _) (.cons (.ty _) .nil), .base (.dK (same_new ntp _ _ e)), kit_any2 (r1 := false) (r2 := false) (by decide +kernel) (by decide +kernel), _, rfl, iteF ?_⟩⟩
      exact ⟨_, rfl, _, _, _, _, true, rfl, .ty _, .base (.dK (same_new ntp _ _ e)), kit_ty (by decide +kernel), _, rfl, iteT ⟨_, rfl, _, _, rfl, same_new ntp _ _ e, fun p np => fin tp p ntp np⟩⟩
theorem ok_rebG {f : Addr} {fd : FuncData} (F : Fun K "rebuilt" "rebuilt" sRebuilt f fd) (T : Blt mg) (md : mg "dict" = none) (mz : mg "zip" = none) : FnOk P w K mg base CX0 1 f fd ["value", "parts"] spRebG := by
  refine F.ok scRebuilt (fun vs H Q E h => ?_) (fun cdv A outer s H vs Q E hr h => ?_)
  · obtain ⟨a, p, rfl, _⟩ := h
    rfl
  · obtain ⟨a, p, rfl, hh⟩ := h
    refine ⟨_, pss_cons (ps_if (pt_val (pe_callB call_isi (by rfl) T.isi (by decide +kernel) (pa_cons (pv 0) (pa_cons (pe_bltn (v := .ty "dict") (by rfl) md (by decide +kernel) rfl) pa_nil))))
        (pss_one (ps_ret (pe_dc (g := gTup K 2 (gCons (gName 2) (gCons (gName 3) gNil))) (tt := tYes) (tk := tVar 2) (tv := tVar 3) (own := [("key", 2), ("part", 3)]) rfl scRebuilt.nd (pi_zip (by rfl) mz (pa_cons (pe_callTy (call_list_dK rfl) (by rfl) T.list (by decide +kernel) (pa_cons (pv 0) pa_nil)) (pa_cons (pv 1) pa_nil)))
          (blkOk_by (own := [("key", 2), ("part", 3)]) (N := ["value", "parts", "key", "part"]) (sc := defScope sRebuilt) (by decide +kernel))
          (fun _ _ _ _ _ => pg_tup (by rfl) (pgs_cons (pg_name (i := 2) scRebuilt.nd rfl (.inl rfl)) (pgs_cons (pg_name (i := 3) scRebuilt.nd rfl (.inl rfl)) pgs_nil))) (fun _ _ _ _ _ => pts_nil) (fun _ _ _ _ _ => pv 2) (fun _ _ _ _ _ => pv 3)))) pss_nil)
      (pss_one (ps_ret (pe_ifExp (pt_val (pe_callB call_isi (by rfl) T.isi (by decide +kernel) (pa_cons (pv 0) (pa_cons (pe_bltn (v := .ty "tuple") (by rfl) T.tuple (by decide +kernel) rfl) pa_nil)))) pe_never (pv 1)))), ?_⟩
    rcases hh with ⟨us, us', e, hp, kk⟩ | ⟨kvs0, kvs, e, hp, ekk, l, n, kk⟩
    · refine ⟨_, rfl, _, _, _, _, false, rfl, .ty _, .base (.lst e), kit_ty (by decide +kernel), _, rfl, iteF ?_⟩
      exact ⟨_, rfl, _, _, _, _, false, rfl, .ty _, .base (.lst e), kit_ty (by decide +kernel), _, rfl, iteF ⟨_, rfl, kk⟩⟩
    · have ek0 : (kvs0.map fun kv => kV kv.1) = kvs.map fun kv => kV kv.1 := by
        have h2 : ∀ l : List (Key × V), (l.map fun kv => kV kv.1) = (l.map (·.1)).map kV := fun l => by rw [List.map_map]; rfl
        rw [h2, h2, ekk]
      refine ⟨_, rfl, _, _, _, _, true, rfl, .ty _, .base (.dK e), kit_ty (by decide +kernel), _, rfl, iteT ?_⟩
      refine ⟨_, rfl, a, kvs0, rfl, e, fun q nq => ?_⟩
      rw [ek0]
      refine ⟨_, rfl, q, p, _, _, rfl, SqL.of upd_same, SqL.of (same_new nq _ _ hp), fun D nD => ?_⟩
      have hq1 := same_new (o := .dK []) nD _ _ (upd_same (H := H) (a := q) (o := .lst (kvs.map fun kv => kV kv.1)))
      have hp1 := same_new (o := .dK []) nD _ _ (same_new (o := .lst (kvs.map fun kv => kV kv.1)) nq _ _ hp)
      have hD1 : upd (upd H q (.lst (kvs.map fun kv => kV kv.1))) D (.dK []) D = some (.dK []) := upd_same
      have nDp : D ≠ p := fun z => by rw [z, same_new nq _ _ hp] at nD; cases nD
      have nDq : D ≠ q := fun z => by rw [z, upd_same] at nD; cases nD
      have s1 : Same H (upd (upd H q (.lst (kvs.map fun kv => kV kv.1))) D (.dK [])) := (same_new nq).trans (same_new nD)
      have nDH : H D = none := Same.gone (same_new nq) nD
      generalize upd (upd H q (.lst (kvs.map fun kv => kV kv.1))) D (.dK []) = H1 at hq1 hp1 hD1 s1
      refine ⟨fun i m G => m = kvs.length - i ∧ i ≤ kvs.length ∧ But D H1 G ∧ G D = some (.dK (kvs.take i)), ⟨_, rfl, Nat.zero_le _, But.refl _ _, hD1⟩, ?_⟩
      rintro i m G ⟨rfl, hi, bt, gD⟩
      have gq := bt _ _ nDq.symm hq1
      have gp := bt _ _ nDp.symm hp1
      by_cases hlt : i < kvs.length
      · right
        have ek : (kvs.map fun kv => kV kv.1)[i]? = some (kV kvs[i].1) := by rw [List.getElem?_map, List.getElem?_eq_getElem hlt]; rfl
        have ev : (kvs.map (·.2))[i]? = some kvs[i].2 := by rw [List.getElem?_map, List.getElem?_eq_getElem hlt]; rfl
        refine ⟨⟨_, _, _, _, SqL.of gq, SqL.of gp, ek, ev⟩, fun G' => But D H1 G' ∧ G' D = some (.dK (kvs.take (i + 1))), fun G' ⟨b2, d2⟩ => ⟨_, by omega, rfl, hlt, b2, d2⟩, fun x G' y => ?_⟩
        obtain ⟨tp, x1, x2, rfl, nt, rfl, h1, h2⟩ := y
        have e1 := h1 _ (SqL.of gq)
        have e2 := h2 _ (SqL.of gp)
        rw [ek] at e1
        rw [ev] at e2
        obtain rfl := Option.some.inj e1
        obtain rfl := Option.some.inj e2
        have gD2 := same_new (o := .tup [kV kvs[i].1, kvs[i].2]) nt _ _ gD
        refine ⟨_, _, rfl, SqT.of upd_same, rfl, _, _, rfl, _, _, rfl, rfl, rfl, ?_⟩
        refine ⟨_, rfl, _, rfl, _, kvs[i].1, rfl, gD2, ?_, ?_, ?_⟩
        · rw [List.length_take]
          exact Nat.lt_of_le_of_lt (show _ ≤ 900 by omega) (by rw [sizeLine_eq]; decide)
        · exact bt.trans ((Same.but (same_new nt)).trans But.upd_at)
        · rw [upd_same, show putK (kvs.take i) kvs[i].1 kvs[i].2 = kvs.take (i + 1) from putK_take n (by rw [List.getElem?_eq_getElem hlt])]
      · left
        have ei : i = kvs.length := by omega
        refine ⟨⟨_, _, SqL.of gq, SqL.of gp, .inl (by rw [List.length_map]; omega)⟩, ?_⟩
        rw [ei, List.take_length] at gD
        exact kk _ G (fun b o z => bt _ _ (ne_of_none z nDH) (s1 _ _ z)) gD
end
end Ev
namespace Ev
open PySem L2 PySem.Spec PyProof.Rows
def tn2 (a l : Addr) (x : V) : Nat → List V
  | 0 => [.ref a]
  | 1 => [.ref a, .ref l]
  | _ => [.ref a, .ref l, x]
def en2 (i : Nat) : List V := [V.int 2, .int 3, .int 3].take i
theorem en2_len (i : Nat) : (en2 i).length = min i 3 := by
  unfold en2
  rw [List.length_take]
  rfl
def spKept2 : Sp := fun vs H Q _ => ∃ (a l : Addr) (k : Key) (x : V) (T : String), vs = [.ref a] ∧ H a = some (.dK [(k, .ref l)]) ∧ H l = some (.lst [x]) ∧ Flat x T ∧
  ∀ (a' l' : Addr) (H' : Hp), Same H H' → H' a' = some (.dK [(k, .ref l')]) → H' l' = some (.lst [x]) → Q (.ref a') H'
section
variable {P : Program} {w : World} {K : PySem.W.Frag} {mg : Str → Option Value} {base : Heap}
theorem ok_copied2 {f : Addr} {fd : FuncData} (F : Fun K "copied_deep" "copied_deep" sCopied f fd) (T : Blt mg) (md : mg "dict" = none) (ma : mg "any" = none) (D : Df P w K mg base 1 "parts_of" ["value"] spPartsG) (D2 : Df P w K mg base 1 "rebuilt" ["value", "parts"] spRebG) : FnOk P w K mg base CX0 2 f fd ["value"] spKept2 := by
  obtain ⟨f1, fd1, G1, g1, k1, b1⟩ := D.ex
  obtain ⟨f2, fd2, G2, g2, k2, b2⟩ := D2.ex
  refine F.ok scCopied (fun vs H Q E h => ?_) (fun cdv A outer s H vs Q E hr h => ?_)
  · obtain ⟨a, l, k, x, TT, rfl, _⟩ := h
    rfl
  · obtain ⟨a, l, k, x, TT, rfl, ha, hl, fx, kk⟩ := h
    refine ⟨_, pss_cons (ps_set (i := 1) scCopied.nd rfl (.inl rfl) (pe_lst (pa_cons (pv 0) pa_nil)))
      (pss_cons (ps_set (i := 2) scCopied.nd rfl (.inl rfl) (pe_lst pa_nil))
      (pss_cons (ps_set (i := 3) scCopied.nd rfl (.inl rfl) pe_int)
      (pss_cons (ps_while PassesOwn.never (pt_cmpR op_lt (pv 3) (pe_callB call_len_seq (by rfl) T.len PySem.boot_len (pa_cons (pv 1) pa_nil)) (nomark _))
        (pss_cons (ps_expr (pe_bm PySem.F.plainAttrs_list PySem.F.slot_list_extend PySem.F.type_list_extend mt_extend (pv 1) (pa_cons (pe_callTy call_list_of (by rfl) T.list (by decide +kernel) (pa_cons (pe_call G1 hr (by rfl) g1 k1 b1 .nil pass0 (pa_cons (pe_ix ix_list (pv 1) (pv 3) (fun _ _ => rfl)) pa_nil)) pa_nil)) pa_nil)))
        (pss_cons (ps_expr (pe_bm PySem.F.plainAttrs_list PySem.F.slot_list_append PySem.F.type_list_append mt_append (pv 2) (pa_cons (pe_callB call_len_seq (by rfl) T.len PySem.boot_len (pa_cons (pv 1) pa_nil)) pa_nil)))
        (pss_one (ps_aug (i := 3) scCopied.nd rfl (.inl rfl) pe_int ip_add)))))
      (pss_cons (ps_set (i := 4) scCopied.nd rfl (.inl rfl) (pe_callTy call_list_of (by rfl) T.list (by decide +kernel) (pa_cons (pv 1) pa_nil)))
      (pss_cons (ps_setLc (i := 5) (te := tCB (rIsiT K) (tCons (tVar 9) (tCons (tTup (tCons (tC (.ty "list")) (tCons (tC (.ty "dict")) tNil))) tNil))) (own := [("thing", 9)]) (g := gName 9) (by rfl) scCopied.nd rfl rfl (sw_true rfl rfl rfl (by decide +kernel)) (pi_list (pv 1))
          (blkOk_by (own := [("thing", 9)]) (N := ["value", "things", "ends", "at", "made", "loose", "place", "first", "end", "thing"]) (sc := defScope sCopied) (by decide +kernel))
          (fun _ _ _ _ _ => pg_name (i := 9) scCopied.nd rfl (.inl rfl)) (fun _ _ _ _ _ => pts_nil)
          (fun _ _ _ _ _ => pe_callB (id := "isinstance") call_isiT (by rfl) T.isi (by decide +kernel) (pa_cons (pv 9) (pa_cons (pe_tup (pa_cons (pe_bltn (v := .ty "list") (by rfl) T.list (by decide +kernel) rfl) (pa_cons (pe_bltn (v := .ty "dict") (by rfl) md (by decide +kernel) rfl) pa_nil))) pa_nil))))
      (pss_cons (ps_for PassesOwn.never rfl (pi_range3 rfl T.range (pa_cons (pe_op op_sub (pe_callB call_len_seq (by rfl) T.len PySem.boot_len (pa_cons (pv 1) pa_nil)) pe_int) (pa_cons (pe_un un_neg pe_int) (pa_cons (pe_un un_neg pe_int) pa_nil)))) (pg_name (i := 6) scCopied.nd rfl (.inl rfl))
        (pss_cons (ps_par (i := 7) (j := 8) rfl scCopied.nd rfl rfl (by decide) rfl rfl (pa_cons (pe_ifExp (pt_cmpR op_gt (pv 6) pe_int (nomark _)) (pe_ix ix_list (pv 2) (pe_op op_sub (pv 6) pe_int) (fun _ _ => rfl)) pe_int) (pa_cons (pe_ix ix_list (pv 2) (pv 6) (fun _ _ => rfl)) pa_nil)) (by rfl))
        (pss_cons (ps_if (pt_val (pe_callB (cr_any rfl) (by rfl) ma (by decide +kernel) (pa_cons (pe_slice sl_list (pv 5) (po_some (pv 7)) (po_some (pv 8))) pa_nil))) (pss_one (ps_asg pe_bl (pg_sub (pv 5) (pv 6) set_list))) pss_nil)
        (pss_one (ps_if (pt_val (pe_ix ix_list (pv 5) (pv 6) (fun _ _ => rfl)))
          (pss_one (ps_asg (pe_call G2 hr (by rfl) g2 k2 b2 .nil pass0 (pa_cons (pe_ix ix_list (pv 1) (pv 6) (fun _ _ => rfl)) (pa_cons (pe_slice sl_list (pv 4) (po_some (pv 7)) (po_some (pv 8))) pa_nil))) (pg_sub (pv 4) (pv 6) set_list))) pss_nil)))))
      (pss_one (ps_ret (pe_ix ix_list (pv 4) pe_int (fun _ _ => rfl)))))))))), ?_⟩
    have z1000 : ∀ {n : Nat}, n ≤ 902 → n ≤ sizeLine := fun h => Nat.le_trans h (by rw [sizeLine_eq]; decide)
    refine ⟨_, rfl, (by show 1 ≤ sizeLine; decide), fun t nt => ⟨(by show 0 ≤ sizeLine; decide), fun e ne => ?_⟩⟩
    have te : e ≠ t := fun z => by rw [z, upd_same] at ne; cases ne
    have s2 : Same H (upd (upd H t (.lst [.ref a])) e (.lst [])) := (same_new nt).trans (same_new ne)
    have ht2 : upd (upd H t (.lst [.ref a])) e (.lst []) t = some (.lst [.ref a]) := same_new ne _ _ upd_same
    have he2 : upd (upd H t (.lst [.ref a])) e (.lst []) e = some (.lst []) := upd_same
    have nte : H e = none := Same.gone (same_new nt) ne
    generalize upd (upd H t (.lst [.ref a])) e (.lst []) = H2 at s2 ht2 he2 ⊢
    refine ⟨fun m σ H' => ∃ i : Nat, i ≤ 3 ∧ m = 3 - i ∧ σ = [some (.ref a), some (.ref t), some (.ref e), some (.int (i : Int)), none, none, none, none, none, none] ∧ H' t = some (.lst (tn2 a l x i)) ∧ H' e = some (.lst (en2 i)) ∧ Same H H',
      ⟨_, 0, by decide, rfl, rfl, ht2, he2, s2⟩, fun m σ H' h => ?_⟩
    obtain ⟨i, hi, rfl, rfl, ht, he, sm⟩ := h
    by_cases hlt : i < 3
    · obtain ⟨y, us, b, g1, g2, g3, g4, g5, g6⟩ : ∃ (y : V) (us : List V) (b : Bool), (tn2 a l x i)[i]? = some y ∧ HoldG H' y us b ∧ tn2 a l x (i + 1) = tn2 a l x i ++ us ∧ en2 (i + 1) = en2 i ++ [V.int (((tn2 a l x i ++ us).length : Nat) : Int)] ∧ i < (tn2 a l x i).length ∧ (tn2 a l x i).length + us.length ≤ 3 := by
        match i, hlt with
        | 0, _ => exact ⟨.ref a, [.ref l], true, rfl, .dct (sm _ _ ha) (by show 1 ≤ 900; decide) (by simp), rfl, rfl, by show 0 < 1; decide, by show 1 + 1 ≤ 3; decide⟩
        | 1, _ => exact ⟨.ref l, [x], true, rfl, .lst (sm _ _ hl) (by show 1 ≤ 900; decide), rfl, rfl, by show 1 < 2; decide, by show 2 + 1 ≤ 3; decide⟩
        | 2, _ => exact ⟨x, [], false, rfl, .flat fx, by rw [List.append_nil]; rfl, by rw [List.append_nil]; rfl, by show 2 < 3; decide, by show 3 + 0 ≤ 3; decide⟩
        | n + 3, h => exact absurd h (by omega)
      refine ⟨_, rfl, _, rfl, t, _, rfl, .inl (SqL.of ht), _, _, rfl, rfl, _, rfl, ite2 (fun _ => ?_) (fun z => absurd (decide_eq_true (show (i : Int) < (((tn2 a l x i).length : Nat) : Int) by omega)) z)⟩
      refine ⟨fun σ H' => σ = [some (.ref a), some (.ref t), some (.ref e), some (.int ((i + 1 : Nat) : Int)), none, none, none, none, none, none] ∧ H' t = some (.lst (tn2 a l x (i + 1))) ∧ H' e = some (.lst (en2 (i + 1))) ∧ Same H H', fun σ' H' q => ⟨3 - (i + 1), by omega, i + 1, by omega, rfl, q⟩, ?_⟩
      refine ⟨_, rfl, .inl ⟨rfl, _, SqL.of ht⟩, _, rfl, _, rfl, t, _, _, y, rfl, rfl, SqL.of ht, atI_nat g1, y, us, b, rfl, g2, fun p0 H30 np0 s30 hp0 => ⟨p0, _, rfl, .inl (SqL.of hp0), fun p np => ?_⟩⟩
      have s3 : Same H' (upd H30 p (.lst us)) := s30.trans (same_new np)
      have hp : upd H30 p (.lst us) p = some (.lst us) := upd_same
      generalize upd H30 p (.lst us) = H3 at s3 hp ⊢
      refine ⟨t, p, _, _, rfl, rfl, s3 _ _ ht, hp, z1000 (by show (tn2 a l x i).length + us.length ≤ 902; omega), ?_⟩
      have he3 : upd H3 t (.lst (tn2 a l x i ++ us)) e = some (.lst (en2 i)) := by rw [upd_ne te]; exact s3 _ _ he
      refine ⟨_, rfl, .inl ⟨rfl, _, SqL.of he3⟩, _, rfl, t, tn2 a l x i ++ us, rfl, .inl (SqL.of upd_same), e, _, _, rfl, rfl, he3, Nat.lt_of_lt_of_le (show (en2 i).length < 902 by rw [en2_len]; omega) (z1000 (Nat.le_refl _)), ?_⟩
      refine ⟨_, rfl, _, _, rfl, rfl, ?_, ?_, ?_, fun b o q => ?_⟩
      · show List.set _ 3 (some (V.int ((i : Int) + 1))) = _
        rw [show (i : Int) + 1 = ((i + 1 : Nat) : Int) by omega]; rfl
      · rw [upd_ne te.symm, upd_same, g3]
      · rw [upd_same, g4]
      · have e3 := s3 _ _ (sm _ _ q)
        rw [upd_ne (ne_of_none q nte), upd_ne (ne_of_none q nt)]
        exact e3
    · obtain rfl : i = 3 := by omega
      have ht : H' t = some (.lst [.ref a, .ref l, x]) := ht
      have he : H' e = some (.lst [.int 2, .int 3, .int 3]) := he
      refine ⟨_, rfl, _, rfl, t, _, rfl, .inl (SqL.of ht), _, _, rfl, rfl, _, rfl, ite2 (fun z => absurd (of_decide_eq_true z) (show ¬ (((3 : Nat) : Int) < ((3 : Nat) : Int)) by decide)) (fun _ => ?_)⟩
      refine ⟨_, rfl, t, _, rfl, .inl (SqL.of ht), fun md nmd => ?_⟩
      have ht3 := same_new (o := .lst [.ref a, .ref l, x]) nmd _ _ ht
      have he3 := same_new (o := .lst [.ref a, .ref l, x]) nmd _ _ he
      have hm3 : upd H' md (.lst [.ref a, .ref l, x]) md = some (.lst [.ref a, .ref l, x]) := upd_same
      have sm3 := sm.trans (same_new (o := .lst [.ref a, .ref l, x]) nmd)
      have nmH : H md = none := Same.gone sm nmd
      have tm : t ≠ md := ne_of_none ht nmd
      have em : e ≠ md := ne_of_none he nmd
      generalize upd H' md (.lst [.ref a, .ref l, x]) = H3 at ht3 he3 hm3 sm3 ⊢
      refine ⟨_, rfl, t, rfl, ⟨_, SqL.of ht3⟩, fun D nD => ?_⟩
      refine lc_list (K := K) (a := t) (xs := [.ref a, .ref l, x]) (fun i H' => H' D = some (.lst (([true, true, false].take i).map V.bl)) ∧ But D H3 H') ⟨upd_same, But.upd_at⟩ (fun i H' _ q => SqL.of (q.2 _ _ (ne_of_none ht3 nD) ht3)) (fun i y H' hi ⟨e1, e2⟩ => ?_) (fun H' ⟨e1, e2⟩ => ?_)
      · have hil : i < 3 := (List.getElem?_eq_some_iff.mp hi).1
        obtain ⟨TT2, r, hr1, ty, kit⟩ : ∃ (TT : String) (r : Bool), ([true, true, false] : List Bool)[i]? = some r ∧ (∀ (K : PySem.W.Frag) (G : Hp), Same H' G → TyX K G y (.type TT)) ∧ PySem.W.kitAny K (.type TT) [.type "list", .type "dict"] = some r := by
          match i, hil, hi with
          | 0, _, hi =>
            obtain rfl : V.ref a = y := Option.some.inj hi
            exact ⟨"dict", true, rfl, fun K G k => .base (.dK (k _ _ (e2 _ _ (ne_of_none (sm3 _ _ ha) nD) (sm3 _ _ ha)))), kit_any2 (r1 := false) (r2 := true) (by decide +kernel) (by decide +kernel)⟩
          | 1, _, hi =>
            obtain rfl : V.ref l = y := Option.some.inj hi
            exact ⟨"list", true, rfl, fun K G k => .base (.lst (k _ _ (e2 _ _ (ne_of_none (sm3 _ _ hl) nD) (sm3 _ _ hl)))), kit_any2 (r1 := true) (r2 := false) (by decide +kernel) (by decide +kernel)⟩
          | 2, _, hi =>
            obtain rfl : x = y := Option.some.inj hi
            exact ⟨TT, false, rfl, fun K G _ => fx.ty K G, kit_any2 fx.l fx.d⟩
          | n + 3, h, _ => exact absurd h (by omega)
        refine ⟨rfl, _, rfl, (by show 2 ≤ sizeLine; decide), fun tp ntp => ⟨y, tp, _, _, _, r, rfl, upd_same, .cons (.ty _) (.cons (.ty _) .nil), ty _ _ (same_new ntp), kit, _, same_new ntp _ _ e1, ?_, ?_, ?_⟩⟩
        · refine Nat.lt_of_lt_of_le (show _ < 902 from ?_) (z1000 (Nat.le_refl _))
          rw [List.length_map, List.length_take]; omega
        · rw [upd_same, List.take_add_one, hr1, List.map_append]; rfl
        · exact (e2.trans (Same.but (same_new ntp))).trans But.upd_at
      · have e1 : H' D = some (.lst [.bl true, .bl true, .bl false]) := e1
        have s4 : Same H3 H' := fun b o q => e2 b o (ne_of_none q nD) q
        have ht4 := s4 _ _ ht3
        have he4 := s4 _ _ he3
        have hm4 := s4 _ _ hm3
        have s04 := sm3.trans s4
        have nDH : H D = none := Same.gone sm3 nD
        have dt : t ≠ D := ne_of_none ht3 nD
        have de : e ≠ D := ne_of_none he3 nD
        have dm : md ≠ D := ne_of_none hm3 nD
        clear e2 s4 ht3 he3 hm3 sm3 nD
        refine ⟨_, rfl, t, _, rfl, .inl (SqL.of ht4), _, _, rfl, rfl, _, rfl, _, rfl, (2 : Int), -1, -1, 3, rfl, ?_, ?_⟩
        · exact RgC.neg (i := (2 : Int)) (j := -1) (by omega) (by omega) (by decide) (by decide)
        refine for_rangeC (lo := (2 : Int)) (c := -1) (n := 3) (fun i σ H5 => (∃ v6 v7 v8 v9 : Option V, σ = [some (.ref a), some (.ref t), some (.ref e), some (.int 3), some (.ref md), some (.ref D), v6, v7, v8, v9]) ∧ Same H H5 ∧
          H5 t = some (.lst [.ref a, .ref l, x]) ∧ H5 e = some (.lst [.int 2, .int 3, .int 3]) ∧ H5 D = some (.lst [.bl true, .bl true, .bl false]) ∧
          (i ≤ 1 → H5 md = some (.lst [.ref a, .ref l, x])) ∧ (2 ≤ i → ∃ (l' : Addr) (v' : V), H5 md = some (.lst [v', .ref l', x]) ∧ H5 l' = some (.lst [x]) ∧ (i = 3 → ∃ a', v' = .ref a' ∧ H5 a' = some (.dK [(k, .ref l')]))))
          ⟨⟨none, none, none, none, rfl⟩, s04, ht4, he4, e1, fun _ => hm4, fun z => absurd z (by decide)⟩ ?_ ?_
        · rintro i σ H5 hi ⟨⟨v6, v7, v8, v9, rfl⟩, s5, t5, e5, d5, m5, m5'⟩
          match i, hi with
          | 0, _ =>
            have m5 := m5 (by decide)
            rw [show (2 : Int) + ((0 : Nat) : Int) * -1 = 2 by decide]
            refine ⟨_, rfl, _, _, rfl, rfl, _, rfl, ite2 (fun _ => ?_) (fun z => absurd (decide_eq_true (show (0 : Int) < 2 by decide)) z)⟩
            refine ⟨_, rfl, _, rfl, _, _, rfl, rfl, e, _, _, V.int 3, rfl, rfl, SqL.of e5, atI_nat (j := 1) rfl, ?_⟩
            refine ⟨_, rfl, _, rfl, e, _, _, V.int 3, rfl, rfl, SqL.of e5, atI_nat (j := 2) rfl, _, _, rfl, ?_⟩
            refine ⟨_, rfl, _, rfl, _, rfl, _, rfl, _, rfl, D, _, rfl, SqL.of d5, fun sl nsl => ?_⟩
            rw [show cutV [V.bl true, V.bl true, V.bl false] (some 3) (some 3) = ([] : List V) from rfl]
            refine ⟨sl, [], rfl, SqL.of upd_same, _, rfl, iteF ?_⟩
            have s6 := same_new (H := H5) (o := .lst []) nsl
            refine ⟨_, rfl, _, rfl, D, _, _, V.bl false, rfl, rfl, SqL.of (s6 _ _ d5), atI_nat (j := 2) rfl, _, rfl, iteF ?_⟩
            exact ⟨⟨_, _, _, _, rfl⟩, s5.trans s6, s6 _ _ t5, s6 _ _ e5, s6 _ _ d5, fun _ => s6 _ _ m5, fun z => absurd z (by decide)⟩
          | 1, _ =>
            have m5 := m5 (by decide)
            rw [show (2 : Int) + ((1 : Nat) : Int) * -1 = 1 by decide]
            refine ⟨_, rfl, _, _, rfl, rfl, _, rfl, ite2 (fun _ => ?_) (fun z => absurd (decide_eq_true (show (0 : Int) < 1 by decide)) z)⟩
            refine ⟨_, rfl, _, rfl, _, _, rfl, rfl, e, _, _, V.int 2, rfl, rfl, SqL.of e5, atI_nat (j := 0) rfl, ?_⟩
            refine ⟨_, rfl, _, rfl, e, _, _, V.int 3, rfl, rfl, SqL.of e5, atI_nat (j := 1) rfl, _, _, rfl, ?_⟩
            refine ⟨_, rfl, _, rfl, _, rfl, _, rfl, _, rfl, D, _, rfl, SqL.of d5, fun sl nsl => ?_⟩
            rw [show cutV [V.bl true, V.bl true, V.bl false] (some 2) (some 3) = ([false] : List Bool).map V.bl from rfl]
            refine ⟨sl, [false], rfl, SqL.of upd_same, _, rfl, iteF ?_⟩
            have s6 := same_new (H := H5) (o := .lst (([false] : List Bool).map V.bl)) nsl
            generalize upd H5 sl (.lst (([false] : List Bool).map V.bl)) = H6 at s6 ⊢
            refine ⟨_, rfl, _, rfl, D, _, _, V.bl true, rfl, rfl, SqL.of (s6 _ _ d5), atI_nat (j := 1) rfl, _, rfl, iteT ?_⟩
            refine ⟨_, rfl, _, rfl, t, _, _, V.ref l, rfl, rfl, SqL.of (s6 _ _ t5), atI_nat (j := 1) rfl, _, rfl, _, rfl, _, rfl, _, rfl, _, rfl, md, _, rfl, SqL.of (s6 _ _ m5), fun q nq => ?_⟩
            rw [show cutV [V.ref a, V.ref l, x] (some 2) (some 3) = [x] from rfl]
            have s7 := s6.trans (same_new (o := .lst [x]) nq)
            have hq : upd H6 q (.lst [x]) q = some (.lst [x]) := upd_same
            generalize upd H6 q (.lst [x]) = H7 at s7 hq ⊢
            refine ⟨l, q, rfl, .inl ⟨_, _, s7 _ _ (s5 _ _ hl), hq, ?_⟩⟩
            have m7 := s7 _ _ m5
            have qm : q ≠ md := fun z => by rw [z, m7] at hq; cases hq
            refine ⟨_, rfl, _, rfl, md, _, _, 1, rfl, rfl, m7, rfl, ?_⟩
            refine ⟨⟨_, _, _, _, rfl⟩, fun c o z => ?_, ?_, ?_, ?_, fun z => absurd z (by decide), fun _ => ⟨q, .ref a, upd_same, ?_, fun z => absurd z (by decide)⟩⟩
            · rw [upd_ne (ne_of_none z nmH)]; exact s7 _ _ (s5 _ _ z)
            · rw [upd_ne tm]; exact s7 _ _ t5
            · rw [upd_ne em]; exact s7 _ _ e5
            · rw [upd_ne dm.symm]; exact s7 _ _ d5
            · rw [upd_ne qm]; exact hq
          | 2, _ =>
            obtain ⟨l', v', m5, l5, _⟩ := m5' (by decide)
            rw [show (2 : Int) + ((2 : Nat) : Int) * -1 = 0 by decide]
            refine ⟨_, rfl, _, _, rfl, rfl, _, rfl, ite2 (fun z => absurd (of_decide_eq_true z) (show ¬ ((0 : Int) < 0) by decide)) (fun _ => ?_)⟩
            refine ⟨_, rfl, _, rfl, e, _, _, V.int 2, rfl, rfl, SqL.of e5, atI_nat (j := 0) rfl, _, _, rfl, ?_⟩
            refine ⟨_, rfl, _, rfl, _, rfl, _, rfl, _, rfl, D, _, rfl, SqL.of d5, fun sl nsl => ?_⟩
            rw [show cutV [V.bl true, V.bl true, V.bl false] (some 1) (some 2) = ([true] : List Bool).map V.bl from rfl]
            refine ⟨sl, [true], rfl, SqL.of upd_same, _, rfl, iteT ?_⟩
            have s6 := same_new (H := H5) (o := .lst (([true] : List Bool).map V.bl)) nsl
            generalize upd H5 sl (.lst (([true] : List Bool).map V.bl)) = H6 at s6 ⊢
            refine ⟨_, rfl, _, rfl, D, _, _, 0, rfl, rfl, s6 _ _ d5, rfl, ?_⟩
            have lD : l' ≠ D := fun z => by rw [z, d5] at l5; cases l5
            have u7 : ∀ b o, b ≠ D → H5 b = some o → upd H6 D (.lst ([V.bl true, V.bl true, V.bl false].set 0 (V.bl true))) b = some o := fun b o n z => by rw [upd_ne n]; exact s6 _ _ z
            have d7 : upd H6 D (.lst ([V.bl true, V.bl true, V.bl false].set 0 (V.bl true))) D = some (.lst [.bl true, .bl true, .bl false]) := upd_same
            generalize upd H6 D (.lst ([V.bl true, V.bl true, V.bl false].set 0 (V.bl true))) = H7 at u7 d7 ⊢
            have t7 := u7 _ _ dt t5
            have e7 := u7 _ _ de e5
            have m7 := u7 _ _ dm m5
            have l7 := u7 _ _ lD l5
            have s7 : Same H H7 := fun b o z => u7 _ _ (ne_of_none z nDH) (s5 _ _ z)
            refine ⟨_, rfl, _, rfl, D, _, _, V.bl true, rfl, rfl, SqL.of d7, atI_nat (j := 0) rfl, _, rfl, iteT ?_⟩
            refine ⟨_, rfl, _, rfl, t, _, _, V.ref a, rfl, rfl, SqL.of t7, atI_nat (j := 0) rfl, _, rfl, _, rfl, _, rfl, _, rfl, _, rfl, md, _, rfl, SqL.of m7, fun q nq => ?_⟩
            rw [show cutV [v', V.ref l', x] (some 1) (some 2) = [V.ref l'] from rfl]
            have s8 := same_new (o := .lst [V.ref l']) nq
            have hq : upd H7 q (.lst [V.ref l']) q = some (.lst [V.ref l']) := upd_same
            generalize upd H7 q (.lst [V.ref l']) = H8 at s8 hq ⊢
            refine ⟨a, q, rfl, .inr ⟨[(k, .ref l)], [(k, .ref l')], s8 _ _ (s7 _ _ ha), hq, rfl, by show 1 ≤ 900; decide, by simp, fun a' H9 s9 h9 => ?_⟩⟩
            have s9 := s8.trans s9
            have m9 := s9 _ _ m7
            have l9 := s9 _ _ l7
            have am : a' ≠ md := fun z => by rw [z, m9] at h9; cases h9
            have lm : l' ≠ md := fun z => by rw [z, m9] at l9; cases l9
            refine ⟨_, rfl, _, rfl, md, _, _, 0, rfl, rfl, m9, rfl, ?_⟩
            refine ⟨⟨_, _, _, _, rfl⟩, fun c o z => ?_, ?_, ?_, ?_, fun z => absurd z (by decide), fun _ => ⟨l', .ref a', upd_same, ?_, fun _ => ⟨a', rfl, ?_⟩⟩⟩
            · rw [upd_ne (ne_of_none z nmH)]; exact s9 _ _ (s7 _ _ z)
            · rw [upd_ne tm]; exact s9 _ _ t7
            · rw [upd_ne em]; exact s9 _ _ e7
            · rw [upd_ne dm.symm]; exact s9 _ _ d7
            · rw [upd_ne lm]; exact l9
            · rw [upd_ne am]; exact h9
          | n + 3, h => exact absurd h (by omega)
        · rintro σ H5 ⟨⟨v6, v7, v8, v9, rfl⟩, s5, _, _, _, _, m5⟩
          obtain ⟨l', v', hm5, hl5, m5⟩ := m5 (by decide)
          obtain ⟨a', rfl, ha5⟩ := m5 rfl
          exact ⟨_, rfl, md, _, 0, _, rfl, rfl, SqL.of hm5, atI_nat (j := 0) rfl, kk a' l' H5 s5 ha5 hl5⟩
theorem ok_kept2 {f : Addr} {fd : FuncData} (F : Fun K "kept" "kept" sKept f fd) (T : Blt mg) (md : mg "dict" = none) (D : Df P w K mg base 2 "is_flat" ["value"] spFlat) (D2 : Df P w K mg base 2 "copied_deep" ["value"] spKept2) : FnOk P w K mg base CX0 3 f fd ["value"] spKept2 := by
  obtain ⟨f1, fd1, G1, g1, k1, b1⟩ := D.ex
  obtain ⟨f2, fd2, G2, g2, k2, b2⟩ := D2.ex
  refine F.ok scKept (fun vs H Q E h => ?_) (fun cdv A outer s H vs Q E hr h => ?_)
  · obtain ⟨a, l, k, x, TT, rfl, _⟩ := h
    rfl
  · obtain ⟨a, l, k, x, TT, rfl, ha, hl, fx, kk⟩ := h
    refine ⟨_, pss_cons (ps_if (pt_not (pt_val (pe_callB call_isiT (by rfl) T.isi (by decide +kernel) (pa_cons (pv 0) (pa_cons (pe_tup (pa_cons (pe_bltn (v := .ty "list") (by rfl) T.list (by decide +kernel) rfl) (pa_cons (pe_bltn (v := .ty "tuple") (by rfl) T.tuple (by decide +kernel) rfl) (pa_cons (pe_bltn (v := .ty "dict") (by rfl) md (by decide +kernel) rfl) pa_nil)))) pa_nil))))) (pss_one (ps_ret (pv 0))) pss_nil)
      (pss_cons (ps_if (PW.pt (pw_and (pt_val (pe_callB call_isi (by rfl) T.isi (by decide +kernel) (pa_cons (pv 0) (pa_cons (pe_bltn (v := .ty "tuple") (by rfl) T.tuple (by decide +kernel) rfl) pa_nil)))) (pw_and1 (pt_val (pe_call G1 hr (by rfl) g1 k1 b1 .nil pass0 (pa_cons (pv 0) pa_nil)))))) (pss_one (ps_ret (pv 0))) pss_nil)
      (pss_one (ps_ret (pe_call G2 hr (by rfl) g2 k2 b2 .nil pass0 (pa_cons (pv 0) pa_nil))))), ?_⟩
    refine ⟨_, rfl, (by show 3 ≤ sizeLine; decide), fun tp ntp => ⟨_, tp, _, _, _, true, rfl, upd_same, .cons (.ty _) (.cons (.ty _) (.cons (.ty _) .nil)), .base (.dK (same_new ntp _ _ ha)), kit_any3 (r1 := false) (r2 := false) (r3 := true) (by decide +kernel) (by decide +kernel) (by decide +kernel), _, rfl, iteF ?_⟩⟩
    have s1 := same_new (H := H) (o := .tup [.ty "list", .ty "tuple", .ty "dict"]) ntp
    have e1 := s1 _ _ ha
    refine ⟨_, rfl, _, _, _, _, false, rfl, .ty _, .base (.dK e1), kit_ty (by decide +kernel), _, rfl, iteF ?_⟩
    exact ⟨_, rfl, a, l, k, x, TT, rfl, e1, s1 _ _ hl, fx, fun a' l' H' s' h1 h2 => kk a' l' H' (s1.trans s') h1 h2⟩
end
end Ev
namespace Ev
open PySem L2 PySem.Spec PyProof.Rows
theorem Pen.new {L : Addr} {H : Hp} {p q : Addr} {B : Int} {o : HO} (h : Pen L H p B) (n : H q = none) : Pen L (upd H q o) p B := h.keep (fun b u e => by rw [upd_ne (ne_of_none e n)]; exact e)
theorem Pen.some {L : Addr} {H : Hp} {p : Addr} {B : Int} (h : Pen L H p B) : ∃ xs, H p = some (.lst xs) := by
  obtain ⟨ns, t, c, h1, _⟩ := h
  exact ⟨_, h1⟩
theorem Pen.ne {L : Addr} {H : Hp} {p q : Addr} {B : Int} (h : Pen L H p B) (n : H q = none) : q ≠ p := by
  obtain ⟨xs, e⟩ := h.some
  exact (ne_of_none e n).symm
theorem But.free {L p a : Addr} {H H' : Hp} {B : Int} (t : But p H H') (h : Pen L H' p B) (n : H' a = none) : H a = none := by
  cases e : H a with
  | none => rfl
  | some o =>
    have := t a o (h.ne n) e
    rw [n] at this
    cases this
def spPick : Sp := fun vs H Q _ => ∃ (p l L : Addr) (xs : List V) (B : Int), vs = [.ref p, .ref l] ∧ H l = some (.lst xs) ∧ l ≠ p ∧ 1 ≤ xs.length ∧ xs.length ≤ 1000 ∧ B ≤ 1000000 ∧ Pen L H p B ∧
  ∀ (d : V) (H' : Hp), d ∈ xs → But p H H' → Pen L H' p (B + 1) → Q d H'
def spPen (K : PySem.W.Frag) : Sp := fun vs H Q _ => ∃ (a : Addr) (ns : List Int), vs = [.ref a] ∧ SqL K H a (ns.map V.int) ∧ ns.length ≤ 63 ∧
  ∀ (p L : Addr) (H' : Hp), H p = none → Same H H' → Pen L H' p 0 → Q (.ref p) H'
theorem cut_ints (ns : List Int) (h : Int) : ∃ ms : List Int, cutV (ns.map V.int) none (some h) = ms.map V.int ∧ ms.length ≤ ns.length := by
  unfold cutV
  generalize HT.sIx (ns.map V.int).length 0 none = x
  generalize HT.sIx (ns.map V.int).length (ns.map V.int).length (some h) - x = y
  refine ⟨(ns.drop x).take y, ?_, ?_⟩
  · rw [List.map_take, List.map_drop]
  · rw [List.length_take, List.length_drop]; omega
def Big (n : Int) : Prop := n.natAbs < 2 ^ 100
theorem big_log {n : Int} (h : Big n) : n.natAbs.log2 < 1920 := by
  by_cases z : n.natAbs = 0
  · rw [z]; decide
  · exact (Nat.log2_lt z).mpr (Nat.lt_of_lt_of_le h (by decide +kernel))
theorem big_weight {n : Int} (h : Big n) : (PyData.int n).weight ≤ 1002 := by
  have e : n = 0 ∨ n.natAbs.log2 < 1000 := by
    by_cases z : n.natAbs = 0
    · exact .inl (Int.natAbs_eq_zero.mp z)
    · exact .inr ((Nat.log2_lt z).mpr (Nat.lt_of_lt_of_le h (by decide +kernel)))
  simp only [PyData.weight]
  split
  · omega
  · rename_i z
    have : ¬ n = 0 := by simpa using z
    omega
theorem big_show {n : Int} (h : Big n) : (PyData.int n).showable = true := decide_eq_true (big_log h)
theorem big_leaf {n : Int} (h : Big n) : (PyData.int n).leavesShort 2000 = true := by
  have e := int_text_length_le (k := 1920) (by decide) (big_log h)
  refine decide_eq_true ?_
  show (Str.ofString (toString n)).length ≤ 2000
  rw [PySem.ofString_length]
  omega
theorem show_len {d : PyData} (h : d.leavesShort 2000 = true) (hw : d.weight ≤ 8000) : d.shown.length ≤ sizeLine := by
  have := PyData.shown_le 2000 (by decide) d h
  rw [sizeLine_eq]
  omega
def x40 : Str := ⟨(List.replicate 40 ("x" : Str).cps).foldl (· ++ ·) #[]⟩
/-- the values of the law, and what they read as -/
inductive LV (H : Hp) : V → PyData → Prop
  | sc {v : V} {T : String} {d : PyData} : Flat v T → sclr v d = true → LV H v d
  | tup {a : Addr} {us : List V} {ds : List PyData} : H a = some (.tup us) → us.length ≤ 2 → AllFlat us → Paired (fun v d => sclr v d = true) us ds → LV H (.ref a) (.tuple ds)
  | lst {a : Addr} {us : List V} {ds : List PyData} : H a = some (.lst us) → us.length = 1 → AllFlat us → Paired (fun v d => sclr v d = true) us ds → LV H (.ref a) (.list ds)
  | dct {a l : Addr} {k : Key} {x : V} {T : String} {d : PyData} : H a = some (.dK [(k, .ref l)]) → H l = some (.lst [x]) → Flat x T → sclr x d = true → LV H (.ref a) (.dict [(keyD k, .list [d])])
def Good (d : PyData) : Prop := d.showable = true ∧ d.depth ≤ 3 ∧ d.leavesShort 2000 = true ∧ d.weight ≤ 3000
theorem LV.on {H H' : Hp} {v : V} {d : PyData} (h : LV H v d) (k1 : ∀ b xs, H b = some (.tup xs) → H' b = some (.tup xs)) (k2 : ∀ b xs, H b = some (.lst xs) → H' b = some (.lst xs)) (k3 : ∀ b kvs, H b = some (.dK kvs) → H' b = some (.dK kvs)) : LV H' v d := by
  cases h with
  | sc f e => exact .sc f e
  | tup e l a p => exact .tup (k1 _ _ e) l a p
  | lst e l a p => exact .lst (k2 _ _ e) l a p
  | dct e e2 f s => exact .dct (k3 _ _ e) (k2 _ _ e2) f s
theorem LV.keep {H H' : Hp} {v : V} {d : PyData} (h : LV H v d) (k : Same H H') : LV H' v d := h.on (fun _ _ => k _ _) (fun _ _ => k _ _) (fun _ _ => k _ _)
theorem flat_none : Flat .non "NoneType" := ⟨fun _ _ => .base .non, by decide +kernel, by decide +kernel, by decide +kernel⟩
theorem flat_bl (b : Bool) : Flat (.bl b) "bool" := ⟨fun _ _ => .base (.bl b), by decide +kernel, by decide +kernel, by decide +kernel⟩
theorem sclr_dp {K : PySem.W.Frag} {H : Hp} {v : V} {d : PyData} (h : sclr v d = true) : Dp K H v d ∧ d.hasDict = false := by
  cases v <;> cases d <;> first | cases h | skip
  · exact ⟨.non, rfl⟩
  · obtain rfl := beq_iff_eq.mp h; exact ⟨.bl _, rfl⟩
  · obtain rfl := of_decide_eq_true h; exact ⟨.int _, rfl⟩
  · obtain rfl := beq_iff_eq.mp h; exact ⟨.str _, rfl⟩
theorem sclr_dps {K : PySem.W.Frag} {H : Hp} : ∀ {us : List V} {ds : List PyData}, Paired (fun v d => sclr v d = true) us ds → DpAll K H us ds ∧ PyData.hasDictAll ds = false
  | _, _, .nil => ⟨.nil, rfl⟩
  | _, _, .cons x t => by
    obtain ⟨a, b⟩ := sclr_dp (K := K) (H := H) x
    obtain ⟨c, e⟩ := sclr_dps (K := K) (H := H) t
    exact ⟨.cons a c, by simp only [PyData.hasDictAll, b, e, Bool.or_self]⟩
theorem LV.vi {K : PySem.W.Frag} {H : Hp} {v : V} {d : PyData} (h : LV H v d) : Vi K H v d := by
  cases h with
  | sc f e => exact .inl (sclr_dp e)
  | tup e l a p =>
    obtain ⟨x, y⟩ := sclr_dps (K := K) (H := H) p
    exact .inl ⟨.tup (SqT.of e) x, by simp only [PyData.hasDict, y]⟩
  | lst e l a p =>
    obtain ⟨x, y⟩ := sclr_dps (K := K) (H := H) p
    exact .inl ⟨.lst (SqL.of e) x, by simp only [PyData.hasDict, y]⟩
  | @dct a l k x T d e e2 f s =>
    obtain ⟨y, z⟩ := sclr_dp (K := K) (H := H) s
    refine .inr ⟨a, _, _, rfl, rfl, e, rfl, .cons (.lst (SqL.of e2) (.cons y .nil)) .nil, ?_⟩
    simp only [List.map_cons, List.map_nil, PyData.hasDictAll, PyData.hasDict, z, Bool.or_self]
theorem Good.show {d : PyData} (g : Good d) : d.showable = true ∧ d.depth ≤ 32 ∧ d.shown.length ≤ sizeLine := ⟨g.1, Nat.le_trans g.2.1 (by decide), show_len g.2.2.1 (Nat.le_trans g.2.2.2 (by decide))⟩
theorem Good.two {d e : PyData} (g : Good d) (h : Good e) : (PyData.list [d, e]).showable = true ∧ (PyData.list [d, e]).depth ≤ 32 ∧ (PyData.list [d, e]).shown.length ≤ sizeLine := by
  obtain ⟨a1, a2, a3, a4⟩ := g
  obtain ⟨b1, b2, b3, b4⟩ := h
  refine ⟨by simp [PyData.showable, PyData.showableAll, a1, b1], ?_, show_len ?_ ?_⟩
  · simp only [PyData.depth, PyData.depthAll]; omega
  · simp [PyData.leavesShort, PyData.leavesShortAll, a3, b3]
  · simp only [PyData.weight, PyData.weightAll]; omega
/-- what kept promises of them -/
def spKeptL : Sp := fun vs H Q _ => ∃ (v : V) (d : PyData), vs = [v] ∧ LV H v d ∧ ∀ (v' : V) (H' : Hp), Same H H' → LV H' v' d → Q v' H'
section
variable {P : Program} {w : World} {K : PySem.W.Frag} {mg : Str → Option Value} {base : Heap}
theorem ok_keptL {f : Addr} {fd : FuncData} (F1 : FnOk P w K mg base CX0 3 f fd ["value"] spKeptV) (F2 : FnOk P w K mg base CX0 3 f fd ["value"] spKept2) : FnOk P w K mg base CX0 3 f fd ["value"] spKeptL := by
  have both : ∀ (vs : List V) (H : Hp) (Q : VK) (E : XK), spKeptL vs H Q E → spKeptV vs H Q E ∨ spKept2 vs H Q E := by
    rintro vs H Q E ⟨v, d, rfl, h, k⟩
    cases h with
    | sc f e => exact .inl ⟨v, _, _, rfl, .flat f, fun v' H' s a => by cases a with
        | same => exact k _ _ s (.sc f e)
        | lst e1 e2 => cases d <;> cases e
        | dct e1 e2 => cases d <;> cases e⟩
    | @tup a us ds e l al p => exact .inl ⟨_, _, _, rfl, .tup e al (by omega), fun v' H' s y => by cases y with
        | same => exact k _ _ s (.tup (s _ _ e) l al p)
        | lst e1 e2 => rw [e] at e1; cases e1
        | dct e1 e2 => rw [e] at e1; cases e1⟩
    | @lst a us ds e l al p => exact .inl ⟨_, _, _, rfl, .lst e al (by omega), fun v' H' s y => by cases y with
        | same => exact k _ _ s (.lst (s _ _ e) l al p)
        | lst e1 e2 => rw [e] at e1; cases e1; exact k _ _ s (.lst e2 l al p)
        | dct e1 e2 => rw [e] at e1; cases e1⟩
    | dct e e2 f s => exact .inr ⟨_, _, _, _, _, rfl, e, e2, f, fun a' l' H' sm h1 h2 => k _ _ sm (.dct h1 h2 f s)⟩
  exact ⟨fun vs H Q E h => (both vs H Q E h).elim (F1.len vs H Q E) (F2.len vs H Q E), fun A st s H args us vs Q E hr env bt rv h => (both vs H Q E h).elim (fun h => F1.run A st s H args us vs Q E hr env bt rv h) (fun h => F2.run A st s H args us vs Q E hr env bt rv h)⟩
theorem scPen : FnScope ["_law_script"] ["_law_script"] (defScope sPen) := ⟨rfl, rfl, rfl, by decide +kernel, rfl, by decide +kernel, by decide +kernel⟩
theorem ok_pen {f : Addr} {fd : FuncData} (F : Fun K "_law_pen" "_law_pen" sPen f fd) (T : Blt mg) : FnOk P w K mg base CX0 1 f fd ["_law_script"] (spPen K) := by
  refine F.ok scPen (fun vs H Q E h => ?_) (fun cdv A outer s H vs Q E hr h => ?_)
  · obtain ⟨a, ns, rfl, _⟩ := h
    rfl
  · obtain ⟨a, ns, rfl, hS, hlen, kk⟩ := h
    refine ⟨_, pss_one (ps_ret (pe_lst (pa_cons (pe_callTy call_list_of (by rfl) T.list (by decide +kernel) (pa_cons (pe_slice sl_list (pv 0) po_none (po_some pe_int)) pa_nil)) (pa_cons pe_int (pa_cons pe_int pa_nil))))), ?_⟩
    refine ⟨_, rfl, _, rfl, a, _, rfl, hS, fun l1 nl1 => ⟨l1, _, rfl, .inl (SqL.of upd_same), fun l2 nl2 => ⟨(by show 3 ≤ sizeLine; decide), fun p np => ?_⟩⟩⟩
    obtain ⟨ms, e1, e2⟩ := cut_ints ns 63
    rw [e1] at nl2 np ⊢
    have s1 : Same H (upd (upd H l1 (.lst (ms.map V.int))) l2 (.lst (ms.map V.int))) := (same_new nl1).trans (same_new nl2)
    have s2 := s1.trans (same_new (o := .lst [.ref l2, .int 0, .int 0]) np)
    refine kk p l2 _ ?_ s2 ⟨ms, 0, 0, upd_same, by rw [upd_ne (ne_of_none upd_same np)]; exact upd_same, ne_of_none upd_same np, by omega, by decide, by decide, by decide⟩
    cases z : H p with
    | none => rfl
    | some o => rw [s1 _ _ z] at np; cases np
theorem scPick : FnScope ["_law_pen_here", "_law_some"] ["_law_pen_here", "_law_some"] (defScope sPick) := ⟨rfl, rfl, rfl, by decide +kernel, rfl, by decide +kernel, by decide +kernel⟩
theorem ok_pick {f : Addr} {fd : FuncData} (F : Fun K "_law_pick" "_law_pick" sPick f fd) (T : Blt mg) (D : Df P w K mg base 1 "_law_draw" ["_law_pen_here", "_law_many"] spDraw) : FnOk P w K mg base CX0 2 f fd ["_law_pen_here", "_law_some"] spPick := by
  obtain ⟨f1, fd1, G1, g1, k1, b1⟩ := D.ex
  refine F.ok scPick (fun vs H Q E h => ?_) (fun cdv A outer s H vs Q E hr h => ?_)
  · obtain ⟨p, l, L, xs, B, rfl, _⟩ := h
    rfl
  · obtain ⟨p, l, L, xs, B, rfl, hl, hne, x1, x2, hB, hp, kk⟩ := h
    refine ⟨_, pss_one (ps_ret (pe_ix ix_list (pv 1) (pe_call G1 hr (by rfl) g1 k1 b1 .nil pass0 (pa_cons (pv 0) (pa_cons (pe_callB call_len_seq (by rfl) T.len PySem.boot_len (pa_cons (pv 1) pa_nil)) pa_nil))) (fun _ _ => rfl))), ?_⟩
    refine ⟨_, rfl, _, rfl, _, rfl, l, _, rfl, .inl (SqL.of hl), p, L, _, B, rfl, by omega, by omega, hB, hp, fun d H1 bt pn d0 d1 => ?_⟩
    obtain ⟨j, rfl⟩ := Int.eq_ofNat_of_zero_le d0
    have hj : j < xs.length := by omega
    refine ⟨l, xs, _, xs[j], rfl, rfl, SqL.of (bt _ _ hne hl), atI_nat (List.getElem?_eq_getElem hj), ?_⟩
    exact kk _ _ (List.getElem_mem hj) bt pn
end
end Ev
namespace Ev
open PySem L2 PySem.Spec PyProof.Rows
section
variable {X : Cx}
theorem op_x40 : OpR X (binaryOp .Mult) (fun x y H Q => x = .str "x" ∧ y = .int 40 ∧ Q (.str x40) H) := by
  intro pins s σ H x y v u Q I rx ry h
  obtain ⟨rfl, rfl, q⟩ := h
  obtain ⟨t, rfl⟩ := rx
  obtain ⟨t', rfl⟩ := ry
  refine PySem.P.mul_str (by decide +kernel) (fun h1 _ => by decide +kernel) (fun h1 _ => by decide +kernel) ?_
  rw [if_neg (by decide), if_neg (by decide +kernel)]
  exact ⟨by decide +kernel, .str x40, H, I.tok _, ⟨_, rfl⟩, q⟩
end
theorem dsmall {d : Int} (h : 0 ≤ d) (k : d < 10 ^ Int.toNat 9) : d.natAbs < 1073741824 := by
  have : (10 : Int) ^ Int.toNat 9 = 1000000000 := by decide
  omega
def spValue : Sp := fun vs H Q _ => ∃ (p L : Addr) (B : Int), vs = [.ref p] ∧ B ≤ 900000 ∧ Pen L H p B ∧ ∀ (v : V) (d : PyData) (H' : Hp), LV H' v d → Good d → But p H H' → Pen L H' p (B + 2) → Q v H'
theorem good_int {n : Int} (h : Big n) : Good (.int n) := ⟨big_show h, by simp [PyData.depth], big_leaf h, Nat.le_trans (big_weight h) (by decide)⟩
theorem LV.but {H H' : Hp} {p : Addr} {xs : List V} {v : V} {d : PyData} (h : LV H v d) (hp : H p = some (.lst xs)) (nl : xs.length ≠ 1) (k : But p H H') : LV H' v d := by
  have one : ∀ {b : Addr} {us : List V}, H b = some (.lst us) → us.length = 1 → b ≠ p := fun e l z => by
    rw [z, hp] at e
    cases e
    exact nl l
  cases h with
  | sc f e => exact .sc f e
  | tup e l a q => exact .tup (k _ _ (ne_of e hp (by intro z; cases z)) e) l a q
  | lst e l a q => exact .lst (k _ _ (one e l) e) l a q
  | dct e e2 f s => exact .dct (k _ _ (ne_of e hp (by intro z; cases z)) e) (k _ _ (one e2 rfl) e2) f s
section
variable {P : Program} {w : World} {K : PySem.W.Frag} {mg : Str → Option Value} {base : Heap}
theorem scValue : FnScope ["_law_pen_here", "_law_some"] ["_law_pen_here"] (defScope sValue) := ⟨rfl, rfl, rfl, by decide +kernel, rfl, by decide +kernel, by decide +kernel⟩
theorem ok_value {f : Addr} {fd : FuncData} (F : Fun K "_law_value" "_law_value" sValue f fd) (T : Blt mg) (D1 : Df P w K mg base 1 "_law_draw" ["_law_pen_here", "_law_many"] spDraw) (D2 : Df P w K mg base 2 "_law_pick" ["_law_pen_here", "_law_some"] spPick) : FnOk P w K mg base CX0 3 f fd ["_law_pen_here"] spValue := by
  obtain ⟨f1, fd1, G1, g1, k1, b1⟩ := D1.ex
  obtain ⟨f2, fd2, G2, g2, k2, b2⟩ := D2.ex
  refine F.ok scValue (fun vs H Q E h => ?_) (fun cdv A outer s H vs Q E hr h => ?_)
  · obtain ⟨p, L, B, rfl, _⟩ := h
    rfl
  · obtain ⟨p, L, B, rfl, hB, hp, kk⟩ := h
    have hr1 : Room 1 _ := hr.mono (by decide)
    refine ⟨_, pss_cons (ps_set (i := 1) scValue.nd rfl (.inl rfl) (pe_lst (pa_cons pe_non (pa_cons pe_bl (pa_cons pe_int (pa_cons (pe_un un_neg pe_int) (pa_cons (pe_op op_pow pe_int pe_int) (pa_cons pe_str (pa_cons pe_str (pa_cons (pe_tup (pa_cons pe_int (pa_cons pe_str pa_nil)))
        (pa_cons (pe_lst (pa_cons pe_non pa_nil)) (pa_cons (pe_disp (pps_cons pe_str (pe_lst (pa_cons pe_int pa_nil)) pps_nil) rfl rfl (by simp) (by decide)) (pa_cons (pe_op op_x40 pe_str pe_int) (pa_cons (pe_tup pa_nil) pa_nil))))))))))))))
      (pss_one (ps_ret (pe_call G2 hr (by rfl) g2 k2 b2 .nil pass0 (pa_cons (pv 0) (pa_cons (pe_op op_cat (pv 1) (pe_lst (pa_cons (pe_call G1 hr1 (by rfl) g1 k1 b1 .nil pass0 (pa_cons (pv 0) (pa_cons (pe_op op_pow pe_int pe_int) pa_nil))) pa_nil))) pa_nil))))), ?_⟩
    refine ⟨_, rfl, _, _, rfl, rfl, ⟨by decide, by decide, by decide⟩, (by show 2 ≤ sizeLine; decide), fun t1 n1 => ⟨(by show 1 ≤ sizeLine; decide), fun t2 n2 => ?_⟩⟩
    have s2 := (same_new (o := .tup [.int 1, .str "a"]) n1).trans (same_new (o := .lst [.non]) n2)
    have f1 := same_new (o := .lst [.non]) n2 _ _ (upd_same (H := H) (a := t1) (o := .tup [.int 1, .str "a"]))
    have f2 : upd (upd H t1 (.tup [.int 1, .str "a"])) t2 (.lst [.non]) t2 = some (.lst [.non]) := upd_same
    have p2 := hp.keep s2
    have e1 := hp.ne n1
    have e2 := (hp.keep (same_new (o := .tup [.int 1, .str "a"]) n1)).ne n2
    generalize upd (upd H t1 (.tup [.int 1, .str "a"])) t2 (.lst [.non]) = H2 at s2 f1 f2 p2 ⊢
    clear n1 n2
    refine fun t3 n3 => ⟨(by show 1 ≤ sizeLine; decide), fun t4 n4 => ⟨same_new n4 _ _ upd_same, [(.inr "a", .ref t4)], rfl, (by show 1 ≤ 15; decide), ?_⟩⟩
    have n34 : t3 ≠ t4 := fun z => by rw [← z, upd_same] at n4; cases n4
    have n4H : H2 t4 = none := by rw [upd_ne n34.symm] at n4; exact n4
    have e3 := p2.ne n3
    have e4 := p2.ne n4H
    rw [show mergeK [] [((.inr "a" : Key), V.ref t4)] = [((.inr "a" : Key), V.ref t4)] from rfl]
    have s4 : Same H2 (upd (upd (upd H2 t3 (.dK [])) t4 (.lst [.int 1])) t3 (.dK [(.inr "a", .ref t4)])) := fun b u z => by
      rw [upd_ne (ne_of_none z n3)]; exact ((same_new n3).trans (same_new n4)) _ _ z
    have f3 : upd (upd (upd H2 t3 (.dK [])) t4 (.lst [.int 1])) t3 (.dK [(.inr "a", .ref t4)]) t3 = some (.dK [(.inr "a", .ref t4)]) := upd_same
    have f4 : upd (upd (upd H2 t3 (.dK [])) t4 (.lst [.int 1])) t3 (.dK [(.inr "a", .ref t4)]) t4 = some (.lst [.int 1]) := by rw [upd_ne n34.symm]; exact upd_same
    have p4 := p2.keep s4
    replace f1 := s4 _ _ f1
    replace f2 := s4 _ _ f2
    generalize upd (upd (upd H2 t3 (.dK [])) t4 (.lst [.int 1])) t3 (.dK [(.inr "a", .ref t4)]) = H4 at s4 f1 f2 f3 f4 p4 ⊢
    have s4 := s2.trans s4
    clear n3 n4 n4H p2 s2
    refine ⟨rfl, rfl, (by show 0 ≤ sizeLine; decide), fun t5 n5 => ⟨(by show 12 ≤ sizeLine; decide), fun l6 n6 => ?_⟩⟩
    have e5 := p4.ne n5
    have e6 := (p4.keep (same_new (o := .tup []) n5)).ne n6
    have s6 := (same_new (o := .tup []) n5).trans (same_new (o := .lst [V.non, .bl true, .int 0, .int (-7), .int (10 ^ Int.toNat 59), .str "", .str "name", .ref t1, .ref t2, .ref t3, .str x40, .ref t5]) n6)
    have f5 := same_new (o := .lst [V.non, .bl true, .int 0, .int (-7), .int (10 ^ Int.toNat 59), .str "", .str "name", .ref t1, .ref t2, .ref t3, .str x40, .ref t5]) n6 _ _ (upd_same (H := H4) (a := t5) (o := .tup []))
    have f6 : upd (upd H4 t5 (.tup [])) l6 (.lst [V.non, .bl true, .int 0, .int (-7), .int (10 ^ Int.toNat 59), .str "", .str "name", .ref t1, .ref t2, .ref t3, .str x40, .ref t5]) l6 = some (.lst [V.non, .bl true, .int 0, .int (-7), .int (10 ^ Int.toNat 59), .str "", .str "name", .ref t1, .ref t2, .ref t3, .str x40, .ref t5]) := upd_same
    have p6 := p4.keep s6
    replace f1 := s6 _ _ f1
    replace f2 := s6 _ _ f2
    replace f3 := s6 _ _ f3
    replace f4 := s6 _ _ f4
    have s6 := s4.trans s6
    clear n5 n6 p4 s4
    change Pen L (upd (upd H4 t5 (.tup [])) l6 (.lst [V.non, .bl true, .int 0, .int (-7), .int (10 ^ Int.toNat 59), .str "", .str "name", .ref t1, .ref t2, .ref t3, .str x40, .ref t5])) p B at p6
    refine ⟨_, rfl, _, rfl, _, rfl, _, _, rfl, rfl, ⟨by decide, by decide, by decide⟩, ?_⟩
    have hv1 : (fun i : Int => V.int (-i)) 7 = V.int (-7) := rfl
    have hv2 : (fun i j : Int => V.int (i ^ j.toNat)) 10 59 = V.int (10 ^ Int.toNat 59) := rfl
    rw [hv1, hv2]
    generalize upd (upd H4 t5 (.tup [])) l6 (.lst [V.non, .bl true, .int 0, .int (-7), .int (10 ^ Int.toNat 59), .str "", .str "name", .ref t1, .ref t2, .ref t3, .str x40, .ref t5]) = H6 at s6 f1 f2 f3 f4 f5 f6 p6 ⊢
    refine ⟨p, L, _, _, rfl, by decide, by decide, by omega, p6, fun d H7 u7 p7 d0 d1 => ?_⟩
    refine ⟨(by show 1 ≤ sizeLine; decide), fun l8 n8 => ?_⟩
    have e8 := p7.ne n8
    have u8 := u7.trans (Same.but (same_new (o := .lst [.int d]) n8))
    have p8 := p7.keep (same_new (o := .lst [.int d]) n8)
    have f8 : upd H7 l8 (.lst [.int d]) l8 = some (.lst [.int d]) := upd_same
    generalize upd H7 l8 (.lst [.int d]) = H8 at u8 p8 f8 ⊢
    refine ⟨l6, l8, _, _, rfl, rfl, u8 _ _ e6 f6, f8, (by show 12 + 1 ≤ sizeLine; decide), fun l9 n9 => ?_⟩
    have e9 := p8.ne n9
    have u9 := u8.trans (Same.but (same_new (o := .lst ([V.non, .bl true, .int 0, .int (-7), .int (10 ^ Int.toNat 59), .str "", .str "name", .ref t1, .ref t2, .ref t3, .str x40, .ref t5] ++ [V.int d])) n9))
    have p9 := p8.keep (same_new (o := .lst ([V.non, .bl true, .int 0, .int (-7), .int (10 ^ Int.toNat 59), .str "", .str "name", .ref t1, .ref t2, .ref t3, .str x40, .ref t5] ++ [V.int d])) n9)
    refine ⟨p, l9, L, _, _, rfl, upd_same, e9, (by show 1 ≤ 12 + 1; decide), (by show 12 + 1 ≤ 1000; decide), by omega, p9, fun v Hz m uz pz => ?_⟩
    have uz := u9.trans uz
    have pz : Pen L Hz p (B + 2) := pz.mono (by omega)
    have bt : But p H Hz := (Same.but s6).trans uz
    have afl : ∀ {x y : V} {S T : String}, Flat x S → Flat y T → AllFlat [x, y] := fun a b u m => by
      simp only [List.mem_cons, List.not_mem_nil, or_false] at m
      rcases m with rfl | rfl
      · exact ⟨_, a⟩
      · exact ⟨_, b⟩
    simp only [List.mem_append, List.mem_cons, List.not_mem_nil, or_false] at m
    rcases m with (rfl | rfl | rfl | rfl | rfl | rfl | rfl | rfl | rfl | rfl | rfl | rfl) | rfl
    · exact kk _ .none _ (.sc flat_none rfl) ⟨by decide +kernel, by decide +kernel, by decide +kernel, by decide +kernel⟩ bt pz
    · exact kk _ (.bool true) _ (.sc (flat_bl true) rfl) ⟨by decide +kernel, by decide +kernel, by decide +kernel, by decide +kernel⟩ bt pz
    · exact kk _ (.int 0) _ (.sc (flat_int _) (by decide +kernel)) ⟨by decide +kernel, by decide +kernel, by decide +kernel, by decide +kernel⟩ bt pz
    · exact kk _ (.int (-7)) _ (.sc (flat_int _) (by decide +kernel)) ⟨by decide +kernel, by decide +kernel, by decide +kernel, by decide +kernel⟩ bt pz
    · exact kk _ (.int (10 ^ 59)) _ (.sc (flat_int _) (by decide +kernel)) ⟨by decide +kernel, by decide +kernel, by decide +kernel, by decide +kernel⟩ bt pz
    · exact kk _ (.str "") _ (.sc (flat_str _) (by decide +kernel)) ⟨by decide +kernel, by decide +kernel, by decide +kernel, by decide +kernel⟩ bt pz
    · exact kk _ (.str "name") _ (.sc (flat_str _) (by decide +kernel)) ⟨by decide +kernel, by decide +kernel, by decide +kernel, by decide +kernel⟩ bt pz
    · exact kk _ (.tuple [.int 1, .str "a"]) _ (.tup (uz _ _ e1 f1) (by show 2 ≤ 2; decide) (afl (flat_int 1) (flat_str "a")) (.cons (by decide +kernel) (.cons (by decide +kernel) .nil))) ⟨by decide +kernel, by decide +kernel, by decide +kernel, by decide +kernel⟩ bt pz
    · exact kk _ (.list [.none]) _ (.lst (uz _ _ e2 f2) rfl (fun u m => by rw [List.mem_singleton.mp m]; exact ⟨_, flat_none⟩) (.cons rfl .nil)) ⟨by decide +kernel, by decide +kernel, by decide +kernel, by decide +kernel⟩ bt pz
    · exact kk _ (.dict [(.str "a", .list [.int 1])]) _ (.dct (uz _ _ e3 f3) (uz _ _ e4 f4) (flat_int 1) (by decide +kernel)) ⟨by decide +kernel, by decide +kernel, by decide +kernel, by decide +kernel⟩ bt pz
    · exact kk _ (.str x40) _ (.sc (flat_str _) (by decide +kernel)) ⟨by decide +kernel, by decide +kernel, by decide +kernel, by decide +kernel⟩ bt pz
    · exact kk _ (.tuple []) _ (.tup (uz _ _ e5 f5) (by show 0 ≤ 2; decide) (fun u m => by cases m) .nil) ⟨by decide +kernel, by decide +kernel, by decide +kernel, by decide +kernel⟩ bt pz
    · exact kk _ (.int d) _ (.sc (flat_int _) (by show decide (d = d) = true; simp)) (good_int (Nat.lt_of_lt_of_le (dsmall d0 d1) (by decide +kernel))) bt pz
end
end Ev
namespace Ev
open PySem L2 PySem.Spec PyProof.Rows
theorem x_lst {a C : Addr} {d : Option Addr} {xs : List V} : exo a C d ≠ .lst xs := fun z => by
  have z' : HO.ext _ = HO.lst xs := z
  cases z'
theorem x_dK {a C : Addr} {d : Option Addr} {xs : List (Key × V)} : exo a C d ≠ .dK xs := fun z => by
  have z' : HO.ext _ = HO.dK xs := z
  cases z'
theorem y_lst {a : Addr} {d : List (Str × V)} {xs : List V} : exd a d ≠ .lst xs := fun z => by
  have z' : HO.ext _ = HO.lst xs := z
  cases z'
theorem y_dK {a : Addr} {d : List (Str × V)} {xs : List (Key × V)} : exd a d ≠ .dK xs := fun z => by
  have z' : HO.ext _ = HO.dK xs := z
  cases z'
/-- all is kept but what stands at a, an error under way -/
def Kp1 (a : Addr) (H H' : Hp) : Prop := ∀ b o, b ≠ a → H b = some o → H' b = some o
theorem LV.past {H H' : Hp} {a C : Addr} {dd : Option Addr} {v : V} {d : PyData} (h : LV H v d) (ha : H a = some (exo a C dd)) (k : Kp1 a H H') : LV H' v d :=
  h.on (fun b xs e => k _ _ (at_ne ha e exo_tup) e) (fun b xs e => k _ _ (at_ne ha e x_lst) e) (fun b xs e => k _ _ (at_ne ha e x_dK) e)
theorem LV.past2 {H H' : Hp} {a : Addr} {fs : List (Str × V)} {v : V} {d : PyData} (h : LV H v d) (ha : H a = some (exd a fs)) (k : Kp1 a H H') : LV H' v d :=
  h.on (fun b xs e => k _ _ (at_ne ha e exd_tup) e) (fun b xs e => k _ _ (at_ne ha e y_lst) e) (fun b xs e => k _ _ (at_ne ha e y_dK) e)
def spErrL (C : Addr) (n : Str) : Sp := fun vs H Q _ => ∃ (a : Addr) (v : V) (d : PyData), vs = [.ref a, v] ∧ H a = some (exo a C none) ∧ LV H v d ∧
  ∀ (v' : V) (H' : Hp), Kp1 a H H' → ErrAt H' a C (some [(n, v')]) → LV H' v' d → Q .non H'
def spErr2 (C : Addr) (n m : Str) : Sp := fun vs H Q _ => ∃ (a : Addr) (v u : V) (d e : PyData), vs = [.ref a, v, u] ∧ H a = some (exo a C none) ∧ LV H v d ∧ LV H u e ∧
  ∀ (v' u' : V) (H' : Hp), Kp1 a H H' → ErrAt H' a C (some [(m, u'), (n, v')]) → LV H' v' d → LV H' u' e → Q .non H'
theorem err_fin {H1 : Hp} {a C dx : Addr} {v : V} {d : PyData} {n : Str} (ha : H1 a = some (exo a C none)) (nx : H1 dx = none) (ne : dx ≠ a) (hv : LV H1 v d) :
    Kp1 a H1 (upd (upd H1 dx (exd dx [(n, v)])) a (exo a C (some dx))) ∧ ErrAt (upd (upd H1 dx (exd dx [(n, v)])) a (exo a C (some dx))) a C (some [(n, v)]) ∧ LV (upd (upd H1 dx (exd dx [(n, v)])) a (exo a C (some dx))) v d := by
  have k : Kp1 a H1 (upd (upd H1 dx (exd dx [(n, v)])) a (exo a C (some dx))) := fun b o nb e => by rw [upd_ne nb, upd_ne (ne_of_none e nx)]; exact e
  exact ⟨k, ⟨dx, upd_same, by rw [upd_ne ne]; exact upd_same⟩, hv.past ha k⟩
section
variable {P : Program} {w : World} {K : PySem.W.Frag} {mg : Str → Option Value} {base : Heap}
abbrev sEBadRule : Stmt := inClass (top 8) 0
theorem scBadRule : FnScope ["self", "part"] ["self", "part"] (defScope sEBadRule) := ⟨rfl, rfl, rfl, by decide +kernel, rfl, by decide +kernel, by decide +kernel⟩
theorem ok_eBadRule {f C : Addr} {fd : FuncData} (F : Fun K "__init__" "BadRule.__init__" sEBadRule f fd) (T : OexC K C) (no : PySem.W.findIn K (.ref C) "part" = some none) (D : Df P w K mg base 3 "kept" ["value"] spKeptL) : FnOk P w K mg base CX0 4 f fd ["self", "part"] (spErrL C "part") := by
  obtain ⟨f1, fd1, G1, g1, k1, b1⟩ := D.ex
  refine F.ok scBadRule (fun vs H Q E h => ?_) (fun cdv A outer s H vs Q E hr h => ?_)
  · obtain ⟨a, v, d, rfl, _⟩ := h
    rfl
  · obtain ⟨a, v, d, rfl, ha, hv, kk⟩ := h
    refine ⟨_, pss_one (ps_ost (pv 0) (pe_call G1 hr (by rfl) g1 k1 b1 .nil pass0 (pa_cons (pv 1) pa_nil))), ?_⟩
    refine ⟨_, rfl, v, d, rfl, hv, fun v' H1 s1 hv' => ⟨_, rfl, a, C, rfl, T, no, .inl ⟨s1 _ _ ha, fun dx nx ne => ?_⟩⟩⟩
    obtain ⟨z1, z2, z3⟩ := err_fin (n := "part") (s1 _ _ ha) nx ne hv'
    exact kk v' _ (fun b o nb e => z1 _ _ nb (s1 _ _ e)) z2 z3
abbrev sENoHalves : Stmt := inClass (top 9) 0
theorem scNoHalves : FnScope ["self", "weight"] ["self", "weight"] (defScope sENoHalves) := ⟨rfl, rfl, rfl, by decide +kernel, rfl, by decide +kernel, by decide +kernel⟩
theorem ok_eNoHalves {f C : Addr} {fd : FuncData} (F : Fun K "__init__" "NoHalves.__init__" sENoHalves f fd) (T : OexC K C) (no : PySem.W.findIn K (.ref C) "weight" = some none) (D : Df P w K mg base 3 "kept" ["value"] spKeptL) : FnOk P w K mg base CX0 4 f fd ["self", "weight"] (spErrL C "weight") := by
  obtain ⟨f1, fd1, G1, g1, k1, b1⟩ := D.ex
  refine F.ok scNoHalves (fun vs H Q E h => ?_) (fun cdv A outer s H vs Q E hr h => ?_)
  · obtain ⟨a, v, d, rfl, _⟩ := h
    rfl
  · obtain ⟨a, v, d, rfl, ha, hv, kk⟩ := h
    refine ⟨_, pss_one (ps_ost (pv 0) (pe_call G1 hr (by rfl) g1 k1 b1 .nil pass0 (pa_cons (pv 1) pa_nil))), ?_⟩
    refine ⟨_, rfl, v, d, rfl, hv, fun v' H1 s1 hv' => ⟨_, rfl, a, C, rfl, T, no, .inl ⟨s1 _ _ ha, fun dx nx ne => ?_⟩⟩⟩
    obtain ⟨z1, z2, z3⟩ := err_fin (n := "weight") (s1 _ _ ha) nx ne hv'
    exact kk v' _ (fun b o nb e => z1 _ _ nb (s1 _ _ e)) z2 z3
abbrev sEBadNumber : Stmt := inClass (top 10) 0
theorem scBadNumber : FnScope ["self", "value"] ["self", "value"] (defScope sEBadNumber) := ⟨rfl, rfl, rfl, by decide +kernel, rfl, by decide +kernel, by decide +kernel⟩
theorem ok_eBadNumber {f C : Addr} {fd : FuncData} (F : Fun K "__init__" "BadNumber.__init__" sEBadNumber f fd) (T : OexC K C) (no : PySem.W.findIn K (.ref C) "value" = some none) (D : Df P w K mg base 3 "kept" ["value"] spKeptL) : FnOk P w K mg base CX0 4 f fd ["self", "value"] (spErrL C "value") := by
  obtain ⟨f1, fd1, G1, g1, k1, b1⟩ := D.ex
  refine F.ok scBadNumber (fun vs H Q E h => ?_) (fun cdv A outer s H vs Q E hr h => ?_)
  · obtain ⟨a, v, d, rfl, _⟩ := h
    rfl
  · obtain ⟨a, v, d, rfl, ha, hv, kk⟩ := h
    refine ⟨_, pss_one (ps_ost (pv 0) (pe_call G1 hr (by rfl) g1 k1 b1 .nil pass0 (pa_cons (pv 1) pa_nil))), ?_⟩
    refine ⟨_, rfl, v, d, rfl, hv, fun v' H1 s1 hv' => ⟨_, rfl, a, C, rfl, T, no, .inl ⟨s1 _ _ ha, fun dx nx ne => ?_⟩⟩⟩
    obtain ⟨z1, z2, z3⟩ := err_fin (n := "value") (s1 _ _ ha) nx ne hv'
    exact kk v' _ (fun b o nb e => z1 _ _ nb (s1 _ _ e)) z2 z3
abbrev sEBadTest : Stmt := inClass (top 11) 0
theorem scBadTest : FnScope ["self", "at"] ["self", "at"] (defScope sEBadTest) := ⟨rfl, rfl, rfl, by decide +kernel, rfl, by decide +kernel, by decide +kernel⟩
theorem ok_eBadTest {f C : Addr} {fd : FuncData} (F : Fun K "__init__" "BadTest.__init__" sEBadTest f fd) (T : OexC K C) (no : PySem.W.findIn K (.ref C) "at" = some none) (D : Df P w K mg base 3 "kept" ["value"] spKeptL) : FnOk P w K mg base CX0 4 f fd ["self", "at"] (spErrL C "at") := by
  obtain ⟨f1, fd1, G1, g1, k1, b1⟩ := D.ex
  refine F.ok scBadTest (fun vs H Q E h => ?_) (fun cdv A outer s H vs Q E hr h => ?_)
  · obtain ⟨a, v, d, rfl, _⟩ := h
    rfl
  · obtain ⟨a, v, d, rfl, ha, hv, kk⟩ := h
    refine ⟨_, pss_one (ps_ost (pv 0) (pe_call G1 hr (by rfl) g1 k1 b1 .nil pass0 (pa_cons (pv 1) pa_nil))), ?_⟩
    refine ⟨_, rfl, v, d, rfl, hv, fun v' H1 s1 hv' => ⟨_, rfl, a, C, rfl, T, no, .inl ⟨s1 _ _ ha, fun dx nx ne => ?_⟩⟩⟩
    obtain ⟨z1, z2, z3⟩ := err_fin (n := "at") (s1 _ _ ha) nx ne hv'
    exact kk v' _ (fun b o nb e => z1 _ _ nb (s1 _ _ e)) z2 z3
abbrev sEBadKey : Stmt := inClass (top 12) 0
theorem scBadKey : FnScope ["self", "value"] ["self", "value"] (defScope sEBadKey) := ⟨rfl, rfl, rfl, by decide +kernel, rfl, by decide +kernel, by decide +kernel⟩
theorem ok_eBadKey {f C : Addr} {fd : FuncData} (F : Fun K "__init__" "BadKey.__init__" sEBadKey f fd) (T : OexC K C) (no : PySem.W.findIn K (.ref C) "value" = some none) (D : Df P w K mg base 3 "kept" ["value"] spKeptL) : FnOk P w K mg base CX0 4 f fd ["self", "value"] (spErrL C "value") := by
  obtain ⟨f1, fd1, G1, g1, k1, b1⟩ := D.ex
  refine F.ok scBadKey (fun vs H Q E h => ?_) (fun cdv A outer s H vs Q E hr h => ?_)
  · obtain ⟨a, v, d, rfl, _⟩ := h
    rfl
  · obtain ⟨a, v, d, rfl, ha, hv, kk⟩ := h
    refine ⟨_, pss_one (ps_ost (pv 0) (pe_call G1 hr (by rfl) g1 k1 b1 .nil pass0 (pa_cons (pv 1) pa_nil))), ?_⟩
    refine ⟨_, rfl, v, d, rfl, hv, fun v' H1 s1 hv' => ⟨_, rfl, a, C, rfl, T, no, .inl ⟨s1 _ _ ha, fun dx nx ne => ?_⟩⟩⟩
    obtain ⟨z1, z2, z3⟩ := err_fin (n := "value") (s1 _ _ ha) nx ne hv'
    exact kk v' _ (fun b o nb e => z1 _ _ nb (s1 _ _ e)) z2 z3
abbrev sENoKey : Stmt := inClass (top 13) 0
theorem scNoKey : FnScope ["self", "key"] ["self", "key"] (defScope sENoKey) := ⟨rfl, rfl, rfl, by decide +kernel, rfl, by decide +kernel, by decide +kernel⟩
theorem ok_eNoKey {f C : Addr} {fd : FuncData} (F : Fun K "__init__" "NoKey.__init__" sENoKey f fd) (T : OexC K C) (no : PySem.W.findIn K (.ref C) "key" = some none) (D : Df P w K mg base 3 "kept" ["value"] spKeptL) : FnOk P w K mg base CX0 4 f fd ["self", "key"] (spErrL C "key") := by
  obtain ⟨f1, fd1, G1, g1, k1, b1⟩ := D.ex
  refine F.ok scNoKey (fun vs H Q E h => ?_) (fun cdv A outer s H vs Q E hr h => ?_)
  · obtain ⟨a, v, d, rfl, _⟩ := h
    rfl
  · obtain ⟨a, v, d, rfl, ha, hv, kk⟩ := h
    refine ⟨_, pss_one (ps_ost (pv 0) (pe_call G1 hr (by rfl) g1 k1 b1 .nil pass0 (pa_cons (pv 1) pa_nil))), ?_⟩
    refine ⟨_, rfl, v, d, rfl, hv, fun v' H1 s1 hv' => ⟨_, rfl, a, C, rfl, T, no, .inl ⟨s1 _ _ ha, fun dx nx ne => ?_⟩⟩⟩
    obtain ⟨z1, z2, z3⟩ := err_fin (n := "key") (s1 _ _ ha) nx ne hv'
    exact kk v' _ (fun b o nb e => z1 _ _ nb (s1 _ _ e)) z2 z3
abbrev sETaken : Stmt := inClass (top 14) 0
theorem scTaken : FnScope ["self", "key"] ["self", "key"] (defScope sETaken) := ⟨rfl, rfl, rfl, by decide +kernel, rfl, by decide +kernel, by decide +kernel⟩
theorem ok_eTaken {f C : Addr} {fd : FuncData} (F : Fun K "__init__" "Taken.__init__" sETaken f fd) (T : OexC K C) (no : PySem.W.findIn K (.ref C) "key" = some none) (D : Df P w K mg base 3 "kept" ["value"] spKeptL) : FnOk P w K mg base CX0 4 f fd ["self", "key"] (spErrL C "key") := by
  obtain ⟨f1, fd1, G1, g1, k1, b1⟩ := D.ex
  refine F.ok scTaken (fun vs H Q E h => ?_) (fun cdv A outer s H vs Q E hr h => ?_)
  · obtain ⟨a, v, d, rfl, _⟩ := h
    rfl
  · obtain ⟨a, v, d, rfl, ha, hv, kk⟩ := h
    refine ⟨_, pss_one (ps_ost (pv 0) (pe_call G1 hr (by rfl) g1 k1 b1 .nil pass0 (pa_cons (pv 1) pa_nil))), ?_⟩
    refine ⟨_, rfl, v, d, rfl, hv, fun v' H1 s1 hv' => ⟨_, rfl, a, C, rfl, T, no, .inl ⟨s1 _ _ ha, fun dx nx ne => ?_⟩⟩⟩
    obtain ⟨z1, z2, z3⟩ := err_fin (n := "key") (s1 _ _ ha) nx ne hv'
    exact kk v' _ (fun b o nb e => z1 _ _ nb (s1 _ _ e)) z2 z3
abbrev sEOverlap : Stmt := inClass (top 15) 0
theorem scOverlap : FnScope ["self", "key"] ["self", "key"] (defScope sEOverlap) := ⟨rfl, rfl, rfl, by decide +kernel, rfl, by decide +kernel, by decide +kernel⟩
theorem ok_eOverlap {f C : Addr} {fd : FuncData} (F : Fun K "__init__" "Overlap.__init__" sEOverlap f fd) (T : OexC K C) (no : PySem.W.findIn K (.ref C) "key" = some none) (D : Df P w K mg base 3 "kept" ["value"] spKeptL) : FnOk P w K mg base CX0 4 f fd ["self", "key"] (spErrL C "key") := by
  obtain ⟨f1, fd1, G1, g1, k1, b1⟩ := D.ex
  refine F.ok scOverlap (fun vs H Q E h => ?_) (fun cdv A outer s H vs Q E hr h => ?_)
  · obtain ⟨a, v, d, rfl, _⟩ := h
    rfl
  · obtain ⟨a, v, d, rfl, ha, hv, kk⟩ := h
    refine ⟨_, pss_one (ps_ost (pv 0) (pe_call G1 hr (by rfl) g1 k1 b1 .nil pass0 (pa_cons (pv 1) pa_nil))), ?_⟩
    refine ⟨_, rfl, v, d, rfl, hv, fun v' H1 s1 hv' => ⟨_, rfl, a, C, rfl, T, no, .inl ⟨s1 _ _ ha, fun dx nx ne => ?_⟩⟩⟩
    obtain ⟨z1, z2, z3⟩ := err_fin (n := "key") (s1 _ _ ha) nx ne hv'
    exact kk v' _ (fun b o nb e => z1 _ _ nb (s1 _ _ e)) z2 z3
abbrev sEStuck : Stmt := inClass (top 16) 0
theorem scStuck : FnScope ["self", "key"] ["self", "key"] (defScope sEStuck) := ⟨rfl, rfl, rfl, by decide +kernel, rfl, by decide +kernel, by decide +kernel⟩
theorem ok_eStuck {f C : Addr} {fd : FuncData} (F : Fun K "__init__" "Stuck.__init__" sEStuck f fd) (T : OexC K C) (no : PySem.W.findIn K (.ref C) "key" = some none) (D : Df P w K mg base 3 "kept" ["value"] spKeptL) : FnOk P w K mg base CX0 4 f fd ["self", "key"] (spErrL C "key") := by
  obtain ⟨f1, fd1, G1, g1, k1, b1⟩ := D.ex
  refine F.ok scStuck (fun vs H Q E h => ?_) (fun cdv A outer s H vs Q E hr h => ?_)
  · obtain ⟨a, v, d, rfl, _⟩ := h
    rfl
  · obtain ⟨a, v, d, rfl, ha, hv, kk⟩ := h
    refine ⟨_, pss_one (ps_ost (pv 0) (pe_call G1 hr (by rfl) g1 k1 b1 .nil pass0 (pa_cons (pv 1) pa_nil))), ?_⟩
    refine ⟨_, rfl, v, d, rfl, hv, fun v' H1 s1 hv' => ⟨_, rfl, a, C, rfl, T, no, .inl ⟨s1 _ _ ha, fun dx nx ne => ?_⟩⟩⟩
    obtain ⟨z1, z2, z3⟩ := err_fin (n := "key") (s1 _ _ ha) nx ne hv'
    exact kk v' _ (fun b o nb e => z1 _ _ nb (s1 _ _ e)) z2 z3
abbrev sEBadOther : Stmt := inClass (top 17) 0
theorem scBadOther : FnScope ["self", "part"] ["self", "part"] (defScope sEBadOther) := ⟨rfl, rfl, rfl, by decide +kernel, rfl, by decide +kernel, by decide +kernel⟩
theorem ok_eBadOther {f C : Addr} {fd : FuncData} (F : Fun K "__init__" "BadOther.__init__" sEBadOther f fd) (T : OexC K C) (no : PySem.W.findIn K (.ref C) "part" = some none) (D : Df P w K mg base 3 "kept" ["value"] spKeptL) : FnOk P w K mg base CX0 4 f fd ["self", "part"] (spErrL C "part") := by
  obtain ⟨f1, fd1, G1, g1, k1, b1⟩ := D.ex
  refine F.ok scBadOther (fun vs H Q E h => ?_) (fun cdv A outer s H vs Q E hr h => ?_)
  · obtain ⟨a, v, d, rfl, _⟩ := h
    rfl
  · obtain ⟨a, v, d, rfl, ha, hv, kk⟩ := h
    refine ⟨_, pss_one (ps_ost (pv 0) (pe_call G1 hr (by rfl) g1 k1 b1 .nil pass0 (pa_cons (pv 1) pa_nil))), ?_⟩
    refine ⟨_, rfl, v, d, rfl, hv, fun v' H1 s1 hv' => ⟨_, rfl, a, C, rfl, T, no, .inl ⟨s1 _ _ ha, fun dx nx ne => ?_⟩⟩⟩
    obtain ⟨z1, z2, z3⟩ := err_fin (n := "part") (s1 _ _ ha) nx ne hv'
    exact kk v' _ (fun b o nb e => z1 _ _ nb (s1 _ _ e)) z2 z3
abbrev sEBadDeeds : Stmt := inClass (top 18) 0
theorem scBadDeeds : FnScope ["self", "value"] ["self", "value"] (defScope sEBadDeeds) := ⟨rfl, rfl, rfl, by decide +kernel, rfl, by decide +kernel, by decide +kernel⟩
theorem ok_eBadDeeds {f C : Addr} {fd : FuncData} (F : Fun K "__init__" "BadDeeds.__init__" sEBadDeeds f fd) (T : OexC K C) (no : PySem.W.findIn K (.ref C) "value" = some none) (D : Df P w K mg base 3 "kept" ["value"] spKeptL) : FnOk P w K mg base CX0 4 f fd ["self", "value"] (spErrL C "value") := by
  obtain ⟨f1, fd1, G1, g1, k1, b1⟩ := D.ex
  refine F.ok scBadDeeds (fun vs H Q E h => ?_) (fun cdv A outer s H vs Q E hr h => ?_)
  · obtain ⟨a, v, d, rfl, _⟩ := h
    rfl
  · obtain ⟨a, v, d, rfl, ha, hv, kk⟩ := h
    refine ⟨_, pss_one (ps_ost (pv 0) (pe_call G1 hr (by rfl) g1 k1 b1 .nil pass0 (pa_cons (pv 1) pa_nil))), ?_⟩
    refine ⟨_, rfl, v, d, rfl, hv, fun v' H1 s1 hv' => ⟨_, rfl, a, C, rfl, T, no, .inl ⟨s1 _ _ ha, fun dx nx ne => ?_⟩⟩⟩
    obtain ⟨z1, z2, z3⟩ := err_fin (n := "value") (s1 _ _ ha) nx ne hv'
    exact kk v' _ (fun b o nb e => z1 _ _ nb (s1 _ _ e)) z2 z3
abbrev sEBadPages : Stmt := inClass (top 19) 0
theorem scBadPages : FnScope ["self", "at"] ["self", "at"] (defScope sEBadPages) := ⟨rfl, rfl, rfl, by decide +kernel, rfl, by decide +kernel, by decide +kernel⟩
theorem ok_eBadPages {f C : Addr} {fd : FuncData} (F : Fun K "__init__" "BadPages.__init__" sEBadPages f fd) (T : OexC K C) (no : PySem.W.findIn K (.ref C) "at" = some none) (D : Df P w K mg base 3 "kept" ["value"] spKeptL) : FnOk P w K mg base CX0 4 f fd ["self", "at"] (spErrL C "at") := by
  obtain ⟨f1, fd1, G1, g1, k1, b1⟩ := D.ex
  refine F.ok scBadPages (fun vs H Q E h => ?_) (fun cdv A outer s H vs Q E hr h => ?_)
  · obtain ⟨a, v, d, rfl, _⟩ := h
    rfl
  · obtain ⟨a, v, d, rfl, ha, hv, kk⟩ := h
    refine ⟨_, pss_one (ps_ost (pv 0) (pe_call G1 hr (by rfl) g1 k1 b1 .nil pass0 (pa_cons (pv 1) pa_nil))), ?_⟩
    refine ⟨_, rfl, v, d, rfl, hv, fun v' H1 s1 hv' => ⟨_, rfl, a, C, rfl, T, no, .inl ⟨s1 _ _ ha, fun dx nx ne => ?_⟩⟩⟩
    obtain ⟨z1, z2, z3⟩ := err_fin (n := "at") (s1 _ _ ha) nx ne hv'
    exact kk v' _ (fun b o nb e => z1 _ _ nb (s1 _ _ e)) z2 z3
abbrev sEBadCommand : Stmt := inClass (top 21) 0
theorem scBadCommand : FnScope ["self", "word"] ["self", "word"] (defScope sEBadCommand) := ⟨rfl, rfl, rfl, by decide +kernel, rfl, by decide +kernel, by decide +kernel⟩
theorem ok_eBadCommand {f C : Addr} {fd : FuncData} (F : Fun K "__init__" "BadCommand.__init__" sEBadCommand f fd) (T : OexC K C) (no : PySem.W.findIn K (.ref C) "word" = some none) (D : Df P w K mg base 3 "kept" ["value"] spKeptL) : FnOk P w K mg base CX0 4 f fd ["self", "word"] (spErrL C "word") := by
  obtain ⟨f1, fd1, G1, g1, k1, b1⟩ := D.ex
  refine F.ok scBadCommand (fun vs H Q E h => ?_) (fun cdv A outer s H vs Q E hr h => ?_)
  · obtain ⟨a, v, d, rfl, _⟩ := h
    rfl
  · obtain ⟨a, v, d, rfl, ha, hv, kk⟩ := h
    refine ⟨_, pss_one (ps_ost (pv 0) (pe_call G1 hr (by rfl) g1 k1 b1 .nil pass0 (pa_cons (pv 1) pa_nil))), ?_⟩
    refine ⟨_, rfl, v, d, rfl, hv, fun v' H1 s1 hv' => ⟨_, rfl, a, C, rfl, T, no, .inl ⟨s1 _ _ ha, fun dx nx ne => ?_⟩⟩⟩
    obtain ⟨z1, z2, z3⟩ := err_fin (n := "word") (s1 _ _ ha) nx ne hv'
    exact kk v' _ (fun b o nb e => z1 _ _ nb (s1 _ _ e)) z2 z3
abbrev sEBadName : Stmt := inClass (top 22) 0
theorem scBadName : FnScope ["self", "value"] ["self", "value"] (defScope sEBadName) := ⟨rfl, rfl, rfl, by decide +kernel, rfl, by decide +kernel, by decide +kernel⟩
theorem ok_eBadName {f C : Addr} {fd : FuncData} (F : Fun K "__init__" "BadName.__init__" sEBadName f fd) (T : OexC K C) (no : PySem.W.findIn K (.ref C) "value" = some none) (D : Df P w K mg base 3 "kept" ["value"] spKeptL) : FnOk P w K mg base CX0 4 f fd ["self", "value"] (spErrL C "value") := by
  obtain ⟨f1, fd1, G1, g1, k1, b1⟩ := D.ex
  refine F.ok scBadName (fun vs H Q E h => ?_) (fun cdv A outer s H vs Q E hr h => ?_)
  · obtain ⟨a, v, d, rfl, _⟩ := h
    rfl
  · obtain ⟨a, v, d, rfl, ha, hv, kk⟩ := h
    refine ⟨_, pss_one (ps_ost (pv 0) (pe_call G1 hr (by rfl) g1 k1 b1 .nil pass0 (pa_cons (pv 1) pa_nil))), ?_⟩
    refine ⟨_, rfl, v, d, rfl, hv, fun v' H1 s1 hv' => ⟨_, rfl, a, C, rfl, T, no, .inl ⟨s1 _ _ ha, fun dx nx ne => ?_⟩⟩⟩
    obtain ⟨z1, z2, z3⟩ := err_fin (n := "value") (s1 _ _ ha) nx ne hv'
    exact kk v' _ (fun b o nb e => z1 _ _ nb (s1 _ _ e)) z2 z3
abbrev sENoName : Stmt := inClass (top 23) 0
theorem scNoName : FnScope ["self", "name"] ["self", "name"] (defScope sENoName) := ⟨rfl, rfl, rfl, by decide +kernel, rfl, by decide +kernel, by decide +kernel⟩
theorem ok_eNoName {f C : Addr} {fd : FuncData} (F : Fun K "__init__" "NoName.__init__" sENoName f fd) (T : OexC K C) (no : PySem.W.findIn K (.ref C) "name" = some none) (D : Df P w K mg base 3 "kept" ["value"] spKeptL) : FnOk P w K mg base CX0 4 f fd ["self", "name"] (spErrL C "name") := by
  obtain ⟨f1, fd1, G1, g1, k1, b1⟩ := D.ex
  refine F.ok scNoName (fun vs H Q E h => ?_) (fun cdv A outer s H vs Q E hr h => ?_)
  · obtain ⟨a, v, d, rfl, _⟩ := h
    rfl
  · obtain ⟨a, v, d, rfl, ha, hv, kk⟩ := h
    refine ⟨_, pss_one (ps_ost (pv 0) (pe_call G1 hr (by rfl) g1 k1 b1 .nil pass0 (pa_cons (pv 1) pa_nil))), ?_⟩
    refine ⟨_, rfl, v, d, rfl, hv, fun v' H1 s1 hv' => ⟨_, rfl, a, C, rfl, T, no, .inl ⟨s1 _ _ ha, fun dx nx ne => ?_⟩⟩⟩
    obtain ⟨z1, z2, z3⟩ := err_fin (n := "name") (s1 _ _ ha) nx ne hv'
    exact kk v' _ (fun b o nb e => z1 _ _ nb (s1 _ _ e)) z2 z3
abbrev sEBadText : Stmt := inClass (top 20) 0
theorem scBadText : FnScope ["self", "line", "word"] ["self", "line", "word"] (defScope sEBadText) := ⟨rfl, rfl, rfl, by decide +kernel, rfl, by decide +kernel, by decide +kernel⟩
theorem ok_eBadText {f C : Addr} {fd : FuncData} (F : Fun K "__init__" "BadText.__init__" sEBadText f fd) (T : OexC K C) (no : PySem.W.findIn K (.ref C) "line" = some none) (no2 : PySem.W.findIn K (.ref C) "word" = some none) (D : Df P w K mg base 3 "kept" ["value"] spKeptL) : FnOk P w K mg base CX0 4 f fd ["self", "line", "word"] (spErr2 C "line" "word") := by
  obtain ⟨f1, fd1, G1, g1, k1, b1⟩ := D.ex
  refine F.ok scBadText (fun vs H Q E h => ?_) (fun cdv A outer s H vs Q E hr h => ?_)
  · obtain ⟨a, v, u, d, e, rfl, _⟩ := h
    rfl
  · obtain ⟨a, v, u, d, e, rfl, ha, hv, hu, kk⟩ := h
    refine ⟨_, pss_cons (ps_ost (pv 0) (pe_call G1 hr (by rfl) g1 k1 b1 .nil pass0 (pa_cons (pv 1) pa_nil))) (pss_one (ps_ost (pv 0) (pe_call G1 hr (by rfl) g1 k1 b1 .nil pass0 (pa_cons (pv 2) pa_nil)))), ?_⟩
    refine ⟨_, rfl, v, d, rfl, hv, fun v' H1 s1 hv' => ⟨_, rfl, a, C, rfl, T, no, .inl ⟨s1 _ _ ha, fun dx nx ne => ?_⟩⟩⟩
    obtain ⟨z1, _, z3⟩ := err_fin (n := "line") (s1 _ _ ha) nx ne hv'
    have z2 : upd (upd H1 dx (exd dx [("line", v')])) a (exo a C (some dx)) a = some (exo a C (some dx)) := upd_same
    have z4 : upd (upd H1 dx (exd dx [("line", v')])) a (exo a C (some dx)) dx = some (exd dx [("line", v')]) := by rw [upd_ne ne]; exact upd_same
    have hu1 := (hu.keep s1).past (s1 _ _ ha) z1
    generalize upd (upd H1 dx (exd dx [("line", v')])) a (exo a C (some dx)) = H2 at z1 z2 z3 z4 hu1 ⊢
    refine ⟨_, rfl, u, e, rfl, hu1, fun u' H3 s3 hu' => ⟨_, rfl, a, C, rfl, T, no2, .inr ⟨dx, _, s3 _ _ z2, s3 _ _ z4, (by show 1 ≤ 900; decide), ?_⟩⟩⟩
    have y2 := s3 _ _ z2
    have y4 := s3 _ _ z4
    have k3 : Kp1 dx H3 (upd H3 dx (exd dx [("word", u'), ("line", v')])) := fun b o nb q => by rw [upd_ne nb]; exact q
    refine kk v' u' _ (fun b o nb q => ?_) ⟨dx, by rw [upd_ne ne.symm]; exact y2, upd_same⟩ ((z3.keep s3).past2 y4 k3) (hu'.past2 y4 k3)
    rw [upd_ne (ne_of_none (s1 _ _ q) nx)]
    exact s3 _ _ (z1 _ _ nb (s1 _ _ q))
abbrev sETooMany : Stmt := inClass (top 25) 0
theorem scTooMany : FnScope ["self", "what", "most"] ["self", "what", "most"] (defScope sETooMany) := ⟨rfl, rfl, rfl, by decide +kernel, rfl, by decide +kernel, by decide +kernel⟩
theorem ok_eTooMany {f C : Addr} {fd : FuncData} (F : Fun K "__init__" "TooMany.__init__" sETooMany f fd) (T : OexC K C) (no : PySem.W.findIn K (.ref C) "what" = some none) (no2 : PySem.W.findIn K (.ref C) "most" = some none) (D : Df P w K mg base 3 "kept" ["value"] spKeptL) : FnOk P w K mg base CX0 4 f fd ["self", "what", "most"] (spErr2 C "what" "most") := by
  obtain ⟨f1, fd1, G1, g1, k1, b1⟩ := D.ex
  refine F.ok scTooMany (fun vs H Q E h => ?_) (fun cdv A outer s H vs Q E hr h => ?_)
  · obtain ⟨a, v, u, d, e, rfl, _⟩ := h
    rfl
  · obtain ⟨a, v, u, d, e, rfl, ha, hv, hu, kk⟩ := h
    refine ⟨_, pss_cons (ps_ost (pv 0) (pe_call G1 hr (by rfl) g1 k1 b1 .nil pass0 (pa_cons (pv 1) pa_nil))) (pss_one (ps_ost (pv 0) (pe_call G1 hr (by rfl) g1 k1 b1 .nil pass0 (pa_cons (pv 2) pa_nil)))), ?_⟩
    refine ⟨_, rfl, v, d, rfl, hv, fun v' H1 s1 hv' => ⟨_, rfl, a, C, rfl, T, no, .inl ⟨s1 _ _ ha, fun dx nx ne => ?_⟩⟩⟩
    obtain ⟨z1, _, z3⟩ := err_fin (n := "what") (s1 _ _ ha) nx ne hv'
    have z2 : upd (upd H1 dx (exd dx [("what", v')])) a (exo a C (some dx)) a = some (exo a C (some dx)) := upd_same
    have z4 : upd (upd H1 dx (exd dx [("what", v')])) a (exo a C (some dx)) dx = some (exd dx [("what", v')]) := by rw [upd_ne ne]; exact upd_same
    have hu1 := (hu.keep s1).past (s1 _ _ ha) z1
    generalize upd (upd H1 dx (exd dx [("what", v')])) a (exo a C (some dx)) = H2 at z1 z2 z3 z4 hu1 ⊢
    refine ⟨_, rfl, u, e, rfl, hu1, fun u' H3 s3 hu' => ⟨_, rfl, a, C, rfl, T, no2, .inr ⟨dx, _, s3 _ _ z2, s3 _ _ z4, (by show 1 ≤ 900; decide), ?_⟩⟩⟩
    have y2 := s3 _ _ z2
    have y4 := s3 _ _ z4
    have k3 : Kp1 dx H3 (upd H3 dx (exd dx [("most", u'), ("what", v')])) := fun b o nb q => by rw [upd_ne nb]; exact q
    refine kk v' u' _ (fun b o nb q => ?_) ⟨dx, by rw [upd_ne ne.symm]; exact y2, upd_same⟩ ((z3.keep s3).past2 y4 k3) (hu'.past2 y4 k3)
    rw [upd_ne (ne_of_none (s1 _ _ q) nx)]
    exact s3 _ _ (z1 _ _ nb (s1 _ _ q))
end
end Ev
namespace Ev
open PySem L2 PySem.Spec PyProof.Rows
def sg (i : Nat) : Str := (["rule", "halves", "number", "test", "key", "nokey", "taken", "overlap", "stuck", "other", "deeds", "pages", "text", "command", "name", "noname", "nothing", "many"] : List Str).getD i ""
def isB (who : Option Nat) (j : Nat) : Bool := who == some j
def clsOf (cl : Nat → Addr) (FE : Addr) : Option Nat → Addr
  | some i => cl i
  | none => FE
/-- the classes of errors among one another -/
structure Cls18 (K : PySem.W.Frag) (cl : Nat → Addr) (FE : Addr) : Prop where
  held : ∀ i, i < 18 → HeldC K (cl i)
  heldF : HeldC K FE
  k1 : ∀ i j, i < 18 → j < 18 → PySem.W.kitOne K (.ref (cl i)) (.ref (cl j)) = some (decide (i = j))
  k2 : ∀ j, j < 18 → PySem.W.kitOne K (.ref FE) (.ref (cl j)) = some false
  k3 : ∀ i, i < 18 → PySem.W.kitOne K (.ref (cl i)) (.ref FE) = some true
  k4 : PySem.W.kitOne K (.ref FE) (.ref FE) = some true
  k5 : ∀ i, i < 18 → PySem.W.kitOne K (.ref (cl i)) (.type "ValueError") = some true
def okW : Option Nat → Prop
  | some i => i < 18
  | none => True
theorem Cls18.h {K : PySem.W.Frag} {cl : Nat → Addr} {FE : Addr} (c : Cls18 K cl FE) {who : Option Nat} (w : okW who) : HeldC K (clsOf cl FE who) := by
  cases who with
  | some i => exact c.held i w
  | none => exact c.heldF
theorem Cls18.is {K : PySem.W.Frag} {cl : Nat → Addr} {FE : Addr} (c : Cls18 K cl FE) {who : Option Nat} (w : okW who) {j : Nat} (h : j < 18) : PySem.W.kitOne K (.ref (clsOf cl FE who)) (.ref (cl j)) = some (isB who j) := by
  cases who with
  | some i =>
    rw [show isB (some i) j = decide (i = j) by unfold isB; by_cases e : i = j <;> simp [e]]
    exact c.k1 i j w h
  | none => exact c.k2 j h
theorem Cls18.f {K : PySem.W.Frag} {cl : Nat → Addr} {FE : Addr} (c : Cls18 K cl FE) {who : Option Nat} (w : okW who) : PySem.W.kitOne K (.ref (clsOf cl FE who)) (.ref FE) = some true := by
  cases who with
  | some i => exact c.k3 i w
  | none => exact c.k4
def fl (who : Option Nat) (i : Nat) : List Str := match who with
  | some j => if j < i then [sg j] else []
  | none => []
theorem fl_step (who : Option Nat) (i : Nat) : fl who (i + 1) = fl who i ++ (if isB who i = true then [sg i] else []) := by
  unfold fl isB
  cases who with
  | none => simp
  | some j =>
    by_cases h1 : j < i
    · have : ¬ (j = i) := by omega
      simp [h1, this]; omega
    · by_cases h2 : j = i
      · subst h2; simp
      · have : ¬ j < i + 1 := by omega
        simp [h1, h2, this]
theorem fl_len (who : Option Nat) (i : Nat) : (fl who i).length ≤ 1 := by
  unfold fl
  cases who with
  | none => simp
  | some j => by_cases h : j < i <;> simp [h]
/-- the pairs of sign and truth -/
def Fnd (who : Option Nat) (H : Hp) (l : Addr) (n : Nat) : Prop := ∃ ts : List Addr, H l = some (.lst (ts.map V.ref)) ∧ ts.length = n ∧ ∀ j t, ts[j]? = some t → H t = some (.tup [.str (sg j), .bl (isB who j)])
theorem Fnd.two {who : Option Nat} {H H' : Hp} {l l' t u : Addr} {n : Nat} (h : Fnd who H l n) (k : Same H H') {xs : List V} (el : H' l' = some (.lst (xs ++ [.ref t, .ref u]))) (ex : H l = some (.lst xs)) (et : H' t = some (.tup [.str (sg n), .bl (isB who n)])) (eu : H' u = some (.tup [.str (sg (n + 1)), .bl (isB who (n + 1))])) : Fnd who H' l' (n + 2) := by
  obtain ⟨ts, e, en, f⟩ := h
  rw [e] at ex
  cases ex
  refine ⟨ts ++ [t, u], by rw [el, List.map_append]; rfl, by rw [List.length_append, en]; rfl, fun j z hz => ?_⟩
  rw [List.getElem?_append] at hz
  by_cases c : j < ts.length
  · rw [if_pos c] at hz
    exact k _ _ (f j z hz)
  · rw [if_neg c] at hz
    have : j - ts.length = 0 ∨ j - ts.length = 1 ∨ 2 ≤ j - ts.length := by omega
    rcases this with q | q | q
    · rw [q] at hz
      have hz : t = z := Option.some.inj hz
      rw [← hz, show j = n by omega]; exact et
    · rw [q] at hz
      have hz : u = z := Option.some.inj hz
      rw [← hz, show j = n + 1 by omega]; exact eu
    · rw [List.getElem?_eq_none (by show 2 ≤ _; exact q)] at hz
      cases hz
theorem Fnd.keep {who : Option Nat} {H H' : Hp} {l n : Nat} (h : Fnd who H l n) (k : Same H H') : Fnd who H' l n := by
  obtain ⟨ts, e, en, f⟩ := h
  exact ⟨ts, k _ _ e, en, fun j t ht => k _ _ (f j t ht)⟩
theorem cat_two {who : Option Nat} {H H' : Hp} {l m t u : Addr} {n : Nat} {Q : VK} (h : Fnd who H l n) (hn : n ≤ 16) (k : Same H H') (em : H' m = some (.lst [.ref t, .ref u])) (et : H' t = some (.tup [.str (sg n), .bl (isB who n)])) (eu : H' u = some (.tup [.str (sg (n + 1)), .bl (isB who (n + 1))]))
    (kk : ∀ (l' : Addr) (G : Hp), Same H' G → Fnd who G l' (n + 2) → Q (.ref l') G) : rCat (.ref l) (.ref m) H' Q := by
  obtain ⟨ts, e, en, f⟩ := id h
  have hs : (ts.map V.ref).length + [V.ref t, V.ref u].length ≤ sizeLine := by
    rw [List.length_map, en, sizeLine_eq]
    show n + 2 ≤ _
    omega
  refine ⟨l, m, _, _, rfl, rfl, k _ _ e, em, hs, fun p np => ?_⟩
  have s := same_new (o := .lst (ts.map V.ref ++ [V.ref t, V.ref u])) np
  exact kk p _ s (h.two (k.trans s) upd_same e (s _ _ et) (s _ _ eu))
def tTwo (cl : Nat → Addr) (FE : Addr) (i : Nat) : TE := fun σ H Q => ∃ (a : Addr) (who : Option Nat) (o : Option (List (Str × V))), σ[0]? = some (some (.ref a)) ∧ okW who ∧ ErrAt H a (clsOf cl FE who) o ∧
  ∀ (l t u : Addr) (H' : Hp), Same H H' → H' l = some (.lst [.ref t, .ref u]) → H' t = some (.tup [.str (sg i), .bl (isB who i)]) → H' u = some (.tup [.str (sg (i + 1)), .bl (isB who (i + 1))]) → Q (.ref l) H'
theorem two_ok {K : PySem.W.Frag} {cl : Nat → Addr} {FE : Addr} (c : Cls18 K cl FE) {i : Nat} (hi : i ≤ 16) (σ : L2.St) (H : Hp) (Q : VK) (h : tTwo cl FE i σ H Q) :
    tLst (tCons (tTup (tCons (tC (.str (sg i))) (tCons (tCB (rIsErr K) (tCons (tVar 0) (tCons (tC (.ref (cl i))) tNil))) tNil)))
      (tCons (tTup (tCons (tC (.str (sg (i + 1)))) (tCons (tCB (rIsErr K) (tCons (tVar 0) (tCons (tC (.ref (cl (i + 1)))) tNil))) tNil))) tNil)) σ H Q := by
  obtain ⟨a, who, o, ha, ok, ea, k⟩ := h
  refine ⟨_, ha, a, _, o, _, _, isB who i, rfl, ea, c.h ok, .own _, c.is ok (by omega), (by show 2 ≤ sizeLine; decide), fun t nt => ?_⟩
  have s1 := same_new (o := .tup [.str (sg i), .bl (isB who i)]) nt
  refine ⟨_, ha, a, _, o, _, _, isB who (i + 1), rfl, ea.keep s1, c.h ok, .own _, c.is ok (by omega), (by show 2 ≤ sizeLine; decide), fun u nu => ?_⟩
  have s2 := same_new (o := .tup [.str (sg (i + 1)), .bl (isB who (i + 1))]) nu
  refine ⟨(by show 2 ≤ sizeLine; decide), fun l nl => ?_⟩
  have s3 := same_new (o := .lst [V.ref t, V.ref u]) nl
  exact k l t u _ (s1.trans (s2.trans s3)) upd_same (s3 _ _ (s2 _ _ upd_same)) (s3 _ _ upd_same)
theorem pe_imp {X : Cx} {e : Expr} {t t' : TE} (h : PE X e t) (k : ∀ σ H Q, t' σ H Q → t σ H Q) : PE X e t' := ⟨fun pins s σ H Q I q => h.run pins s σ H Q I (k σ H Q q)⟩
def spSigns (cl : Nat → Addr) (FE : Addr) : Sp := fun vs H Q _ => ∃ (a : Addr) (who : Option Nat) (o : Option (List (Str × V))), vs = [.ref a] ∧ okW who ∧ ErrAt H a (clsOf cl FE who) o ∧ ∀ (l : Addr) (H' : Hp), Same H H' → H' l = some (.lst ((fl who 18).map V.str)) → Q (.ref l) H'
section
variable {P : Program} {w : World} {K : PySem.W.Frag} {mg : Str → Option Value} {base : Heap}
theorem scSigns : FnScope ["_law_error", "_law_found", "_law_sign", "_law_is_so"] ["_law_error"] (defScope sSigns) := ⟨rfl, rfl, rfl, by decide +kernel, rfl, by decide +kernel, by decide +kernel⟩
structure Names18 (mg : Str → Option Value) (cl : Nat → Addr) (FE : Addr) : Prop where
  n0 : mg "BadRule" = some (.ref (cl 0))
  n1 : mg "NoHalves" = some (.ref (cl 1))
  n2 : mg "BadNumber" = some (.ref (cl 2))
  n3 : mg "BadTest" = some (.ref (cl 3))
  n4 : mg "BadKey" = some (.ref (cl 4))
  n5 : mg "NoKey" = some (.ref (cl 5))
  n6 : mg "Taken" = some (.ref (cl 6))
  n7 : mg "Overlap" = some (.ref (cl 7))
  n8 : mg "Stuck" = some (.ref (cl 8))
  n9 : mg "BadOther" = some (.ref (cl 9))
  n10 : mg "BadDeeds" = some (.ref (cl 10))
  n11 : mg "BadPages" = some (.ref (cl 11))
  n12 : mg "BadText" = some (.ref (cl 12))
  n13 : mg "BadCommand" = some (.ref (cl 13))
  n14 : mg "BadName" = some (.ref (cl 14))
  n15 : mg "NoName" = some (.ref (cl 15))
  n16 : mg "Nothing" = some (.ref (cl 16))
  n17 : mg "TooMany" = some (.ref (cl 17))
  nF : mg "FairError" = some (.ref FE)
theorem ok_signs {f FE : Addr} {cl : Nat → Addr} {fd : FuncData} (F : Fun K "_law_signs" "_law_signs" sSigns f fd) (T : Blt mg) (N : Names18 mg cl FE) (c : Cls18 K cl FE) : FnOk P w K mg base CX0 1 f fd ["_law_error"] (spSigns cl FE) := by
  refine F.ok scSigns (fun vs H Q E h => ?_) (fun cdv A outer s H vs Q E hr h => ?_)
  · obtain ⟨a, who, o, rfl, _⟩ := h
    rfl
  · obtain ⟨a, who, o, rfl, ok, ea, kk⟩ := h
    have hh := c.h ok
    refine ⟨_, pss_cons (ps_set (i := 1) scSigns.nd rfl (.inl rfl) (pe_imp (t' := tTwo cl FE 0) (pe_lst (pa_cons (pe_tup (pa_cons pe_str (pa_cons (pe_callB call_isErr (by rfl) T.isi (by decide +kernel) (pa_cons (pv 0) (pa_cons (pe_glob (v := .ref (cl 0)) rfl N.n0 rfl) pa_nil))) pa_nil))) (pa_cons (pe_tup (pa_cons pe_str (pa_cons (pe_callB call_isErr (by rfl) T.isi (by decide +kernel) (pa_cons (pv 0) (pa_cons (pe_glob (v := .ref (cl 1)) rfl N.n1 rfl) pa_nil))) pa_nil))) pa_nil))) (two_ok c (i := 0) (by decide))))
      (pss_cons (ps_set (i := 1) scSigns.nd rfl (.inl rfl) (pe_op op_cat (pv 1) (pe_imp (t' := tTwo cl FE 2) (pe_lst (pa_cons (pe_tup (pa_cons pe_str (pa_cons (pe_callB call_isErr (by rfl) T.isi (by decide +kernel) (pa_cons (pv 0) (pa_cons (pe_glob (v := .ref (cl 2)) rfl N.n2 rfl) pa_nil))) pa_nil))) (pa_cons (pe_tup (pa_cons pe_str (pa_cons (pe_callB call_isErr (by rfl) T.isi (by decide +kernel) (pa_cons (pv 0) (pa_cons (pe_glob (v := .ref (cl 3)) rfl N.n3 rfl) pa_nil))) pa_nil))) pa_nil))) (two_ok c (i := 2) (by decide)))))
      (pss_cons (ps_set (i := 1) scSigns.nd rfl (.inl rfl) (pe_op op_cat (pv 1) (pe_imp (t' := tTwo cl FE 4) (pe_lst (pa_cons (pe_tup (pa_cons pe_str (pa_cons (pe_callB call_isErr (by rfl) T.isi (by decide +kernel) (pa_cons (pv 0) (pa_cons (pe_glob (v := .ref (cl 4)) rfl N.n4 rfl) pa_nil))) pa_nil))) (pa_cons (pe_tup (pa_cons pe_str (pa_cons (pe_callB call_isErr (by rfl) T.isi (by decide +kernel) (pa_cons (pv 0) (pa_cons (pe_glob (v := .ref (cl 5)) rfl N.n5 rfl) pa_nil))) pa_nil))) pa_nil))) (two_ok c (i := 4) (by decide)))))
      (pss_cons (ps_set (i := 1) scSigns.nd rfl (.inl rfl) (pe_op op_cat (pv 1) (pe_imp (t' := tTwo cl FE 6) (pe_lst (pa_cons (pe_tup (pa_cons pe_str (pa_cons (pe_callB call_isErr (by rfl) T.isi (by decide +kernel) (pa_cons (pv 0) (pa_cons (pe_glob (v := .ref (cl 6)) rfl N.n6 rfl) pa_nil))) pa_nil))) (pa_cons (pe_tup (pa_cons pe_str (pa_cons (pe_callB call_isErr (by rfl) T.isi (by decide +kernel) (pa_cons (pv 0) (pa_cons (pe_glob (v := .ref (cl 7)) rfl N.n7 rfl) pa_nil))) pa_nil))) pa_nil))) (two_ok c (i := 6) (by decide)))))
      (pss_cons (ps_set (i := 1) scSigns.nd rfl (.inl rfl) (pe_op op_cat (pv 1) (pe_imp (t' := tTwo cl FE 8) (pe_lst (pa_cons (pe_tup (pa_cons pe_str (pa_cons (pe_callB call_isErr (by rfl) T.isi (by decide +kernel) (pa_cons (pv 0) (pa_cons (pe_glob (v := .ref (cl 8)) rfl N.n8 rfl) pa_nil))) pa_nil))) (pa_cons (pe_tup (pa_cons pe_str (pa_cons (pe_callB call_isErr (by rfl) T.isi (by decide +kernel) (pa_cons (pv 0) (pa_cons (pe_glob (v := .ref (cl 9)) rfl N.n9 rfl) pa_nil))) pa_nil))) pa_nil))) (two_ok c (i := 8) (by decide)))))
      (pss_cons (ps_set (i := 1) scSigns.nd rfl (.inl rfl) (pe_op op_cat (pv 1) (pe_imp (t' := tTwo cl FE 10) (pe_lst (pa_cons (pe_tup (pa_cons pe_str (pa_cons (pe_callB call_isErr (by rfl) T.isi (by decide +kernel) (pa_cons (pv 0) (pa_cons (pe_glob (v := .ref (cl 10)) rfl N.n10 rfl) pa_nil))) pa_nil))) (pa_cons (pe_tup (pa_cons pe_str (pa_cons (pe_callB call_isErr (by rfl) T.isi (by decide +kernel) (pa_cons (pv 0) (pa_cons (pe_glob (v := .ref (cl 11)) rfl N.n11 rfl) pa_nil))) pa_nil))) pa_nil))) (two_ok c (i := 10) (by decide)))))
      (pss_cons (ps_set (i := 1) scSigns.nd rfl (.inl rfl) (pe_op op_cat (pv 1) (pe_imp (t' := tTwo cl FE 12) (pe_lst (pa_cons (pe_tup (pa_cons pe_str (pa_cons (pe_callB call_isErr (by rfl) T.isi (by decide +kernel) (pa_cons (pv 0) (pa_cons (pe_glob (v := .ref (cl 12)) rfl N.n12 rfl) pa_nil))) pa_nil))) (pa_cons (pe_tup (pa_cons pe_str (pa_cons (pe_callB call_isErr (by rfl) T.isi (by decide +kernel) (pa_cons (pv 0) (pa_cons (pe_glob (v := .ref (cl 13)) rfl N.n13 rfl) pa_nil))) pa_nil))) pa_nil))) (two_ok c (i := 12) (by decide)))))
      (pss_cons (ps_set (i := 1) scSigns.nd rfl (.inl rfl) (pe_op op_cat (pv 1) (pe_imp (t' := tTwo cl FE 14) (pe_lst (pa_cons (pe_tup (pa_cons pe_str (pa_cons (pe_callB call_isErr (by rfl) T.isi (by decide +kernel) (pa_cons (pv 0) (pa_cons (pe_glob (v := .ref (cl 14)) rfl N.n14 rfl) pa_nil))) pa_nil))) (pa_cons (pe_tup (pa_cons pe_str (pa_cons (pe_callB call_isErr (by rfl) T.isi (by decide +kernel) (pa_cons (pv 0) (pa_cons (pe_glob (v := .ref (cl 15)) rfl N.n15 rfl) pa_nil))) pa_nil))) pa_nil))) (two_ok c (i := 14) (by decide)))))
      (pss_cons (ps_set (i := 1) scSigns.nd rfl (.inl rfl) (pe_op op_cat (pv 1) (pe_imp (t' := tTwo cl FE 16) (pe_lst (pa_cons (pe_tup (pa_cons pe_str (pa_cons (pe_callB call_isErr (by rfl) T.isi (by decide +kernel) (pa_cons (pv 0) (pa_cons (pe_glob (v := .ref (cl 16)) rfl N.n16 rfl) pa_nil))) pa_nil))) (pa_cons (pe_tup (pa_cons pe_str (pa_cons (pe_callB call_isErr (by rfl) T.isi (by decide +kernel) (pa_cons (pv 0) (pa_cons (pe_glob (v := .ref (cl 17)) rfl N.n17 rfl) pa_nil))) pa_nil))) pa_nil))) (two_ok c (i := 16) (by decide)))))
      (pss_one (ps_ret (pe_ifExp (pt_val (pe_callB call_isErr (by rfl) T.isi (by decide +kernel) (pa_cons (pv 0) (pa_cons (pe_glob (v := .ref FE) rfl N.nF rfl) pa_nil))))
        (pe_lc (own := [("_law_sign", 2), ("_law_is_so", 3)]) (g := gTup K 2 (gCons (gName 2) (gCons (gName 3) gNil))) (by rfl) scSigns.nd (pi_list (pv 1)) (blkOk_by (own := [("_law_sign", 2), ("_law_is_so", 3)]) (N := ["_law_error", "_law_found", "_law_sign", "_law_is_so"]) (sc := defScope sSigns) (by decide +kernel))
          (fun _ _ _ _ _ => pg_tup (by rfl) (pgs_cons (pg_name (i := 2) scSigns.nd rfl (.inl rfl)) (pgs_cons (pg_name (i := 3) scSigns.nd rfl (.inl rfl)) pgs_nil))) (fun _ _ _ _ _ => pts_one (pt_val (pv 3))) (fun _ _ _ _ _ => pv 2)) pe_non))))))))))), ?_⟩
    refine ⟨a, who, o, rfl, ok, ea, fun l0 t u H0 s0 el et eu => ?_⟩
    have f0 : Fnd who H0 l0 2 := ⟨[t, u], el, rfl, fun j z hz => by
      match j, hz with
      | 0, hz => rw [← Option.some.inj hz]; exact et
      | 1, hz => rw [← Option.some.inj hz]; exact eu
      | n + 2, hz => cases hz⟩
    have ea0 := ea.keep s0
    clear el et eu ea
    refine ⟨_, rfl, a, who, o, rfl, ok, ea0, fun m t u H' s el et eu => cat_two f0 (by decide) s el et eu fun l1 H1 s' f1 => ?_⟩
    have ea1 := (ea0.keep s).keep s'
    have s1 := s0.trans (s.trans s')
    clear el et eu ea0 f0 s0 s s'
    refine ⟨_, rfl, a, who, o, rfl, ok, ea1, fun m t u H' s el et eu => cat_two f1 (by decide) s el et eu fun l2 H2 s' f2 => ?_⟩
    have ea2 := (ea1.keep s).keep s'
    have s2 := s1.trans (s.trans s')
    clear el et eu ea1 f1 s1 s s'
    refine ⟨_, rfl, a, who, o, rfl, ok, ea2, fun m t u H' s el et eu => cat_two f2 (by decide) s el et eu fun l3 H3 s' f3 => ?_⟩
    have ea3 := (ea2.keep s).keep s'
    have s3 := s2.trans (s.trans s')
    clear el et eu ea2 f2 s2 s s'
    refine ⟨_, rfl, a, who, o, rfl, ok, ea3, fun m t u H' s el et eu => cat_two f3 (by decide) s el et eu fun l4 H4 s' f4 => ?_⟩
    have ea4 := (ea3.keep s).keep s'
    have s4 := s3.trans (s.trans s')
    clear el et eu ea3 f3 s3 s s'
    refine ⟨_, rfl, a, who, o, rfl, ok, ea4, fun m t u H' s el et eu => cat_two f4 (by decide) s el et eu fun l5 H5 s' f5 => ?_⟩
    have ea5 := (ea4.keep s).keep s'
    have s5 := s4.trans (s.trans s')
    clear el et eu ea4 f4 s4 s s'
    refine ⟨_, rfl, a, who, o, rfl, ok, ea5, fun m t u H' s el et eu => cat_two f5 (by decide) s el et eu fun l6 H6 s' f6 => ?_⟩
    have ea6 := (ea5.keep s).keep s'
    have s6 := s5.trans (s.trans s')
    clear el et eu ea5 f5 s5 s s'
    refine ⟨_, rfl, a, who, o, rfl, ok, ea6, fun m t u H' s el et eu => cat_two f6 (by decide) s el et eu fun l7 H7 s' f7 => ?_⟩
    have ea7 := (ea6.keep s).keep s'
    have s7 := s6.trans (s.trans s')
    clear el et eu ea6 f6 s6 s s'
    refine ⟨_, rfl, a, who, o, rfl, ok, ea7, fun m t u H' s el et eu => cat_two f7 (by decide) s el et eu fun l8 H8 s' f8 => ?_⟩
    have ea8 := (ea7.keep s).keep s'
    have s8 := s7.trans (s.trans s')
    clear el et eu ea7 f7 s7 s s'
    refine ⟨_, rfl, a, _, o, _, _, true, rfl, ea8, hh, .own _, c.f ok, true, rfl, iteT ?_⟩
    obtain ⟨ts, e, en, f⟩ := f8
    refine ⟨_, rfl, l8, rfl, ⟨_, SqL.of e⟩, fun D nD => ?_⟩
    refine lc_list (K := K) (a := l8) (xs := ts.map V.ref) (fun i H' => H' D = some (.lst ((fl who i).map V.str)) ∧ But D H8 H') ⟨?_, But.upd_at⟩ (fun i H' _ q => SqL.of (q.2 _ _ (ne_of_none e nD) e)) (fun i y H' hi ⟨e1, e2⟩ => ?_) (fun H' ⟨e1, e2⟩ => ?_)
    · have : fl who 0 = [] := by unfold fl; cases who <;> simp
      rw [this]; exact upd_same
    · rw [List.getElem?_map] at hi
      obtain ⟨t, ht, rfl⟩ := Option.map_eq_some_iff.mp hi
      have h1 := f i t ht
      have h2 := e2 _ _ (ne_of_none h1 nD) h1
      refine ⟨t, _, rfl, SqT.of h2, rfl, _, _, rfl, _, _, rfl, rfl, rfl, _, rfl, isB who i, rfl, ?_⟩
      cases b : isB who i with
      | true =>
        refine iteT ⟨_, rfl, _, e1, ?_, ?_, ?_⟩
        · rw [List.length_map]
          exact Nat.lt_of_le_of_lt (fl_len _ _) (by rw [sizeLine_eq]; decide)
        · rw [upd_same, fl_step, b, if_pos rfl, List.map_append]; rfl
        · exact e2.trans But.upd_at
      | false =>
        refine iteF ⟨?_, e2⟩
        rw [fl_step, b, if_neg (by decide), List.append_nil]; exact e1
    · rw [List.length_map, en] at e1
      exact kk D H' (fun b o z => e2 b o (ne_of_none (s8 _ _ z) nD) (s8 _ _ z)) e1
end
end Ev
namespace Ev
open PySem L2 PySem.Spec PyProof.Rows
/-- a class of errors with one field -/
structure EC (P : Program) (w : World) (K : PySem.W.Frag) (mg : Str → Option Value) (base : Heap) (x n : Str) (C : Addr) : Prop where
  cl : OexC K C
  g : mg x = some (.ref C)
  no : PySem.W.findIn K (.ref C) n = some none
  ex : ∃ (f : Addr) (fd : FuncData) (gg : List Value → List Value → List Value), PySem.W.findIn K (.ref C) "__init__" = some (some (.ref f)) ∧ PySem.W.typeIn K (.ref f) = some (.type "function") ∧ FnOk P w K mg base CX0 4 f fd ["self", n] (spErrL C n) ∧ Binds K fd ["self", n] [] ∧
    KBn K fd ["self", n] 1 [n] gg (fun vs zs => vs ++ zs)
theorem mk_err {H : Hp} {a C : Addr} {v : V} {d : PyData} {n : Str} {R : VK} {E : XK} (na : H a = none) (hv : LV H v d) (k : ∀ (v' : V) (H' : Hp), Same H H' → ErrAt H' a C (some [(n, v')]) → LV H' v' d → R .non H') : spErrL C n [.ref a, v] (upd H a (exo a C none)) R E := by
  refine ⟨a, v, d, rfl, upd_same, hv.keep (same_new na), fun v' H' kp ea hv' => k v' H' (fun b o e => ?_) ea hv'⟩
  exact kp _ _ (ne_of_none e na) (same_new na _ _ e)
/-- a triple of an error, its sign and its field -/
def Trip (cl : Nat → Addr) (d : PyData) (H : Hp) (t : Addr) : Prop := ∃ (a : Addr) (j : Nat) (n : Str) (v : V), j < 18 ∧ H t = some (.tup [.ref a, .str (sg j), v]) ∧ ErrAt H a (cl j) (some [(n, v)]) ∧ LV H v d
theorem Trip.keep {cl : Nat → Addr} {d : PyData} {H H' : Hp} {t : Addr} (h : Trip cl d H t) (k : Same H H') : Trip cl d H' t := by
  obtain ⟨a, j, n, v, hj, e, ea, hv⟩ := h
  exact ⟨a, j, n, v, hj, k _ _ e, ea.keep k, hv.keep k⟩
def TripL (cl : Nat → Addr) (d : PyData) (H : Hp) (l : Addr) (n : Nat) : Prop := ∃ ts : List Addr, H l = some (.lst (ts.map V.ref)) ∧ ts.length = n ∧ ∀ t ∈ ts, Trip cl d H t
theorem TripL.keep {cl : Nat → Addr} {d : PyData} {H H' : Hp} {l n : Nat} (h : TripL cl d H l n) (k : Same H H') : TripL cl d H' l n := by
  obtain ⟨ts, e, en, f⟩ := h
  exact ⟨ts, k _ _ e, en, fun t m => (f t m).keep k⟩
theorem cat_trip {cl : Nat → Addr} {d : PyData} {H : Hp} {l m : Addr} {n k : Nat} {Q : VK} (h : TripL cl d H l n) (h2 : TripL cl d H m k) (hn : n + k ≤ 100) (kk : ∀ (p : Addr) (G : Hp), H p = none → Same H G → (∃ ws : List Addr, G p = some (.lst (ws.map V.ref)) ∧ ws.length = n + k ∧ ∀ t ∈ ws, Trip cl d H t) → Q (.ref p) G) : rCat (.ref l) (.ref m) H Q := by
  obtain ⟨ts, e, en, f⟩ := h
  obtain ⟨us, e2, en2, f2⟩ := h2
  refine ⟨l, m, _, _, rfl, rfl, e, e2, ?_, fun p np => ?_⟩
  · rw [List.length_map, List.length_map, sizeLine_eq]; omega
  have s := same_new (o := .lst (ts.map V.ref ++ us.map V.ref)) np
  refine kk p _ np s ⟨ts ++ us, by rw [List.map_append]; exact upd_same, by rw [List.length_append]; omega, fun t ht => ?_⟩
  rcases List.mem_append.mp ht with q | q
  · exact f t q
  · exact f2 t q
theorem app_trip {cl : Nat → Addr} {d : PyData} {H G : Hp} {p t a j : Nat} {n : Str} {v : V} {ws : List Addr} (base : ∀ t ∈ ws, Trip cl d H t) (np : H p = none) (s : Same H G) (nt : G t = none) (gp : G p = some (.lst (ws.map V.ref))) (hj : j < 18) (ea : ErrAt H a (cl j) (some [(n, v)])) (hv : LV H v d) :
    Same H (upd (upd G t (.tup [.ref a, .str (sg j), v])) p (.lst (ws.map V.ref ++ [.ref t]))) ∧ TripL cl d (upd (upd G t (.tup [.ref a, .str (sg j), v])) p (.lst (ws.map V.ref ++ [.ref t]))) p (ws.length + 1) := by
  have tp : t ≠ p := fun z => by rw [z, gp] at nt; cases nt
  have k : Same H (upd (upd G t (.tup [.ref a, .str (sg j), v])) p (.lst (ws.map V.ref ++ [.ref t]))) := fun b o e => by
    rw [upd_ne (ne_of_none e np), upd_ne (ne_of_none (s _ _ e) nt)]; exact s _ _ e
  refine ⟨k, ws ++ [t], by rw [List.map_append]; exact upd_same, by rw [List.length_append]; rfl, fun u m => ?_⟩
  rcases List.mem_append.mp m with q | q
  · exact (base u q).keep k
  · rw [List.mem_singleton.mp q]
    exact ⟨a, j, n, v, hj, by rw [upd_ne tp]; exact upd_same, ea.keep k, hv.keep k⟩
theorem lk1 {n : Str} {v : V} : List.lookup n [(n, v)] = some v := by simp [List.lookup]
section
variable {X : Cx}
theorem pe_ec {x n : Str} {C : Addr} {e : Expr} {te : TE} {p pos : Pos} (h : EC X.prog X.w X.K X.mg X.base x n C) (hr : Room 5 X.A) (hg : Gl X x) (he : PE X e te) (hdb : (x == ("__debug__" : Str)) = false := by decide) (hs : starEach [e] X.env = (false, eval e X.env) :: starEach [] X.env := by rfl) :
    PE X (.Call (.Name x p) [e] [] pos) (tNewX C (spErrL C n) (tCons te tNil)) := by
  obtain ⟨f, fd, gg, i1, i2, F, b, _⟩ := h.ex
  exact pe_newX h.cl i1 i2 F hr b pass0 hg h.g (pa_cons he pa_nil hs) hdb hs (by rfl)
theorem pe_eck {x n : Str} {C : Addr} {e : Expr} {te : TE} {p pos kp : Pos} (h : EC X.prog X.w X.K X.mg X.base x n C) (hr : Room 5 X.A) (hg : Gl X x) (he : PE X e te) (hdb : (x == ("__debug__" : Str)) = false := by decide) :
    PE X (.Call (.Name x p) [] [⟨some n, e, kp⟩] pos) (tNewXK C 1 (spErrL C n) (fun vs zs => vs ++ zs) (tCons te tNil)) := by
  obtain ⟨f, fd, gg, i1, i2, F, _, b⟩ := h.ex
  exact pe_newXK (ks := [n]) h.cl i1 i2 F hr b pass0 hg h.g (pk_cons he pk_nil) (by rfl) (by rfl) hdb (by rfl)
end
def spMakes (cl : Nat → Addr) : Sp := fun vs H Q _ => ∃ (v : V) (d : PyData), vs = [v] ∧ LV H v d ∧ ∀ (l : Addr) (H' : Hp), Same H H' → TripL cl d H' l 15 → Q (.ref l) H'
section
variable {P : Program} {w : World} {K : PySem.W.Frag} {mg : Str → Option Value} {base : Heap}
theorem scPlaced : FnScope ["_law_thing", "_law_one", "_law_two", "_law_three", "_law_four", "_law_found"] ["_law_thing"] (defScope sPlaced) := ⟨rfl, rfl, rfl, by decide +kernel, rfl, by decide +kernel, by decide +kernel⟩
theorem ok_sPlaced {f FE : Addr} {cl : Nat → Addr} {fd : FuncData} (F : Fun K "_law_placed" "_law_placed" sPlaced f fd) (c : Cls18 K cl FE)
    (h0 : EC P w K mg base "BadRule" "part" (cl 0)) (h1 : EC P w K mg base "NoHalves" "weight" (cl 1)) (h2 : EC P w K mg base "BadNumber" "value" (cl 2)) (h3 : EC P w K mg base "BadTest" "at" (cl 3))
    (h4 : EC P w K mg base "BadKey" "value" (cl 4)) (h5 : EC P w K mg base "NoKey" "key" (cl 5)) (h6 : EC P w K mg base "Taken" "key" (cl 6)) (h7 : EC P w K mg base "Overlap" "key" (cl 7))
    (h8 : EC P w K mg base "Stuck" "key" (cl 8)) (h9 : EC P w K mg base "BadOther" "part" (cl 9)) (h10 : EC P w K mg base "BadDeeds" "value" (cl 10)) (h11 : EC P w K mg base "BadPages" "at" (cl 11))
    (h13 : EC P w K mg base "BadCommand" "word" (cl 13)) (h14 : EC P w K mg base "BadName" "value" (cl 14)) (h15 : EC P w K mg base "NoName" "name" (cl 15))
    : FnOk P w K mg base CX0 6 f fd ["_law_thing"] (spMakes cl) := by
  refine F.ok scPlaced (fun vs H Q E h => ?_) (fun cdv A outer s H vs Q E hr h => ?_)
  · obtain ⟨v, d, rfl, _⟩ := h
    rfl
  · obtain ⟨v, d, rfl, hv, kk⟩ := h
    obtain ⟨tb3, hb3, qb3⟩ : ∃ t : TS, PSs (cxOf CX0 P w K mg base ["_law_thing", "_law_one", "_law_two", "_law_three", "_law_four", "_law_found"] "_law_placed" (defScope sPlaced) f cdv A outer s H E).nox ((defBody sPlaced).drop 9) t ∧ ∀ (D : Ends) (G : Hp) (l : Addr) (v1 v2 v3 v4 : Option V), LV G v d → TripL cl d G l 12 →
        (∀ (l' : Addr) (H' : Hp), Same G H' → TripL cl d H' l' 15 → D.rt (.ref l') H') → t D [some v, v1, v2, v3, v4, some (.ref l)] G := by
      refine ⟨_, pss_cons (ps_par3 (i := 1) (j := 2) (l := 3) rfl scPlaced.nd rfl rfl rfl (by decide) (by decide) (by decide) rfl rfl rfl (pa_cons (pe_ec h13 hr (by rfl) (pv 0)) (pa_cons (pe_ec h14 hr (by rfl) (pv 0)) (pa_cons (pe_ec h15 hr (by rfl) (pv 0)) pa_nil))) (by rfl))
        (pss_one (ps_ret (pe_op op_cat (pv 5) (pe_lst (pa_cons (pe_tup (pa_cons (pv 1) (pa_cons pe_str (pa_cons (pe_errFld (pv 1)) pa_nil)))) (pa_cons (pe_tup (pa_cons (pv 2) (pa_cons pe_str (pa_cons (pe_errFld (pv 2)) pa_nil)))) (pa_cons (pe_tup (pa_cons (pv 3) (pa_cons pe_str (pa_cons (pe_errFld (pv 3)) pa_nil)))) pa_nil))))))), ?_⟩
      intro D G l y1 y2 y3 y4 hv tl fin
      refine ⟨_, rfl, (by show 1 ≤ 1000; decide), fun a13 na13 => mk_err na13 hv fun v13 H13 s13 ea13 lv13 => ⟨rfl, ?_⟩⟩
      replace hv := hv.keep s13
      have sm := s13
      replace tl := tl.keep s13
      clear s13 na13
      refine ⟨_, rfl, (by show 1 ≤ 1000; decide), fun a14 na14 => mk_err na14 hv fun v14 H14 s14 ea14 lv14 => ⟨rfl, ?_⟩⟩
      replace hv := hv.keep s14
      replace ea13 := ea13.keep s14
      replace lv13 := lv13.keep s14
      replace sm := sm.trans s14
      replace tl := tl.keep s14
      clear s14 na14
      refine ⟨_, rfl, (by show 1 ≤ 1000; decide), fun a15 na15 => mk_err na15 hv fun v15 H15 s15 ea15 lv15 => ⟨rfl, ?_⟩⟩
      replace hv := hv.keep s15
      replace ea13 := ea13.keep s15
      replace lv13 := lv13.keep s15
      replace ea14 := ea14.keep s15
      replace lv14 := lv14.keep s15
      replace sm := sm.trans s15
      replace tl := tl.keep s15
      clear s15 na15
      refine ⟨_, _, _, rfl, ?_⟩
      refine ⟨_, rfl, ?_⟩
      refine ⟨_, rfl, _, rfl, a13, _, _, v13, rfl, ea13, c.held 13 (by decide), h13.no, lk1, (by show 3 ≤ sizeLine; decide), fun t13 nt13 => ?_⟩
      have sq := same_new (o := .tup [.ref a13, .str (sg 13), v13]) nt13
      replace ea13 := ea13.keep sq
      replace lv13 := lv13.keep sq
      replace ea14 := ea14.keep sq
      replace lv14 := lv14.keep sq
      replace ea15 := ea15.keep sq
      replace lv15 := lv15.keep sq
      have tr13 : Trip cl d _ t13 := ⟨a13, 13, _, v13, by decide, upd_same, ea13, lv13⟩
      replace hv := hv.keep sq
      replace sm := sm.trans sq
      replace tl := tl.keep sq
      clear sq nt13
      refine ⟨_, rfl, _, rfl, a14, _, _, v14, rfl, ea14, c.held 14 (by decide), h14.no, lk1, (by show 3 ≤ sizeLine; decide), fun t14 nt14 => ?_⟩
      have sq := same_new (o := .tup [.ref a14, .str (sg 14), v14]) nt14
      replace ea13 := ea13.keep sq
      replace lv13 := lv13.keep sq
      replace ea14 := ea14.keep sq
      replace lv14 := lv14.keep sq
      replace ea15 := ea15.keep sq
      replace lv15 := lv15.keep sq
      replace tr13 := Trip.keep tr13 sq
      have tr14 : Trip cl d _ t14 := ⟨a14, 14, _, v14, by decide, upd_same, ea14, lv14⟩
      replace hv := hv.keep sq
      replace sm := sm.trans sq
      replace tl := tl.keep sq
      clear sq nt14
      refine ⟨_, rfl, _, rfl, a15, _, _, v15, rfl, ea15, c.held 15 (by decide), h15.no, lk1, (by show 3 ≤ sizeLine; decide), fun t15 nt15 => ?_⟩
      have sq := same_new (o := .tup [.ref a15, .str (sg 15), v15]) nt15
      replace ea13 := ea13.keep sq
      replace lv13 := lv13.keep sq
      replace ea14 := ea14.keep sq
      replace lv14 := lv14.keep sq
      replace ea15 := ea15.keep sq
      replace lv15 := lv15.keep sq
      replace tr13 := Trip.keep tr13 sq
      replace tr14 := Trip.keep tr14 sq
      have tr15 : Trip cl d _ t15 := ⟨a15, 15, _, v15, by decide, upd_same, ea15, lv15⟩
      replace hv := hv.keep sq
      replace sm := sm.trans sq
      replace tl := tl.keep sq
      clear sq nt15
      refine ⟨(by show 3 ≤ sizeLine; decide), fun m nm => ?_⟩
      have sq := same_new (o := .lst [.ref t13, .ref t14, .ref t15]) nm
      have bs : ∀ t ∈ ([t13, t14, t15] : List Addr), Trip cl d _ t := fun t m => by
        simp only [List.mem_cons, List.not_mem_nil, or_false] at m
        rcases m with rfl | rfl | rfl
        · exact tr13
        · exact tr14
        · exact tr15
      have t3 : TripL cl d _ m 3 := ⟨[t13, t14, t15], upd_same, rfl, fun t m => (bs t m).keep sq⟩
      replace hv := hv.keep sq
      replace sm := sm.trans sq
      replace tl := tl.keep sq
      exact cat_trip tl t3 (by decide) fun p G2 np sg2 ⟨ws, e2, en, bs2⟩ => fin p G2 (sm.trans sg2) ⟨ws, e2, en, fun t m => (bs2 t m).keep sg2⟩
    obtain ⟨tb2, hb2, qb2⟩ : ∃ t : TS, PSs (cxOf CX0 P w K mg base ["_law_thing", "_law_one", "_law_two", "_law_three", "_law_four", "_law_found"] "_law_placed" (defScope sPlaced) f cdv A outer s H E).nox ((defBody sPlaced).drop 6) t ∧ ∀ (D : Ends) (G : Hp) (l : Addr) (v1 v2 v3 v4 : Option V), LV G v d → TripL cl d G l 8 →
        (∀ (l' : Addr) (H' : Hp), Same G H' → TripL cl d H' l' 15 → D.rt (.ref l') H') → t D [some v, v1, v2, v3, v4, some (.ref l)] G := by
      refine ⟨_, pss_cons (ps_asg (pe_tup (pa_cons (pe_ec h8 hr (by rfl) (pv 0)) (pa_cons (pe_ec h9 hr (by rfl) (pv 0)) (pa_cons (pe_ec h10 hr (by rfl) (pv 0)) (pa_cons (pe_ec h11 hr (by rfl) (pv 0)) pa_nil))))) (pg_tup (by rfl) (pgs_cons (pg_name (i := 1) scPlaced.nd rfl (.inl rfl)) (pgs_cons (pg_name (i := 2) scPlaced.nd rfl (.inl rfl)) (pgs_cons (pg_name (i := 3) scPlaced.nd rfl (.inl rfl)) (pgs_cons (pg_name (i := 4) scPlaced.nd rfl (.inl rfl)) pgs_nil))))))
        (pss_cons (ps_set (i := 5) scPlaced.nd rfl (.inl rfl) (pe_op op_cat (pv 5) (pe_lst (pa_cons (pe_tup (pa_cons (pv 1) (pa_cons pe_str (pa_cons (pe_errFld (pv 1)) pa_nil)))) (pa_cons (pe_tup (pa_cons (pv 2) (pa_cons pe_str (pa_cons (pe_errFld (pv 2)) pa_nil)))) (pa_cons (pe_tup (pa_cons (pv 3) (pa_cons pe_str (pa_cons (pe_errFld (pv 3)) pa_nil)))) pa_nil))))))
        (pss_cons (ps_expr (pe_bm PySem.F.plainAttrs_list PySem.F.slot_list_append PySem.F.type_list_append mt_append (pv 5) (pa_cons (pe_tup (pa_cons (pv 4) (pa_cons pe_str (pa_cons (pe_errFld (pv 4)) pa_nil)))) pa_nil))) hb3)), ?_⟩
      intro D G l y1 y2 y3 y4 hv tl fin
      refine ⟨_, rfl, (by show 1 ≤ 1000; decide), fun a8 na8 => mk_err na8 hv fun v8 H8 s8 ea8 lv8 => ⟨rfl, ?_⟩⟩
      replace hv := hv.keep s8
      have sm := s8
      replace tl := tl.keep s8
      clear s8 na8
      refine ⟨_, rfl, (by show 1 ≤ 1000; decide), fun a9 na9 => mk_err na9 hv fun v9 H9 s9 ea9 lv9 => ⟨rfl, ?_⟩⟩
      replace hv := hv.keep s9
      replace ea8 := ea8.keep s9
      replace lv8 := lv8.keep s9
      replace sm := sm.trans s9
      replace tl := tl.keep s9
      clear s9 na9
      refine ⟨_, rfl, (by show 1 ≤ 1000; decide), fun a10 na10 => mk_err na10 hv fun v10 H10 s10 ea10 lv10 => ⟨rfl, ?_⟩⟩
      replace hv := hv.keep s10
      replace ea8 := ea8.keep s10
      replace lv8 := lv8.keep s10
      replace ea9 := ea9.keep s10
      replace lv9 := lv9.keep s10
      replace sm := sm.trans s10
      replace tl := tl.keep s10
      clear s10 na10
      refine ⟨_, rfl, (by show 1 ≤ 1000; decide), fun a11 na11 => mk_err na11 hv fun v11 H11 s11 ea11 lv11 => ⟨rfl, ?_⟩⟩
      replace hv := hv.keep s11
      replace ea8 := ea8.keep s11
      replace lv8 := lv8.keep s11
      replace ea9 := ea9.keep s11
      replace lv9 := lv9.keep s11
      replace ea10 := ea10.keep s11
      replace lv10 := lv10.keep s11
      replace sm := sm.trans s11
      replace tl := tl.keep s11
      clear s11 na11
      refine ⟨(by show 4 ≤ sizeLine; decide), fun tq nq => ⟨tq, _, rfl, SqT.of upd_same, rfl, _, _, rfl, _, _, rfl, _, _, rfl, _, _, rfl, rfl, ?_⟩⟩
      have sq := same_new (o := .tup [.ref a8, .ref a9, .ref a10, .ref a11]) nq
      replace hv := hv.keep sq
      replace sm := sm.trans sq
      replace tl := tl.keep sq
      replace ea8 := ea8.keep sq
      replace lv8 := lv8.keep sq
      replace ea9 := ea9.keep sq
      replace lv9 := lv9.keep sq
      replace ea10 := ea10.keep sq
      replace lv10 := lv10.keep sq
      replace ea11 := ea11.keep sq
      replace lv11 := lv11.keep sq
      generalize upd H11 tq (.tup [.ref a8, .ref a9, .ref a10, .ref a11]) = Z at hv sm tl ea8 lv8 ea9 lv9 ea10 lv10 ea11 lv11 ⊢
      clear sq nq
      refine ⟨_, rfl, ?_⟩
      refine ⟨_, rfl, _, rfl, a8, _, _, v8, rfl, ea8, c.held 8 (by decide), h8.no, lk1, (by show 3 ≤ sizeLine; decide), fun t8 nt8 => ?_⟩
      have sq := same_new (o := .tup [.ref a8, .str (sg 8), v8]) nt8
      replace ea8 := ea8.keep sq
      replace lv8 := lv8.keep sq
      replace ea9 := ea9.keep sq
      replace lv9 := lv9.keep sq
      replace ea10 := ea10.keep sq
      replace lv10 := lv10.keep sq
      replace ea11 := ea11.keep sq
      replace lv11 := lv11.keep sq
      have tr8 : Trip cl d _ t8 := ⟨a8, 8, _, v8, by decide, upd_same, ea8, lv8⟩
      replace hv := hv.keep sq
      replace sm := sm.trans sq
      replace tl := tl.keep sq
      clear sq nt8
      refine ⟨_, rfl, _, rfl, a9, _, _, v9, rfl, ea9, c.held 9 (by decide), h9.no, lk1, (by show 3 ≤ sizeLine; decide), fun t9 nt9 => ?_⟩
      have sq := same_new (o := .tup [.ref a9, .str (sg 9), v9]) nt9
      replace ea8 := ea8.keep sq
      replace lv8 := lv8.keep sq
      replace ea9 := ea9.keep sq
      replace lv9 := lv9.keep sq
      replace ea10 := ea10.keep sq
      replace lv10 := lv10.keep sq
      replace ea11 := ea11.keep sq
      replace lv11 := lv11.keep sq
      replace tr8 := Trip.keep tr8 sq
      have tr9 : Trip cl d _ t9 := ⟨a9, 9, _, v9, by decide, upd_same, ea9, lv9⟩
      replace hv := hv.keep sq
      replace sm := sm.trans sq
      replace tl := tl.keep sq
      clear sq nt9
      refine ⟨_, rfl, _, rfl, a10, _, _, v10, rfl, ea10, c.held 10 (by decide), h10.no, lk1, (by show 3 ≤ sizeLine; decide), fun t10 nt10 => ?_⟩
      have sq := same_new (o := .tup [.ref a10, .str (sg 10), v10]) nt10
      replace ea8 := ea8.keep sq
      replace lv8 := lv8.keep sq
      replace ea9 := ea9.keep sq
      replace lv9 := lv9.keep sq
      replace ea10 := ea10.keep sq
      replace lv10 := lv10.keep sq
      replace ea11 := ea11.keep sq
      replace lv11 := lv11.keep sq
      replace tr8 := Trip.keep tr8 sq
      replace tr9 := Trip.keep tr9 sq
      have tr10 : Trip cl d _ t10 := ⟨a10, 10, _, v10, by decide, upd_same, ea10, lv10⟩
      replace hv := hv.keep sq
      replace sm := sm.trans sq
      replace tl := tl.keep sq
      clear sq nt10
      refine ⟨(by show 3 ≤ sizeLine; decide), fun m nm => ?_⟩
      have sq := same_new (o := .lst [.ref t8, .ref t9, .ref t10]) nm
      have bs : ∀ t ∈ ([t8, t9, t10] : List Addr), Trip cl d _ t := fun t m => by
        simp only [List.mem_cons, List.not_mem_nil, or_false] at m
        rcases m with rfl | rfl | rfl
        · exact tr8
        · exact tr9
        · exact tr10
      have t3 : TripL cl d _ m 3 := ⟨[t8, t9, t10], upd_same, rfl, fun t m => (bs t m).keep sq⟩
      replace hv := hv.keep sq
      replace sm := sm.trans sq
      replace tl := tl.keep sq
      replace ea11 := ea11.keep sq
      replace lv11 := lv11.keep sq
      refine cat_trip tl t3 (by decide) fun p G2 np sg2 ⟨ws, e2, en, bs2⟩ => ?_
      refine ⟨_, rfl, .inl ⟨rfl, _, SqL.of e2⟩, _, rfl, _, rfl, a11, _, _, v11, rfl, ea11.keep sg2, c.held 11 (by decide), h11.no, lk1, (by show 3 ≤ sizeLine; decide), fun t11 nt11 => ?_⟩
      obtain ⟨kz, tz⟩ := app_trip (ws := ws) bs2 np sg2 nt11 e2 (by decide : 11 < 18) ea11 lv11
      refine ⟨p, _, _, rfl, rfl, same_new nt11 _ _ e2, (by rw [List.length_map, en]; decide), ?_⟩
      rw [en] at tz
      exact qb3 _ _ p _ _ _ _ (hv.keep kz) tz fun l' H' s' tf => fin l' H' ((sm.trans kz).trans s') tf
    obtain ⟨tb1, hb1, qb1⟩ : ∃ t : TS, PSs (cxOf CX0 P w K mg base ["_law_thing", "_law_one", "_law_two", "_law_three", "_law_four", "_law_found"] "_law_placed" (defScope sPlaced) f cdv A outer s H E).nox ((defBody sPlaced).drop 3) t ∧ ∀ (D : Ends) (G : Hp) (l : Addr) (v1 v2 v3 v4 : Option V), LV G v d → TripL cl d G l 4 →
        (∀ (l' : Addr) (H' : Hp), Same G H' → TripL cl d H' l' 15 → D.rt (.ref l') H') → t D [some v, v1, v2, v3, v4, some (.ref l)] G := by
      refine ⟨_, pss_cons (ps_asg (pe_tup (pa_cons (pe_ec h4 hr (by rfl) (pv 0)) (pa_cons (pe_ec h5 hr (by rfl) (pv 0)) (pa_cons (pe_ec h6 hr (by rfl) (pv 0)) (pa_cons (pe_ec h7 hr (by rfl) (pv 0)) pa_nil))))) (pg_tup (by rfl) (pgs_cons (pg_name (i := 1) scPlaced.nd rfl (.inl rfl)) (pgs_cons (pg_name (i := 2) scPlaced.nd rfl (.inl rfl)) (pgs_cons (pg_name (i := 3) scPlaced.nd rfl (.inl rfl)) (pgs_cons (pg_name (i := 4) scPlaced.nd rfl (.inl rfl)) pgs_nil))))))
        (pss_cons (ps_set (i := 5) scPlaced.nd rfl (.inl rfl) (pe_op op_cat (pv 5) (pe_lst (pa_cons (pe_tup (pa_cons (pv 1) (pa_cons pe_str (pa_cons (pe_errFld (pv 1)) pa_nil)))) (pa_cons (pe_tup (pa_cons (pv 2) (pa_cons pe_str (pa_cons (pe_errFld (pv 2)) pa_nil)))) (pa_cons (pe_tup (pa_cons (pv 3) (pa_cons pe_str (pa_cons (pe_errFld (pv 3)) pa_nil)))) pa_nil))))))
        (pss_cons (ps_expr (pe_bm PySem.F.plainAttrs_list PySem.F.slot_list_append PySem.F.type_list_append mt_append (pv 5) (pa_cons (pe_tup (pa_cons (pv 4) (pa_cons pe_str (pa_cons (pe_errFld (pv 4)) pa_nil)))) pa_nil))) hb2)), ?_⟩
      intro D G l y1 y2 y3 y4 hv tl fin
      refine ⟨_, rfl, (by show 1 ≤ 1000; decide), fun a4 na4 => mk_err na4 hv fun v4 H4 s4 ea4 lv4 => ⟨rfl, ?_⟩⟩
      replace hv := hv.keep s4
      have sm := s4
      replace tl := tl.keep s4
      clear s4 na4
      refine ⟨_, rfl, (by show 1 ≤ 1000; decide), fun a5 na5 => mk_err na5 hv fun v5 H5 s5 ea5 lv5 => ⟨rfl, ?_⟩⟩
      replace hv := hv.keep s5
      replace ea4 := ea4.keep s5
      replace lv4 := lv4.keep s5
      replace sm := sm.trans s5
      replace tl := tl.keep s5
      clear s5 na5
      refine ⟨_, rfl, (by show 1 ≤ 1000; decide), fun a6 na6 => mk_err na6 hv fun v6 H6 s6 ea6 lv6 => ⟨rfl, ?_⟩⟩
      replace hv := hv.keep s6
      replace ea4 := ea4.keep s6
      replace lv4 := lv4.keep s6
      replace ea5 := ea5.keep s6
      replace lv5 := lv5.keep s6
      replace sm := sm.trans s6
      replace tl := tl.keep s6
      clear s6 na6
      refine ⟨_, rfl, (by show 1 ≤ 1000; decide), fun a7 na7 => mk_err na7 hv fun v7 H7 s7 ea7 lv7 => ⟨rfl, ?_⟩⟩
      replace hv := hv.keep s7
      replace ea4 := ea4.keep s7
      replace lv4 := lv4.keep s7
      replace ea5 := ea5.keep s7
      replace lv5 := lv5.keep s7
      replace ea6 := ea6.keep s7
      replace lv6 := lv6.keep s7
      replace sm := sm.trans s7
      replace tl := tl.keep s7
      clear s7 na7
      refine ⟨(by show 4 ≤ sizeLine; decide), fun tq nq => ⟨tq, _, rfl, SqT.of upd_same, rfl, _, _, rfl, _, _, rfl, _, _, rfl, _, _, rfl, rfl, ?_⟩⟩
      have sq := same_new (o := .tup [.ref a4, .ref a5, .ref a6, .ref a7]) nq
      replace hv := hv.keep sq
      replace sm := sm.trans sq
      replace tl := tl.keep sq
      replace ea4 := ea4.keep sq
      replace lv4 := lv4.keep sq
      replace ea5 := ea5.keep sq
      replace lv5 := lv5.keep sq
      replace ea6 := ea6.keep sq
      replace lv6 := lv6.keep sq
      replace ea7 := ea7.keep sq
      replace lv7 := lv7.keep sq
      generalize upd H7 tq (.tup [.ref a4, .ref a5, .ref a6, .ref a7]) = Z at hv sm tl ea4 lv4 ea5 lv5 ea6 lv6 ea7 lv7 ⊢
      clear sq nq
      refine ⟨_, rfl, ?_⟩
      refine ⟨_, rfl, _, rfl, a4, _, _, v4, rfl, ea4, c.held 4 (by decide), h4.no, lk1, (by show 3 ≤ sizeLine; decide), fun t4 nt4 => ?_⟩
      have sq := same_new (o := .tup [.ref a4, .str (sg 4), v4]) nt4
      replace ea4 := ea4.keep sq
      replace lv4 := lv4.keep sq
      replace ea5 := ea5.keep sq
      replace lv5 := lv5.keep sq
      replace ea6 := ea6.keep sq
      replace lv6 := lv6.keep sq
      replace ea7 := ea7.keep sq
      replace lv7 := lv7.keep sq
      have tr4 : Trip cl d _ t4 := ⟨a4, 4, _, v4, by decide, upd_same, ea4, lv4⟩
      replace hv := hv.keep sq
      replace sm := sm.trans sq
      replace tl := tl.keep sq
      clear sq nt4
      refine ⟨_, rfl, _, rfl, a5, _, _, v5, rfl, ea5, c.held 5 (by decide), h5.no, lk1, (by show 3 ≤ sizeLine; decide), fun t5 nt5 => ?_⟩
      have sq := same_new (o := .tup [.ref a5, .str (sg 5), v5]) nt5
      replace ea4 := ea4.keep sq
      replace lv4 := lv4.keep sq
      replace ea5 := ea5.keep sq
      replace lv5 := lv5.keep sq
      replace ea6 := ea6.keep sq
      replace lv6 := lv6.keep sq
      replace ea7 := ea7.keep sq
      replace lv7 := lv7.keep sq
      replace tr4 := Trip.keep tr4 sq
      have tr5 : Trip cl d _ t5 := ⟨a5, 5, _, v5, by decide, upd_same, ea5, lv5⟩
      replace hv := hv.keep sq
      replace sm := sm.trans sq
      replace tl := tl.keep sq
      clear sq nt5
      refine ⟨_, rfl, _, rfl, a6, _, _, v6, rfl, ea6, c.held 6 (by decide), h6.no, lk1, (by show 3 ≤ sizeLine; decide), fun t6 nt6 => ?_⟩
      have sq := same_new (o := .tup [.ref a6, .str (sg 6), v6]) nt6
      replace ea4 := ea4.keep sq
      replace lv4 := lv4.keep sq
      replace ea5 := ea5.keep sq
      replace lv5 := lv5.keep sq
      replace ea6 := ea6.keep sq
      replace lv6 := lv6.keep sq
      replace ea7 := ea7.keep sq
      replace lv7 := lv7.keep sq
      replace tr4 := Trip.keep tr4 sq
      replace tr5 := Trip.keep tr5 sq
      have tr6 : Trip cl d _ t6 := ⟨a6, 6, _, v6, by decide, upd_same, ea6, lv6⟩
      replace hv := hv.keep sq
      replace sm := sm.trans sq
      replace tl := tl.keep sq
      clear sq nt6
      refine ⟨(by show 3 ≤ sizeLine; decide), fun m nm => ?_⟩
      have sq := same_new (o := .lst [.ref t4, .ref t5, .ref t6]) nm
      have bs : ∀ t ∈ ([t4, t5, t6] : List Addr), Trip cl d _ t := fun t m => by
        simp only [List.mem_cons, List.not_mem_nil, or_false] at m
        rcases m with rfl | rfl | rfl
        · exact tr4
        · exact tr5
        · exact tr6
      have t3 : TripL cl d _ m 3 := ⟨[t4, t5, t6], upd_same, rfl, fun t m => (bs t m).keep sq⟩
      replace hv := hv.keep sq
      replace sm := sm.trans sq
      replace tl := tl.keep sq
      replace ea7 := ea7.keep sq
      replace lv7 := lv7.keep sq
      refine cat_trip tl t3 (by decide) fun p G2 np sg2 ⟨ws, e2, en, bs2⟩ => ?_
      refine ⟨_, rfl, .inl ⟨rfl, _, SqL.of e2⟩, _, rfl, _, rfl, a7, _, _, v7, rfl, ea7.keep sg2, c.held 7 (by decide), h7.no, lk1, (by show 3 ≤ sizeLine; decide), fun t7 nt7 => ?_⟩
      obtain ⟨kz, tz⟩ := app_trip (ws := ws) bs2 np sg2 nt7 e2 (by decide : 7 < 18) ea7 lv7
      refine ⟨p, _, _, rfl, rfl, same_new nt7 _ _ e2, (by rw [List.length_map, en]; decide), ?_⟩
      rw [en] at tz
      exact qb2 _ _ p _ _ _ _ (hv.keep kz) tz fun l' H' s' tf => fin l' H' ((sm.trans kz).trans s') tf
    refine ⟨_, pss_cons (ps_asg (pe_tup (pa_cons (pe_ec h0 hr (by rfl) (pv 0)) (pa_cons (pe_ec h1 hr (by rfl) (pv 0)) (pa_cons (pe_ec h2 hr (by rfl) (pv 0)) (pa_cons (pe_ec h3 hr (by rfl) (pv 0)) pa_nil))))) (pg_tup (by rfl) (pgs_cons (pg_name (i := 1) scPlaced.nd rfl (.inl rfl)) (pgs_cons (pg_name (i := 2) scPlaced.nd rfl (.inl rfl)) (pgs_cons (pg_name (i := 3) scPlaced.nd rfl (.inl rfl)) (pgs_cons (pg_name (i := 4) scPlaced.nd rfl (.inl rfl)) pgs_nil))))))
        (pss_cons (ps_set (i := 5) scPlaced.nd rfl (.inl rfl) (pe_lst (pa_cons (pe_tup (pa_cons (pv 1) (pa_cons pe_str (pa_cons (pe_errFld (pv 1)) pa_nil)))) (pa_cons (pe_tup (pa_cons (pv 2) (pa_cons pe_str (pa_cons (pe_errFld (pv 2)) pa_nil)))) (pa_cons (pe_tup (pa_cons (pv 3) (pa_cons pe_str (pa_cons (pe_errFld (pv 3)) pa_nil)))) pa_nil)))))
        (pss_cons (ps_expr (pe_bm PySem.F.plainAttrs_list PySem.F.slot_list_append PySem.F.type_list_append mt_append (pv 5) (pa_cons (pe_tup (pa_cons (pv 4) (pa_cons pe_str (pa_cons (pe_errFld (pv 4)) pa_nil)))) pa_nil))) hb1)), ?_⟩
    refine ⟨_, rfl, (by show 1 ≤ 1000; decide), fun a0 na0 => mk_err na0 hv fun v0 H0 s0 ea0 lv0 => ⟨rfl, ?_⟩⟩
    replace hv := hv.keep s0
    have sm := s0
    clear s0 na0
    refine ⟨_, rfl, (by show 1 ≤ 1000; decide), fun a1 na1 => mk_err na1 hv fun v1 H1 s1 ea1 lv1 => ⟨rfl, ?_⟩⟩
    replace hv := hv.keep s1
    replace ea0 := ea0.keep s1
    replace lv0 := lv0.keep s1
    replace sm := sm.trans s1
    clear s1 na1
    refine ⟨_, rfl, (by show 1 ≤ 1000; decide), fun a2 na2 => mk_err na2 hv fun v2 H2 s2 ea2 lv2 => ⟨rfl, ?_⟩⟩
    replace hv := hv.keep s2
    replace ea0 := ea0.keep s2
    replace lv0 := lv0.keep s2
    replace ea1 := ea1.keep s2
    replace lv1 := lv1.keep s2
    replace sm := sm.trans s2
    clear s2 na2
    refine ⟨_, rfl, (by show 1 ≤ 1000; decide), fun a3 na3 => mk_err na3 hv fun v3 H3 s3 ea3 lv3 => ⟨rfl, ?_⟩⟩
    replace hv := hv.keep s3
    replace ea0 := ea0.keep s3
    replace lv0 := lv0.keep s3
    replace ea1 := ea1.keep s3
    replace lv1 := lv1.keep s3
    replace ea2 := ea2.keep s3
    replace lv2 := lv2.keep s3
    replace sm := sm.trans s3
    clear s3 na3
    refine ⟨(by show 4 ≤ sizeLine; decide), fun tq nq => ⟨tq, _, rfl, SqT.of upd_same, rfl, _, _, rfl, _, _, rfl, _, _, rfl, _, _, rfl, rfl, ?_⟩⟩
    have sq := same_new (o := .tup [.ref a0, .ref a1, .ref a2, .ref a3]) nq
    replace hv := hv.keep sq
    replace sm := sm.trans sq
    replace ea0 := ea0.keep sq
    replace lv0 := lv0.keep sq
    replace ea1 := ea1.keep sq
    replace lv1 := lv1.keep sq
    replace ea2 := ea2.keep sq
    replace lv2 := lv2.keep sq
    replace ea3 := ea3.keep sq
    replace lv3 := lv3.keep sq
    generalize upd H3 tq (.tup [.ref a0, .ref a1, .ref a2, .ref a3]) = Z at hv sm ea0 lv0 ea1 lv1 ea2 lv2 ea3 lv3 ⊢
    clear sq nq
    refine ⟨_, rfl, _, rfl, a0, _, _, v0, rfl, ea0, c.held 0 (by decide), h0.no, lk1, (by show 3 ≤ sizeLine; decide), fun t0 nt0 => ?_⟩
    have sq := same_new (o := .tup [.ref a0, .str (sg 0), v0]) nt0
    replace ea0 := ea0.keep sq
    replace lv0 := lv0.keep sq
    replace ea1 := ea1.keep sq
    replace lv1 := lv1.keep sq
    replace ea2 := ea2.keep sq
    replace lv2 := lv2.keep sq
    replace ea3 := ea3.keep sq
    replace lv3 := lv3.keep sq
    have tr0 : Trip cl d _ t0 := ⟨a0, 0, _, v0, by decide, upd_same, ea0, lv0⟩
    replace hv := hv.keep sq
    replace sm := sm.trans sq
    clear sq nt0
    refine ⟨_, rfl, _, rfl, a1, _, _, v1, rfl, ea1, c.held 1 (by decide), h1.no, lk1, (by show 3 ≤ sizeLine; decide), fun t1 nt1 => ?_⟩
    have sq := same_new (o := .tup [.ref a1, .str (sg 1), v1]) nt1
    replace ea0 := ea0.keep sq
    replace lv0 := lv0.keep sq
    replace ea1 := ea1.keep sq
    replace lv1 := lv1.keep sq
    replace ea2 := ea2.keep sq
    replace lv2 := lv2.keep sq
    replace ea3 := ea3.keep sq
    replace lv3 := lv3.keep sq
    replace tr0 := Trip.keep tr0 sq
    have tr1 : Trip cl d _ t1 := ⟨a1, 1, _, v1, by decide, upd_same, ea1, lv1⟩
    replace hv := hv.keep sq
    replace sm := sm.trans sq
    clear sq nt1
    refine ⟨_, rfl, _, rfl, a2, _, _, v2, rfl, ea2, c.held 2 (by decide), h2.no, lk1, (by show 3 ≤ sizeLine; decide), fun t2 nt2 => ?_⟩
    have sq := same_new (o := .tup [.ref a2, .str (sg 2), v2]) nt2
    replace ea0 := ea0.keep sq
    replace lv0 := lv0.keep sq
    replace ea1 := ea1.keep sq
    replace lv1 := lv1.keep sq
    replace ea2 := ea2.keep sq
    replace lv2 := lv2.keep sq
    replace ea3 := ea3.keep sq
    replace lv3 := lv3.keep sq
    replace tr0 := Trip.keep tr0 sq
    replace tr1 := Trip.keep tr1 sq
    have tr2 : Trip cl d _ t2 := ⟨a2, 2, _, v2, by decide, upd_same, ea2, lv2⟩
    replace hv := hv.keep sq
    replace sm := sm.trans sq
    clear sq nt2
    refine ⟨(by show 3 ≤ sizeLine; decide), fun m nm => ?_⟩
    have sq := same_new (o := .lst [.ref t0, .ref t1, .ref t2]) nm
    have bs : ∀ t ∈ ([t0, t1, t2] : List Addr), Trip cl d _ t := fun t m => by
      simp only [List.mem_cons, List.not_mem_nil, or_false] at m
      rcases m with rfl | rfl | rfl
      · exact tr0
      · exact tr1
      · exact tr2
    refine ⟨_, rfl, .inl ⟨rfl, _, SqL.of upd_same⟩, _, rfl, _, rfl, a3, _, _, v3, rfl, ea3.keep sq, c.held 3 (by decide), h3.no, lk1, (by show 3 ≤ sizeLine; decide), fun t3 nt3 => ?_⟩
    obtain ⟨kz, tz⟩ := app_trip (ws := [t0, t1, t2]) bs nm sq nt3 upd_same (by decide : 3 < 18) ea3 lv3
    refine ⟨m, _, _, rfl, rfl, same_new nt3 _ _ upd_same, (by show 3 < sizeLine; decide), ?_⟩
    exact qb1 _ _ m _ _ _ _ (hv.keep kz) tz fun l' H' s' tf => kk l' H' ((sm.trans kz).trans s') tf
theorem scNamed : FnScope ["_law_thing", "_law_one", "_law_two", "_law_three", "_law_four", "_law_found"] ["_law_thing"] (defScope sNamed) := ⟨rfl, rfl, rfl, by decide +kernel, rfl, by decide +kernel, by decide +kernel⟩
theorem ok_sNamed {f FE : Addr} {cl : Nat → Addr} {fd : FuncData} (F : Fun K "_law_named" "_law_named" sNamed f fd) (c : Cls18 K cl FE)
    (h0 : EC P w K mg base "BadRule" "part" (cl 0)) (h1 : EC P w K mg base "NoHalves" "weight" (cl 1)) (h2 : EC P w K mg base "BadNumber" "value" (cl 2)) (h3 : EC P w K mg base "BadTest" "at" (cl 3))
    (h4 : EC P w K mg base "BadKey" "value" (cl 4)) (h5 : EC P w K mg base "NoKey" "key" (cl 5)) (h6 : EC P w K mg base "Taken" "key" (cl 6)) (h7 : EC P w K mg base "Overlap" "key" (cl 7))
    (h8 : EC P w K mg base "Stuck" "key" (cl 8)) (h9 : EC P w K mg base "BadOther" "part" (cl 9)) (h10 : EC P w K mg base "BadDeeds" "value" (cl 10)) (h11 : EC P w K mg base "BadPages" "at" (cl 11))
    (h13 : EC P w K mg base "BadCommand" "word" (cl 13)) (h14 : EC P w K mg base "BadName" "value" (cl 14)) (h15 : EC P w K mg base "NoName" "name" (cl 15))
    : FnOk P w K mg base CX0 6 f fd ["_law_thing"] (spMakes cl) := by
  refine F.ok scNamed (fun vs H Q E h => ?_) (fun cdv A outer s H vs Q E hr h => ?_)
  · obtain ⟨v, d, rfl, _⟩ := h
    rfl
  · obtain ⟨v, d, rfl, hv, kk⟩ := h
    obtain ⟨tb3, hb3, qb3⟩ : ∃ t : TS, PSs (cxOf CX0 P w K mg base ["_law_thing", "_law_one", "_law_two", "_law_three", "_law_four", "_law_found"] "_law_named" (defScope sNamed) f cdv A outer s H E).nox ((defBody sNamed).drop 9) t ∧ ∀ (D : Ends) (G : Hp) (l : Addr) (v1 v2 v3 v4 : Option V), LV G v d → TripL cl d G l 12 →
        (∀ (l' : Addr) (H' : Hp), Same G H' → TripL cl d H' l' 15 → D.rt (.ref l') H') → t D [some v, v1, v2, v3, v4, some (.ref l)] G := by
      refine ⟨_, pss_cons (ps_par3 (i := 1) (j := 2) (l := 3) rfl scNamed.nd rfl rfl rfl (by decide) (by decide) (by decide) rfl rfl rfl (pa_cons (pe_eck h13 hr (by rfl) (pv 0)) (pa_cons (pe_eck h14 hr (by rfl) (pv 0)) (pa_cons (pe_eck h15 hr (by rfl) (pv 0)) pa_nil))) (by rfl))
        (pss_one (ps_ret (pe_op op_cat (pv 5) (pe_lst (pa_cons (pe_tup (pa_cons (pv 1) (pa_cons pe_str (pa_cons (pe_errFld (pv 1)) pa_nil)))) (pa_cons (pe_tup (pa_cons (pv 2) (pa_cons pe_str (pa_cons (pe_errFld (pv 2)) pa_nil)))) (pa_cons (pe_tup (pa_cons (pv 3) (pa_cons pe_str (pa_cons (pe_errFld (pv 3)) pa_nil)))) pa_nil))))))), ?_⟩
      intro D G l y1 y2 y3 y4 hv tl fin
      refine ⟨_, rfl, rfl, fun a13 na13 => mk_err na13 hv fun v13 H13 s13 ea13 lv13 => ⟨rfl, ?_⟩⟩
      replace hv := hv.keep s13
      have sm := s13
      replace tl := tl.keep s13
      clear s13 na13
      refine ⟨_, rfl, rfl, fun a14 na14 => mk_err na14 hv fun v14 H14 s14 ea14 lv14 => ⟨rfl, ?_⟩⟩
      replace hv := hv.keep s14
      replace ea13 := ea13.keep s14
      replace lv13 := lv13.keep s14
      replace sm := sm.trans s14
      replace tl := tl.keep s14
      clear s14 na14
      refine ⟨_, rfl, rfl, fun a15 na15 => mk_err na15 hv fun v15 H15 s15 ea15 lv15 => ⟨rfl, ?_⟩⟩
      replace hv := hv.keep s15
      replace ea13 := ea13.keep s15
      replace lv13 := lv13.keep s15
      replace ea14 := ea14.keep s15
      replace lv14 := lv14.keep s15
      replace sm := sm.trans s15
      replace tl := tl.keep s15
      clear s15 na15
      refine ⟨_, _, _, rfl, ?_⟩
      refine ⟨_, rfl, ?_⟩
      refine ⟨_, rfl, _, rfl, a13, _, _, v13, rfl, ea13, c.held 13 (by decide), h13.no, lk1, (by show 3 ≤ sizeLine; decide), fun t13 nt13 => ?_⟩
      have sq := same_new (o := .tup [.ref a13, .str (sg 13), v13]) nt13
      replace ea13 := ea13.keep sq
      replace lv13 := lv13.keep sq
      replace ea14 := ea14.keep sq
      replace lv14 := lv14.keep sq
      replace ea15 := ea15.keep sq
      replace lv15 := lv15.keep sq
      have tr13 : Trip cl d _ t13 := ⟨a13, 13, _, v13, by decide, upd_same, ea13, lv13⟩
      replace hv := hv.keep sq
      replace sm := sm.trans sq
      replace tl := tl.keep sq
      clear sq nt13
      refine ⟨_, rfl, _, rfl, a14, _, _, v14, rfl, ea14, c.held 14 (by decide), h14.no, lk1, (by show 3 ≤ sizeLine; decide), fun t14 nt14 => ?_⟩
      have sq := same_new (o := .tup [.ref a14, .str (sg 14), v14]) nt14
      replace ea13 := ea13.keep sq
      replace lv13 := lv13.keep sq
      replace ea14 := ea14.keep sq
      replace lv14 := lv14.keep sq
      replace ea15 := ea15.keep sq
      replace lv15 := lv15.keep sq
      replace tr13 := Trip.keep tr13 sq
      have tr14 : Trip cl d _ t14 := ⟨a14, 14, _, v14, by decide, upd_same, ea14, lv14⟩
      replace hv := hv.keep sq
      replace sm := sm.trans sq
      replace tl := tl.keep sq
      clear sq nt14
      refine ⟨_, rfl, _, rfl, a15, _, _, v15, rfl, ea15, c.held 15 (by decide), h15.no, lk1, (by show 3 ≤ sizeLine; decide), fun t15 nt15 => ?_⟩
      have sq := same_new (o := .tup [.ref a15, .str (sg 15), v15]) nt15
      replace ea13 := ea13.keep sq
      replace lv13 := lv13.keep sq
      replace ea14 := ea14.keep sq
      replace lv14 := lv14.keep sq
      replace ea15 := ea15.keep sq
      replace lv15 := lv15.keep sq
      replace tr13 := Trip.keep tr13 sq
      replace tr14 := Trip.keep tr14 sq
      have tr15 : Trip cl d _ t15 := ⟨a15, 15, _, v15, by decide, upd_same, ea15, lv15⟩
      replace hv := hv.keep sq
      replace sm := sm.trans sq
      replace tl := tl.keep sq
      clear sq nt15
      refine ⟨(by show 3 ≤ sizeLine; decide), fun m nm => ?_⟩
      have sq := same_new (o := .lst [.ref t13, .ref t14, .ref t15]) nm
      have bs : ∀ t ∈ ([t13, t14, t15] : List Addr), Trip cl d _ t := fun t m => by
        simp only [List.mem_cons, List.not_mem_nil, or_false] at m
        rcases m with rfl | rfl | rfl
        · exact tr13
        · exact tr14
        · exact tr15
      have t3 : TripL cl d _ m 3 := ⟨[t13, t14, t15], upd_same, rfl, fun t m => (bs t m).keep sq⟩
      replace hv := hv.keep sq
      replace sm := sm.trans sq
      replace tl := tl.keep sq
      exact cat_trip tl t3 (by decide) fun p G2 np sg2 ⟨ws, e2, en, bs2⟩ => fin p G2 (sm.trans sg2) ⟨ws, e2, en, fun t m => (bs2 t m).keep sg2⟩
    obtain ⟨tb2, hb2, qb2⟩ : ∃ t : TS, PSs (cxOf CX0 P w K mg base ["_law_thing", "_law_one", "_law_two", "_law_three", "_law_four", "_law_found"] "_law_named" (defScope sNamed) f cdv A outer s H E).nox ((defBody sNamed).drop 6) t ∧ ∀ (D : Ends) (G : Hp) (l : Addr) (v1 v2 v3 v4 : Option V), LV G v d → TripL cl d G l 8 →
        (∀ (l' : Addr) (H' : Hp), Same G H' → TripL cl d H' l' 15 → D.rt (.ref l') H') → t D [some v, v1, v2, v3, v4, some (.ref l)] G := by
      refine ⟨_, pss_cons (ps_asg (pe_tup (pa_cons (pe_eck h8 hr (by rfl) (pv 0)) (pa_cons (pe_eck h9 hr (by rfl) (pv 0)) (pa_cons (pe_eck h10 hr (by rfl) (pv 0)) (pa_cons (pe_eck h11 hr (by rfl) (pv 0)) pa_nil))))) (pg_tup (by rfl) (pgs_cons (pg_name (i := 1) scNamed.nd rfl (.inl rfl)) (pgs_cons (pg_name (i := 2) scNamed.nd rfl (.inl rfl)) (pgs_cons (pg_name (i := 3) scNamed.nd rfl (.inl rfl)) (pgs_cons (pg_name (i := 4) scNamed.nd rfl (.inl rfl)) pgs_nil))))))
        (pss_cons (ps_set (i := 5) scNamed.nd rfl (.inl rfl) (pe_op op_cat (pv 5) (pe_lst (pa_cons (pe_tup (pa_cons (pv 1) (pa_cons pe_str (pa_cons (pe_errFld (pv 1)) pa_nil)))) (pa_cons (pe_tup (pa_cons (pv 2) (pa_cons pe_str (pa_cons (pe_errFld (pv 2)) pa_nil)))) (pa_cons (pe_tup (pa_cons (pv 3) (pa_cons pe_str (pa_cons (pe_errFld (pv 3)) pa_nil)))) pa_nil))))))
        (pss_cons (ps_expr (pe_bm PySem.F.plainAttrs_list PySem.F.slot_list_append PySem.F.type_list_append mt_append (pv 5) (pa_cons (pe_tup (pa_cons (pv 4) (pa_cons pe_str (pa_cons (pe_errFld (pv 4)) pa_nil)))) pa_nil))) hb3)), ?_⟩
      intro D G l y1 y2 y3 y4 hv tl fin
      refine ⟨_, rfl, rfl, fun a8 na8 => mk_err na8 hv fun v8 H8 s8 ea8 lv8 => ⟨rfl, ?_⟩⟩
      replace hv := hv.keep s8
      have sm := s8
      replace tl := tl.keep s8
      clear s8 na8
      refine ⟨_, rfl, rfl, fun a9 na9 => mk_err na9 hv fun v9 H9 s9 ea9 lv9 => ⟨rfl, ?_⟩⟩
      replace hv := hv.keep s9
      replace ea8 := ea8.keep s9
      replace lv8 := lv8.keep s9
      replace sm := sm.trans s9
      replace tl := tl.keep s9
      clear s9 na9
      refine ⟨_, rfl, rfl, fun a10 na10 => mk_err na10 hv fun v10 H10 s10 ea10 lv10 => ⟨rfl, ?_⟩⟩
      replace hv := hv.keep s10
      replace ea8 := ea8.keep s10
      replace lv8 := lv8.keep s10
      replace ea9 := ea9.keep s10
      replace lv9 := lv9.keep s10
      replace sm := sm.trans s10
      replace tl := tl.keep s10
      clear s10 na10
      refine ⟨_, rfl, rfl, fun a11 na11 => mk_err na11 hv fun v11 H11 s11 ea11 lv11 => ⟨rfl, ?_⟩⟩
      replace hv := hv.keep s11
      replace ea8 := ea8.keep s11
      replace lv8 := lv8.keep s11
      replace ea9 := ea9.keep s11
      replace lv9 := lv9.keep s11
      replace ea10 := ea10.keep s11
      replace lv10 := lv10.keep s11
      replace sm := sm.trans s11
      replace tl := tl.keep s11
      clear s11 na11
      refine ⟨(by show 4 ≤ sizeLine; decide), fun tq nq => ⟨tq, _, rfl, SqT.of upd_same, rfl, _, _, rfl, _, _, rfl, _, _, rfl, _, _, rfl, rfl, ?_⟩⟩
      have sq := same_new (o := .tup [.ref a8, .ref a9, .ref a10, .ref a11]) nq
      replace hv := hv.keep sq
      replace sm := sm.trans sq
      replace tl := tl.keep sq
      replace ea8 := ea8.keep sq
      replace lv8 := lv8.keep sq
      replace ea9 := ea9.keep sq
      replace lv9 := lv9.keep sq
      replace ea10 := ea10.keep sq
      replace lv10 := lv10.keep sq
      replace ea11 := ea11.keep sq
      replace lv11 := lv11.keep sq
      generalize upd H11 tq (.tup [.ref a8, .ref a9, .ref a10, .ref a11]) = Z at hv sm tl ea8 lv8 ea9 lv9 ea10 lv10 ea11 lv11 ⊢
      clear sq nq
      refine ⟨_, rfl, ?_⟩
      refine ⟨_, rfl, _, rfl, a8, _, _, v8, rfl, ea8, c.held 8 (by decide), h8.no, lk1, (by show 3 ≤ sizeLine; decide), fun t8 nt8 => ?_⟩
      have sq := same_new (o := .tup [.ref a8, .str (sg 8), v8]) nt8
      replace ea8 := ea8.keep sq
      replace lv8 := lv8.keep sq
      replace ea9 := ea9.keep sq
      replace lv9 := lv9.keep sq
      replace ea10 := ea10.keep sq
      replace lv10 := lv10.keep sq
      replace ea11 := ea11.keep sq
      replace lv11 := lv11.keep sq
      have tr8 : Trip cl d _ t8 := ⟨a8, 8, _, v8, by decide, upd_same, ea8, lv8⟩
      replace hv := hv.keep sq
      replace sm := sm.trans sq
      replace tl := tl.keep sq
      clear sq nt8
      refine ⟨_, rfl, _, rfl, a9, _, _, v9, rfl, ea9, c.held 9 (by decide), h9.no, lk1, (by show 3 ≤ sizeLine; decide), fun t9 nt9 => ?_⟩
      have sq := same_new (o := .tup [.ref a9, .str (sg 9), v9]) nt9
      replace ea8 := ea8.keep sq
      replace lv8 := lv8.keep sq
      replace ea9 := ea9.keep sq
      replace lv9 := lv9.keep sq
      replace ea10 := ea10.keep sq
      replace lv10 := lv10.keep sq
      replace ea11 := ea11.keep sq
      replace lv11 := lv11.keep sq
      replace tr8 := Trip.keep tr8 sq
      have tr9 : Trip cl d _ t9 := ⟨a9, 9, _, v9, by decide, upd_same, ea9, lv9⟩
      replace hv := hv.keep sq
      replace sm := sm.trans sq
      replace tl := tl.keep sq
      clear sq nt9
      refine ⟨_, rfl, _, rfl, a10, _, _, v10, rfl, ea10, c.held 10 (by decide), h10.no, lk1, (by show 3 ≤ sizeLine; decide), fun t10 nt10 => ?_⟩
      have sq := same_new (o := .tup [.ref a10, .str (sg 10), v10]) nt10
      replace ea8 := ea8.keep sq
      replace lv8 := lv8.keep sq
      replace ea9 := ea9.keep sq
      replace lv9 := lv9.keep sq
      replace ea10 := ea10.keep sq
      replace lv10 := lv10.keep sq
      replace ea11 := ea11.keep sq
      replace lv11 := lv11.keep sq
      replace tr8 := Trip.keep tr8 sq
      replace tr9 := Trip.keep tr9 sq
      have tr10 : Trip cl d _ t10 := ⟨a10, 10, _, v10, by decide, upd_same, ea10, lv10⟩
      replace hv := hv.keep sq
      replace sm := sm.trans sq
      replace tl := tl.keep sq
      clear sq nt10
      refine ⟨(by show 3 ≤ sizeLine; decide), fun m nm => ?_⟩
      have sq := same_new (o := .lst [.ref t8, .ref t9, .ref t10]) nm
      have bs : ∀ t ∈ ([t8, t9, t10] : List Addr), Trip cl d _ t := fun t m => by
        simp only [List.mem_cons, List.not_mem_nil, or_false] at m
        rcases m with rfl | rfl | rfl
        · exact tr8
        · exact tr9
        · exact tr10
      have t3 : TripL cl d _ m 3 := ⟨[t8, t9, t10], upd_same, rfl, fun t m => (bs t m).keep sq⟩
      replace hv := hv.keep sq
      replace sm := sm.trans sq
      replace tl := tl.keep sq
      replace ea11 := ea11.keep sq
      replace lv11 := lv11.keep sq
      refine cat_trip tl t3 (by decide) fun p G2 np sg2 ⟨ws, e2, en, bs2⟩ => ?_
      refine ⟨_, rfl, .inl ⟨rfl, _, SqL.of e2⟩, _, rfl, _, rfl, a11, _, _, v11, rfl, ea11.keep sg2, c.held 11 (by decide), h11.no, lk1, (by show 3 ≤ sizeLine; decide), fun t11 nt11 => ?_⟩
      obtain ⟨kz, tz⟩ := app_trip (ws := ws) bs2 np sg2 nt11 e2 (by decide : 11 < 18) ea11 lv11
      refine ⟨p, _, _, rfl, rfl, same_new nt11 _ _ e2, (by rw [List.length_map, en]; decide), ?_⟩
      rw [en] at tz
      exact qb3 _ _ p _ _ _ _ (hv.keep kz) tz fun l' H' s' tf => fin l' H' ((sm.trans kz).trans s') tf
    obtain ⟨tb1, hb1, qb1⟩ : ∃ t : TS, PSs (cxOf CX0 P w K mg base ["_law_thing", "_law_one", "_law_two", "_law_three", "_law_four", "_law_found"] "_law_named" (defScope sNamed) f cdv A outer s H E).nox ((defBody sNamed).drop 3) t ∧ ∀ (D : Ends) (G : Hp) (l : Addr) (v1 v2 v3 v4 : Option V), LV G v d → TripL cl d G l 4 →
        (∀ (l' : Addr) (H' : Hp), Same G H' → TripL cl d H' l' 15 → D.rt (.ref l') H') → t D [some v, v1, v2, v3, v4, some (.ref l)] G := by
      refine ⟨_, pss_cons (ps_asg (pe_tup (pa_cons (pe_eck h4 hr (by rfl) (pv 0)) (pa_cons (pe_eck h5 hr (by rfl) (pv 0)) (pa_cons (pe_eck h6 hr (by rfl) (pv 0)) (pa_cons (pe_eck h7 hr (by rfl) (pv 0)) pa_nil))))) (pg_tup (by rfl) (pgs_cons (pg_name (i := 1) scNamed.nd rfl (.inl rfl)) (pgs_cons (pg_name (i := 2) scNamed.nd rfl (.inl rfl)) (pgs_cons (pg_name (i := 3) scNamed.nd rfl (.inl rfl)) (pgs_cons (pg_name (i := 4) scNamed.nd rfl (.inl rfl)) pgs_nil))))))
        (pss_cons (ps_set (i := 5) scNamed.nd rfl (.inl rfl) (pe_op op_cat (pv 5) (pe_lst (pa_cons (pe_tup (pa_cons (pv 1) (pa_cons pe_str (pa_cons (pe_errFld (pv 1)) pa_nil)))) (pa_cons (pe_tup (pa_cons (pv 2) (pa_cons pe_str (pa_cons (pe_errFld (pv 2)) pa_nil)))) (pa_cons (pe_tup (pa_cons (pv 3) (pa_cons pe_str (pa_cons (pe_errFld (pv 3)) pa_nil)))) pa_nil))))))
        (pss_cons (ps_expr (pe_bm PySem.F.plainAttrs_list PySem.F.slot_list_append PySem.F.type_list_append mt_append (pv 5) (pa_cons (pe_tup (pa_cons (pv 4) (pa_cons pe_str (pa_cons (pe_errFld (pv 4)) pa_nil)))) pa_nil))) hb2)), ?_⟩
      intro D G l y1 y2 y3 y4 hv tl fin
      refine ⟨_, rfl, rfl, fun a4 na4 => mk_err na4 hv fun v4 H4 s4 ea4 lv4 => ⟨rfl, ?_⟩⟩
      replace hv := hv.keep s4
      have sm := s4
      replace tl := tl.keep s4
      clear s4 na4
      refine ⟨_, rfl, rfl, fun a5 na5 => mk_err na5 hv fun v5 H5 s5 ea5 lv5 => ⟨rfl, ?_⟩⟩
      replace hv := hv.keep s5
      replace ea4 := ea4.keep s5
      replace lv4 := lv4.keep s5
      replace sm := sm.trans s5
      replace tl := tl.keep s5
      clear s5 na5
      refine ⟨_, rfl, rfl, fun a6 na6 => mk_err na6 hv fun v6 H6 s6 ea6 lv6 => ⟨rfl, ?_⟩⟩
      replace hv := hv.keep s6
      replace ea4 := ea4.keep s6
      replace lv4 := lv4.keep s6
      replace ea5 := ea5.keep s6
      replace lv5 := lv5.keep s6
      replace sm := sm.trans s6
      replace tl := tl.keep s6
      clear s6 na6
      refine ⟨_, rfl, rfl, fun a7 na7 => mk_err na7 hv fun v7 H7 s7 ea7 lv7 => ⟨rfl, ?_⟩⟩
      replace hv := hv.keep s7
      replace ea4 := ea4.keep s7
      replace lv4 := lv4.keep s7
      replace ea5 := ea5.keep s7
      replace lv5 := lv5.keep s7
      replace ea6 := ea6.keep s7
      replace lv6 := lv6.keep s7
      replace sm := sm.trans s7
      replace tl := tl.keep s7
      clear s7 na7
      refine ⟨(by show 4 ≤ sizeLine; decide), fun tq nq => ⟨tq, _, rfl, SqT.of upd_same, rfl, _, _, rfl, _, _, rfl, _, _, rfl, _, _, rfl, rfl, ?_⟩⟩
      have sq := same_new (o := .tup [.ref a4, .ref a5, .ref a6, .ref a7]) nq
      replace hv := hv.keep sq
      replace sm := sm.trans sq
      replace tl := tl.keep sq
      replace ea4 := ea4.keep sq
      replace lv4 := lv4.keep sq
      replace ea5 := ea5.keep sq
      replace lv5 := lv5.keep sq
      replace ea6 := ea6.keep sq
      replace lv6 := lv6.keep sq
      replace ea7 := ea7.keep sq
      replace lv7 := lv7.keep sq
      generalize upd H7 tq (.tup [.ref a4, .ref a5, .ref a6, .ref a7]) = Z at hv sm tl ea4 lv4 ea5 lv5 ea6 lv6 ea7 lv7 ⊢
      clear sq nq
      refine ⟨_, rfl, ?_⟩
      refine ⟨_, rfl, _, rfl, a4, _, _, v4, rfl, ea4, c.held 4 (by decide), h4.no, lk1, (by show 3 ≤ sizeLine; decide), fun t4 nt4 => ?_⟩
      have sq := same_new (o := .tup [.ref a4, .str (sg 4), v4]) nt4
      replace ea4 := ea4.keep sq
      replace lv4 := lv4.keep sq
      replace ea5 := ea5.keep sq
      replace lv5 := lv5.keep sq
      replace ea6 := ea6.keep sq
      replace lv6 := lv6.keep sq
      replace ea7 := ea7.keep sq
      replace lv7 := lv7.keep sq
      have tr4 : Trip cl d _ t4 := ⟨a4, 4, _, v4, by decide, upd_same, ea4, lv4⟩
      replace hv := hv.keep sq
      replace sm := sm.trans sq
      replace tl := tl.keep sq
      clear sq nt4
      refine ⟨_, rfl, _, rfl, a5, _, _, v5, rfl, ea5, c.held 5 (by decide), h5.no, lk1, (by show 3 ≤ sizeLine; decide), fun t5 nt5 => ?_⟩
      have sq := same_new (o := .tup [.ref a5, .str (sg 5), v5]) nt5
      replace ea4 := ea4.keep sq
      replace lv4 := lv4.keep sq
      replace ea5 := ea5.keep sq
      replace lv5 := lv5.keep sq
      replace ea6 := ea6.keep sq
      replace lv6 := lv6.keep sq
      replace ea7 := ea7.keep sq
      replace lv7 := lv7.keep sq
      replace tr4 := Trip.keep tr4 sq
      have tr5 : Trip cl d _ t5 := ⟨a5, 5, _, v5, by decide, upd_same, ea5, lv5⟩
      replace hv := hv.keep sq
      replace sm := sm.trans sq
      replace tl := tl.keep sq
      clear sq nt5
      refine ⟨_, rfl, _, rfl, a6, _, _, v6, rfl, ea6, c.held 6 (by decide), h6.no, lk1, (by show 3 ≤ sizeLine; decide), fun t6 nt6 => ?_⟩
      have sq := same_new (o := .tup [.ref a6, .str (sg 6), v6]) nt6
      replace ea4 := ea4.keep sq
      replace lv4 := lv4.keep sq
      replace ea5 := ea5.keep sq
      replace lv5 := lv5.keep sq
      replace ea6 := ea6.keep sq
      replace lv6 := lv6.keep sq
      replace ea7 := ea7.keep sq
      replace lv7 := lv7.keep sq
      replace tr4 := Trip.keep tr4 sq
      replace tr5 := Trip.keep tr5 sq
      have tr6 : Trip cl d _ t6 := ⟨a6, 6, _, v6, by decide, upd_same, ea6, lv6⟩
      replace hv := hv.keep sq
      replace sm := sm.trans sq
      replace tl := tl.keep sq
      clear sq nt6
      refine ⟨(by show 3 ≤ sizeLine; decide), fun m nm => ?_⟩
      have sq := same_new (o := .lst [.ref t4, .ref t5, .ref t6]) nm
      have bs : ∀ t ∈ ([t4, t5, t6] : List Addr), Trip cl d _ t := fun t m => by
        simp only [List.mem_cons, List.not_mem_nil, or_false] at m
        rcases m with rfl | rfl | rfl
        · exact tr4
        · exact tr5
        · exact tr6
      have t3 : TripL cl d _ m 3 := ⟨[t4, t5, t6], upd_same, rfl, fun t m => (bs t m).keep sq⟩
      replace hv := hv.keep sq
      replace sm := sm.trans sq
      replace tl := tl.keep sq
      replace ea7 := ea7.keep sq
      replace lv7 := lv7.keep sq
      refine cat_trip tl t3 (by decide) fun p G2 np sg2 ⟨ws, e2, en, bs2⟩ => ?_
      refine ⟨_, rfl, .inl ⟨rfl, _, SqL.of e2⟩, _, rfl, _, rfl, a7, _, _, v7, rfl, ea7.keep sg2, c.held 7 (by decide), h7.no, lk1, (by show 3 ≤ sizeLine; decide), fun t7 nt7 => ?_⟩
      obtain ⟨kz, tz⟩ := app_trip (ws := ws) bs2 np sg2 nt7 e2 (by decide : 7 < 18) ea7 lv7
      refine ⟨p, _, _, rfl, rfl, same_new nt7 _ _ e2, (by rw [List.length_map, en]; decide), ?_⟩
      rw [en] at tz
      exact qb2 _ _ p _ _ _ _ (hv.keep kz) tz fun l' H' s' tf => fin l' H' ((sm.trans kz).trans s') tf
    refine ⟨_, pss_cons (ps_asg (pe_tup (pa_cons (pe_eck h0 hr (by rfl) (pv 0)) (pa_cons (pe_eck h1 hr (by rfl) (pv 0)) (pa_cons (pe_eck h2 hr (by rfl) (pv 0)) (pa_cons (pe_eck h3 hr (by rfl) (pv 0)) pa_nil))))) (pg_tup (by rfl) (pgs_cons (pg_name (i := 1) scNamed.nd rfl (.inl rfl)) (pgs_cons (pg_name (i := 2) scNamed.nd rfl (.inl rfl)) (pgs_cons (pg_name (i := 3) scNamed.nd rfl (.inl rfl)) (pgs_cons (pg_name (i := 4) scNamed.nd rfl (.inl rfl)) pgs_nil))))))
        (pss_cons (ps_set (i := 5) scNamed.nd rfl (.inl rfl) (pe_lst (pa_cons (pe_tup (pa_cons (pv 1) (pa_cons pe_str (pa_cons (pe_errFld (pv 1)) pa_nil)))) (pa_cons (pe_tup (pa_cons (pv 2) (pa_cons pe_str (pa_cons (pe_errFld (pv 2)) pa_nil)))) (pa_cons (pe_tup (pa_cons (pv 3) (pa_cons pe_str (pa_cons (pe_errFld (pv 3)) pa_nil)))) pa_nil)))))
        (pss_cons (ps_expr (pe_bm PySem.F.plainAttrs_list PySem.F.slot_list_append PySem.F.type_list_append mt_append (pv 5) (pa_cons (pe_tup (pa_cons (pv 4) (pa_cons pe_str (pa_cons (pe_errFld (pv 4)) pa_nil)))) pa_nil))) hb1)), ?_⟩
    refine ⟨_, rfl, rfl, fun a0 na0 => mk_err na0 hv fun v0 H0 s0 ea0 lv0 => ⟨rfl, ?_⟩⟩
    replace hv := hv.keep s0
    have sm := s0
    clear s0 na0
    refine ⟨_, rfl, rfl, fun a1 na1 => mk_err na1 hv fun v1 H1 s1 ea1 lv1 => ⟨rfl, ?_⟩⟩
    replace hv := hv.keep s1
    replace ea0 := ea0.keep s1
    replace lv0 := lv0.keep s1
    replace sm := sm.trans s1
    clear s1 na1
    refine ⟨_, rfl, rfl, fun a2 na2 => mk_err na2 hv fun v2 H2 s2 ea2 lv2 => ⟨rfl, ?_⟩⟩
    replace hv := hv.keep s2
    replace ea0 := ea0.keep s2
    replace lv0 := lv0.keep s2
    replace ea1 := ea1.keep s2
    replace lv1 := lv1.keep s2
    replace sm := sm.trans s2
    clear s2 na2
    refine ⟨_, rfl, rfl, fun a3 na3 => mk_err na3 hv fun v3 H3 s3 ea3 lv3 => ⟨rfl, ?_⟩⟩
    replace hv := hv.keep s3
    replace ea0 := ea0.keep s3
    replace lv0 := lv0.keep s3
    replace ea1 := ea1.keep s3
    replace lv1 := lv1.keep s3
    replace ea2 := ea2.keep s3
    replace lv2 := lv2.keep s3
    replace sm := sm.trans s3
    clear s3 na3
    refine ⟨(by show 4 ≤ sizeLine; decide), fun tq nq => ⟨tq, _, rfl, SqT.of upd_same, rfl, _, _, rfl, _, _, rfl, _, _, rfl, _, _, rfl, rfl, ?_⟩⟩
    have sq := same_new (o := .tup [.ref a0, .ref a1, .ref a2, .ref a3]) nq
    replace hv := hv.keep sq
    replace sm := sm.trans sq
    replace ea0 := ea0.keep sq
    replace lv0 := lv0.keep sq
    replace ea1 := ea1.keep sq
    replace lv1 := lv1.keep sq
    replace ea2 := ea2.keep sq
    replace lv2 := lv2.keep sq
    replace ea3 := ea3.keep sq
    replace lv3 := lv3.keep sq
    generalize upd H3 tq (.tup [.ref a0, .ref a1, .ref a2, .ref a3]) = Z at hv sm ea0 lv0 ea1 lv1 ea2 lv2 ea3 lv3 ⊢
    clear sq nq
    refine ⟨_, rfl, _, rfl, a0, _, _, v0, rfl, ea0, c.held 0 (by decide), h0.no, lk1, (by show 3 ≤ sizeLine; decide), fun t0 nt0 => ?_⟩
    have sq := same_new (o := .tup [.ref a0, .str (sg 0), v0]) nt0
    replace ea0 := ea0.keep sq
    replace lv0 := lv0.keep sq
    replace ea1 := ea1.keep sq
    replace lv1 := lv1.keep sq
    replace ea2 := ea2.keep sq
    replace lv2 := lv2.keep sq
    replace ea3 := ea3.keep sq
    replace lv3 := lv3.keep sq
    have tr0 : Trip cl d _ t0 := ⟨a0, 0, _, v0, by decide, upd_same, ea0, lv0⟩
    replace hv := hv.keep sq
    replace sm := sm.trans sq
    clear sq nt0
    refine ⟨_, rfl, _, rfl, a1, _, _, v1, rfl, ea1, c.held 1 (by decide), h1.no, lk1, (by show 3 ≤ sizeLine; decide), fun t1 nt1 => ?_⟩
    have sq := same_new (o := .tup [.ref a1, .str (sg 1), v1]) nt1
    replace ea0 := ea0.keep sq
    replace lv0 := lv0.keep sq
    replace ea1 := ea1.keep sq
    replace lv1 := lv1.keep sq
    replace ea2 := ea2.keep sq
    replace lv2 := lv2.keep sq
    replace ea3 := ea3.keep sq
    replace lv3 := lv3.keep sq
    replace tr0 := Trip.keep tr0 sq
    have tr1 : Trip cl d _ t1 := ⟨a1, 1, _, v1, by decide, upd_same, ea1, lv1⟩
    replace hv := hv.keep sq
    replace sm := sm.trans sq
    clear sq nt1
    refine ⟨_, rfl, _, rfl, a2, _, _, v2, rfl, ea2, c.held 2 (by decide), h2.no, lk1, (by show 3 ≤ sizeLine; decide), fun t2 nt2 => ?_⟩
    have sq := same_new (o := .tup [.ref a2, .str (sg 2), v2]) nt2
    replace ea0 := ea0.keep sq
    replace lv0 := lv0.keep sq
    replace ea1 := ea1.keep sq
    replace lv1 := lv1.keep sq
    replace ea2 := ea2.keep sq
    replace lv2 := lv2.keep sq
    replace ea3 := ea3.keep sq
    replace lv3 := lv3.keep sq
    replace tr0 := Trip.keep tr0 sq
    replace tr1 := Trip.keep tr1 sq
    have tr2 : Trip cl d _ t2 := ⟨a2, 2, _, v2, by decide, upd_same, ea2, lv2⟩
    replace hv := hv.keep sq
    replace sm := sm.trans sq
    clear sq nt2
    refine ⟨(by show 3 ≤ sizeLine; decide), fun m nm => ?_⟩
    have sq := same_new (o := .lst [.ref t0, .ref t1, .ref t2]) nm
    have bs : ∀ t ∈ ([t0, t1, t2] : List Addr), Trip cl d _ t := fun t m => by
      simp only [List.mem_cons, List.not_mem_nil, or_false] at m
      rcases m with rfl | rfl | rfl
      · exact tr0
      · exact tr1
      · exact tr2
    refine ⟨_, rfl, .inl ⟨rfl, _, SqL.of upd_same⟩, _, rfl, _, rfl, a3, _, _, v3, rfl, ea3.keep sq, c.held 3 (by decide), h3.no, lk1, (by show 3 ≤ sizeLine; decide), fun t3 nt3 => ?_⟩
    obtain ⟨kz, tz⟩ := app_trip (ws := [t0, t1, t2]) bs nm sq nt3 upd_same (by decide : 3 < 18) ea3 lv3
    refine ⟨m, _, _, rfl, rfl, same_new nt3 _ _ upd_same, (by show 3 < sizeLine; decide), ?_⟩
    exact qb1 _ _ m _ _ _ _ (hv.keep kz) tz fun l' H' s' tf => kk l' H' ((sm.trans kz).trans s') tf
end
end Ev
namespace Ev
open PySem L2 PySem.Spec PyProof.Rows
structure EC2 (P : Program) (w : World) (K : PySem.W.Frag) (mg : Str → Option Value) (base : Heap) (x n m : Str) (C : Addr) : Prop where
  cl : OexC K C
  g : mg x = some (.ref C)
  no : PySem.W.findIn K (.ref C) n = some none
  no2 : PySem.W.findIn K (.ref C) m = some none
  ex : ∃ (f : Addr) (fd : FuncData) (gg : List Value → List Value → List Value), PySem.W.findIn K (.ref C) "__init__" = some (some (.ref f)) ∧ PySem.W.typeIn K (.ref f) = some (.type "function") ∧ FnOk P w K mg base CX0 4 f fd ["self", n, m] (spErr2 C n m) ∧ Binds K fd ["self", n, m] [] ∧
    KBn K fd ["self", n, m] 1 [m, n] gg (fun vs zs => vs ++ zs.reverse)
theorem mk_err2 {H : Hp} {a C : Addr} {v u : V} {d e : PyData} {n m : Str} {R : VK} {E : XK} (na : H a = none) (hv : LV H v d) (hu : LV H u e)
    (k : ∀ (v' u' : V) (H' : Hp), Same H H' → ErrAt H' a C (some [(m, u'), (n, v')]) → LV H' v' d → LV H' u' e → R .non H') : spErr2 C n m [.ref a, v, u] (upd H a (exo a C none)) R E := by
  refine ⟨a, v, u, d, e, rfl, upd_same, hv.keep (same_new na), hu.keep (same_new na), fun v' u' H' kp ea hv' hu' => k v' u' H' (fun b o q => ?_) ea hv' hu'⟩
  exact kp _ _ (ne_of_none q na) (same_new na _ _ q)
theorem ErrAt.but {H H' : Hp} {a C p : Addr} {xs : List V} {o : Option (List (Str × V))} (h : ErrAt H a C o) (hp : H p = some (.lst xs)) (k : But p H H') : ErrAt H' a C o := by
  cases o with
  | none => exact k _ _ (ne_of h hp x_lst) h
  | some fs => obtain ⟨d, e1, e2⟩ := h; exact ⟨d, k _ _ (ne_of e1 hp x_lst) e1, k _ _ (ne_of e2 hp y_lst) e2⟩
section
variable {X : Cx}
theorem pe_ec2 {x n m : Str} {C : Addr} {e1 e2 : Expr} {t1 t2 : TE} {p pos : Pos} (h : EC2 X.prog X.w X.K X.mg X.base x n m C) (hr : Room 5 X.A) (hg : Gl X x) (he1 : PE X e1 t1) (he2 : PE X e2 t2) (hdb : (x == ("__debug__" : Str)) = false := by decide) (hs : starEach [e1, e2] X.env = (false, eval e1 X.env) :: starEach [e2] X.env := by rfl)
    (hs2 : starEach [e2] X.env = (false, eval e2 X.env) :: starEach [] X.env := by rfl) (hp : (backTo pos (starEach [e2] X.env)).any (·.1) = false := by rfl) :
    PE X (.Call (.Name x p) [e1, e2] [] pos) (tNewX C (spErr2 C n m) (tCons t1 (tCons t2 tNil))) := by
  obtain ⟨f, fd, gg, i1, i2, F, b, _⟩ := h.ex
  exact pe_newX h.cl i1 i2 F hr b pass0 hg h.g (pa_cons he1 (pa_cons he2 pa_nil hs2) hs) hdb hs hp
theorem pe_eck2 {x n m : Str} {C : Addr} {e1 e2 : Expr} {t1 t2 : TE} {p pos kp kq : Pos} (h : EC2 X.prog X.w X.K X.mg X.base x n m C) (hr : Room 5 X.A) (hg : Gl X x) (he1 : PE X e1 t1) (he2 : PE X e2 t2) (hdb : (x == ("__debug__" : Str)) = false := by decide) :
    PE X (.Call (.Name x p) [] [⟨some m, e1, kp⟩, ⟨some n, e2, kq⟩] pos) (tNewXK C 2 (spErr2 C n m) (fun vs zs => vs ++ zs.reverse) (tCons t1 (tCons t2 tNil))) := by
  obtain ⟨f, fd, gg, i1, i2, F, _, b⟩ := h.ex
  exact pe_newXK (ks := [m, n]) h.cl i1 i2 F hr b pass0 hg h.g (pk_cons he1 (pk_cons he2 pk_nil)) (by rfl) (by rfl) hdb (by rfl)
end
theorem lkA {m n : Str} {x y : V} : List.lookup m [(m, x), (n, y)] = some x := by simp [List.lookup]
theorem lkB {m n : Str} {x y : V} (h : (n == m) = false) : List.lookup n [(m, x), (n, y)] = some y := by simp [List.lookup, h]
def spPairsR : Sp := fun vs H Q _ => ∃ (v u : V) (d e : PyData), vs = [v, u] ∧ LV H v d ∧ LV H u e ∧ Good d ∧ Good e ∧ ∀ H', Same H H' → Q (.bl true) H'
abbrev nPairs : List Str := ["_law_thing", "_law_more", "_law_told", "_law_error"]
theorem scPairs : FnScope nPairs ["_law_thing", "_law_more"] (defScope sPairs) := ⟨rfl, rfl, rfl, by decide +kernel, rfl, by decide +kernel, by decide +kernel⟩
section
variable {P : Program} {w : World} {K : PySem.W.Frag} {mg : Str → Option Value} {base : Heap}
theorem ok_pairs {f FE : Addr} {cl : Nat → Addr} {fd : FuncData} (F : Fun K "_law_pairs_right" "_law_pairs_right" sPairs f fd) (T : Blt mg) (c : Cls18 K cl FE) (D : Df P w K mg base 1 "_law_signs" ["_law_error"] (spSigns cl FE))
    (h12 : EC2 P w K mg base "BadText" "line" "word" (cl 12)) (h17 : EC2 P w K mg base "TooMany" "what" "most" (cl 17)) : FnG P w K mg base 6 f fd ["_law_thing", "_law_more"] spPairsR := by
  obtain ⟨f1, fd1, G1, g1, k1, b1⟩ := D.ex
  refine fng_of F scPairs (fun vs H Q E h => ?_) (fun cdv A outer s H vs Q E hr gd h => ?_)
  · obtain ⟨v, u, d, e, rfl, _⟩ := h
    rfl
  · obtain ⟨v, u, d, e, rfl, hv, hu, gdd, gde, kk⟩ := h
    have hr1 : Room 1 _ := hr.mono (by decide)
    have un : (cxOf CX0 P w K mg base nPairs "_law_pairs_right" (defScope sPairs) f cdv A outer s H E).nox.A.units + 64 < cLine := Room.units hr
    obtain ⟨w1, w2, w3⟩ := Good.two gdd gde
    have w4 : ∀ z ∈ [d, e], z.showable = true ∧ z.shown.length ≤ sizeLine := fun z m => by
      simp only [List.mem_cons, List.not_mem_nil, or_false] at m
      rcases m with rfl | rfl
      · exact ⟨gdd.show.1, gdd.show.2.2⟩
      · exact ⟨gde.show.1, gde.show.2.2⟩
    obtain ⟨tb3, hb3, qb3⟩ : ∃ t : TS, PSs (cxOf CX0 P w K mg base nPairs "_law_pairs_right" (defScope sPairs) f cdv A outer s H E).nox ((defBody sPairs).drop 3) t ∧ ∀ (D : Ends) (G : Hp) (tl : Addr) (v3 : Option V), G tl = some (.lst (List.replicate 4 (V.bl true))) → D.rt (.bl true) G → t D [some v, some u, some (.ref tl), v3] G := by
      refine ⟨_, pss_one (ps_ret (pe_cmpR op_notIn_seq pe_bl (pv 2) (by rfl))), ?_⟩
      intro D G tl v3 htl q
      exact ⟨_, rfl, tl, _, rfl, .inl (SqL.of htl), rfl, rfl, q⟩
    obtain ⟨tb2, hb2, qb2⟩ : ∃ t : TS, PSs (cxOf CX0 P w K mg base nPairs "_law_pairs_right" (defScope sPairs) f cdv A outer s H E).nox ((defBody sPairs).drop 2) t ∧ ∀ (D : Ends) (G : Hp) (tl : Addr) (v3 : Option V), LV G v d → LV G u e → G tl = some (.lst (List.replicate 2 (V.bl true))) →
        (∀ G', But tl G G' → D.rt (.bl true) G') → t D [some v, some u, some (.ref tl), v3] G := by
      refine ⟨_, pss_cons (ps_for PassesOwn.never rfl (pi_list (pe_lst (pa_cons (pe_ec2 h17 hr (by rfl) (pv 0) (pv 1)) (pa_cons (pe_eck2 h17 hr (by rfl) (pv 1) (pv 0)) pa_nil)))) (pg_name (i := 3) scPairs.nd rfl (.inl rfl))
        (pss_one (ps_expr (pe_bm PySem.F.plainAttrs_list PySem.F.slot_list_append PySem.F.type_list_append mt_append (pv 2) (pa_cons (pe_and (pe_cmpR (op_eqD un) (pe_call G1 hr1 (by rfl) g1 k1 b1 .nil pass0 (pa_cons (pv 3) pa_nil)) (pe_lst (pa_cons pe_str pa_nil)) (nomark _))
          (pe_one (pe_cmpR op_eq (pe_callB (call_reprI gd un) (by rfl) T.repr (by decide +kernel) (pa_cons (pe_lst (pa_cons (pe_errFld (pv 3)) (pa_cons (pe_errFld (pv 3)) pa_nil))) pa_nil)) (pe_callB (call_reprI gd un) (by rfl) T.repr (by decide +kernel) (pa_cons (pe_lst (pa_cons (pv 0) (pa_cons (pv 1) pa_nil))) pa_nil)) (nomark _)))) pa_nil))))) hb3, ?_⟩
      intro D G tl v3 hv hu htl fin
      refine ⟨_, rfl, _, rfl, (by show 2 ≤ 1000; decide), fun a na => mk_err2 na hv hu fun v1 u1 H1 s1 ea1 lv1 lu1 => ⟨rfl, ?_⟩⟩
      refine ⟨_, rfl, _, rfl, rfl, fun b nb => mk_err2 nb (hv.keep s1) (hu.keep s1) fun v2 u2 H2 s2 ea2 lv2 lu2 => ⟨rfl, (by show 2 ≤ sizeLine; decide), fun l nl => ⟨l, rfl, ⟨_, SqL.of upd_same⟩, ?_⟩⟩⟩
      have s3 := same_new (o := .lst [.ref a, .ref b]) nl
      have s23 := s2.trans s3
      replace ea1 := ea1.keep s23
      replace lv1 := lv1.keep s23
      replace lu1 := lu1.keep s23
      replace ea2 := ea2.keep s3
      replace lv2 := lv2.keep s3
      replace lu2 := lu2.keep s3
      have sG := s1.trans s23
      have hvZ := hv.keep sG
      have huZ := hu.keep sG
      have tlZ := sG _ _ htl
      have ntl : l ≠ tl := fun z => by rw [z, s2 _ _ (s1 _ _ htl)] at nl; cases nl
      have hl : upd H2 l (.lst [.ref a, .ref b]) l = some (.lst [.ref a, .ref b]) := upd_same
      generalize upd H2 l (.lst [.ref a, .ref b]) = Z at ea1 lv1 lu1 ea2 lv2 lu2 sG hvZ huZ tlZ hl ⊢
      clear s1 s2 s3 s23 nl na nb
      refine for_it (n := 2) (walk_list (K := K) (a := l) (xs := [.ref a, .ref b])) (fun i σ H' => (∃ v3 : Option V, σ = [some v, some u, some (.ref tl), v3]) ∧ But tl Z H' ∧ H' tl = some (.lst (List.replicate (2 + i) (V.bl true))))
        ⟨⟨v3, rfl⟩, But.refl _ _, tlZ⟩ (fun _ σ H' _ h => SqL.of (h.2.1 _ _ ntl hl)) ?_ ?_
      · rintro i y σ Ga Gb hi ⟨⟨v3, rfl⟩, bt, ht⟩ ⟨rfl, hy⟩
        obtain ⟨x, x1, x2, rfl, ex, lx1, lx2⟩ : ∃ (x : Addr) (x1 x2 : V), y = .ref x ∧ ErrAt Z x (cl 17) (some [("most", x2), ("what", x1)]) ∧ LV Z x1 d ∧ LV Z x2 e := by
          have q := List.mem_of_getElem? hy
          simp only [List.mem_cons, List.not_mem_nil, or_false] at q
          rcases q with rfl | rfl
          · exact ⟨_, _, _, rfl, ea1, lv1, lu1⟩
          · exact ⟨_, _, _, rfl, ea2, lv2, lu2⟩
        have n1 : (List.replicate 2 (V.bl true)).length ≠ 1 := by decide
        replace ex := ErrAt.but ex tlZ bt
        replace lx1 := LV.but lx1 tlZ n1 bt
        replace lx2 := LV.but lx2 tlZ n1 bt
        have hv2 := LV.but hvZ tlZ n1 bt
        have hu2 := LV.but huZ tlZ n1 bt
        refine ⟨_, rfl, .inl ⟨rfl, _, SqL.of ht⟩, _, rfl, x, some 17, _, rfl, (by decide : 17 < 18), ex, fun l1 H1 s1 e1 => ⟨(by show 1 ≤ sizeLine; decide), fun l2 n2 => ?_⟩⟩
        have e1 : H1 l1 = some (.lst [.str "many"]) := e1
        have s2 := s1.trans (same_new (o := .lst [.str "many"]) n2)
        refine ⟨.list [.str "many"], .list [.str "many"], .lst (SqL.of (same_new n2 _ _ e1)) (.cons (.str _) .nil), .lst (SqL.of upd_same) (.cons (.str _) .nil), by decide +kernel, by decide +kernel, ?_⟩
        rw [show PyData.eqv (.list [.str "many"]) (.list [.str "many"]) = true by decide +kernel]
        generalize upd H1 l2 (.lst [.str "many"]) = G2 at s2
        have ex2 := ex.keep s2
        refine ⟨_, rfl, iteT ?_⟩
        refine ⟨_, rfl, x, _, _, x1, rfl, ex2, c.held 17 (by decide), h17.no, lkB (by decide +kernel), _, rfl, x, _, _, x2, rfl, ex2, c.held 17 (by decide), h17.no2, lkA, (by show 2 ≤ sizeLine; decide), fun l3 n3 => ?_⟩
        have s3 := s2.trans (same_new (o := .lst [x1, x2]) n3)
        refine ⟨_, .list [d, e], rfl, w1, w2, w3, .inr ⟨l3, _, _, rfl, rfl, upd_same, by simp, .cons (lx1.keep s3).vi (.cons (lx2.keep s3).vi .nil), w4⟩, ?_⟩
        refine ⟨_, rfl, _, rfl, (by show 2 ≤ sizeLine; decide), fun l4 n4 => ?_⟩
        have s4 := s3.trans (same_new (o := .lst [v, u]) n4)
        refine ⟨_, .list [d, e], rfl, w1, w2, w3, .inr ⟨l4, _, _, rfl, rfl, upd_same, by simp, .cons (hv2.keep s4).vi (.cons (hu2.keep s4).vi .nil), w4⟩, ?_⟩
        refine ⟨rfl, ?_⟩
        rw [decide_eq_true rfl]
        have ht4 := s4 _ _ ht
        generalize upd (upd G2 l3 (.lst [x1, x2])) l4 (.lst [v, u]) = G4 at s4 ht4 ⊢
        refine ⟨tl, _, _, rfl, rfl, ht4, Nat.lt_of_le_of_lt (show (List.replicate (2 + i) (V.bl true)).length ≤ 10 by rw [List.length_replicate]; omega) (by rw [sizeLine_eq]; decide), ?_⟩
        refine ⟨⟨_, rfl⟩, bt.trans ((Same.but s4).trans But.upd_at), ?_⟩
        rw [upd_same, show 2 + (i + 1) = (2 + i) + 1 by omega, List.replicate_succ' (n := 2 + i)]
      · rintro σ Ga ⟨⟨v3, rfl⟩, bt, ht⟩
        have n1 : (List.replicate 2 (V.bl true)).length ≠ 1 := by decide
        exact qb3 _ Ga tl _ ht (fin _ fun b o nb z => bt _ _ nb (sG _ _ z))
    obtain ⟨tb1, hb1, qb1⟩ : ∃ t : TS, PSs (cxOf CX0 P w K mg base nPairs "_law_pairs_right" (defScope sPairs) f cdv A outer s H E).nox ((defBody sPairs).drop 1) t ∧ ∀ (D : Ends) (G : Hp) (tl : Addr) (v3 : Option V), LV G v d → LV G u e → G tl = some (.lst (List.replicate 0 (V.bl true))) →
        (∀ G', But tl G G' → D.rt (.bl true) G') → t D [some v, some u, some (.ref tl), v3] G := by
      refine ⟨_, pss_cons (ps_for PassesOwn.never rfl (pi_list (pe_lst (pa_cons (pe_ec2 h12 hr (by rfl) (pv 0) (pv 1)) (pa_cons (pe_eck2 h12 hr (by rfl) (pv 1) (pv 0)) pa_nil)))) (pg_name (i := 3) scPairs.nd rfl (.inl rfl))
        (pss_one (ps_expr (pe_bm PySem.F.plainAttrs_list PySem.F.slot_list_append PySem.F.type_list_append mt_append (pv 2) (pa_cons (pe_and (pe_cmpR (op_eqD un) (pe_call G1 hr1 (by rfl) g1 k1 b1 .nil pass0 (pa_cons (pv 3) pa_nil)) (pe_lst (pa_cons pe_str pa_nil)) (nomark _))
          (pe_one (pe_cmpR op_eq (pe_callB (call_reprI gd un) (by rfl) T.repr (by decide +kernel) (pa_cons (pe_lst (pa_cons (pe_errFld (pv 3)) (pa_cons (pe_errFld (pv 3)) pa_nil))) pa_nil)) (pe_callB (call_reprI gd un) (by rfl) T.repr (by decide +kernel) (pa_cons (pe_lst (pa_cons (pv 0) (pa_cons (pv 1) pa_nil))) pa_nil)) (nomark _)))) pa_nil))))) hb2, ?_⟩
      intro D G tl v3 hv hu htl fin
      refine ⟨_, rfl, _, rfl, (by show 2 ≤ 1000; decide), fun a na => mk_err2 na hv hu fun v1 u1 H1 s1 ea1 lv1 lu1 => ⟨rfl, ?_⟩⟩
      refine ⟨_, rfl, _, rfl, rfl, fun b nb => mk_err2 nb (hv.keep s1) (hu.keep s1) fun v2 u2 H2 s2 ea2 lv2 lu2 => ⟨rfl, (by show 2 ≤ sizeLine; decide), fun l nl => ⟨l, rfl, ⟨_, SqL.of upd_same⟩, ?_⟩⟩⟩
      have s3 := same_new (o := .lst [.ref a, .ref b]) nl
      have s23 := s2.trans s3
      replace ea1 := ea1.keep s23
      replace lv1 := lv1.keep s23
      replace lu1 := lu1.keep s23
      replace ea2 := ea2.keep s3
      replace lv2 := lv2.keep s3
      replace lu2 := lu2.keep s3
      have sG := s1.trans s23
      have hvZ := hv.keep sG
      have huZ := hu.keep sG
      have tlZ := sG _ _ htl
      have ntl : l ≠ tl := fun z => by rw [z, s2 _ _ (s1 _ _ htl)] at nl; cases nl
      have hl : upd H2 l (.lst [.ref a, .ref b]) l = some (.lst [.ref a, .ref b]) := upd_same
      generalize upd H2 l (.lst [.ref a, .ref b]) = Z at ea1 lv1 lu1 ea2 lv2 lu2 sG hvZ huZ tlZ hl ⊢
      clear s1 s2 s3 s23 nl na nb
      refine for_it (n := 2) (walk_list (K := K) (a := l) (xs := [.ref a, .ref b])) (fun i σ H' => (∃ v3 : Option V, σ = [some v, some u, some (.ref tl), v3]) ∧ But tl Z H' ∧ H' tl = some (.lst (List.replicate (0 + i) (V.bl true))))
        ⟨⟨v3, rfl⟩, But.refl _ _, tlZ⟩ (fun _ σ H' _ h => SqL.of (h.2.1 _ _ ntl hl)) ?_ ?_
      · rintro i y σ Ga Gb hi ⟨⟨v3, rfl⟩, bt, ht⟩ ⟨rfl, hy⟩
        obtain ⟨x, x1, x2, rfl, ex, lx1, lx2⟩ : ∃ (x : Addr) (x1 x2 : V), y = .ref x ∧ ErrAt Z x (cl 12) (some [("word", x2), ("line", x1)]) ∧ LV Z x1 d ∧ LV Z x2 e := by
          have q := List.mem_of_getElem? hy
          simp only [List.mem_cons, List.not_mem_nil, or_false] at q
          rcases q with rfl | rfl
          · exact ⟨_, _, _, rfl, ea1, lv1, lu1⟩
          · exact ⟨_, _, _, rfl, ea2, lv2, lu2⟩
        have n1 : (List.replicate 0 (V.bl true)).length ≠ 1 := by decide
        replace ex := ErrAt.but ex tlZ bt
        replace lx1 := LV.but lx1 tlZ n1 bt
        replace lx2 := LV.but lx2 tlZ n1 bt
        have hv2 := LV.but hvZ tlZ n1 bt
        have hu2 := LV.but huZ tlZ n1 bt
        refine ⟨_, rfl, .inl ⟨rfl, _, SqL.of ht⟩, _, rfl, x, some 12, _, rfl, (by decide : 12 < 18), ex, fun l1 H1 s1 e1 => ⟨(by show 1 ≤ sizeLine; decide), fun l2 n2 => ?_⟩⟩
        have e1 : H1 l1 = some (.lst [.str "text"]) := e1
        have s2 := s1.trans (same_new (o := .lst [.str "text"]) n2)
        refine ⟨.list [.str "text"], .list [.str "text"], .lst (SqL.of (same_new n2 _ _ e1)) (.cons (.str _) .nil), .lst (SqL.of upd_same) (.cons (.str _) .nil), by decide +kernel, by decide +kernel, ?_⟩
        rw [show PyData.eqv (.list [.str "text"]) (.list [.str "text"]) = true by decide +kernel]
        generalize upd H1 l2 (.lst [.str "text"]) = G2 at s2
        have ex2 := ex.keep s2
        refine ⟨_, rfl, iteT ?_⟩
        refine ⟨_, rfl, x, _, _, x1, rfl, ex2, c.held 12 (by decide), h12.no, lkB (by decide +kernel), _, rfl, x, _, _, x2, rfl, ex2, c.held 12 (by decide), h12.no2, lkA, (by show 2 ≤ sizeLine; decide), fun l3 n3 => ?_⟩
        have s3 := s2.trans (same_new (o := .lst [x1, x2]) n3)
        refine ⟨_, .list [d, e], rfl, w1, w2, w3, .inr ⟨l3, _, _, rfl, rfl, upd_same, by simp, .cons (lx1.keep s3).vi (.cons (lx2.keep s3).vi .nil), w4⟩, ?_⟩
        refine ⟨_, rfl, _, rfl, (by show 2 ≤ sizeLine; decide), fun l4 n4 => ?_⟩
        have s4 := s3.trans (same_new (o := .lst [v, u]) n4)
        refine ⟨_, .list [d, e], rfl, w1, w2, w3, .inr ⟨l4, _, _, rfl, rfl, upd_same, by simp, .cons (hv2.keep s4).vi (.cons (hu2.keep s4).vi .nil), w4⟩, ?_⟩
        refine ⟨rfl, ?_⟩
        rw [decide_eq_true rfl]
        have ht4 := s4 _ _ ht
        generalize upd (upd G2 l3 (.lst [x1, x2])) l4 (.lst [v, u]) = G4 at s4 ht4 ⊢
        refine ⟨tl, _, _, rfl, rfl, ht4, Nat.lt_of_le_of_lt (show (List.replicate (0 + i) (V.bl true)).length ≤ 10 by rw [List.length_replicate]; omega) (by rw [sizeLine_eq]; decide), ?_⟩
        refine ⟨⟨_, rfl⟩, bt.trans ((Same.but s4).trans But.upd_at), ?_⟩
        rw [upd_same, show 0 + (i + 1) = (0 + i) + 1 by omega, List.replicate_succ' (n := 0 + i)]
      · rintro σ Ga ⟨⟨v3, rfl⟩, bt, ht⟩
        have n1 : (List.replicate 0 (V.bl true)).length ≠ 1 := by decide
        exact qb2 _ Ga tl _ (LV.but hvZ tlZ n1 bt) (LV.but huZ tlZ n1 bt) ht fun G2 b2 => fin G2 fun b o nb z => b2 _ _ nb (bt _ _ nb (sG _ _ z))
    refine ⟨_, pss_cons (ps_set (i := 2) scPairs.nd rfl (.inl rfl) (pe_lst pa_nil)) hb1, ?_⟩
    refine ⟨(by show 0 ≤ sizeLine; decide), fun tl nt => ?_⟩
    have s0 := same_new (o := .lst []) nt
    refine qb1 _ _ tl _ (hv.keep s0) (hu.keep s0) upd_same fun G' bt => kk G' fun b o z => bt _ _ (ne_of_none z nt) (s0 _ _ z)
end
end Ev
namespace Ev
open PySem L2 PySem.Spec PyProof.Rows
def spLaw (K : PySem.W.Frag) : Sp := fun vs H Q _ => ∃ (a : Addr) (ns : List Int), vs = [.ref a] ∧ SqL K H a (ns.map V.int) ∧ ns.length ≤ 63 ∧ ∀ H', Q (.bl true) H'
abbrev nLaw : List Str := ["_law_script", "_law_pen_here", "_law_turn_so", "_law_thing", "_law_more", "_law_error", "_law_sign", "_law_field"]
theorem scLaw : FnScope nLaw ["_law_script"] (defScope sLaw) := ⟨rfl, rfl, rfl, by decide +kernel, rfl, by decide +kernel, by decide +kernel⟩
theorem pen_lst {L : Addr} {H : Hp} {p : Addr} {B : Int} (h : Pen L H p B) : ∃ xs, H p = some (.lst xs) ∧ xs.length ≠ 1 := by
  obtain ⟨ns, t, c, h1, _⟩ := h
  exact ⟨_, h1, by show 3 ≠ 1; decide⟩
theorem sg_sh {k : Nat} (h : k < 18) : SeqAt.shaped (.list [.str (sg k)]) = true := by
  have : ∀ k : Fin 18, SeqAt.shaped (.list [.str (sg k)]) = true := by decide +kernel
  exact this ⟨k, h⟩
abbrev veTail : List Value := [.type "ValueError", .type "Exception", .type "BaseException", .type "object"]
section
variable {P : Program} {w : World} {K : PySem.W.Frag} {mg : Str → Option Value} {base : Heap}
theorem ok_law {f FE : Addr} {cl : Nat → Addr} {fd : FuncData} (F : Fun K "law" "law" sLaw f fd) (T : Blt mg) (mv : mg "ValueError" = none) (N : Names18 mg cl FE) (c : Cls18 K cl FE)
    (q16 : PySem.W.excIn K (cl 16) veTail "ValueError.__new__" = true) (qF : PySem.W.excIn K FE veTail "ValueError.__new__" = true) (k16 : PySem.W.keepIn K (.ref (cl 16)) = true) (kF : PySem.W.keepIn K (.ref FE) = true)
    (D1 : Df P w K mg base 1 "_law_pen" ["_law_script"] (spPen K)) (D2 : Df P w K mg base 3 "_law_value" ["_law_pen_here"] spValue) (D3 : Df P w K mg base 1 "_law_signs" ["_law_error"] (spSigns cl FE))
    (D4 : Df P w K mg base 6 "_law_placed" ["_law_thing"] (spMakes cl)) (D5 : Df P w K mg base 6 "_law_named" ["_law_thing"] (spMakes cl))
    {f6 : Addr} {fd6 : FuncData} (G6 : FnG P w K mg base 6 f6 fd6 ["_law_thing", "_law_more"] spPairsR) (g6 : mg "_law_pairs_right" = some (.ref f6)) (k6 : PySem.W.keepIn K (.ref f6) = true) (b6 : Binds K fd6 ["_law_thing", "_law_more"] []) : FnG P w K mg base 7 f fd ["_law_script"] (spLaw K) := by
  obtain ⟨f1, fd1, G1, g1, k1, b1⟩ := D1.ex
  obtain ⟨f2, fd2, G2, g2, k2, b2⟩ := D2.ex
  obtain ⟨f3, fd3, G3, g3, k3, b3⟩ := D3.ex
  obtain ⟨f4, fd4, G4, g4, k4, b4⟩ := D4.ex
  obtain ⟨f5, fd5, G5, g5, k5, b5⟩ := D5.ex
  refine fng_of F scLaw (fun vs H Q E h => ?_) (fun cdv A outer s H vs Q E hr gd h => ?_)
  · obtain ⟨a, ns, rfl, _⟩ := h
    rfl
  · obtain ⟨a, ns, rfl, hS, hlen, kk⟩ := h
    have hr1 : Room 1 _ := hr.mono (by decide)
    have hr3 : Room 3 _ := hr.mono (by decide)
    have un : (cxOf CX0 P w K mg base nLaw "law" (defScope sLaw) f cdv A outer s H E).nox.A.units + 64 < cLine := Room.units hr
    obtain ⟨tE, hE, qE⟩ : ∃ t : TS, PSs (cxOf CX0 P w K mg base nLaw "law" (defScope sLaw) f cdv A outer s H E).nox ((defBody sLaw).drop 2) t ∧ ∀ (D : Ends) (σ : L2.St) (G : Hp), (∀ G', D.rt (.bl true) G') → t D σ G := by
      refine ⟨_, pss_one (ps_ret (pe_and (pe_cmpR (op_eqD un) (pe_call G3 hr1 (by rfl) g3 k3 b3 .nil pass0 (pa_cons (pe_newX0 PySem.F.excBase_ValueError q16 N.n16 k16 (by rfl)) pa_nil)) (pe_lst (pa_cons pe_str pa_nil)) (nomark _))
        (pe_one (pe_cmpR (op_eqD un) (pe_call G3 hr1 (by rfl) g3 k3 b3 .nil pass0 (pa_cons (pe_newX0 PySem.F.excBase_ValueError qF N.nF kF (by rfl)) pa_nil)) (pe_lst pa_nil) (nomark _))))), ?_⟩
      intro D σ G fin
      refine fun x1 n1 => ⟨x1, some 16, none, rfl, (by decide : 16 < 18), upd_same, fun l1 H1 s1 e1 => ⟨(by show 1 ≤ sizeLine; decide), fun l2 n2 => ?_⟩⟩
      have e1 : H1 l1 = some (.lst [.str "nothing"]) := e1
      refine ⟨.list [.str "nothing"], .list [.str "nothing"], .lst (SqL.of (same_new n2 _ _ e1)) (.cons (.str _) .nil), .lst (SqL.of upd_same) (.cons (.str _) .nil), by decide +kernel, by decide +kernel, ?_⟩
      rw [show PyData.eqv (.list [.str "nothing"]) (.list [.str "nothing"]) = true by decide +kernel]
      refine ⟨_, rfl, iteT fun x2 n3 => ⟨x2, none, none, rfl, trivial, upd_same, fun l3 H3 s3 e3 => ⟨(by show 0 ≤ sizeLine; decide), fun l4 n4 => ?_⟩⟩⟩
      have e3 : H3 l3 = some (.lst []) := e3
      refine ⟨.list [], .list [], .lst (SqL.of (same_new n4 _ _ e3)) .nil, .lst (SqL.of upd_same) .nil, by decide +kernel, by decide +kernel, ?_⟩
      rw [show PyData.eqv (.list []) (.list []) = true by decide +kernel]
      exact fin _
    refine ⟨_, pss_cons (ps_set (i := 1) scLaw.nd rfl (.inl rfl) (pe_call G1 hr1 (by rfl) g1 k1 b1 .nil pass0 (pa_cons (pv 0) pa_nil)))
      (pss_cons (ps_for PassesOwn.never rfl (pi_range1 rfl T.range (pa_cons pe_int pa_nil)) (pg_name (i := 2) scLaw.nd rfl (.inl rfl))
        (pss_cons (ps_par (i := 3) (j := 4) rfl scLaw.nd rfl rfl (by decide) rfl rfl (pa_cons (pe_call G2 hr3 (by rfl) g2 k2 b2 .nil pass0 (pa_cons (pv 1) pa_nil)) (pa_cons (pe_call G2 hr3 (by rfl) g2 k2 b2 .nil pass0 (pa_cons (pv 1) pa_nil)) pa_nil)) (by rfl))
        (pss_cons (ps_for PassesOwn.never rfl (pi_list (pe_op op_cat (pe_call G4 hr (by rfl) g4 k4 b4 .nil pass0 (pa_cons (pv 3) pa_nil)) (pe_call G5 hr (by rfl) g5 k5 b5 .nil pass0 (pa_cons (pv 3) pa_nil))))
            (pg_tup (by rfl) (pgs_cons (pg_name (i := 5) scLaw.nd rfl (.inl rfl)) (pgs_cons (pg_name (i := 6) scLaw.nd rfl (.inl rfl)) (pgs_cons (pg_name (i := 7) scLaw.nd rfl (.inl rfl)) pgs_nil))))
          (pss_one (ps_if (PW.pt (pw_or (pt_cmpR op_ne (pe_callB (call_reprI gd un) (by rfl) T.repr (by decide +kernel) (pa_cons (pv 7) pa_nil)) (pe_callB (call_reprI gd un) (by rfl) T.repr (by decide +kernel) (pa_cons (pv 3) pa_nil)) (nomark _))
            (pw_or (pt_cmpR (op_neD un) (pe_call G3 hr1 (by rfl) g3 k3 b3 .nil pass0 (pa_cons (pv 5) pa_nil)) (pe_lst (pa_cons (pv 6) pa_nil)) (nomark _))
            (pw_or1 (pt_not (pt_val (pe_callB call_isErr (by rfl) T.isi (by decide +kernel) (pa_cons (pv 5) (pa_cons (pe_bltn (v := .ty "ValueError") (by rfl) mv (by decide +kernel) rfl) pa_nil))))))))) (pss_one (ps_ret pe_bl)) pss_nil)))
        (pss_one (ps_if (pt_not (pt_val (pe_callG (E := E0) G6 hr gd (by rfl) g6 k6 b6 (pa_cons (pv 3) (pa_cons (pv 4) pa_nil))))) (pss_one (ps_ret pe_bl)) pss_nil))))) hE), ?_⟩
    refine ⟨_, rfl, a, ns, rfl, hS, hlen, fun p L H1 np s1 pn0 => ?_⟩
    refine ⟨6, rfl, by decide, by decide, for_range (n := 6) (fun i σ H2 => (∃ v2 v3 v4 v5 v6 v7 : Option V, σ = [some (.ref a), some (.ref p), v2, v3, v4, v5, v6, v7]) ∧ Pen L H2 p (10 * (i : Int))) ⟨⟨none, none, none, none, none, none, rfl⟩, pn0.mono (by decide)⟩ ?_ ?_⟩
    · rintro i σ H2 hi ⟨⟨v2, v3, v4, v5, v6, v7, rfl⟩, pn⟩
      refine ⟨_, rfl, p, L, _, rfl, by omega, pn, fun v d H3 lv gdv t3 p3 => ?_⟩
      refine ⟨_, rfl, p, L, _, rfl, by omega, p3, fun u e H4 lu gdu t4 p4 => ⟨_, _, rfl, ?_⟩⟩
      obtain ⟨xs, hx, hx1⟩ := pen_lst p3
      have lv4 := LV.but lv hx hx1 t4
      refine ⟨_, rfl, v, d, rfl, lv4, fun l1 H5 s5 tr1 => ⟨_, rfl, v, d, rfl, lv4.keep s5, fun l2 H6 s6 tr2 => ?_⟩⟩
      refine cat_trip (tr1.keep s6) tr2 (by decide) fun l H7 nl s7 ⟨ws, el, en, bs⟩ => ?_
      have s47 := s5.trans (s6.trans s7)
      have bs7 : ∀ t ∈ ws, Trip cl d H7 t := fun t m => (bs t m).keep s7
      have lv7 := lv4.keep s47
      have lu7 := lu.keep s47
      have p7 := p4.keep s47
      clear bs nl s7 s6 s5 tr1 tr2 s47 lv4 lu lv t4 t3
      refine ⟨l, rfl, ⟨_, SqL.of el⟩, ?_⟩
      refine for_it (n := (ws.map V.ref).length) (walk_list (K := K) (a := l) (xs := ws.map V.ref)) (fun j σ H' => (∃ v2 v5 v6 v7 : Option V, σ = [some (.ref a), some (.ref p), v2, some v, some u, v5, v6, v7]) ∧ Same H7 H')
        ⟨⟨_, v5, v6, v7, rfl⟩, Same.refl _⟩ (fun _ σ H' _ h => SqL.of (h.2 _ _ el)) ?_ ?_
      · rintro j y σ Ga Gb hj ⟨⟨v2, v5, v6, v7, rfl⟩, sa⟩ ⟨rfl, hy⟩
        rw [List.getElem?_map] at hy
        obtain ⟨t, ht, rfl⟩ := Option.map_eq_some_iff.mp hy
        obtain ⟨x, k, n, z, hk, et, ex, lz⟩ := (bs7 t (List.mem_of_getElem? ht)).keep sa
        have lva := lv7.keep sa
        refine ⟨t, _, rfl, SqT.of et, rfl, _, _, rfl, _, _, rfl, _, _, rfl, rfl, ?_⟩
        refine ⟨_, rfl, z, d, rfl, gdv.show.1, gdv.show.2.1, gdv.show.2.2, .inl lz.vi, _, rfl, v, d, rfl, gdv.show.1, gdv.show.2.1, gdv.show.2.2, .inl lva.vi, rfl, _, rfl, ite2 (fun e => absurd e (by simp)) (fun _ => ?_)⟩
        refine ⟨_, rfl, x, some k, _, rfl, hk, ex, fun l3 H8 s8 e8 => ⟨_, rfl, (by show 1 ≤ sizeLine; decide), fun l4 n4 => ?_⟩⟩
        have e8 : H8 l3 = some (.lst [.str (sg k)]) := by
          rw [e8]
          show some (HO.lst ((if k < 18 then [sg k] else []).map V.str)) = _
          rw [if_pos hk]
          rfl
        have s9 := s8.trans (same_new (o := .lst [.str (sg k)]) n4)
        refine ⟨.list [.str (sg k)], .list [.str (sg k)], .lst (SqL.of (same_new n4 _ _ e8)) (.cons (.str _) .nil), .lst (SqL.of upd_same) (.cons (.str _) .nil), sg_sh hk, sg_sh hk, ?_⟩
        rw [show PyData.eqv (.list [.str (sg k)]) (.list [.str (sg k)]) = true by simp [PyData.eqv, PyData.eqvAll]]
        refine ⟨_, rfl, iteF ?_⟩
        have ex9 := ex.keep s9
        refine ⟨_, rfl, x, _, _, _, _, true, rfl, ex9, c.held k hk, .ty _, c.k5 k hk, _, rfl, iteF ?_⟩
        exact ⟨⟨_, _, _, _, rfl⟩, sa.trans s9⟩
      · rintro σ Ga ⟨⟨v2, v5, v6, v7, rfl⟩, sa⟩
        refine ⟨_, rfl, _, rfl, v, u, d, e, rfl, lv7.keep sa, lu7.keep sa, gdv, gdu, fun H8 s8 => ⟨true, rfl, iteF ?_⟩⟩
        exact ⟨⟨_, _, _, _, _, _, rfl⟩, ((p7.keep sa).keep s8).mono (by omega)⟩
    · rintro σ H2 ⟨⟨v2, v3, v4, v5, v6, v7, rfl⟩, pn⟩
      exact qE _ _ H2 fun G' => kk G'
end
end Ev
namespace Ev
open PySem L2 PySem.Spec PyProof.Rows
def clA (cs : List Addr) (i : Nat) : Addr := cs.getD i 0
/-- what the written part says of one class of errors -/
def oneC (K : PySem.W.Frag) (C : Addr) : Bool := PySem.W.isClsIn K C && (PySem.W.typeIn K (.ref C) == some (.type "type")) && (PySem.W.findIn K (.ref C) "__getattribute__" == some (some (.builtin "BaseException.__getattribute__"))) && (PySem.W.findIn K (.ref C) "__getattr__" == some none) &&
  (PySem.W.subIn K (.ref C) (.type "BaseException") == some true) && PySem.W.hasDictIn K C && (PySem.W.findIn K (.ref C) "__class__" == some (some (.builtin "object.__class__"))) && (PySem.W.mroIn K C (.type "object") == some true)
def tabC (K : PySem.W.Frag) (cs : List Addr) (FE : Addr) : Bool := oneC K FE && (PySem.W.subIn K (.ref FE) (.ref FE) == some true) && (List.range 18).all fun i => oneC K (clA cs i) && (PySem.W.subIn K (.ref (clA cs i)) (.ref FE) == some true) && (PySem.W.subIn K (.ref FE) (.ref (clA cs i)) == some false) &&
  (PySem.W.subIn K (.ref (clA cs i)) (.type "ValueError") == some true) && (List.range 18).all fun j => PySem.W.subIn K (.ref (clA cs i)) (.ref (clA cs j)) == some (decide (i = j))
theorem tab_row {K : PySem.W.Frag} {cs : List Addr} {FE : Addr} (t : tabC K cs FE = true) {i : Nat} (h : i < 18) : oneC K (clA cs i) = true ∧ PySem.W.subIn K (.ref (clA cs i)) (.ref FE) = some true ∧ PySem.W.subIn K (.ref FE) (.ref (clA cs i)) = some false ∧
    PySem.W.subIn K (.ref (clA cs i)) (.type "ValueError") = some true ∧ ∀ j, j < 18 → PySem.W.subIn K (.ref (clA cs i)) (.ref (clA cs j)) = some (decide (i = j)) := by
  unfold tabC at t
  simp only [Bool.and_eq_true, List.all_eq_true, beq_iff_eq] at t
  obtain ⟨_, t⟩ := t
  obtain ⟨⟨⟨⟨a, b⟩, c⟩, d⟩, e⟩ := t i (List.mem_range.mpr h)
  exact ⟨a, b, c, d, fun j hj => e j (List.mem_range.mpr hj)⟩
theorem tab_fe {K : PySem.W.Frag} {cs : List Addr} {FE : Addr} (t : tabC K cs FE = true) : oneC K FE = true ∧ PySem.W.subIn K (.ref FE) (.ref FE) = some true := by
  unfold tabC at t
  simp only [Bool.and_eq_true, beq_iff_eq] at t
  exact t.1
theorem one_row {K : PySem.W.Frag} {C : Addr} (t : oneC K C = true) (n : PySem.W.specialIn K (.builtin "object.__class__") "__get__" = some (some (.builtin "getset_descriptor.__get__"))) (k : PySem.W.takesIn K (.builtin "object.__class__") = some true) :
    HeldC K C ∧ PySem.W.isClsIn K C = true ∧ PySem.W.typeIn K (.ref C) = some (.type "type") := by
  unfold oneC at t
  simp only [Bool.and_eq_true, beq_iff_eq] at t
  obtain ⟨⟨⟨⟨⟨⟨⟨a, b⟩, c⟩, d⟩, e⟩, f⟩, g⟩, h⟩ := t
  exact ⟨⟨a, c, d, e, f, g, n, k, h⟩, a, b⟩
theorem one_ex {K : PySem.W.Frag} {C : Addr} (t : oneC K C = true) : PySem.W.subIn K (.ref C) (.type "BaseException") = some true ∧ PySem.W.typeIn K (.ref C) = some (.type "type") := by
  unfold oneC at t
  simp only [Bool.and_eq_true, beq_iff_eq] at t
  obtain ⟨⟨⟨⟨⟨⟨⟨a, b⟩, c⟩, d⟩, e⟩, f⟩, g⟩, h⟩ := t
  exact ⟨e, b⟩
theorem tab_ex {K : PySem.W.Frag} {cs : List Addr} {FE : Addr} (t : tabC K cs FE = true) {i : Nat} (h : i < 18) : PySem.W.subIn K (.ref (clA cs i)) (.type "BaseException") = some true := (one_ex (tab_row t h).1).1
theorem tab_ty {K : PySem.W.Frag} {cs : List Addr} {FE : Addr} (t : tabC K cs FE = true) {i : Nat} (h : i < 18) : PySem.W.typeIn K (.ref (clA cs i)) = some (.type "type") := (one_ex (tab_row t h).1).2
theorem kit_bty {K : PySem.W.Frag} {t : Value} (h : PySem.W.subIn K t (.type "ValueError") = some true) : PySem.W.kitOne K t (.type "ValueError") = some true := by
  unfold PySem.W.kitOne
  split
  · rfl
  · unfold PySem.W.kitCls
    simp only
    rw [if_pos (by decide +kernel)]
    exact h
theorem kit_clsB {K : PySem.W.Frag} {t : Value} {C : Addr} {b : Bool} (h1 : PySem.W.isClsIn K C = true) (h2 : PySem.W.typeIn K (.ref C) = some (.type "type")) (h3 : PySem.W.subIn K t (.ref C) = some b) : PySem.W.kitCls K t (.ref C) = some b := by
  have h1 : (PySem.W.clsIn K C).isSome = true := h1
  unfold PySem.W.kitCls
  simp only [h1, h2, h3]
  cases b <;> decide
theorem kit_own {K : PySem.W.Frag} {t : Value} {C : Addr} (h1 : PySem.W.isClsIn K C = true) (h2 : PySem.W.typeIn K (.ref C) = some (.type "type")) (h3 : PySem.W.subIn K t (.ref C) = some true) : PySem.W.kitOne K t (.ref C) = some true := by
  unfold PySem.W.kitOne
  split
  · rfl
  · exact kit_clsB h1 h2 h3
theorem kit_not {K : PySem.W.Frag} {D C : Addr} (h1 : PySem.W.isClsIn K C = true) (h2 : PySem.W.typeIn K (.ref C) = some (.type "type")) (h3 : PySem.W.subIn K (.ref D) (.ref C) = some false) (h4 : PySem.W.subIn K (.ref C) (.ref C) = some true) : PySem.W.kitOne K (.ref D) (.ref C) = some false := by
  unfold PySem.W.kitOne
  split
  · rename_i z
    by_cases e : D = C
    · rw [e, h4] at h3
      cases h3
    · have n : ((Value.ref D) == (Value.ref C)) = false := by simp [e]
      rw [n] at z
      cases z
  · exact kit_clsB h1 h2 h3
theorem cls_tab {K : PySem.W.Frag} {cs : List Addr} {FE : Addr} (n : PySem.W.specialIn K (.builtin "object.__class__") "__get__" = some (some (.builtin "getset_descriptor.__get__"))) (k : PySem.W.takesIn K (.builtin "object.__class__") = some true) (t : tabC K cs FE = true) : Cls18 K (clA cs) FE := by
  obtain ⟨f1, f2⟩ := tab_fe t
  obtain ⟨f3, f4, f5⟩ := one_row f1 n k
  refine ⟨fun i h => (one_row (tab_row t h).1 n k).1, f3, fun i j hi hj => ?_, fun j h => ?_, fun i h => ?_, kit_own f4 f5 f2, fun i h => kit_bty (tab_row t h).2.2.2.1⟩
  · obtain ⟨_, g1, g2⟩ := one_row (tab_row t hj).1 n k
    have e := (tab_row t hi).2.2.2.2 j hj
    have ej := (tab_row t hj).2.2.2.2 j hj
    by_cases z : i = j
    · rw [decide_eq_true z] at e ⊢
      exact kit_own g1 g2 e
    · rw [decide_eq_false z] at e ⊢
      rw [decide_eq_true rfl] at ej
      exact kit_not g1 g2 e ej
  · obtain ⟨_, g1, g2⟩ := one_row (tab_row t h).1 n k
    have ej := (tab_row t h).2.2.2.2 j h
    rw [decide_eq_true rfl] at ej
    exact kit_not g1 g2 (tab_row t h).2.2.1 ej
  · exact kit_own f4 f5 (tab_row t h).2.1
theorem kb_one {K : PySem.W.Frag} {x qual n : Str} {st : Stmt} {f : Addr} {fd : FuncData} (F : Fun K x qual st f fd)
    (h : ∀ (kV doc pm : Value) (an : Option Addr) (cdv ct a b : Value), bindArgs (PySem.W.fnOf x qual (defArgs st) (defBody st) (defScope st) .none kV doc pm an cdv ct) ⟨[a], [(n, b)]⟩ = pure [(("self" : Str), a), (n, b)]) : KBn K fd ["self", n] 1 [n] (fun us ws => us ++ ws) (fun vs zs => vs ++ zs) := by
  obtain ⟨oc, od, kV, doc, pm, an, cdv, ct, osl, rfl, lk, hcd⟩ := F.ex
  refine ⟨fun s us ws _ l1 l2 => ?_, fun r1 r2 => r1.append r2⟩
  match us, ws, l1, l2 with
  | [a], [b], _, _ => exact .of_eq (h _ _ _ _ _ _ _ _)
theorem kb_two {K : PySem.W.Frag} {x qual n m : Str} {st : Stmt} {f : Addr} {fd : FuncData} (F : Fun K x qual st f fd)
    (h : ∀ (kV doc pm : Value) (an : Option Addr) (cdv ct a b c : Value), bindArgs (PySem.W.fnOf x qual (defArgs st) (defBody st) (defScope st) .none kV doc pm an cdv ct) ⟨[a], [(m, b), (n, c)]⟩ = pure [(("self" : Str), a), (n, c), (m, b)]) : KBn K fd ["self", n, m] 1 [m, n] (fun us ws => us ++ ws.reverse) (fun vs zs => vs ++ zs.reverse) := by
  obtain ⟨oc, od, kV, doc, pm, an, cdv, ct, osl, rfl, lk, hcd⟩ := F.ex
  refine ⟨fun s us ws _ l1 l2 => ?_, fun r1 r2 => r1.append r2.reverse⟩
  match us, ws, l1, l2 with
  | [a], [b, c], _, _ => exact .of_eq (h _ _ _ _ _ _ _ _ _)
set_option maxHeartbeats 4000000 in
theorem all_mk {l : PySem.W.OpenLaw} {w : World} {K : PySem.W.Frag} {h : Heap} {mg : Str → Option Value} {f0 f1 f95 f96 f2 f3 f4 f5 f6 f7 f8 f9 f10 f11 C0 C1 C2 C3 C4 C5 C6 C7 C8 C9 C10 C11 C12 C13 C14 C15 C16 C17 FE f40 f41 f42 f43 f44 f45 f46 f47 f48 f49 f50 f51 f52 f53 f54 f55 f57 fa : Addr} {od0 an0 od1 od95 od96 an1 an95 an96 od2 an2 od3 an3 od4 an4 od5 an5 od6 an6 od7 an7 od8 an8 od9 an9 od10 an10 od11 an11 od40 an40 od41 an41 od42 an42 od43 an43 od44 an44 od45 an45 od46 an46 od47 an47 od48 an48 od49 an49 od50 an50 od51 an51 od52 an52 od53 an53 od54 an54 od55 an55 od57 an57 : Option Addr} {sl0 sl1 sl95 sl96 sl2 sl3 sl4 sl5 sl6 sl7 sl8 sl9 sl10 sl11 sl40 sl41 sl42 sl43 sl44 sl45 sl46 sl47 sl48 sl49 sl50 sl51 sl52 sl53 sl54 sl55 sl57 : Array (Option Value)} {oc0 kV0 dc0 pm0 cd0 ct0 oc1 oc95 oc96 kV1 kV95 kV96 dc1 dc95 dc96 pm1 pm95 pm96 cd1 cd95 cd96 ct1 ct95 ct96 oc2 kV2 dc2 pm2 cd2 ct2 oc3 kV3 dc3 pm3 cd3 ct3 oc4 kV4 dc4 pm4 cd4 ct4 oc5 kV5 dc5 pm5 cd5 ct5 oc6 kV6 dc6 pm6 cd6 ct6 oc7 kV7 dc7 pm7 cd7 ct7 oc8 kV8 dc8 pm8 cd8 ct8 oc9 kV9 dc9 pm9 cd9 ct9 oc10 kV10 dc10 pm10 cd10 ct10 oc11 kV11 dc11 pm11 cd11 ct11 oc40 kV40 dc40 pm40 cd40 ct40 oc41 kV41 dc41 pm41 cd41 ct41 oc42 kV42 dc42 pm42 cd42 ct42 oc43 kV43 dc43 pm43 cd43 ct43 oc44 kV44 dc44 pm44 cd44 ct44 oc45 kV45 dc45 pm45 cd45 ct45 oc46 kV46 dc46 pm46 cd46 ct46 oc47 kV47 dc47 pm47 cd47 ct47 oc48 kV48 dc48 pm48 cd48 ct48 oc49 kV49 dc49 pm49 cd49 ct49 oc50 kV50 dc50 pm50 cd50 ct50 oc51 kV51 dc51 pm51 cd51 ct51 oc52 kV52 dc52 pm52 cd52 ct52 oc53 kV53 dc53 pm53 cd53 ct53 oc54 kV54 dc54 pm54 cd54 ct54 oc55 kV55 dc55 pm55 cd55 ct55 oc57 kV57 dc57 pm57 cd57 ct57 : Value} {nmx0 qx0 nsx0 bsx0 bmx0 snx0 subx0 abx0 colx0 ddx0 k0x0 k1x0 k2x0 k3x0 k5x0 nmx1 qx1 nsx1 bsx1 bmx1 snx1 subx1 abx1 colx1 ddx1 k0x1 k1x1 k2x1 k3x1 k5x1 nmx2 qx2 nsx2 bsx2 bmx2 snx2 subx2 abx2 colx2 ddx2 k0x2 k1x2 k2x2 k3x2 k5x2 nmx3 qx3 nsx3 bsx3 bmx3 snx3 subx3 abx3 colx3 ddx3 k0x3 k1x3 k2x3 k3x3 k5x3 nmx4 qx4 nsx4 bsx4 bmx4 snx4 subx4 abx4 colx4 ddx4 k0x4 k1x4 k2x4 k3x4 k5x4 nmx5 qx5 nsx5 bsx5 bmx5 snx5 subx5 abx5 colx5 ddx5 k0x5 k1x5 k2x5 k3x5 k5x5 nmx6 qx6 nsx6 bsx6 bmx6 snx6 subx6 abx6 colx6 ddx6 k0x6 k1x6 k2x6 k3x6 k5x6 nmx7 qx7 nsx7 bsx7 bmx7 snx7 subx7 abx7 colx7 ddx7 k0x7 k1x7 k2x7 k3x7 k5x7 nmx8 qx8 nsx8 bsx8 bmx8 snx8 subx8 abx8 colx8 ddx8 k0x8 k1x8 k2x8 k3x8 k5x8 nmx9 qx9 nsx9 bsx9 bmx9 snx9 subx9 abx9 colx9 ddx9 k0x9 k1x9 k2x9 k3x9 k5x9 nmx10 qx10 nsx10 bsx10 bmx10 snx10 subx10 abx10 colx10 ddx10 k0x10 k1x10 k2x10 k3x10 k5x10 nmx11 qx11 nsx11 bsx11 bmx11 snx11 subx11 abx11 colx11 ddx11 k0x11 k1x11 k2x11 k3x11 k5x11 nmx12 qx12 nsx12 bsx12 bmx12 snx12 subx12 abx12 colx12 ddx12 k0x12 k1x12 k2x12 k3x12 k5x12 nmx13 qx13 nsx13 bsx13 bmx13 snx13 subx13 abx13 colx13 ddx13 k0x13 k1x13 k2x13 k3x13 k5x13 nmx14 qx14 nsx14 bsx14 bmx14 snx14 subx14 abx14 colx14 ddx14 k0x14 k1x14 k2x14 k3x14 k5x14 nmx15 qx15 nsx15 bsx15 bmx15 snx15 subx15 abx15 colx15 ddx15 k0x15 k1x15 k2x15 k3x15 k5x15 nmx17 qx17 nsx17 bsx17 bmx17 snx17 subx17 abx17 colx17 ddx17 k0x17 k1x17 k2x17 k3x17 k5x17 : _} (X : K.In h) (G : h.Ns mainGlobals mg) (hfa : mg "law" = some (.ref fa))
    (a0 : PySem.W.nsIn K mainGlobals "kept" = some (some (.ref f0)))
    (l0 : K.lookup f0 = some ⟨oc0, od0, .func (PySem.W.fnOf "kept" "kept" (defArgs sKept) (defBody sKept) (defScope sKept) .none kV0 dc0 pm0 an0 cd0 ct0), sl0⟩)
    (c0 : PySem.W.codeIn K cd0 "kept" = true)
    (k0 : PySem.W.keepIn K (.ref f0) = true)
    (a1 : PySem.W.nsIn K mainGlobals "parts_of" = some (some (.ref f1)))
    (l1 : K.lookup f1 = some ⟨oc1, od1, .func (PySem.W.fnOf "parts_of" "parts_of" (defArgs sParts) (defBody sParts) (defScope sParts) .none kV1 dc1 pm1 an1 cd1 ct1), sl1⟩)
    (c1 : PySem.W.codeIn K cd1 "parts_of" = true)
    (k1 : PySem.W.keepIn K (.ref f1) = true)
    (a95 : PySem.W.nsIn K mainGlobals "is_flat" = some (some (.ref f95)))
    (l95 : K.lookup f95 = some ⟨oc95, od95, .func (PySem.W.fnOf "is_flat" "is_flat" (defArgs sFlat) (defBody sFlat) (defScope sFlat) .none kV95 dc95 pm95 an95 cd95 ct95), sl95⟩)
    (c95 : PySem.W.codeIn K cd95 "is_flat" = true)
    (k95 : PySem.W.keepIn K (.ref f95) = true)
    (a96 : PySem.W.nsIn K mainGlobals "copied_deep" = some (some (.ref f96)))
    (l96 : K.lookup f96 = some ⟨oc96, od96, .func (PySem.W.fnOf "copied_deep" "copied_deep" (defArgs sCopied) (defBody sCopied) (defScope sCopied) .none kV96 dc96 pm96 an96 cd96 ct96), sl96⟩)
    (c96 : PySem.W.codeIn K cd96 "copied_deep" = true)
    (k96 : PySem.W.keepIn K (.ref f96) = true)
    (a2 : PySem.W.nsIn K mainGlobals "rebuilt" = some (some (.ref f2)))
    (l2 : K.lookup f2 = some ⟨oc2, od2, .func (PySem.W.fnOf "rebuilt" "rebuilt" (defArgs sRebuilt) (defBody sRebuilt) (defScope sRebuilt) .none kV2 dc2 pm2 an2 cd2 ct2), sl2⟩)
    (c2 : PySem.W.codeIn K cd2 "rebuilt" = true)
    (k2 : PySem.W.keepIn K (.ref f2) = true)
    (a3 : PySem.W.nsIn K mainGlobals "_law_pen" = some (some (.ref f3)))
    (l3 : K.lookup f3 = some ⟨oc3, od3, .func (PySem.W.fnOf "_law_pen" "_law_pen" (defArgs sPen) (defBody sPen) (defScope sPen) .none kV3 dc3 pm3 an3 cd3 ct3), sl3⟩)
    (c3 : PySem.W.codeIn K cd3 "_law_pen" = true)
    (k3 : PySem.W.keepIn K (.ref f3) = true)
    (a4 : PySem.W.nsIn K mainGlobals "_law_draw" = some (some (.ref f4)))
    (l4 : K.lookup f4 = some ⟨oc4, od4, .func (PySem.W.fnOf "_law_draw" "_law_draw" (defArgs sDraw) (defBody sDraw) (defScope sDraw) .none kV4 dc4 pm4 an4 cd4 ct4), sl4⟩)
    (c4 : PySem.W.codeIn K cd4 "_law_draw" = true)
    (k4 : PySem.W.keepIn K (.ref f4) = true)
    (a5 : PySem.W.nsIn K mainGlobals "_law_pick" = some (some (.ref f5)))
    (l5 : K.lookup f5 = some ⟨oc5, od5, .func (PySem.W.fnOf "_law_pick" "_law_pick" (defArgs sPick) (defBody sPick) (defScope sPick) .none kV5 dc5 pm5 an5 cd5 ct5), sl5⟩)
    (c5 : PySem.W.codeIn K cd5 "_law_pick" = true)
    (k5 : PySem.W.keepIn K (.ref f5) = true)
    (a6 : PySem.W.nsIn K mainGlobals "_law_value" = some (some (.ref f6)))
    (l6 : K.lookup f6 = some ⟨oc6, od6, .func (PySem.W.fnOf "_law_value" "_law_value" (defArgs sValue) (defBody sValue) (defScope sValue) .none kV6 dc6 pm6 an6 cd6 ct6), sl6⟩)
    (c6 : PySem.W.codeIn K cd6 "_law_value" = true)
    (k6 : PySem.W.keepIn K (.ref f6) = true)
    (a7 : PySem.W.nsIn K mainGlobals "_law_signs" = some (some (.ref f7)))
    (l7 : K.lookup f7 = some ⟨oc7, od7, .func (PySem.W.fnOf "_law_signs" "_law_signs" (defArgs sSigns) (defBody sSigns) (defScope sSigns) .none kV7 dc7 pm7 an7 cd7 ct7), sl7⟩)
    (c7 : PySem.W.codeIn K cd7 "_law_signs" = true)
    (k7 : PySem.W.keepIn K (.ref f7) = true)
    (a8 : PySem.W.nsIn K mainGlobals "_law_placed" = some (some (.ref f8)))
    (l8 : K.lookup f8 = some ⟨oc8, od8, .func (PySem.W.fnOf "_law_placed" "_law_placed" (defArgs sPlaced) (defBody sPlaced) (defScope sPlaced) .none kV8 dc8 pm8 an8 cd8 ct8), sl8⟩)
    (c8 : PySem.W.codeIn K cd8 "_law_placed" = true)
    (k8 : PySem.W.keepIn K (.ref f8) = true)
    (a9 : PySem.W.nsIn K mainGlobals "_law_named" = some (some (.ref f9)))
    (l9 : K.lookup f9 = some ⟨oc9, od9, .func (PySem.W.fnOf "_law_named" "_law_named" (defArgs sNamed) (defBody sNamed) (defScope sNamed) .none kV9 dc9 pm9 an9 cd9 ct9), sl9⟩)
    (c9 : PySem.W.codeIn K cd9 "_law_named" = true)
    (k9 : PySem.W.keepIn K (.ref f9) = true)
    (a10 : PySem.W.nsIn K mainGlobals "_law_pairs_right" = some (some (.ref f10)))
    (l10 : K.lookup f10 = some ⟨oc10, od10, .func (PySem.W.fnOf "_law_pairs_right" "_law_pairs_right" (defArgs sPairs) (defBody sPairs) (defScope sPairs) .none kV10 dc10 pm10 an10 cd10 ct10), sl10⟩)
    (c10 : PySem.W.codeIn K cd10 "_law_pairs_right" = true)
    (k10 : PySem.W.keepIn K (.ref f10) = true)
    (a11 : PySem.W.nsIn K mainGlobals "law" = some (some (.ref f11)))
    (l11 : K.lookup f11 = some ⟨oc11, od11, .func (PySem.W.fnOf "law" "law" (defArgs sLaw) (defBody sLaw) (defScope sLaw) .none kV11 dc11 pm11 an11 cd11 ct11), sl11⟩)
    (c11 : PySem.W.codeIn K cd11 "law" = true)
    (k11 : PySem.W.keepIn K (.ref f11) = true)
    (aC0 : PySem.W.nsIn K mainGlobals "BadRule" = some (some (.ref C0)))
    (aC1 : PySem.W.nsIn K mainGlobals "NoHalves" = some (some (.ref C1)))
    (aC2 : PySem.W.nsIn K mainGlobals "BadNumber" = some (some (.ref C2)))
    (aC3 : PySem.W.nsIn K mainGlobals "BadTest" = some (some (.ref C3)))
    (aC4 : PySem.W.nsIn K mainGlobals "BadKey" = some (some (.ref C4)))
    (aC5 : PySem.W.nsIn K mainGlobals "NoKey" = some (some (.ref C5)))
    (aC6 : PySem.W.nsIn K mainGlobals "Taken" = some (some (.ref C6)))
    (aC7 : PySem.W.nsIn K mainGlobals "Overlap" = some (some (.ref C7)))
    (aC8 : PySem.W.nsIn K mainGlobals "Stuck" = some (some (.ref C8)))
    (aC9 : PySem.W.nsIn K mainGlobals "BadOther" = some (some (.ref C9)))
    (aC10 : PySem.W.nsIn K mainGlobals "BadDeeds" = some (some (.ref C10)))
    (aC11 : PySem.W.nsIn K mainGlobals "BadPages" = some (some (.ref C11)))
    (aC12 : PySem.W.nsIn K mainGlobals "BadText" = some (some (.ref C12)))
    (aC13 : PySem.W.nsIn K mainGlobals "BadCommand" = some (some (.ref C13)))
    (aC14 : PySem.W.nsIn K mainGlobals "BadName" = some (some (.ref C14)))
    (aC15 : PySem.W.nsIn K mainGlobals "NoName" = some (some (.ref C15)))
    (aC16 : PySem.W.nsIn K mainGlobals "Nothing" = some (some (.ref C16)))
    (aC17 : PySem.W.nsIn K mainGlobals "TooMany" = some (some (.ref C17)))
    (aFE : PySem.W.nsIn K mainGlobals "FairError" = some (some (.ref FE)))
    (tab : tabC K [C0, C1, C2, C3, C4, C5, C6, C7, C8, C9, C10, C11, C12, C13, C14, C15, C16, C17] FE = true)
    (ikn : PySem.W.specialIn K (.builtin "object.__class__") "__get__" = some (some (.builtin "getset_descriptor.__get__")))
    (ikt : PySem.W.takesIn K (.builtin "object.__class__") = some true)
    (sa0 : PySem.W.findIn K (.ref C0) "__setattr__" = some (some (.builtin "object.__setattr__")))
    (ke0 : PySem.W.keepIn K (.ref C0) = true)
    (no0_0 : PySem.W.findIn K (.ref C0) "part" = some none)
    (lx0 : K.lookup C0 = some (excClassObj nmx0 qx0 C0 nsx0 bsx0 bmx0 true snx0 subx0 abx0 colx0 ddx0 k0x0 k1x0 k2x0 k3x0 k5x0 "ValueError.__new__"))
    (rx0 : PySem.HandSPX.refsVE bmx0 = true)
    (m40 : PySem.W.findIn K (.ref C0) "__init__" = some (some (.ref f40)))
    (l40 : K.lookup f40 = some ⟨oc40, od40, .func (PySem.W.fnOf "__init__" "BadRule.__init__" (defArgs sEBadRule) (defBody sEBadRule) (defScope sEBadRule) .none kV40 dc40 pm40 an40 cd40 ct40), sl40⟩)
    (c40 : PySem.W.codeIn K cd40 "BadRule.__init__" = true)
    (k40 : PySem.W.keepIn K (.ref f40) = true)
    (ty40 : PySem.W.typeIn K (.ref f40) = some (.type "function"))
    (sa1 : PySem.W.findIn K (.ref C1) "__setattr__" = some (some (.builtin "object.__setattr__")))
    (ke1 : PySem.W.keepIn K (.ref C1) = true)
    (no1_0 : PySem.W.findIn K (.ref C1) "weight" = some none)
    (lx1 : K.lookup C1 = some (excClassObj nmx1 qx1 C1 nsx1 bsx1 bmx1 true snx1 subx1 abx1 colx1 ddx1 k0x1 k1x1 k2x1 k3x1 k5x1 "ValueError.__new__"))
    (rx1 : PySem.HandSPX.refsVE bmx1 = true)
    (m41 : PySem.W.findIn K (.ref C1) "__init__" = some (some (.ref f41)))
    (l41 : K.lookup f41 = some ⟨oc41, od41, .func (PySem.W.fnOf "__init__" "NoHalves.__init__" (defArgs sENoHalves) (defBody sENoHalves) (defScope sENoHalves) .none kV41 dc41 pm41 an41 cd41 ct41), sl41⟩)
    (c41 : PySem.W.codeIn K cd41 "NoHalves.__init__" = true)
    (k41 : PySem.W.keepIn K (.ref f41) = true)
    (ty41 : PySem.W.typeIn K (.ref f41) = some (.type "function"))
    (sa2 : PySem.W.findIn K (.ref C2) "__setattr__" = some (some (.builtin "object.__setattr__")))
    (ke2 : PySem.W.keepIn K (.ref C2) = true)
    (no2_0 : PySem.W.findIn K (.ref C2) "value" = some none)
    (lx2 : K.lookup C2 = some (excClassObj nmx2 qx2 C2 nsx2 bsx2 bmx2 true snx2 subx2 abx2 colx2 ddx2 k0x2 k1x2 k2x2 k3x2 k5x2 "ValueError.__new__"))
    (rx2 : PySem.HandSPX.refsVE bmx2 = true)
    (m42 : PySem.W.findIn K (.ref C2) "__init__" = some (some (.ref f42)))
    (l42 : K.lookup f42 = some ⟨oc42, od42, .func (PySem.W.fnOf "__init__" "BadNumber.__init__" (defArgs sEBadNumber) (defBody sEBadNumber) (defScope sEBadNumber) .none kV42 dc42 pm42 an42 cd42 ct42), sl42⟩)
    (c42 : PySem.W.codeIn K cd42 "BadNumber.__init__" = true)
    (k42 : PySem.W.keepIn K (.ref f42) = true)
    (ty42 : PySem.W.typeIn K (.ref f42) = some (.type "function"))
    (sa3 : PySem.W.findIn K (.ref C3) "__setattr__" = some (some (.builtin "object.__setattr__")))
    (ke3 : PySem.W.keepIn K (.ref C3) = true)
    (no3_0 : PySem.W.findIn K (.ref C3) "at" = some none)
    (lx3 : K.lookup C3 = some (excClassObj nmx3 qx3 C3 nsx3 bsx3 bmx3 true snx3 subx3 abx3 colx3 ddx3 k0x3 k1x3 k2x3 k3x3 k5x3 "ValueError.__new__"))
    (rx3 : PySem.HandSPX.refsVE bmx3 = true)
    (m43 : PySem.W.findIn K (.ref C3) "__init__" = some (some (.ref f43)))
    (l43 : K.lookup f43 = some ⟨oc43, od43, .func (PySem.W.fnOf "__init__" "BadTest.__init__" (defArgs sEBadTest) (defBody sEBadTest) (defScope sEBadTest) .none kV43 dc43 pm43 an43 cd43 ct43), sl43⟩)
    (c43 : PySem.W.codeIn K cd43 "BadTest.__init__" = true)
    (k43 : PySem.W.keepIn K (.ref f43) = true)
    (ty43 : PySem.W.typeIn K (.ref f43) = some (.type "function"))
    (sa4 : PySem.W.findIn K (.ref C4) "__setattr__" = some (some (.builtin "object.__setattr__")))
    (ke4 : PySem.W.keepIn K (.ref C4) = true)
    (no4_0 : PySem.W.findIn K (.ref C4) "value" = some none)
    (lx4 : K.lookup C4 = some (excClassObj nmx4 qx4 C4 nsx4 bsx4 bmx4 true snx4 subx4 abx4 colx4 ddx4 k0x4 k1x4 k2x4 k3x4 k5x4 "ValueError.__new__"))
    (rx4 : PySem.HandSPX.refsVE bmx4 = true)
    (m44 : PySem.W.findIn K (.ref C4) "__init__" = some (some (.ref f44)))
    (l44 : K.lookup f44 = some ⟨oc44, od44, .func (PySem.W.fnOf "__init__" "BadKey.__init__" (defArgs sEBadKey) (defBody sEBadKey) (defScope sEBadKey) .none kV44 dc44 pm44 an44 cd44 ct44), sl44⟩)
    (c44 : PySem.W.codeIn K cd44 "BadKey.__init__" = true)
    (k44 : PySem.W.keepIn K (.ref f44) = true)
    (ty44 : PySem.W.typeIn K (.ref f44) = some (.type "function"))
    (sa5 : PySem.W.findIn K (.ref C5) "__setattr__" = some (some (.builtin "object.__setattr__")))
    (ke5 : PySem.W.keepIn K (.ref C5) = true)
    (no5_0 : PySem.W.findIn K (.ref C5) "key" = some none)
    (lx5 : K.lookup C5 = some (excClassObj nmx5 qx5 C5 nsx5 bsx5 bmx5 true snx5 subx5 abx5 colx5 ddx5 k0x5 k1x5 k2x5 k3x5 k5x5 "ValueError.__new__"))
    (rx5 : PySem.HandSPX.refsVE bmx5 = true)
    (m45 : PySem.W.findIn K (.ref C5) "__init__" = some (some (.ref f45)))
    (l45 : K.lookup f45 = some ⟨oc45, od45, .func (PySem.W.fnOf "__init__" "NoKey.__init__" (defArgs sENoKey) (defBody sENoKey) (defScope sENoKey) .none kV45 dc45 pm45 an45 cd45 ct45), sl45⟩)
    (c45 : PySem.W.codeIn K cd45 "NoKey.__init__" = true)
    (k45 : PySem.W.keepIn K (.ref f45) = true)
    (ty45 : PySem.W.typeIn K (.ref f45) = some (.type "function"))
    (sa6 : PySem.W.findIn K (.ref C6) "__setattr__" = some (some (.builtin "object.__setattr__")))
    (ke6 : PySem.W.keepIn K (.ref C6) = true)
    (no6_0 : PySem.W.findIn K (.ref C6) "key" = some none)
    (lx6 : K.lookup C6 = some (excClassObj nmx6 qx6 C6 nsx6 bsx6 bmx6 true snx6 subx6 abx6 colx6 ddx6 k0x6 k1x6 k2x6 k3x6 k5x6 "ValueError.__new__"))
    (rx6 : PySem.HandSPX.refsVE bmx6 = true)
    (m46 : PySem.W.findIn K (.ref C6) "__init__" = some (some (.ref f46)))
    (l46 : K.lookup f46 = some ⟨oc46, od46, .func (PySem.W.fnOf "__init__" "Taken.__init__" (defArgs sETaken) (defBody sETaken) (defScope sETaken) .none kV46 dc46 pm46 an46 cd46 ct46), sl46⟩)
    (c46 : PySem.W.codeIn K cd46 "Taken.__init__" = true)
    (k46 : PySem.W.keepIn K (.ref f46) = true)
    (ty46 : PySem.W.typeIn K (.ref f46) = some (.type "function"))
    (sa7 : PySem.W.findIn K (.ref C7) "__setattr__" = some (some (.builtin "object.__setattr__")))
    (ke7 : PySem.W.keepIn K (.ref C7) = true)
    (no7_0 : PySem.W.findIn K (.ref C7) "key" = some none)
    (lx7 : K.lookup C7 = some (excClassObj nmx7 qx7 C7 nsx7 bsx7 bmx7 true snx7 subx7 abx7 colx7 ddx7 k0x7 k1x7 k2x7 k3x7 k5x7 "ValueError.__new__"))
    (rx7 : PySem.HandSPX.refsVE bmx7 = true)
    (m47 : PySem.W.findIn K (.ref C7) "__init__" = some (some (.ref f47)))
    (l47 : K.lookup f47 = some ⟨oc47, od47, .func (PySem.W.fnOf "__init__" "Overlap.__init__" (defArgs sEOverlap) (defBody sEOverlap) (defScope sEOverlap) .none kV47 dc47 pm47 an47 cd47 ct47), sl47⟩)
    (c47 : PySem.W.codeIn K cd47 "Overlap.__init__" = true)
    (k47 : PySem.W.keepIn K (.ref f47) = true)
    (ty47 : PySem.W.typeIn K (.ref f47) = some (.type "function"))
    (sa8 : PySem.W.findIn K (.ref C8) "__setattr__" = some (some (.builtin "object.__setattr__")))
    (ke8 : PySem.W.keepIn K (.ref C8) = true)
    (no8_0 : PySem.W.findIn K (.ref C8) "key" = some none)
    (lx8 : K.lookup C8 = some (excClassObj nmx8 qx8 C8 nsx8 bsx8 bmx8 true snx8 subx8 abx8 colx8 ddx8 k0x8 k1x8 k2x8 k3x8 k5x8 "ValueError.__new__"))
    (rx8 : PySem.HandSPX.refsVE bmx8 = true)
    (m48 : PySem.W.findIn K (.ref C8) "__init__" = some (some (.ref f48)))
    (l48 : K.lookup f48 = some ⟨oc48, od48, .func (PySem.W.fnOf "__init__" "Stuck.__init__" (defArgs sEStuck) (defBody sEStuck) (defScope sEStuck) .none kV48 dc48 pm48 an48 cd48 ct48), sl48⟩)
    (c48 : PySem.W.codeIn K cd48 "Stuck.__init__" = true)
    (k48 : PySem.W.keepIn K (.ref f48) = true)
    (ty48 : PySem.W.typeIn K (.ref f48) = some (.type "function"))
    (sa9 : PySem.W.findIn K (.ref C9) "__setattr__" = some (some (.builtin "object.__setattr__")))
    (ke9 : PySem.W.keepIn K (.ref C9) = true)
    (no9_0 : PySem.W.findIn K (.ref C9) "part" = some none)
    (lx9 : K.lookup C9 = some (excClassObj nmx9 qx9 C9 nsx9 bsx9 bmx9 true snx9 subx9 abx9 colx9 ddx9 k0x9 k1x9 k2x9 k3x9 k5x9 "ValueError.__new__"))
    (rx9 : PySem.HandSPX.refsVE bmx9 = true)
    (m49 : PySem.W.findIn K (.ref C9) "__init__" = some (some (.ref f49)))
    (l49 : K.lookup f49 = some ⟨oc49, od49, .func (PySem.W.fnOf "__init__" "BadOther.__init__" (defArgs sEBadOther) (defBody sEBadOther) (defScope sEBadOther) .none kV49 dc49 pm49 an49 cd49 ct49), sl49⟩)
    (c49 : PySem.W.codeIn K cd49 "BadOther.__init__" = true)
    (k49 : PySem.W.keepIn K (.ref f49) = true)
    (ty49 : PySem.W.typeIn K (.ref f49) = some (.type "function"))
    (sa10 : PySem.W.findIn K (.ref C10) "__setattr__" = some (some (.builtin "object.__setattr__")))
    (ke10 : PySem.W.keepIn K (.ref C10) = true)
    (no10_0 : PySem.W.findIn K (.ref C10) "value" = some none)
    (lx10 : K.lookup C10 = some (excClassObj nmx10 qx10 C10 nsx10 bsx10 bmx10 true snx10 subx10 abx10 colx10 ddx10 k0x10 k1x10 k2x10 k3x10 k5x10 "ValueError.__new__"))
    (rx10 : PySem.HandSPX.refsVE bmx10 = true)
    (m50 : PySem.W.findIn K (.ref C10) "__init__" = some (some (.ref f50)))
    (l50 : K.lookup f50 = some ⟨oc50, od50, .func (PySem.W.fnOf "__init__" "BadDeeds.__init__" (defArgs sEBadDeeds) (defBody sEBadDeeds) (defScope sEBadDeeds) .none kV50 dc50 pm50 an50 cd50 ct50), sl50⟩)
    (c50 : PySem.W.codeIn K cd50 "BadDeeds.__init__" = true)
    (k50 : PySem.W.keepIn K (.ref f50) = true)
    (ty50 : PySem.W.typeIn K (.ref f50) = some (.type "function"))
    (sa11 : PySem.W.findIn K (.ref C11) "__setattr__" = some (some (.builtin "object.__setattr__")))
    (ke11 : PySem.W.keepIn K (.ref C11) = true)
    (no11_0 : PySem.W.findIn K (.ref C11) "at" = some none)
    (lx11 : K.lookup C11 = some (excClassObj nmx11 qx11 C11 nsx11 bsx11 bmx11 true snx11 subx11 abx11 colx11 ddx11 k0x11 k1x11 k2x11 k3x11 k5x11 "ValueError.__new__"))
    (rx11 : PySem.HandSPX.refsVE bmx11 = true)
    (m51 : PySem.W.findIn K (.ref C11) "__init__" = some (some (.ref f51)))
    (l51 : K.lookup f51 = some ⟨oc51, od51, .func (PySem.W.fnOf "__init__" "BadPages.__init__" (defArgs sEBadPages) (defBody sEBadPages) (defScope sEBadPages) .none kV51 dc51 pm51 an51 cd51 ct51), sl51⟩)
    (c51 : PySem.W.codeIn K cd51 "BadPages.__init__" = true)
    (k51 : PySem.W.keepIn K (.ref f51) = true)
    (ty51 : PySem.W.typeIn K (.ref f51) = some (.type "function"))
    (sa12 : PySem.W.findIn K (.ref C12) "__setattr__" = some (some (.builtin "object.__setattr__")))
    (ke12 : PySem.W.keepIn K (.ref C12) = true)
    (no12_0 : PySem.W.findIn K (.ref C12) "line" = some none)
    (no12_1 : PySem.W.findIn K (.ref C12) "word" = some none)
    (lx12 : K.lookup C12 = some (excClassObj nmx12 qx12 C12 nsx12 bsx12 bmx12 true snx12 subx12 abx12 colx12 ddx12 k0x12 k1x12 k2x12 k3x12 k5x12 "ValueError.__new__"))
    (rx12 : PySem.HandSPX.refsVE bmx12 = true)
    (m52 : PySem.W.findIn K (.ref C12) "__init__" = some (some (.ref f52)))
    (l52 : K.lookup f52 = some ⟨oc52, od52, .func (PySem.W.fnOf "__init__" "BadText.__init__" (defArgs sEBadText) (defBody sEBadText) (defScope sEBadText) .none kV52 dc52 pm52 an52 cd52 ct52), sl52⟩)
    (c52 : PySem.W.codeIn K cd52 "BadText.__init__" = true)
    (k52 : PySem.W.keepIn K (.ref f52) = true)
    (ty52 : PySem.W.typeIn K (.ref f52) = some (.type "function"))
    (sa13 : PySem.W.findIn K (.ref C13) "__setattr__" = some (some (.builtin "object.__setattr__")))
    (ke13 : PySem.W.keepIn K (.ref C13) = true)
    (no13_0 : PySem.W.findIn K (.ref C13) "word" = some none)
    (lx13 : K.lookup C13 = some (excClassObj nmx13 qx13 C13 nsx13 bsx13 bmx13 true snx13 subx13 abx13 colx13 ddx13 k0x13 k1x13 k2x13 k3x13 k5x13 "ValueError.__new__"))
    (rx13 : PySem.HandSPX.refsVE bmx13 = true)
    (m53 : PySem.W.findIn K (.ref C13) "__init__" = some (some (.ref f53)))
    (l53 : K.lookup f53 = some ⟨oc53, od53, .func (PySem.W.fnOf "__init__" "BadCommand.__init__" (defArgs sEBadCommand) (defBody sEBadCommand) (defScope sEBadCommand) .none kV53 dc53 pm53 an53 cd53 ct53), sl53⟩)
    (c53 : PySem.W.codeIn K cd53 "BadCommand.__init__" = true)
    (k53 : PySem.W.keepIn K (.ref f53) = true)
    (ty53 : PySem.W.typeIn K (.ref f53) = some (.type "function"))
    (sa14 : PySem.W.findIn K (.ref C14) "__setattr__" = some (some (.builtin "object.__setattr__")))
    (ke14 : PySem.W.keepIn K (.ref C14) = true)
    (no14_0 : PySem.W.findIn K (.ref C14) "value" = some none)
    (lx14 : K.lookup C14 = some (excClassObj nmx14 qx14 C14 nsx14 bsx14 bmx14 true snx14 subx14 abx14 colx14 ddx14 k0x14 k1x14 k2x14 k3x14 k5x14 "ValueError.__new__"))
    (rx14 : PySem.HandSPX.refsVE bmx14 = true)
    (m54 : PySem.W.findIn K (.ref C14) "__init__" = some (some (.ref f54)))
    (l54 : K.lookup f54 = some ⟨oc54, od54, .func (PySem.W.fnOf "__init__" "BadName.__init__" (defArgs sEBadName) (defBody sEBadName) (defScope sEBadName) .none kV54 dc54 pm54 an54 cd54 ct54), sl54⟩)
    (c54 : PySem.W.codeIn K cd54 "BadName.__init__" = true)
    (k54 : PySem.W.keepIn K (.ref f54) = true)
    (ty54 : PySem.W.typeIn K (.ref f54) = some (.type "function"))
    (sa15 : PySem.W.findIn K (.ref C15) "__setattr__" = some (some (.builtin "object.__setattr__")))
    (ke15 : PySem.W.keepIn K (.ref C15) = true)
    (no15_0 : PySem.W.findIn K (.ref C15) "name" = some none)
    (lx15 : K.lookup C15 = some (excClassObj nmx15 qx15 C15 nsx15 bsx15 bmx15 true snx15 subx15 abx15 colx15 ddx15 k0x15 k1x15 k2x15 k3x15 k5x15 "ValueError.__new__"))
    (rx15 : PySem.HandSPX.refsVE bmx15 = true)
    (m55 : PySem.W.findIn K (.ref C15) "__init__" = some (some (.ref f55)))
    (l55 : K.lookup f55 = some ⟨oc55, od55, .func (PySem.W.fnOf "__init__" "NoName.__init__" (defArgs sENoName) (defBody sENoName) (defScope sENoName) .none kV55 dc55 pm55 an55 cd55 ct55), sl55⟩)
    (c55 : PySem.W.codeIn K cd55 "NoName.__init__" = true)
    (k55 : PySem.W.keepIn K (.ref f55) = true)
    (ty55 : PySem.W.typeIn K (.ref f55) = some (.type "function"))
    (sa17 : PySem.W.findIn K (.ref C17) "__setattr__" = some (some (.builtin "object.__setattr__")))
    (ke17 : PySem.W.keepIn K (.ref C17) = true)
    (no17_0 : PySem.W.findIn K (.ref C17) "what" = some none)
    (no17_1 : PySem.W.findIn K (.ref C17) "most" = some none)
    (lx17 : K.lookup C17 = some (excClassObj nmx17 qx17 C17 nsx17 bsx17 bmx17 true snx17 subx17 abx17 colx17 ddx17 k0x17 k1x17 k2x17 k3x17 k5x17 "ValueError.__new__"))
    (rx17 : PySem.HandSPX.refsVE bmx17 = true)
    (m57 : PySem.W.findIn K (.ref C17) "__init__" = some (some (.ref f57)))
    (l57 : K.lookup f57 = some ⟨oc57, od57, .func (PySem.W.fnOf "__init__" "TooMany.__init__" (defArgs sETooMany) (defBody sETooMany) (defScope sETooMany) .none kV57 dc57 pm57 an57 cd57 ct57), sl57⟩)
    (c57 : PySem.W.codeIn K cd57 "TooMany.__init__" = true)
    (k57 : PySem.W.keepIn K (.ref f57) = true)
    (ty57 : PySem.W.typeIn K (.ref f57) = some (.type "function"))
    (q16 : PySem.W.excIn K C16 veTail "ValueError.__new__" = true)
    (qF : PySem.W.excIn K FE veTail "ValueError.__new__" = true)
    (ke16 : PySem.W.keepIn K (.ref C16) = true)
    (keF : PySem.W.keepIn K (.ref FE) = true)
    (zint : PySem.W.nsIn K mainGlobals "int" = some none)
    (zlen : PySem.W.nsIn K mainGlobals "len" = some none)
    (zabs : PySem.W.nsIn K mainGlobals "abs" = some none)
    (zlist : PySem.W.nsIn K mainGlobals "list" = some none)
    (zmin : PySem.W.nsIn K mainGlobals "min" = some none)
    (zmax : PySem.W.nsIn K mainGlobals "max" = some none)
    (zisinstance : PySem.W.nsIn K mainGlobals "isinstance" = some none)
    (zbool : PySem.W.nsIn K mainGlobals "bool" = some none)
    (ztuple : PySem.W.nsIn K mainGlobals "tuple" = some none)
    (zall : PySem.W.nsIn K mainGlobals "all" = some none)
    (zrange : PySem.W.nsIn K mainGlobals "range" = some none)
    (zrepr : PySem.W.nsIn K mainGlobals "repr" = some none)
    (zany : PySem.W.nsIn K mainGlobals "any" = some none)
    (zdict : PySem.W.nsIn K mainGlobals "dict" = some none)
    (zzip : PySem.W.nsIn K mainGlobals "zip" = some none)
    (zValueError : PySem.W.nsIn K mainGlobals "ValueError" = some none) :
    ∃ fd : FuncData, (∀ (s : Shared) (v : Value), BindsTo s fd ⟨[v], []⟩ [("_law_script", v)]) ∧ ∀ base : Heap, K.In base → base.Ns mainGlobals mg → FnG l.prog w K mg base 7 fa fd ["_law_script"] (spLaw K) := by
  have e := hfa.symm.trans (PySem.W.mg_of X G a11)
  cases e
  have F0 := fun_mk (st := sKept) l0 c0 k0
  have b0 := F0.binds (ps := ["value"]) fun _ _ _ _ _ _ us hl => match us, hl with | [_], _ => rfl
  have F1 := fun_mk (st := sParts) l1 c1 k1
  have b1 := F1.binds (ps := ["value"]) fun _ _ _ _ _ _ us hl => match us, hl with | [_], _ => rfl
  have F95 := fun_mk (st := sFlat) l95 c95 k95
  have b95 := F95.binds (ps := ["value"]) fun _ _ _ _ _ _ us hl => match us, hl with | [_], _ => rfl
  have F96 := fun_mk (st := sCopied) l96 c96 k96
  have b96 := F96.binds (ps := ["value"]) fun _ _ _ _ _ _ us hl => match us, hl with | [_], _ => rfl
  have F2 := fun_mk (st := sRebuilt) l2 c2 k2
  have b2 := F2.binds (ps := ["value", "parts"]) fun _ _ _ _ _ _ us hl => match us, hl with | [_, _], _ => rfl
  have F3 := fun_mk (st := sPen) l3 c3 k3
  have b3 := F3.binds (ps := ["_law_script"]) fun _ _ _ _ _ _ us hl => match us, hl with | [_], _ => rfl
  have F4 := fun_mk (st := sDraw) l4 c4 k4
  have b4 := F4.binds (ps := ["_law_pen_here", "_law_many"]) fun _ _ _ _ _ _ us hl => match us, hl with | [_, _], _ => rfl
  have F5 := fun_mk (st := sPick) l5 c5 k5
  have b5 := F5.binds (ps := ["_law_pen_here", "_law_some"]) fun _ _ _ _ _ _ us hl => match us, hl with | [_, _], _ => rfl
  have F6 := fun_mk (st := sValue) l6 c6 k6
  have b6 := F6.binds (ps := ["_law_pen_here"]) fun _ _ _ _ _ _ us hl => match us, hl with | [_], _ => rfl
  have F7 := fun_mk (st := sSigns) l7 c7 k7
  have b7 := F7.binds (ps := ["_law_error"]) fun _ _ _ _ _ _ us hl => match us, hl with | [_], _ => rfl
  have F8 := fun_mk (st := sPlaced) l8 c8 k8
  have b8 := F8.binds (ps := ["_law_thing"]) fun _ _ _ _ _ _ us hl => match us, hl with | [_], _ => rfl
  have F9 := fun_mk (st := sNamed) l9 c9 k9
  have b9 := F9.binds (ps := ["_law_thing"]) fun _ _ _ _ _ _ us hl => match us, hl with | [_], _ => rfl
  have F10 := fun_mk (st := sPairs) l10 c10 k10
  have b10 := F10.binds (ps := ["_law_thing", "_law_more"]) fun _ _ _ _ _ _ us hl => match us, hl with | [_, _], _ => rfl
  have F11 := fun_mk (st := sLaw) l11 c11 k11
  have b11 := F11.binds (ps := ["_law_script"]) fun _ _ _ _ _ _ us hl => match us, hl with | [_], _ => rfl
  have F40 := fun_mk (st := sEBadRule) l40 c40 k40
  have b40 := F40.binds (ps := ["self", "part"]) fun _ _ _ _ _ _ us hl => match us, hl with | [_, _], _ => rfl
  have kb40 := kb_one (n := "part") F40 (fun _ _ _ _ _ _ _ _ => rfl)
  have F41 := fun_mk (st := sENoHalves) l41 c41 k41
  have b41 := F41.binds (ps := ["self", "weight"]) fun _ _ _ _ _ _ us hl => match us, hl with | [_, _], _ => rfl
  have kb41 := kb_one (n := "weight") F41 (fun _ _ _ _ _ _ _ _ => rfl)
  have F42 := fun_mk (st := sEBadNumber) l42 c42 k42
  have b42 := F42.binds (ps := ["self", "value"]) fun _ _ _ _ _ _ us hl => match us, hl with | [_, _], _ => rfl
  have kb42 := kb_one (n := "value") F42 (fun _ _ _ _ _ _ _ _ => rfl)
  have F43 := fun_mk (st := sEBadTest) l43 c43 k43
  have b43 := F43.binds (ps := ["self", "at"]) fun _ _ _ _ _ _ us hl => match us, hl with | [_, _], _ => rfl
  have kb43 := kb_one (n := "at") F43 (fun _ _ _ _ _ _ _ _ => rfl)
  have F44 := fun_mk (st := sEBadKey) l44 c44 k44
  have b44 := F44.binds (ps := ["self", "value"]) fun _ _ _ _ _ _ us hl => match us, hl with | [_, _], _ => rfl
  have kb44 := kb_one (n := "value") F44 (fun _ _ _ _ _ _ _ _ => rfl)
  have F45 := fun_mk (st := sENoKey) l45 c45 k45
  have b45 := F45.binds (ps := ["self", "key"]) fun _ _ _ _ _ _ us hl => match us, hl with | [_, _], _ => rfl
  have kb45 := kb_one (n := "key") F45 (fun _ _ _ _ _ _ _ _ => rfl)
  have F46 := fun_mk (st := sETaken) l46 c46 k46
  have b46 := F46.binds (ps := ["self", "key"]) fun _ _ _ _ _ _ us hl => match us, hl with | [_, _], _ => rfl
  have kb46 := kb_one (n := "key") F46 (fun _ _ _ _ _ _ _ _ => rfl)
  have F47 := fun_mk (st := sEOverlap) l47 c47 k47
  have b47 := F47.binds (ps := ["self", "key"]) fun _ _ _ _ _ _ us hl => match us, hl with | [_, _], _ => rfl
  have kb47 := kb_one (n := "key") F47 (fun _ _ _ _ _ _ _ _ => rfl)
  have F48 := fun_mk (st := sEStuck) l48 c48 k48
  have b48 := F48.binds (ps := ["self", "key"]) fun _ _ _ _ _ _ us hl => match us, hl with | [_, _], _ => rfl
  have kb48 := kb_one (n := "key") F48 (fun _ _ _ _ _ _ _ _ => rfl)
  have F49 := fun_mk (st := sEBadOther) l49 c49 k49
  have b49 := F49.binds (ps := ["self", "part"]) fun _ _ _ _ _ _ us hl => match us, hl with | [_, _], _ => rfl
  have kb49 := kb_one (n := "part") F49 (fun _ _ _ _ _ _ _ _ => rfl)
  have F50 := fun_mk (st := sEBadDeeds) l50 c50 k50
  have b50 := F50.binds (ps := ["self", "value"]) fun _ _ _ _ _ _ us hl => match us, hl with | [_, _], _ => rfl
  have kb50 := kb_one (n := "value") F50 (fun _ _ _ _ _ _ _ _ => rfl)
  have F51 := fun_mk (st := sEBadPages) l51 c51 k51
  have b51 := F51.binds (ps := ["self", "at"]) fun _ _ _ _ _ _ us hl => match us, hl with | [_, _], _ => rfl
  have kb51 := kb_one (n := "at") F51 (fun _ _ _ _ _ _ _ _ => rfl)
  have F52 := fun_mk (st := sEBadText) l52 c52 k52
  have b52 := F52.binds (ps := ["self", "line", "word"]) fun _ _ _ _ _ _ us hl => match us, hl with | [_, _, _], _ => rfl
  have kb52 := kb_two (n := "line") (m := "word") F52 (fun _ _ _ _ _ _ _ _ _ => rfl)
  have F53 := fun_mk (st := sEBadCommand) l53 c53 k53
  have b53 := F53.binds (ps := ["self", "word"]) fun _ _ _ _ _ _ us hl => match us, hl with | [_, _], _ => rfl
  have kb53 := kb_one (n := "word") F53 (fun _ _ _ _ _ _ _ _ => rfl)
  have F54 := fun_mk (st := sEBadName) l54 c54 k54
  have b54 := F54.binds (ps := ["self", "value"]) fun _ _ _ _ _ _ us hl => match us, hl with | [_, _], _ => rfl
  have kb54 := kb_one (n := "value") F54 (fun _ _ _ _ _ _ _ _ => rfl)
  have F55 := fun_mk (st := sENoName) l55 c55 k55
  have b55 := F55.binds (ps := ["self", "name"]) fun _ _ _ _ _ _ us hl => match us, hl with | [_, _], _ => rfl
  have kb55 := kb_one (n := "name") F55 (fun _ _ _ _ _ _ _ _ => rfl)
  have F57 := fun_mk (st := sETooMany) l57 c57 k57
  have b57 := F57.binds (ps := ["self", "what", "most"]) fun _ _ _ _ _ _ us hl => match us, hl with | [_, _, _], _ => rfl
  have kb57 := kb_two (n := "what") (m := "most") F57 (fun _ _ _ _ _ _ _ _ _ => rfl)
  have T : Blt mg := ⟨PySem.W.mg_none_of X G zint, PySem.W.mg_none_of X G zlen, PySem.W.mg_none_of X G zabs, PySem.W.mg_none_of X G zlist, PySem.W.mg_none_of X G zmin, PySem.W.mg_none_of X G zmax, PySem.W.mg_none_of X G zisinstance, PySem.W.mg_none_of X G zbool, PySem.W.mg_none_of X G ztuple, PySem.W.mg_none_of X G zall, PySem.W.mg_none_of X G zrange, PySem.W.mg_none_of X G zrepr⟩
  have c : Cls18 K (clA [C0, C1, C2, C3, C4, C5, C6, C7, C8, C9, C10, C11, C12, C13, C14, C15, C16, C17]) FE := cls_tab ikn ikt tab
  have N : Names18 mg (clA [C0, C1, C2, C3, C4, C5, C6, C7, C8, C9, C10, C11, C12, C13, C14, C15, C16, C17]) FE := ⟨PySem.W.mg_of X G aC0, PySem.W.mg_of X G aC1, PySem.W.mg_of X G aC2, PySem.W.mg_of X G aC3, PySem.W.mg_of X G aC4, PySem.W.mg_of X G aC5, PySem.W.mg_of X G aC6, PySem.W.mg_of X G aC7, PySem.W.mg_of X G aC8, PySem.W.mg_of X G aC9, PySem.W.mg_of X G aC10, PySem.W.mg_of X G aC11, PySem.W.mg_of X G aC12, PySem.W.mg_of X G aC13, PySem.W.mg_of X G aC14, PySem.W.mg_of X G aC15, PySem.W.mg_of X G aC16, PySem.W.mg_of X G aC17, PySem.W.mg_of X G aFE⟩
  refine ⟨PySem.W.fnOf "law" "law" (defArgs sLaw) (defBody sLaw) (defScope sLaw) .none kV11 dc11 pm11 an11 cd11 ct11, fun s v => .of_eq rfl, fun base _ _ => ?_⟩
  have d1 : Df l.prog w K mg base 1 "parts_of" ["value"] _ := ⟨f1, _, ok_partsV F1 T (PySem.W.mg_none_of X G zdict), PySem.W.mg_of X G a1, F1.kp, b1⟩
  have d1g : Df l.prog w K mg base 1 "parts_of" ["value"] _ := ⟨f1, _, ok_partsG F1 T (PySem.W.mg_none_of X G zdict), PySem.W.mg_of X G a1, F1.kp, b1⟩
  have d2 : Df l.prog w K mg base 1 "rebuilt" ["value", "parts"] _ := ⟨f2, _, ok_rebuilt F2 T (PySem.W.mg_none_of X G zdict) (PySem.W.mg_none_of X G zzip), PySem.W.mg_of X G a2, F2.kp, b2⟩
  have d2g : Df l.prog w K mg base 1 "rebuilt" ["value", "parts"] _ := ⟨f2, _, ok_rebG F2 T (PySem.W.mg_none_of X G zdict) (PySem.W.mg_none_of X G zzip), PySem.W.mg_of X G a2, F2.kp, b2⟩
  have d95 : Df l.prog w K mg base 2 "is_flat" ["value"] _ := ⟨f95, _, ok_flat F95 T (PySem.W.mg_none_of X G zdict), PySem.W.mg_of X G a95, F95.kp, b95⟩
  have d96 : Df l.prog w K mg base 2 "copied_deep" ["value"] _ := ⟨f96, _, ok_copied F96 T (PySem.W.mg_none_of X G zdict) (PySem.W.mg_none_of X G zany) d1 d2, PySem.W.mg_of X G a96, F96.kp, b96⟩
  have d97 : Df l.prog w K mg base 2 "copied_deep" ["value"] _ := ⟨f96, _, ok_copied2 F96 T (PySem.W.mg_none_of X G zdict) (PySem.W.mg_none_of X G zany) d1g d2g, PySem.W.mg_of X G a96, F96.kp, b96⟩
  have d0 : Df l.prog w K mg base 3 "kept" ["value"] _ := ⟨f0, _, ok_keptL (ok_keptV F0 T (PySem.W.mg_none_of X G zdict) d95 d96) (ok_kept2 F0 T (PySem.W.mg_none_of X G zdict) d95 d97), PySem.W.mg_of X G a0, F0.kp, b0⟩
  have o0 : OexC K C0 := ⟨⟨_, _, _, _, _, _, _, _, _, _, _, _, _, _, _, lx0, rx0⟩, sa0, (tab_ex tab (i := 0) (by decide)), (tab_ty tab (i := 0) (by decide)), ke0⟩
  have G40 := ok_eBadRule (P := l.prog) (w := w) (mg := mg) (base := base) F40 o0 no0_0 d0
  have E0 : EC l.prog w K mg base "BadRule" "part" (clA [C0, C1, C2, C3, C4, C5, C6, C7, C8, C9, C10, C11, C12, C13, C14, C15, C16, C17] 0) := ⟨o0, PySem.W.mg_of X G aC0, no0_0, f40, _, _, m40, ty40, G40, b40, kb40⟩
  have o1 : OexC K C1 := ⟨⟨_, _, _, _, _, _, _, _, _, _, _, _, _, _, _, lx1, rx1⟩, sa1, (tab_ex tab (i := 1) (by decide)), (tab_ty tab (i := 1) (by decide)), ke1⟩
  have G41 := ok_eNoHalves (P := l.prog) (w := w) (mg := mg) (base := base) F41 o1 no1_0 d0
  have E1 : EC l.prog w K mg base "NoHalves" "weight" (clA [C0, C1, C2, C3, C4, C5, C6, C7, C8, C9, C10, C11, C12, C13, C14, C15, C16, C17] 1) := ⟨o1, PySem.W.mg_of X G aC1, no1_0, f41, _, _, m41, ty41, G41, b41, kb41⟩
  have o2 : OexC K C2 := ⟨⟨_, _, _, _, _, _, _, _, _, _, _, _, _, _, _, lx2, rx2⟩, sa2, (tab_ex tab (i := 2) (by decide)), (tab_ty tab (i := 2) (by decide)), ke2⟩
  have G42 := ok_eBadNumber (P := l.prog) (w := w) (mg := mg) (base := base) F42 o2 no2_0 d0
  have E2 : EC l.prog w K mg base "BadNumber" "value" (clA [C0, C1, C2, C3, C4, C5, C6, C7, C8, C9, C10, C11, C12, C13, C14, C15, C16, C17] 2) := ⟨o2, PySem.W.mg_of X G aC2, no2_0, f42, _, _, m42, ty42, G42, b42, kb42⟩
  have o3 : OexC K C3 := ⟨⟨_, _, _, _, _, _, _, _, _, _, _, _, _, _, _, lx3, rx3⟩, sa3, (tab_ex tab (i := 3) (by decide)), (tab_ty tab (i := 3) (by decide)), ke3⟩
  have G43 := ok_eBadTest (P := l.prog) (w := w) (mg := mg) (base := base) F43 o3 no3_0 d0
  have E3 : EC l.prog w K mg base "BadTest" "at" (clA [C0, C1, C2, C3, C4, C5, C6, C7, C8, C9, C10, C11, C12, C13, C14, C15, C16, C17] 3) := ⟨o3, PySem.W.mg_of X G aC3, no3_0, f43, _, _, m43, ty43, G43, b43, kb43⟩
  have o4 : OexC K C4 := ⟨⟨_, _, _, _, _, _, _, _, _, _, _, _, _, _, _, lx4, rx4⟩, sa4, (tab_ex tab (i := 4) (by decide)), (tab_ty tab (i := 4) (by decide)), ke4⟩
  have G44 := ok_eBadKey (P := l.prog) (w := w) (mg := mg) (base := base) F44 o4 no4_0 d0
  have E4 : EC l.prog w K mg base "BadKey" "value" (clA [C0, C1, C2, C3, C4, C5, C6, C7, C8, C9, C10, C11, C12, C13, C14, C15, C16, C17] 4) := ⟨o4, PySem.W.mg_of X G aC4, no4_0, f44, _, _, m44, ty44, G44, b44, kb44⟩
  have o5 : OexC K C5 := ⟨⟨_, _, _, _, _, _, _, _, _, _, _, _, _, _, _, lx5, rx5⟩, sa5, (tab_ex tab (i := 5) (by decide)), (tab_ty tab (i := 5) (by decide)), ke5⟩
  have G45 := ok_eNoKey (P := l.prog) (w := w) (mg := mg) (base := base) F45 o5 no5_0 d0
  have E5 : EC l.prog w K mg base "NoKey" "key" (clA [C0, C1, C2, C3, C4, C5, C6, C7, C8, C9, C10, C11, C12, C13, C14, C15, C16, C17] 5) := ⟨o5, PySem.W.mg_of X G aC5, no5_0, f45, _, _, m45, ty45, G45, b45, kb45⟩
  have o6 : OexC K C6 := ⟨⟨_, _, _, _, _, _, _, _, _, _, _, _, _, _, _, lx6, rx6⟩, sa6, (tab_ex tab (i := 6) (by decide)), (tab_ty tab (i := 6) (by decide)), ke6⟩
  have G46 := ok_eTaken (P := l.prog) (w := w) (mg := mg) (base := base) F46 o6 no6_0 d0
  have E6 : EC l.prog w K mg base "Taken" "key" (clA [C0, C1, C2, C3, C4, C5, C6, C7, C8, C9, C10, C11, C12, C13, C14, C15, C16, C17] 6) := ⟨o6, PySem.W.mg_of X G aC6, no6_0, f46, _, _, m46, ty46, G46, b46, kb46⟩
  have o7 : OexC K C7 := ⟨⟨_, _, _, _, _, _, _, _, _, _, _, _, _, _, _, lx7, rx7⟩, sa7, (tab_ex tab (i := 7) (by decide)), (tab_ty tab (i := 7) (by decide)), ke7⟩
  have G47 := ok_eOverlap (P := l.prog) (w := w) (mg := mg) (base := base) F47 o7 no7_0 d0
  have E7 : EC l.prog w K mg base "Overlap" "key" (clA [C0, C1, C2, C3, C4, C5, C6, C7, C8, C9, C10, C11, C12, C13, C14, C15, C16, C17] 7) := ⟨o7, PySem.W.mg_of X G aC7, no7_0, f47, _, _, m47, ty47, G47, b47, kb47⟩
  have o8 : OexC K C8 := ⟨⟨_, _, _, _, _, _, _, _, _, _, _, _, _, _, _, lx8, rx8⟩, sa8, (tab_ex tab (i := 8) (by decide)), (tab_ty tab (i := 8) (by decide)), ke8⟩
  have G48 := ok_eStuck (P := l.prog) (w := w) (mg := mg) (base := base) F48 o8 no8_0 d0
  have E8 : EC l.prog w K mg base "Stuck" "key" (clA [C0, C1, C2, C3, C4, C5, C6, C7, C8, C9, C10, C11, C12, C13, C14, C15, C16, C17] 8) := ⟨o8, PySem.W.mg_of X G aC8, no8_0, f48, _, _, m48, ty48, G48, b48, kb48⟩
  have o9 : OexC K C9 := ⟨⟨_, _, _, _, _, _, _, _, _, _, _, _, _, _, _, lx9, rx9⟩, sa9, (tab_ex tab (i := 9) (by decide)), (tab_ty tab (i := 9) (by decide)), ke9⟩
  have G49 := ok_eBadOther (P := l.prog) (w := w) (mg := mg) (base := base) F49 o9 no9_0 d0
  have E9 : EC l.prog w K mg base "BadOther" "part" (clA [C0, C1, C2, C3, C4, C5, C6, C7, C8, C9, C10, C11, C12, C13, C14, C15, C16, C17] 9) := ⟨o9, PySem.W.mg_of X G aC9, no9_0, f49, _, _, m49, ty49, G49, b49, kb49⟩
  have o10 : OexC K C10 := ⟨⟨_, _, _, _, _, _, _, _, _, _, _, _, _, _, _, lx10, rx10⟩, sa10, (tab_ex tab (i := 10) (by decide)), (tab_ty tab (i := 10) (by decide)), ke10⟩
  have G50 := ok_eBadDeeds (P := l.prog) (w := w) (mg := mg) (base := base) F50 o10 no10_0 d0
  have E10 : EC l.prog w K mg base "BadDeeds" "value" (clA [C0, C1, C2, C3, C4, C5, C6, C7, C8, C9, C10, C11, C12, C13, C14, C15, C16, C17] 10) := ⟨o10, PySem.W.mg_of X G aC10, no10_0, f50, _, _, m50, ty50, G50, b50, kb50⟩
  have o11 : OexC K C11 := ⟨⟨_, _, _, _, _, _, _, _, _, _, _, _, _, _, _, lx11, rx11⟩, sa11, (tab_ex tab (i := 11) (by decide)), (tab_ty tab (i := 11) (by decide)), ke11⟩
  have G51 := ok_eBadPages (P := l.prog) (w := w) (mg := mg) (base := base) F51 o11 no11_0 d0
  have E11 : EC l.prog w K mg base "BadPages" "at" (clA [C0, C1, C2, C3, C4, C5, C6, C7, C8, C9, C10, C11, C12, C13, C14, C15, C16, C17] 11) := ⟨o11, PySem.W.mg_of X G aC11, no11_0, f51, _, _, m51, ty51, G51, b51, kb51⟩
  have o12 : OexC K C12 := ⟨⟨_, _, _, _, _, _, _, _, _, _, _, _, _, _, _, lx12, rx12⟩, sa12, (tab_ex tab (i := 12) (by decide)), (tab_ty tab (i := 12) (by decide)), ke12⟩
  have G52 := ok_eBadText (P := l.prog) (w := w) (mg := mg) (base := base) F52 o12 no12_0 no12_1 d0
  have E12 : EC2 l.prog w K mg base "BadText" "line" "word" (clA [C0, C1, C2, C3, C4, C5, C6, C7, C8, C9, C10, C11, C12, C13, C14, C15, C16, C17] 12) := ⟨o12, PySem.W.mg_of X G aC12, no12_0, no12_1, f52, _, _, m52, ty52, G52, b52, kb52⟩
  have o13 : OexC K C13 := ⟨⟨_, _, _, _, _, _, _, _, _, _, _, _, _, _, _, lx13, rx13⟩, sa13, (tab_ex tab (i := 13) (by decide)), (tab_ty tab (i := 13) (by decide)), ke13⟩
  have G53 := ok_eBadCommand (P := l.prog) (w := w) (mg := mg) (base := base) F53 o13 no13_0 d0
  have E13 : EC l.prog w K mg base "BadCommand" "word" (clA [C0, C1, C2, C3, C4, C5, C6, C7, C8, C9, C10, C11, C12, C13, C14, C15, C16, C17] 13) := ⟨o13, PySem.W.mg_of X G aC13, no13_0, f53, _, _, m53, ty53, G53, b53, kb53⟩
  have o14 : OexC K C14 := ⟨⟨_, _, _, _, _, _, _, _, _, _, _, _, _, _, _, lx14, rx14⟩, sa14, (tab_ex tab (i := 14) (by decide)), (tab_ty tab (i := 14) (by decide)), ke14⟩
  have G54 := ok_eBadName (P := l.prog) (w := w) (mg := mg) (base := base) F54 o14 no14_0 d0
  have E14 : EC l.prog w K mg base "BadName" "value" (clA [C0, C1, C2, C3, C4, C5, C6, C7, C8, C9, C10, C11, C12, C13, C14, C15, C16, C17] 14) := ⟨o14, PySem.W.mg_of X G aC14, no14_0, f54, _, _, m54, ty54, G54, b54, kb54⟩
  have o15 : OexC K C15 := ⟨⟨_, _, _, _, _, _, _, _, _, _, _, _, _, _, _, lx15, rx15⟩, sa15, (tab_ex tab (i := 15) (by decide)), (tab_ty tab (i := 15) (by decide)), ke15⟩
  have G55 := ok_eNoName (P := l.prog) (w := w) (mg := mg) (base := base) F55 o15 no15_0 d0
  have E15 : EC l.prog w K mg base "NoName" "name" (clA [C0, C1, C2, C3, C4, C5, C6, C7, C8, C9, C10, C11, C12, C13, C14, C15, C16, C17] 15) := ⟨o15, PySem.W.mg_of X G aC15, no15_0, f55, _, _, m55, ty55, G55, b55, kb55⟩
  have o17 : OexC K C17 := ⟨⟨_, _, _, _, _, _, _, _, _, _, _, _, _, _, _, lx17, rx17⟩, sa17, (tab_ex tab (i := 17) (by decide)), (tab_ty tab (i := 17) (by decide)), ke17⟩
  have G57 := ok_eTooMany (P := l.prog) (w := w) (mg := mg) (base := base) F57 o17 no17_0 no17_1 d0
  have E17 : EC2 l.prog w K mg base "TooMany" "what" "most" (clA [C0, C1, C2, C3, C4, C5, C6, C7, C8, C9, C10, C11, C12, C13, C14, C15, C16, C17] 17) := ⟨o17, PySem.W.mg_of X G aC17, no17_0, no17_1, f57, _, _, m57, ty57, G57, b57, kb57⟩
  have d3 : Df l.prog w K mg base 1 "_law_pen" ["_law_script"] _ := ⟨f3, _, ok_pen F3 T, PySem.W.mg_of X G a3, F3.kp, b3⟩
  have d4 : Df l.prog w K mg base 1 "_law_draw" ["_law_pen_here", "_law_many"] _ := ⟨f4, _, ok_draw F4 T, PySem.W.mg_of X G a4, F4.kp, b4⟩
  have d5 : Df l.prog w K mg base 2 "_law_pick" ["_law_pen_here", "_law_some"] _ := ⟨f5, _, ok_pick F5 T d4, PySem.W.mg_of X G a5, F5.kp, b5⟩
  have d6 : Df l.prog w K mg base 3 "_law_value" ["_law_pen_here"] _ := ⟨f6, _, ok_value F6 T d4 d5, PySem.W.mg_of X G a6, F6.kp, b6⟩
  have d7 : Df l.prog w K mg base 1 "_law_signs" ["_law_error"] _ := ⟨f7, _, ok_signs F7 T N c, PySem.W.mg_of X G a7, F7.kp, b7⟩
  have d8 : Df l.prog w K mg base 6 "_law_placed" ["_law_thing"] _ := ⟨f8, _, ok_sPlaced F8 c E0 E1 E2 E3 E4 E5 E6 E7 E8 E9 E10 E11 E13 E14 E15, PySem.W.mg_of X G a8, F8.kp, b8⟩
  have d9 : Df l.prog w K mg base 6 "_law_named" ["_law_thing"] _ := ⟨f9, _, ok_sNamed F9 c E0 E1 E2 E3 E4 E5 E6 E7 E8 E9 E10 E11 E13 E14 E15, PySem.W.mg_of X G a9, F9.kp, b9⟩
  have GP := ok_pairs (P := l.prog) (w := w) (mg := mg) (base := base) F10 T c d7 E12 E17
  exact ok_law F11 T (PySem.W.mg_none_of X G zValueError) N c q16 qF ke16 keF d3 d6 d7 d8 d9 GP (PySem.W.mg_of X G a10) F10.kp b10
end Ev
open PySem PySem.W PyProof.Rows
set_option maxRecDepth 100000 in
set_option maxHeartbeats 0 in
theorem PySem.Challenge.cw_evenrules_k01_errors_and_their_fields_holds : PySem.Challenge.rw_evenrules_k01_errors_and_their_fields.Holds := by
  exact hd (by
    k_fill
    refine Ev.walk_ofG (l := PySem.Challenge.rw_evenrules_k01_errors_and_their_fields) (n := 63) (k := 7) (x := "_law_script") (sp := fun w => Ev.spLaw _) rfl (by decide) rfl ⟨rfl, by decide, by decide⟩ (fun w h Y => PySem.W.kIn_of Y) ?F (fun _ _ a ns hl hS => ⟨a, ns, rfl, hS, hl, fun _ => rfl⟩)
    case F =>
      intro w mg fa h KX G hmg
      refine' Ev.all_mk KX G hmg ?a0 ?l0 ?c0 ?k0 ?a1 ?l1 ?c1 ?k1 ?a95 ?l95 ?c95 ?k95 ?a96 ?l96 ?c96 ?k96 ?a2 ?l2 ?c2 ?k2 ?a3 ?l3 ?c3 ?k3 ?a4 ?l4 ?c4 ?k4 ?a5 ?l5 ?c5 ?k5 ?a6 ?l6 ?c6 ?k6 ?a7 ?l7 ?c7 ?k7 ?a8 ?l8 ?c8 ?k8 ?a9 ?l9 ?c9 ?k9 ?a10 ?l10 ?c10 ?k10 ?a11 ?l11 ?c11 ?k11 ?aC0 ?aC1 ?aC2 ?aC3 ?aC4 ?aC5 ?aC6 ?aC7 ?aC8 ?aC9 ?aC10 ?aC11 ?aC12 ?aC13 ?aC14 ?aC15 ?aC16 ?aC17 ?aFE ?tab ?ikn ?ikt ?sa0 ?ke0 ?no0_0 ?lx0 ?rx0 ?m40 ?l40 ?c40 ?k40 ?ty40 ?sa1 ?ke1 ?no1_0 ?lx1 ?rx1 ?m41 ?l41 ?c41 ?k41 ?ty41 ?sa2 ?ke2 ?no2_0 ?lx2 ?rx2 ?m42 ?l42 ?c42 ?k42 ?ty42 ?sa3 ?ke3 ?no3_0 ?lx3 ?rx3 ?m43 ?l43 ?c43 ?k43 ?ty43 ?sa4 ?ke4 ?no4_0 ?lx4 ?rx4 ?m44 ?l44 ?c44 ?k44 ?ty44 ?sa5 ?ke5 ?no5_0 ?lx5 ?rx5 ?m45 ?l45 ?c45 ?k45 ?ty45 ?sa6 ?ke6 ?no6_0 ?lx6 ?rx6 ?m46 ?l46 ?c46 ?k46 ?ty46 ?sa7 ?ke7 ?no7_0 ?lx7 ?rx7 ?m47 ?l47 ?c47 ?k47 ?ty47 ?sa8 ?ke8 ?no8_0 ?lx8 ?rx8 ?m48 ?l48 ?c48 ?k48 ?ty48 ?sa9 ?ke9 ?no9_0 ?lx9 ?rx9 ?m49 ?l49 ?c49 ?k49 ?ty49 ?sa10 ?ke10 ?no10_0 ?lx10 ?rx10 ?m50 ?l50 ?c50 ?k50 ?ty50 ?sa11 ?ke11 ?no11_0 ?lx11 ?rx11 ?m51 ?l51 ?c51 ?k51 ?ty51 ?sa12 ?ke12 ?no12_0 ?no12_1 ?lx12 ?rx12 ?m52 ?l52 ?c52 ?k52 ?ty52 ?sa13 ?ke13 ?no13_0 ?lx13 ?rx13 ?m53 ?l53 ?c53 ?k53 ?ty53 ?sa14 ?ke14 ?no14_0 ?lx14 ?rx14 ?m54 ?l54 ?c54 ?k54 ?ty54 ?sa15 ?ke15 ?no15_0 ?lx15 ?rx15 ?m55 ?l55 ?c55 ?k55 ?ty55 ?sa17 ?ke17 ?no17_0 ?no17_1 ?lx17 ?rx17 ?m57 ?l57 ?c57 ?k57 ?ty57 ?q16 ?qF ?ke16 ?keF ?zint ?zlen ?zabs ?zlist ?zmin ?zmax ?zisinstance ?zbool ?ztuple ?zall ?zrange ?zrepr ?zany ?zdict ?zzip ?zValueError
      (case a0 => k_is)
      (case l0 => k_is)
      (case c0 => k_is)
      (case k0 => k_is)
      (case a1 => k_is)
      (case l1 => k_is)
      (case c1 => k_is)
      (case k1 => k_is)
      (case a95 => k_is)
      (case l95 => k_is)
      (case c95 => k_is)
      (case k95 => k_is)
      (case a96 => k_is)
      (case l96 => k_is)
      (case c96 => k_is)
      (case k96 => k_is)
      (case a2 => k_is)
      (case l2 => k_is)
      (case c2 => k_is)
      (case k2 => k_is)
      (case a3 => k_is)
      (case l3 => k_is)
      (case c3 => k_is)
      (case k3 => k_is)
      (case a4 => k_is)
      (case l4 => k_is)
      (case c4 => k_is)
      (case k4 => k_is)
      (case a5 => k_is)
      (case l5 => k_is)
      (case c5 => k_is)
      (case k5 => k_is)
      (case a6 => k_is)
      (case l6 => k_is)
      (case c6 => k_is)
      (case k6 => k_is)
      (case a7 => k_is)
      (case l7 => k_is)
      (case c7 => k_is)
      (case k7 => k_is)
      (case a8 => k_is)
      (case l8 => k_is)
      (case c8 => k_is)
      (case k8 => k_is)
      (case a9 => k_is)
      (case l9 => k_is)
      (case c9 => k_is)
      (case k9 => k_is)
      (case a10 => k_is)
      (case l10 => k_is)
      (case c10 => k_is)
      (case k10 => k_is)
      (case a11 => k_is)
      (case l11 => k_is)
      (case c11 => k_is)
      (case k11 => k_is)
      (case aC0 => k_is)
      (case aC1 => k_is)
      (case aC2 => k_is)
      (case aC3 => k_is)
      (case aC4 => k_is)
      (case aC5 => k_is)
      (case aC6 => k_is)
      (case aC7 => k_is)
      (case aC8 => k_is)
      (case aC9 => k_is)
      (case aC10 => k_is)
      (case aC11 => k_is)
      (case aC12 => k_is)
      (case aC13 => k_is)
      (case aC14 => k_is)
      (case aC15 => k_is)
      (case aC16 => k_is)
      (case aC17 => k_is)
      (case aFE => k_is)
      (case tab => kernel_rfl)
      (case ikn => k_is)
      (case ikt => k_is)
      (case sa0 => k_is)
      (case ke0 => k_is)
      (case no0_0 => k_is)
      (case lx0 => k_is)
      (case rx0 => decide +kernel)
      (case m40 => k_is)
      (case l40 => k_is)
      (case c40 => k_is)
      (case k40 => k_is)
      (case ty40 => k_is)
      (case sa1 => k_is)
      (case ke1 => k_is)
      (case no1_0 => k_is)
      (case lx1 => k_is)
      (case rx1 => decide +kernel)
      (case m41 => k_is)
      (case l41 => k_is)
      (case c41 => k_is)
      (case k41 => k_is)
      (case ty41 => k_is)
      (case sa2 => k_is)
      (case ke2 => k_is)
      (case no2_0 => k_is)
      (case lx2 => k_is)
      (case rx2 => decide +kernel)
      (case m42 => k_is)
      (case l42 => k_is)
      (case c42 => k_is)
      (case k42 => k_is)
      (case ty42 => k_is)
      (case sa3 => k_is)
      (case ke3 => k_is)
      (case no3_0 => k_is)
      (case lx3 => k_is)
      (case rx3 => decide +kernel)
      (case m43 => k_is)
      (case l43 => k_is)
      (case c43 => k_is)
      (case k43 => k_is)
      (case ty43 => k_is)
      (case sa4 => k_is)
      (case ke4 => k_is)
      (case no4_0 => k_is)
      (case lx4 => k_is)
      (case rx4 => decide +kernel)
      (case m44 => k_is)
      (case l44 => k_is)
      (case c44 => k_is)
      (case k44 => k_is)
      (case ty44 => k_is)
      (case sa5 => k_is)
      (case ke5 => k_is)
      (case no5_0 => k_is)
      (case lx5 => k_is)
      (case rx5 => decide +kernel)
      (case m45 => k_is)
      (case l45 => k_is)
      (case c45 => k_is)
      (case k45 => k_is)
      (case ty45 => k_is)
      (case sa6 => k_is)
      (case ke6 => k_is)
      (case no6_0 => k_is)
      (case lx6 => k_is)
      (case rx6 => decide +kernel)
      (case m46 => k_is)
      (case l46 => k_is)
      (case c46 => k_is)
      (case k46 => k_is)
      (case ty46 => k_is)
      (case sa7 => k_is)
      (case ke7 => k_is)
      (case no7_0 => k_is)
      (case lx7 => k_is)
      (case rx7 => decide +kernel)
      (case m47 => k_is)
      (case l47 => k_is)
      (case c47 => k_is)
      (case k47 => k_is)
      (case ty47 => k_is)
      (case sa8 => k_is)
      (case ke8 => k_is)
      (case no8_0 => k_is)
      (case lx8 => k_is)
      (case rx8 => decide +kernel)
      (case m48 => k_is)
      (case l48 => k_is)
      (case c48 => k_is)
      (case k48 => k_is)
      (case ty48 => k_is)
      (case sa9 => k_is)
      (case ke9 => k_is)
      (case no9_0 => k_is)
      (case lx9 => k_is)
      (case rx9 => decide +kernel)
      (case m49 => k_is)
      (case l49 => k_is)
      (case c49 => k_is)
      (case k49 => k_is)
      (case ty49 => k_is)
      (case sa10 => k_is)
      (case ke10 => k_is)
      (case no10_0 => k_is)
      (case lx10 => k_is)
      (case rx10 => decide +kernel)
      (case m50 => k_is)
      (case l50 => k_is)
      (case c50 => k_is)
      (case k50 => k_is)
      (case ty50 => k_is)
      (case sa11 => k_is)
      (case ke11 => k_is)
      (case no11_0 => k_is)
      (case lx11 => k_is)
      (case rx11 => decide +kernel)
      (case m51 => k_is)
      (case l51 => k_is)
      (case c51 => k_is)
      (case k51 => k_is)
      (case ty51 => k_is)
      (case sa12 => k_is)
      (case ke12 => k_is)
      (case no12_0 => k_is)
      (case no12_1 => k_is)
      (case lx12 => k_is)
      (case rx12 => decide +kernel)
      (case m52 => k_is)
      (case l52 => k_is)
      (case c52 => k_is)
      (case k52 => k_is)
      (case ty52 => k_is)
      (case sa13 => k_is)
      (case ke13 => k_is)
      (case no13_0 => k_is)
      (case lx13 => k_is)
      (case rx13 => decide +kernel)
      (case m53 => k_is)
      (case l53 => k_is)
      (case c53 => k_is)
      (case k53 => k_is)
      (case ty53 => k_is)
      (case sa14 => k_is)
      (case ke14 => k_is)
      (case no14_0 => k_is)
      (case lx14 => k_is)
      (case rx14 => decide +kernel)
      (case m54 => k_is)
      (case l54 => k_is)
      (case c54 => k_is)
      (case k54 => k_is)
      (case ty54 => k_is)
      (case sa15 => k_is)
      (case ke15 => k_is)
      (case no15_0 => k_is)
      (case lx15 => k_is)
      (case rx15 => decide +kernel)
      (case m55 => k_is)
      (case l55 => k_is)
      (case c55 => k_is)
      (case k55 => k_is)
      (case ty55 => k_is)
      (case sa17 => k_is)
      (case ke17 => k_is)
      (case no17_0 => k_is)
      (case no17_1 => k_is)
      (case lx17 => k_is)
      (case rx17 => decide +kernel)
      (case m57 => k_is)
      (case l57 => k_is)
      (case c57 => k_is)
      (case k57 => k_is)
      (case ty57 => k_is)
      (case q16 => k_exc)
      (case qF => k_exc)
      (case ke16 => k_is)
      (case keF => k_is)
      (case zint => k_is)
      (case zlen => k_is)
      (case zabs => k_is)
      (case zlist => k_is)
      (case zmin => k_is)
      (case zmax => k_is)
      (case zisinstance => k_is)
      (case zbool => k_is)
      (case ztuple => k_is)
      (case zall => k_is)
      (case zrange => k_is)
      (case zrepr => k_is)
      (case zany => k_is)
      (case zdict => k_is)
      (case zzip => k_is)
      (case zValueError => k_is))
