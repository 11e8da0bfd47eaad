import PyProof.Rows.All
import Wide.All
import OpenK.AllK
import Wide.FinOn
import HandS.ForMost
import HandS.Wide
import HandS.Codes
import HandS.IsInst
import HandS.Defaults
import HandS.MakeKw
import HandS.MakeKwOnly
import HandS.ClsMeth
import HandS.TupAny
import HandS.Style
import HandS.Iter
import HandS.ExcInit
import KE.KExcIs
import HandS.ForExc
import HandS.Lambda
import HandS.EndTab
import HandS.Conv
import HandS.Zip
import HandS.DictComp
import KE.KDictList
import HandS.Walk
import HandS.Text
import HandS.DeepEq
import KE.DataEq
import HandS.RaiseMore
import PyProof.Rows.StrDouble
import PyProof.Rows.StrFin3
import HandS.TupLe
import PySem.Challenge.RW_evenrules_k02_what_is_an_integer_a_key_a
open PySem PySem.W PyProof.Rows
set_option Elab.async false
set_option linter.all false
set_option maxRecDepth 100000 in
set_option maxHeartbeats 0 in
open_top hd for PySem.Challenge.rw_evenrules_k02_what_is_an_integer_a_key_a
set_option maxRecDepth 100000
set_option maxHeartbeats 4000000
namespace Ev
open PySem L2
def top (i : Nat) : Stmt := PySem.Challenge.pw_evenrules_k02_what_is_an_integer_a_key_a.main.body.getD i (.Pass ⟨0, 0, 0, 0⟩)
abbrev sDraw : Stmt := top 22
/-- all that was tracked is as it was, but at p -/
def But (p : Addr) (H H' : Hp) : Prop := ∀ b o, b ≠ p → H b = some o → H' b = some o
theorem But.refl (p : Addr) (H : Hp) : But p H H := fun _ _ _ e => e
theorem But.trans {p : Addr} {H H1 H2 : Hp} (a : But p H H1) (b : But p H1 H2) : But p H H2 := fun c o n e => b c o n (a c o n e)
theorem Same.but {p : Addr} {H H' : Hp} (a : Same H H') : But p H H' := fun c o _ e => a c o e
theorem But.upd_new {p q : Addr} {H : Hp} {o : HO} (h : H q = none) : But p H (upd H q o) := fun b u _ e => by
  rw [upd_ne (ne_of_none e h)]; exact e
theorem But.upd_at {p : Addr} {H : Hp} {o : HO} : But p H (upd H p o) := fun b u n e => by
  rw [upd_ne n]; exact e
/-- the pen: a list of a list of ints, how often it was asked, and a rest -/
def Pen (L : Addr) (H : Hp) (p : Addr) (B : Int) : Prop := ∃ (ns : List Int) (turn carry : Int),
  H p = some (.lst [.ref L, .int turn, .int carry]) ∧ H L = some (.lst (ns.map V.int)) ∧ L ≠ p ∧ ns.length ≤ 63 ∧ 0 ≤ turn ∧ turn ≤ B ∧ 0 ≤ carry
theorem Pen.keep {L : Addr} {H H' : Hp} {p : Addr} {B : Int} (h : Pen L H p B) (k : Same H H') : Pen L H' p B := by
  obtain ⟨ns, t, c, h1, h2, h3, h4, h5, h6, h7⟩ := h
  exact ⟨ns, t, c, k _ _ h1, k _ _ h2, h3, h4, h5, h6, h7⟩
theorem Pen.mono {L : Addr} {H : Hp} {p : Addr} {B B' : Int} (h : Pen L H p B) (k : B ≤ B') : Pen L H p B' := by
  obtain ⟨ns, t, c, h1, h2, h3, h4, h5, h6, h7⟩ := h
  exact ⟨ns, t, c, h1, h2, h3, h4, h5, by omega, h7⟩
def spDraw : Sp := fun vs H Q _ => ∃ (p L : Addr) (m B : Int), vs = [.ref p, .int m] ∧ 1 ≤ m ∧ m ≤ 1000000000000 ∧ B ≤ 1000000 ∧ Pen L H p B ∧
  ∀ (d : Int) (H' : Hp), But p H H' → Pen L H' p (B + 1) → 0 ≤ d → d < m → Q (.int d) H'
theorem dpInts {K : PySem.W.Frag} {H : Hp} : ∀ ns : List Int, DpAll K H (ns.map V.int) (ns.map PyData.int)
  | [] => .nil
  | n :: r => .cons (.int n) (dpInts r)
theorem sh_ints (ns : List Int) : SeqAt.shaped (.list (ns.map PyData.int)) = true := by
  have h1 : ∀ ns : List Int, PyData.canLayAll0 (ns.map PyData.int) = true := by
    intro ns
    induction ns with
    | nil => rfl
    | cons n r ih => simp [PyData.canLayAll0, PyData.canLay0, ih]
  have h2 : ∀ ns : List Int, PyData.depthAll (ns.map PyData.int) ≤ 1 := by
    intro ns
    induction ns with
    | nil => simp [PyData.depthAll]
    | cons n r ih => simp [PyData.depthAll, PyData.depth]; omega
  unfold SeqAt.shaped
  rw [Bool.and_eq_true]
  refine ⟨by simp [PyData.canLay0, h1], decide_eq_true ?_⟩
  have := h2 ns
  simp [PyData.depth]; omega
theorem eqv_nil (ns : List Int) : PyData.eqv (.list (ns.map PyData.int)) (.list []) = ns.isEmpty := by
  cases ns <;> simp [PyData.eqv, PyData.eqvAll]
section
variable {P : Program} {w : World} {K : PySem.W.Frag} {mg : Str → Option Value} {base : Heap}
/-- built-ins that the program does not cover -/
structure Blt (mg : Str → Option Value) : Prop where
  int : mg "int" = none
  len : mg "len" = none
  abs : mg "abs" = none
  list : mg "list" = none
  min : mg "min" = none
  max : mg "max" = none
  isi : mg "isinstance" = none
  bool : mg "bool" = none
  tuple : mg "tuple" = none
  all : mg "all" = none
  range : mg "range" = none
  repr : mg "repr" = none
theorem scD : FnScope ["_law_pen_here", "_law_many", "_law_digit", "_law_lap", "_law_cell", "_law_great", "_law_mixed"] ["_law_pen_here", "_law_many"] (defScope sDraw) := ⟨rfl, rfl, rfl, by decide +kernel, rfl, by decide +kernel, by decide +kernel⟩
theorem fmod_lo (a : Int) {m : Int} (h : 1 ≤ m) : 0 ≤ a.fmod m := by rw [Int.fmod_eq_emod_of_nonneg a (by omega)]; exact Int.emod_nonneg a (by omega)
theorem fmod_hi (a : Int) {m : Int} (h : 1 ≤ m) : a.fmod m < m := by rw [Int.fmod_eq_emod_of_nonneg a (by omega)]; exact Int.emod_lt_of_pos a (by omega)
theorem fdiv_lo {a m : Int} (h : 1 ≤ m) (h0 : 0 ≤ a) : 0 ≤ a.fdiv m := by rw [Int.fdiv_eq_ediv_of_nonneg a (by omega)]; exact Int.ediv_nonneg h0 (by omega)
theorem cell_at {ns : List Int} (h : ns ≠ []) (t : Int) : ∃ c : Int, atI (ns.map V.int) (t.fmod (((ns.map V.int).length : Nat) : Int)) = some (V.int c) := by
  rw [List.length_map]
  have l : 0 < ns.length := List.length_pos_iff.mpr h
  have h1 : 0 ≤ t.fmod (ns.length : Int) := fmod_lo t (by omega)
  have h2 : t.fmod (ns.length : Int) < ns.length := fmod_hi t (by omega)
  generalize t.fmod (ns.length : Int) = i at h1 h2
  obtain ⟨j, rfl⟩ := Int.eq_ofNat_of_zero_le h1
  have hj : j < ns.length := by omega
  exact ⟨ns[j], atI_nat (by rw [List.getElem?_map, List.getElem?_eq_getElem hj]; rfl)⟩
theorem mul_le_of {a b A B : Int} (a0 : 0 ≤ a) (b0 : 0 ≤ b) (ha : a ≤ A) (hb : b ≤ B) : 0 ≤ a * b ∧ a * b ≤ A * B :=
  ⟨Int.mul_nonneg a0 b0, Int.mul_le_mul ha hb b0 (by omega)⟩
theorem bound1 (c : Int) {M C D t : Int} (hM : 1 ≤ M) (hM2 : M ≤ 4294967296) (hC : 0 ≤ C ∧ C ≤ 1000000) (hD : 0 ≤ D ∧ D ≤ 1000000) (h0 : 0 ≤ t) (h1 : t ≤ 1000000) : (c.fmod M + C * t + D).natAbs < 2 ^ 64 := by
  have a1 := fmod_lo c hM
  have a2 := fmod_hi c hM
  have ⟨a3, a4⟩ := mul_le_of hC.1 h0 hC.2 h1
  omega
theorem bound2 {x C5 C6 C7 t : Int} (hx : 0 ≤ x ∧ x < 4294967296) (h5 : 0 ≤ C5 ∧ C5 ≤ 1000000) (h6 : 0 ≤ C6 ∧ C6 ≤ 1000000) (h7 : 0 ≤ C7 ∧ C7 ≤ 1000000) (h0 : 0 ≤ t) (h1 : t ≤ 1000000) :
    (x * (2 * t + C5) + C6 * t * t + C7).natAbs < 2 ^ 64 := by
  have ⟨a1, a2⟩ := mul_le_of (b := 2 * t + C5) (A := 4294967296) (B := 3000000) hx.1 (by omega) (by omega) (by omega)
  have ⟨a3, a4⟩ := mul_le_of h6.1 h0 h6.2 h1
  have ⟨a5, a6⟩ := mul_le_of a3 h0 a4 h1
  omega
theorem great_nn {c e : Int} (h : e ≤ (if c < 0 then -c else c)) (b : Bool) : 0 ≤ 2 * ((if c < 0 then -c else c) - e) + (if b = true then 1 else 0) := by
  cases b
  · rw [if_neg Bool.false_ne_true]; omega
  · rw [if_pos rfl]; omega
theorem lt64 {x : Int} (h : 0 ≤ x ∧ x < 4294967296) : -(2 ^ 64) < x ∧ x < 2 ^ 64 := ⟨by omega, by omega⟩
theorem nz {M : Int} (h : 0 < M) : M ≠ 0 := by omega
theorem divW {i m : Int} (h : 1 ≤ m) (h2 : m ≤ 1000000000000) : CDivW i m := wide_div (b := 41) (by omega) (by omega) (by decide) (by decide)
theorem ediv_lo {a m : Int} (h : 1 ≤ m) (h0 : 0 ≤ a) : 0 ≤ a / m := Int.ediv_nonneg h0 (by omega)
theorem ok_draw {f : Addr} {fd : FuncData} (F : Fun K "_law_draw" "_law_draw" sDraw f fd) (T : Blt mg) : FnOk P w K mg base CX0 1 f fd ["_law_pen_here", "_law_many"] spDraw := by
  refine F.ok scD (fun vs H Q E h => ?_) (fun cdv A outer s H vs Q E hr h => ?_)
  · obtain ⟨p, L, m, B, rfl, _⟩ := h
    rfl
  · obtain ⟨p, L, m, B, rfl, hm, hm2, hB, ⟨ns, tn, ca, hp, hL, Lp, hlen, t0, tB, c0⟩, k⟩ := h
    have hu := hu_of hr
    refine ⟨_, pss_cons (ps_if (pt_cmpR op_gt (pe_ix ix_list (pv 0) pe_int (fun _ _ => rfl)) pe_int (nomark _))
        (pss_cons (ps_set (i := 2) scD.nd rfl (.inl rfl) (pe_op op_modN (pe_callTy call_int1 (by rfl) T.int (by decide +kernel) (pa_cons (pe_ix ix_list (pv 0) pe_int (fun _ _ => rfl)) pa_nil)) (pv 1)))
        (pss_cons (ps_asg (pe_op op_fdivW (pe_callTy call_int1 (by rfl) T.int (by decide +kernel) (pa_cons (pe_ix ix_list (pv 0) pe_int (fun _ _ => rfl)) pa_nil)) (pv 1)) (pg_sub (pv 0) pe_int set_list))
        (pss_one (ps_ret (pv 2))))) pss_nil)
      (pss_cons (ps_set (i := 3) scD.nd rfl (.inl rfl) (pe_ix ix_list (pv 0) pe_int (fun _ _ => rfl)))
      (pss_cons (ps_asg (pe_op op_add (pv 3) pe_int) (pg_sub (pv 0) pe_int set_list))
      (pss_cons (ps_set (i := 4) scD.nd rfl (.inl rfl) (pe_op op_add (pe_op op_mul pe_int (pv 3)) pe_int))
      (pss_cons (ps_if (pt_cmpR (op_neD hr.units) (pe_ix ix_list (pv 0) pe_int (fun _ _ => rfl)) (pe_lst pa_nil) (nomark _))
        (pss_one (ps_set (i := 4) scD.nd rfl (.inl rfl) (pe_ix ix_list (pe_ix ix_list (pv 0) pe_int (fun _ _ => rfl))
          (pe_op op_modN (pe_callTy call_int1 (by rfl) T.int (by decide +kernel) (pa_cons (pv 3) pa_nil)) (pe_callB call_len_seq (by rfl) T.len PySem.boot_len (pa_cons (pe_ix ix_list (pv 0) pe_int (fun _ _ => rfl)) pa_nil))) (fun _ _ => rfl)))) pss_nil)
      (pss_cons (ps_if (PW.pt (pw_and (pt_cmpR op_lt (pv 3) (pe_callB call_len_seq (by rfl) T.len PySem.boot_len (pa_cons (pe_ix ix_list (pv 0) pe_int (fun _ _ => rfl)) pa_nil)) (nomark _))
          (pw_and1 (pt_cmpR op_ge (pe_callB call_abs (by rfl) T.abs (by decide +kernel) (pa_cons (pv 4) pa_nil)) (pe_op op_pow pe_int pe_int) (nomark _)))))
        (pss_cons (ps_set (i := 5) scD.nd rfl (.inl rfl) (pe_op op_add (pe_op op_mul pe_int (pe_op op_sub (pe_callB call_abs (by rfl) T.abs (by decide +kernel) (pa_cons (pv 4) pa_nil)) (pe_op op_pow pe_int pe_int)))
            (pe_callTy call_int1 (by rfl) T.int (by decide +kernel) (pa_cons (pe_cmpR op_lt (pv 4) pe_int (nomark _)) pa_nil))))
        (pss_cons (ps_asg (pe_op op_fdivW (pe_callTy call_int1 (by rfl) T.int (by decide +kernel) (pa_cons (pv 5) pa_nil)) (pv 1)) (pg_sub (pv 0) pe_int set_list))
        (pss_one (ps_ret (pe_op op_modN (pe_callTy call_int1 (by rfl) T.int (by decide +kernel) (pa_cons (pv 5) pa_nil)) (pv 1)))))) pss_nil)
      (pss_cons (ps_set (i := 6) scD.nd rfl (.inl rfl) (pe_op op_modN (pe_callTy call_int1 (by rfl) T.int (by decide +kernel) (pa_cons (pe_op op_pow (pe_op op_add (pe_op op_add
          (pe_op op_modN (pe_callTy call_int1 (by rfl) T.int (by decide +kernel) (pa_cons (pv 4) pa_nil)) pe_int) (pe_op op_mul pe_int (pv 3))) pe_int) pe_int) pa_nil)) pe_int))
      (pss_cons (ps_set (i := 6) scD.nd rfl (.inl rfl) (pe_op op_modN (pe_callTy call_int1 (by rfl) T.int (by decide +kernel) (pa_cons (pe_op op_pow (pe_op op_add (pe_op op_add
          (pe_op op_mul (pv 6) (pe_op op_add (pe_op op_mul pe_int (pv 3)) pe_int)) (pe_op op_mul (pe_op op_mul pe_int (pv 3)) (pv 3))) pe_int) pe_int) pa_nil)) pe_int))
      (pss_one (ps_ret (pe_op op_modN (pe_callTy call_int1 (by rfl) T.int (by decide +kernel) (pa_cons (pe_op op_fdivN (pv 6) pe_int) pa_nil)) (pv 1))))))))))), ?_⟩
    have i2 : ∀ {a b c : V}, atI [a, b, c] 2 = some c := fun {a b c} => atI_nat (j := 2) rfl
    have i1 : ∀ {a b c : V}, atI [a, b, c] 1 = some b := fun {a b c} => atI_nat (j := 1) rfl
    have i0 : ∀ {a b c : V}, atI [a, b, c] 0 = some a := fun {a b c} => atI_nat (j := 0) rfl
    -- if pen[2] > 0
    refine ⟨_, rfl, p, _, 2, _, rfl, rfl, SqL.of hp, i2, _, _, rfl, rfl, _, rfl, ite2 (fun e => ?_) (fun e => ?_)⟩
    · -- digit
      refine ⟨_, rfl, p, _, 2, _, rfl, rfl, SqL.of hp, i2, .inl ⟨_, rfl, _, rfl, _, _, rfl, rfl, (by omega), ?_⟩⟩
      refine ⟨_, rfl, p, _, 2, _, rfl, rfl, SqL.of hp, i2, .inl ⟨_, rfl, _, rfl, _, _, rfl, rfl, divW hm hm2, _, rfl, p, _, _, 2, rfl, rfl, hp, rfl, ?_⟩⟩
      refine ⟨_, rfl, ?_⟩
      exact k _ _ But.upd_at ⟨ns, tn, _, upd_same, by rw [upd_ne Lp]; exact hL, Lp, hlen, t0, by omega, ediv_lo hm c0⟩ (fmod_lo _ hm) (fmod_hi _ hm)
    · -- turn
      refine ⟨_, rfl, p, _, 1, _, rfl, rfl, SqL.of hp, i1, ?_⟩
      refine ⟨_, rfl, _, _, rfl, rfl, _, rfl, p, _, _, 1, rfl, rfl, hp, rfl, ?_⟩
      have hp1 : upd H p (.lst ([V.ref L, V.int tn, V.int ca].set 1 (V.int (tn + 1)))) p = some (.lst [.ref L, .int (tn + 1), .int ca]) := upd_same
      have hL1 : upd H p (.lst ([V.ref L, V.int tn, V.int ca].set 1 (V.int (tn + 1)))) L = some (.lst (ns.map V.int)) := by rw [upd_ne Lp]; exact hL
      have b1 : But p H (upd H p (.lst ([V.ref L, V.int tn, V.int ca].set 1 (V.int (tn + 1))))) := But.upd_at
      generalize upd H p (.lst ([V.ref L, V.int tn, V.int ca].set 1 (V.int (tn + 1)))) = H1 at hp1 hL1 b1 ⊢
      -- cell = c * turn + c'
      refine ⟨_, rfl, _, _, rfl, rfl, .inl ⟨by decide, by decide⟩, _, _, rfl, rfl, ?_⟩
      -- if pen[0] != []
      refine ⟨_, rfl, p, _, 0, _, rfl, rfl, SqL.of hp1, i0, by decide, fun l hl => ?_⟩
      have n1 : p ≠ l := ne_of_none hp1 hl
      have n2 : L ≠ l := ne_of_none hL1 hl
      have hp2 : upd H1 l (.lst []) p = some (.lst [.ref L, .int (tn + 1), .int ca]) := by rw [upd_ne n1]; exact hp1
      have hL2 : upd H1 l (.lst []) L = some (.lst (ns.map V.int)) := by rw [upd_ne n2]; exact hL1
      have hl2 : upd H1 l (.lst []) l = some (.lst []) := upd_same
      have b2 : But p H (upd H1 l (.lst [])) := b1.trans (But.upd_new hl)
      clear b1 hp1 hL1
      generalize upd H1 l (.lst []) = H2 at hp2 hL2 hl2 b2
      refine ⟨_, _, .lst (SqL.of hL2) (dpInts ns), .lst (SqL.of hl2) .nil, sh_ints ns, sh_ints [], _, rfl, ?_⟩
      rw [eqv_nil]
      -- the rest, for any cell
      have hcell : ∀ c : Int, ∃ j : Int, (if c < 0 then -c else c) = j ∧ 0 ≤ j := fun c => by
        by_cases z : c < 0
        · exact ⟨_, rfl, by rw [if_pos z]; omega⟩
        · exact ⟨_, rfl, by rw [if_neg z]; omega⟩
      have fin : ∀ H' : Hp, H' p = some (.lst [.ref L, .int (tn + 1), .int ca]) → H' L = some (.lst (ns.map V.int)) → But p H H' → Pen L H' p (B + 1) := fun H' e1 e2 _ =>
        ⟨ns, tn + 1, ca, e1, e2, Lp, hlen, by omega, by omega, c0⟩
      have ht : tn ≤ 1000000 := by omega
      have hm6 : 0 ≤ 76705 * tn ∧ 76705 * tn ≤ 76705 * 1000000 := mul_le_of (by decide) t0 (Int.le_refl _) ht
      have hq : ∀ {x m : Int}, 1 ≤ m → m ≤ 4294967296 → 0 ≤ x.fmod m ∧ x.fmod m < 4294967296 := fun {x m} h1 h2 => ⟨fmod_lo x h1, by have := fmod_hi x h1; omega⟩
      cases hn : ns with
      | nil =>
        refine iteF ?_
        refine ⟨_, rfl, _, rfl, p, _, 0, _, rfl, rfl, SqL.of hp2, i0, L, _, rfl, .inl (SqL.of hL2), _, _, rfl, rfl, _, rfl, ite2 (fun e1 => ?_) (fun e1 => ?_)⟩
        · refine ⟨_, rfl, _, rfl, _, _, rfl, rfl, ⟨by decide, by decide, by decide⟩, _, _, rfl, rfl, _, rfl, ite2 (fun e2 => ?_) (fun e2 => ?_)⟩
          · refine ⟨_, rfl, _, rfl, _, _, rfl, rfl, ⟨by decide, by decide, by decide⟩, _, _, rfl, rfl, _, _, rfl, rfl, .inl ⟨by decide, by decide⟩, _, rfl, _, _, rfl, rfl, .inr ⟨_, rfl, _, _, rfl, rfl, ?_⟩⟩
            refine ⟨_, rfl, .inl ⟨_, rfl, _, rfl, _, _, rfl, rfl, divW hm hm2, _, rfl, p, _, _, 2, rfl, rfl, hp2, rfl, ?_⟩⟩
            refine ⟨_, rfl, .inl ⟨_, rfl, _, rfl, _, _, rfl, rfl, (by omega), ?_⟩⟩
            refine k _ _ (b2.trans But.upd_at) ⟨_, tn + 1, _, upd_same, by rw [upd_ne Lp]; exact hL2, Lp, hlen, by omega, by omega, ediv_lo hm ?_⟩ (fmod_lo _ hm) (fmod_hi _ hm)
            have e3 := of_decide_eq_true e2
            exact great_nn e3 _
          · skip
            refine ⟨_, rfl, .inl ⟨_, rfl, _, _, rfl, rfl, nz (by decide), _, rfl, _, _, rfl, rfl, .inl ⟨by decide, by decide⟩, _, _, rfl, rfl, _, _, rfl, rfl, _, _, rfl, rfl, ⟨by decide, by decide, bound1 _ (by decide) (by decide) (by decide) (by decide) t0 ht⟩, .inl ⟨_, rfl, _, _, rfl, rfl, nz (by decide), ?_⟩⟩⟩
            refine ⟨_, rfl, _, rfl, _, _, rfl, rfl, .inl ⟨by decide, by decide⟩, _, _, rfl, rfl, _, _, rfl, rfl, .inl ?_, _, rfl, _, _, rfl, rfl, .inl ⟨by decide, by decide⟩, _, rfl, _, _, rfl, rfl, .inl ?_, _, _, rfl, rfl, _, _, rfl, rfl, _, _, rfl, rfl, ⟨by decide, by decide, ?_⟩, .inl ⟨_, rfl, _, _, rfl, rfl, nz (by decide), ?_⟩⟩
            · exact lt64 (hq (by decide) (by decide))
            · exact ⟨by omega, by omega⟩
            · exact bound2 (hq (by decide) (by decide)) (by decide) (by decide) (by decide) t0 ht
            · refine ⟨_, rfl, _, _, rfl, rfl, ⟨by decide, by decide⟩, .inl ⟨_, rfl, _, rfl, _, _, rfl, rfl, (by omega), ?_⟩⟩
              exact k _ _ b2 (fin _ hp2 hL2 b2) (fmod_lo _ hm) (fmod_hi _ hm)
        · skip
          refine ⟨_, rfl, .inl ⟨_, rfl, _, _, rfl, rfl, nz (by decide), _, rfl, _, _, rfl, rfl, .inl ⟨by decide, by decide⟩, _, _, rfl, rfl, _, _, rfl, rfl, _, _, rfl, rfl, ⟨by decide, by decide, bound1 _ (by decide) (by decide) (by decide) (by decide) t0 ht⟩, .inl ⟨_, rfl, _, _, rfl, rfl, nz (by decide), ?_⟩⟩⟩
          refine ⟨_, rfl, _, rfl, _, _, rfl, rfl, .inl ⟨by decide, by decide⟩, _, _, rfl, rfl, _, _, rfl, rfl, .inl ?_, _, rfl, _, _, rfl, rfl, .inl ⟨by decide, by decide⟩, _, rfl, _, _, rfl, rfl, .inl ?_, _, _, rfl, rfl, _, _, rfl, rfl, _, _, rfl, rfl, ⟨by decide, by decide, ?_⟩, .inl ⟨_, rfl, _, _, rfl, rfl, nz (by decide), ?_⟩⟩
          · exact lt64 (hq (by decide) (by decide))
          · exact ⟨by omega, by omega⟩
          · exact bound2 (hq (by decide) (by decide)) (by decide) (by decide) (by decide) t0 ht
          · refine ⟨_, rfl, _, _, rfl, rfl, ⟨by decide, by decide⟩, .inl ⟨_, rfl, _, rfl, _, _, rfl, rfl, (by omega), ?_⟩⟩
            exact k _ _ b2 (fin _ hp2 hL2 b2) (fmod_lo _ hm) (fmod_hi _ hm)
      | cons n0 nr =>
        refine iteT ?_
        obtain ⟨c, hc⟩ := cell_at (ns := ns) (by rw [hn]; exact List.cons_ne_nil _ _) tn
        refine ⟨_, rfl, p, _, 0, _, rfl, rfl, SqL.of hp2, i0, _, rfl, .inl ⟨_, rfl, _, rfl, p, _, 0, _, rfl, rfl, SqL.of hp2, i0, L, _, rfl, .inl (SqL.of hL2), _, _, rfl, rfl, (by rw [List.length_map, hn, List.length_cons]; omega), L, _, _, _, rfl, rfl, SqL.of hL2, hc, ?_⟩⟩
        refine ⟨_, rfl, _, rfl, p, _, 0, _, rfl, rfl, SqL.of hp2, i0, L, _, rfl, .inl (SqL.of hL2), _, _, rfl, rfl, _, rfl, ite2 (fun e1 => ?_) (fun e1 => ?_)⟩
        · refine ⟨_, rfl, _, rfl, _, _, rfl, rfl, ⟨by decide, by decide, by decide⟩, _, _, rfl, rfl, _, rfl, ite2 (fun e2 => ?_) (fun e2 => ?_)⟩
          · refine ⟨_, rfl, _, rfl, _, _, rfl, rfl, ⟨by decide, by decide, by decide⟩, _, _, rfl, rfl, _, _, rfl, rfl, .inl ⟨by decide, by decide⟩, _, rfl, _, _, rfl, rfl, .inr ⟨_, rfl, _, _, rfl, rfl, ?_⟩⟩
            refine ⟨_, rfl, .inl ⟨_, rfl, _, rfl, _, _, rfl, rfl, divW hm hm2, _, rfl, p, _, _, 2, rfl, rfl, hp2, rfl, ?_⟩⟩
            refine ⟨_, rfl, .inl ⟨_, rfl, _, rfl, _, _, rfl, rfl, (by omega), ?_⟩⟩
            refine k _ _ (b2.trans But.upd_at) ⟨_, tn + 1, _, upd_same, by rw [upd_ne Lp]; exact hL2, Lp, hlen, by omega, by omega, ediv_lo hm ?_⟩ (fmod_lo _ hm) (fmod_hi _ hm)
            have e3 := of_decide_eq_true e2
            exact great_nn e3 _
          · skip
            refine ⟨_, rfl, .inl ⟨_, rfl, _, _, rfl, rfl, nz (by decide), _, rfl, _, _, rfl, rfl, .inl ⟨by decide, by decide⟩, _, _, rfl, rfl, _, _, rfl, rfl, _, _, rfl, rfl, ⟨by decide, by decide, bound1 _ (by decide) (by decide) (by decide) (by decide) t0 ht⟩, .inl ⟨_, rfl, _, _, rfl, rfl, nz (by decide), ?_⟩⟩⟩
            refine ⟨_, rfl, _, rfl, _, _, rfl, rfl, .inl ⟨by decide, by decide⟩, _, _, rfl, rfl, _, _, rfl, rfl, .inl ?_, _, rfl, _, _, rfl, rfl, .inl ⟨by decide, by decide⟩, _, rfl, _, _, rfl, rfl, .inl ?_, _, _, rfl, rfl, _, _, rfl, rfl, _, _, rfl, rfl, ⟨by decide, by decide, ?_⟩, .inl ⟨_, rfl, _, _, rfl, rfl, nz (by decide), ?_⟩⟩
            · exact lt64 (hq (by decide) (by decide))
            · exact ⟨by omega, by omega⟩
            · exact bound2 (hq (by decide) (by decide)) (by decide) (by decide) (by decide) t0 ht
            · refine ⟨_, rfl, _, _, rfl, rfl, ⟨by decide, by decide⟩, .inl ⟨_, rfl, _, rfl, _, _, rfl, rfl, (by omega), ?_⟩⟩
              exact k _ _ b2 (fin _ hp2 hL2 b2) (fmod_lo _ hm) (fmod_hi _ hm)
        · skip
          refine ⟨_, rfl, .inl ⟨_, rfl, _, _, rfl, rfl, nz (by decide), _, rfl, _, _, rfl, rfl, .inl ⟨by decide, by decide⟩, _, _, rfl, rfl, _, _, rfl, rfl, _, _, rfl, rfl, ⟨by decide, by decide, bound1 _ (by decide) (by decide) (by decide) (by decide) t0 ht⟩, .inl ⟨_, rfl, _, _, rfl, rfl, nz (by decide), ?_⟩⟩⟩
          refine ⟨_, rfl, _, rfl, _, _, rfl, rfl, .inl ⟨by decide, by decide⟩, _, _, rfl, rfl, _, _, rfl, rfl, .inl ?_, _, rfl, _, _, rfl, rfl, .inl ⟨by decide, by decide⟩, _, rfl, _, _, rfl, rfl, .inl ?_, _, _, rfl, rfl, _, _, rfl, rfl, _, _, rfl, rfl, ⟨by decide, by decide, ?_⟩, .inl ⟨_, rfl, _, _, rfl, rfl, nz (by decide), ?_⟩⟩
          · exact lt64 (hq (by decide) (by decide))
          · exact ⟨by omega, by omega⟩
          · exact bound2 (hq (by decide) (by decide)) (by decide) (by decide) (by decide) t0 ht
          · refine ⟨_, rfl, _, _, rfl, rfl, ⟨by decide, by decide⟩, .inl ⟨_, rfl, _, rfl, _, _, rfl, rfl, (by omega), ?_⟩⟩
            exact k _ _ b2 (fin _ hp2 hL2 b2) (fmod_lo _ hm) (fmod_hi _ hm)
end
end Ev
namespace Ev
open PySem L2
abbrev sIsInt : Stmt := top 14
abbrev sWithin : Stmt := top 15
abbrev sIsKey : Stmt := top 16
abbrev sIsName : Stmt := top 17
abbrev sNeedK : Stmt := top 18
abbrev sNeedN : Stmt := top 19
abbrev sPen : Stmt := top 21
abbrev sPick : Stmt := top 23
abbrev sValue : Stmt := top 24
abbrev sLName : Stmt := top 25
abbrev sHeard : Stmt := top 26
abbrev sRight : Stmt := top 27
abbrev sLaw : Stmt := top 28
abbrev sKInit : Stmt := inClass (top 8) 0
abbrev sNInit : Stmt := inClass (top 9) 0
/-- a def that stands under its name -/
structure Df (P : Program) (w : World) (K : PySem.W.Frag) (mg : Str → Option Value) (base : Heap) (k : Nat) (x : Str) (ps : List Str) (sp : Sp) : Prop where
  ex : ∃ (f : Addr) (fd : FuncData), FnOk P w K mg base CX0 k f fd ps sp ∧ mg x = some (.ref f) ∧ PySem.W.keepIn K (.ref f) = true ∧ Binds K fd ps []
def wholeB : V → Bool
  | .int _ => true
  | _ => false
def isS : V → Bool
  | .str _ => true
  | _ => false
def withB (l m : Int) : V → Bool
  | .int i => decide (l ≤ i) && decide (i ≤ m)
  | _ => false
def fitsB : V → Bool
  | .int i => decide (-(10 ^ 30) < i) && decide (i < 10 ^ 30)
  | _ => false
def inL (c : Nat) : Bool := decide (c ∈ ("abcdefghijklmnopqrstuvwxyz" : Str).cps.toList)
def nameB (x : Str) : Bool := decide (1 ≤ x.length) && decide (x.length ≤ 8) && x.cps.toList.all inL
def nmB : V → Bool
  | .str x => nameB x
  | _ => false
/-- the type of a value, as the checks ask for it -/
def Tyd (H : Hp) (v : V) : Prop := ∃ (T : String) (bi bb : Bool), (∀ (K : PySem.W.Frag) (H' : Hp), Same H H' → TyX K H' v (.type T)) ∧ kitB T "int" = some bi ∧ kitB T "bool" = some bb ∧ kitB T "str" = some (isS v) ∧ (bi && !bb) = wholeB v
theorem Tyd.keep {H H' : Hp} {v : V} (h : Tyd H v) (k : Same H H') : Tyd H' v := by
  obtain ⟨T, a, b, t, e⟩ := h
  exact ⟨T, a, b, fun K G q => t K G (k.trans q), e⟩
theorem tyd_int (H : Hp) (i : Int) : Tyd H (.int i) := ⟨"int", true, false, fun _ _ _ => .base (.int i), by decide +kernel, by decide +kernel, (show kitB "int" "str" = some false by decide +kernel), rfl⟩
theorem tyd_bl (H : Hp) (b : Bool) : Tyd H (.bl b) := ⟨"bool", true, true, fun _ _ _ => .base (.bl b), by decide +kernel, by decide +kernel, (show kitB "bool" "str" = some false by decide +kernel), rfl⟩
theorem tyd_str (H : Hp) (x : Str) : Tyd H (.str x) := ⟨"str", false, false, fun _ _ _ => .base (.str x), by decide +kernel, by decide +kernel, (show kitB "str" "str" = some true by decide +kernel), rfl⟩
theorem tyd_non (H : Hp) : Tyd H .non := ⟨"NoneType", false, false, fun _ _ _ => .base .non, by decide +kernel, by decide +kernel, (show kitB "NoneType" "str" = some false by decide +kernel), rfl⟩
theorem tyd_tup {H : Hp} {a : Addr} {xs : List V} (e : H a = some (.tup xs)) : Tyd H (.ref a) := ⟨"tuple", false, false, fun _ _ k => .base (.tup (k _ _ e)), by decide +kernel, by decide +kernel, (show kitB "tuple" "str" = some false by decide +kernel), rfl⟩
theorem tyd_lst {H : Hp} {a : Addr} {xs : List V} (e : H a = some (.lst xs)) : Tyd H (.ref a) := ⟨"list", false, false, fun _ _ k => .base (.lst (k _ _ e)), by decide +kernel, by decide +kernel, (show kitB "list" "str" = some false by decide +kernel), rfl⟩
theorem tyd_dct {H : Hp} {a : Addr} {kvs : List (Key × V)} (e : H a = some (.dK kvs)) : Tyd H (.ref a) := ⟨"dict", false, false, fun _ _ k => .base (.dK (k _ _ e)), by decide +kernel, by decide +kernel, (show kitB "dict" "str" = some false by decide +kernel), rfl⟩
theorem whole_int {v : V} (h : wholeB v = true) : ∃ i, v = .int i := by
  cases v with
  | int i => exact ⟨_, rfl⟩
  | _ => cases h
theorem not_whole {v : V} (h : wholeB v = false) (l m : Int) : withB l m v = false ∧ fitsB v = false := by
  cases v with
  | int i => cases h
  | _ => exact ⟨rfl, rfl⟩
theorem isS_str {v : V} (h : isS v = true) : ∃ x, v = .str x := by
  cases v with
  | str x => exact ⟨_, rfl⟩
  | _ => cases h
theorem not_isS {v : V} (h : isS v = false) : nmB v = false := by
  cases v with
  | str x => cases h
  | _ => rfl
def spIsInt : Sp := fun vs H Q _ => ∃ v : V, vs = [v] ∧ Tyd H v ∧ Q (.bl (wholeB v)) H
def spWithin : Sp := fun vs H Q _ => ∃ (v : V) (l m : Int), vs = [v, .int l, .int m] ∧ Tyd H v ∧ Q (.bl (withB l m v)) H
def spIsKey : Sp := fun vs H Q _ => ∃ v : V, vs = [v] ∧ Tyd H v ∧ Q (.bl (fitsB v)) H
def ShortS (v : V) : Prop := ∀ x, v = .str x → x.length ≤ 1000 ∧ ∀ c ∈ x.cps.toList, c < 1114112
def spIsName : Sp := fun vs H Q _ => ∃ v : V, vs = [v] ∧ Tyd H v ∧ ShortS v ∧ ∀ H', Same H H' → Q (.bl (nmB v)) H'
end Ev
namespace Ev
open PySem L2 PySem.Spec PyProof.Rows
abbrev sKept : Stmt := top 1
abbrev sParts : Stmt := top 4
theorem same_new {H : Hp} {q : Addr} {o : HO} (n : H q = none) : Same H (upd H q o) := fun b u e => by rw [upd_ne (ne_of_none e n)]; exact e
section
variable {X : Cx}
theorem pe_never {e : Expr} : PE X e (fun _ _ _ => False) := ⟨fun _ _ _ _ _ _ h => h.elim⟩
end
/-- v is a value of the built-in type T, one that holds nothing -/
structure Flat (v : V) (T : String) : Prop where
  ty : ∀ (K : PySem.W.Frag) (H : Hp), TyX K H v (.type T)
  l : kitB T "list" = some false
  t : kitB T "tuple" = some false
  d : kitB T "dict" = some false
theorem flat_int (i : Int) : Flat (.int i) "int" := ⟨fun _ _ => .base (.int i), by decide +kernel, by decide +kernel, by decide +kernel⟩
theorem flat_str (x : Str) : Flat (.str x) "str" := ⟨fun _ _ => .base (.str x), by decide +kernel, by decide +kernel, by decide +kernel⟩
theorem kit2 {K : PySem.W.Frag} {T a b : String} (h1 : kitB T a = some false) (h2 : kitB T b = some false) : PySem.W.kitAny K (.type T) [.type a, .type b] = some false :=
  kitAny_cons (kit_ty h1) (fun _ => kitAny_cons (kit_ty h2) (fun _ => kitAny_nil) (fun z => by cases z)) (fun z => by cases z)
def spParts : Sp := fun vs H Q _ => ∃ (v : V) (T : String), vs = [v] ∧ Flat v T ∧ ∀ (p : Addr) (H' : Hp), H p = none → Same H H' → H' p = some (.lst []) → Q (.ref p) H'
def spKept : Sp := fun vs H Q _ => ∃ (v : V) (T : String), vs = [v] ∧ Flat v T ∧ ∀ (H' : Hp), Same H H' → Q v H'
section
variable {P : Program} {w : World} {K : PySem.W.Frag} {mg : Str → Option Value} {base : Heap}
theorem scParts : FnScope ["value"] ["value"] (defScope sParts) := ⟨rfl, rfl, rfl, by decide +kernel, rfl, by decide +kernel, by decide +kernel⟩
theorem ok_parts {f : Addr} {fd : FuncData} (F : Fun K "parts_of" "parts_of" sParts f fd) (T : Blt mg) (md : mg "dict" = none) : FnOk P w K mg base CX0 1 f fd ["value"] spParts := by
  refine F.ok scParts (fun vs H Q E h => ?_) (fun cdv A outer s H vs Q E hr h => ?_)
  · obtain ⟨v, TT, rfl, _⟩ := h
    rfl
  · obtain ⟨v, TT, rfl, fl, kk⟩ := h
    refine ⟨_, pss_cons (ps_if (pt_val (pe_callB call_isiT (by rfl) T.isi (by decide +kernel) (pa_cons (pv 0) (pa_cons (pe_tup (pa_cons (pe_bltn (v := .ty "list") (by rfl) T.list (by decide +kernel) rfl) (pa_cons (pe_bltn (v := .ty "tuple") (by rfl) T.tuple (by decide +kernel) rfl) pa_nil))) pa_nil)))) (pss_one ps_never) pss_nil)
      (pss_one (ps_ret (pe_ifExp (pt_val (pe_callB call_isi (by rfl) T.isi (by decide +kernel) (pa_cons (pv 0) (pa_cons (pe_bltn (v := .ty "dict") (by rfl) md (by decide +kernel) rfl) pa_nil)))) pe_never (pe_lst pa_nil)))), ?_⟩
    refine ⟨_, rfl, (by show 2 ≤ sizeLine; decide), fun tp ntp => ⟨v, tp, _, _, _, false, rfl, upd_same, .cons (.ty _) (.cons (.ty _) .nil), fl.ty _ _, kit2 fl.l fl.t, _, rfl, iteF ?_⟩⟩
    refine ⟨_, rfl, v, _, _, _, false, rfl, .ty _, fl.ty _ _, kit_ty fl.d, _, rfl, iteF ⟨(by show 0 ≤ sizeLine; decide), fun p np => ?_⟩⟩
    refine kk p _ ?_ (fun b o e => ?_) upd_same
    · cases e : H p with
      | none => rfl
      | some o => rw [upd_ne (ne_of_none e ntp), e] at np; cases np
    · have e1 : upd H tp (.tup [.ty "list", .ty "tuple"]) b = some o := by rw [upd_ne (ne_of_none e ntp)]; exact e
      rw [upd_ne (ne_of_none e1 np)]; exact e1
theorem kit3 {K : PySem.W.Frag} {T a b c : String} (h1 : kitB T a = some false) (h2 : kitB T b = some false) (h3 : kitB T c = some false) : PySem.W.kitAny K (.type T) [.type a, .type b, .type c] = some false :=
  kitAny_cons (kit_ty h1) (fun _ => kitAny_cons (kit_ty h2) (fun _ => kitAny_cons (kit_ty h3) (fun _ => kitAny_nil) (fun z => by cases z)) (fun z => by cases z)) (fun z => by cases z)
theorem scKept : FnScope ["value"] ["value"] (defScope sKept) := ⟨rfl, rfl, rfl, by decide +kernel, rfl, by decide +kernel, by decide +kernel⟩
theorem ok_kept {f : Addr} {fd : FuncData} (F : Fun K "kept" "kept" sKept f fd) (T : Blt mg) (md : mg "dict" = none) (ma : mg "any" = none) (D : Df P w K mg base 1 "parts_of" ["value"] spParts) : FnOk P w K mg base CX0 2 f fd ["value"] spKept := by
  refine F.ok scKept (fun vs H Q E h => ?_) (fun cdv A outer s H vs Q E hr h => ?_)
  · obtain ⟨v, TT, rfl, _⟩ := h
    rfl
  · obtain ⟨v, TT, rfl, fl, kk⟩ := h
    refine ⟨_, pss_cons (ps_if (pt_not (pt_val (pe_callB call_isiT (by rfl) T.isi (by decide +kernel) (pa_cons (pv 0) (pa_cons (pe_tup (pa_cons (pe_bltn (v := .ty "list") (by rfl) T.list (by decide +kernel) rfl) (pa_cons (pe_bltn (v := .ty "tuple") (by rfl) T.tuple (by decide +kernel) rfl) (pa_cons (pe_bltn (v := .ty "dict") (by rfl) md (by decide +kernel) rfl) pa_nil)))) pa_nil))))) (pss_one (ps_ret (pv 0))) pss_nil)
      (pss_cons ps_never (pss_one ps_never)), ?_⟩
    refine ⟨_, rfl, (by show 3 ≤ sizeLine; decide), fun tp ntp => ⟨v, tp, _, _, _, false, rfl, upd_same, .cons (.ty _) (.cons (.ty _) (.cons (.ty _) .nil)), fl.ty _ _, kit3 fl.l fl.t fl.d, _, rfl, iteT ⟨_, rfl, ?_⟩⟩⟩
    exact kk _ (fun b u e => by rw [upd_ne (ne_of_none e ntp)]; exact e)
end
end Ev
namespace Ev
open PySem L2 PySem.Spec PyProof.Rows
/-! Promises of defs that are called while no repr is under way (so what they make can be shown). -/
structure FnG (P : Program) (w : World) (K : PySem.W.Frag) (mg : Str → Option Value) (base : Heap) (k : Nat) (f : Addr)
    (fd : FuncData) (ps : List Str) (sp : Sp) : Prop where
  many : ∀ vs H Q E, sp vs H Q E → vs.length = ps.length
  goes : ∀ (A : Around) (above : List Env) (s : Shared) (H : Hp) (args : Args) (us : List Value) (vs : List V) (Q : VK)
    (E : XK), Room k A → A.guards = some [] → Env0 P w K mg base A above s H → BindsTo s fd args (ps.zip us) → Vals vs us →
    sp vs H Q E → codeAny (model P w) A (.call (.ref f) args) (CR CX0 above P w H s Q E) s
theorem FnG.of {P : Program} {w : World} {K : PySem.W.Frag} {mg : Str → Option Value} {base : Heap} {k : Nat} {f : Addr}
    {fd : FuncData} {ps : List Str} {sp : Sp} (F : FnOk P w K mg base CX0 k f fd ps sp) : FnG P w K mg base k f fd ps sp :=
  ⟨F.len, fun A above s H args us vs Q E hr _ => F.run A above s H args us vs Q E hr⟩
section
variable {P : Program} {w : World} {K : PySem.W.Frag} {mg : Str → Option Value} {base : Heap}
/-- a def by its body, where no repr is under way -/
theorem fng_code {x qual : Str} {st : Stmt} {f : Addr} {fd : FuncData} {N ps : List Str} {k : Nat} {sp : Sp} (F : Fun K x qual st f fd)
    (S : FnScope N ps (defScope st)) (many : ∀ vs H Q E, sp vs H Q E → vs.length = ps.length)
    (body : ∀ (cdv : Value), fd.code = cdv → ∀ (A : Around) (above : List Env) (s : Shared) (H : Hp) (vs : List V) (Q : VK) (E : XK),
      Room k (A.deeper (envOfC qual (defScope st) s.heap.objs.size f cdv)) → A.guards = some [] → sp vs H Q E →
      ∃ t, PSs (cxOf CX0 P w K mg base N qual (defScope st) f cdv A above s H E).nox (defBody st) t ∧
        t { nx := fun _ H' => Q .non H', rt := Q } (start N vs) H) : FnG P w K mg base (k + 1) f fd ps sp := by
  obtain ⟨oc, od, kV, doc, pm, an, cdv, ct, osl, rfl, lk, hcd⟩ := F.ex
  constructor
  · exact many
  · intro A above s H args us vs Q E room gd env bt rv hs
    have inK : K.In s.heap := env.mod.kin.keeps fun b o e => (env.bs b o e).1
    have noLim : s.heap.NoLimit := env.mod.nolimit.keeps fun b o e => (env.bs b o e).1
    have kinds : ∀ y ∈ ps.zip us, (defScope st).names.lookup y.1 = some .local ∨
        ((defScope st).names.lookup y.1 = some .cell ∧ ((cellsFrom (s.heap.objs.size + 1) (defScope st).names []).lookup y.1).isSome = true) := by
      rintro ⟨n, v⟩ hy
      cases S.par n (List.of_mem_zip hy).1 with
      | inl q => exact .inl q
      | inr q => exact .inr ⟨q, PySem.W.cellsFrom_some _ _ _ (.inl q)⟩
    refine codeAny_call_function room.depth (inK _ _ lk) rfl S.co S.gen rfl (PySem.W.codeRec_of inK hcd) (bt _ _ _ _ ?_)
    refine wpAny_newFunctionEnv_cells S.kind kinds fun e2 he s2 x => ?_
    subst he
    refine ⟨noLim.keeps x.toInCall.keep, codeAny_func ?_⟩
    obtain ⟨t, ht, hq⟩ := body cdv rfl A above s H vs Q E (room.deeper _) gd hs
    have inv := inv_start (CX := CX0) (E := E) S room.hd env (many _ _ _ _ hs) rv x
    refine wpAny_mono (ht.nox.run [] s2 (start N vs) H _ inv hq) (fun fl s3 h3 => ?_) fun e s3 h3 => h3
    cases fl with
    | ret u =>
      obtain ⟨v, σ3, H3, J, rr, q⟩ := h3
      exact ⟨v, H3, J.os, J.bare, J.base, J.hok, rr, q⟩
    | next =>
      obtain ⟨σ3, H3, J, q⟩ := h3
      exact ⟨.non, H3, J.os, J.bare, J.base, J.hok, rfl, q⟩
    | brk =>
      obtain ⟨_, _, _, z⟩ := h3
      exact False.elim z
    | cont =>
      obtain ⟨_, _, _, z⟩ := h3
      exact False.elim z
theorem fng_of {x qual : Str} {st : Stmt} {f : Addr} {fd : FuncData} {N ps : List Str} {k : Nat} {sp : Sp} (F : Fun K x qual st f fd)
    (S : FnScope N ps (defScope st)) (many : ∀ vs H Q E, sp vs H Q E → vs.length = ps.length)
    (body : ∀ (cdv : Value) (A : Around) (above : List Env) (s : Shared) (H : Hp) (vs : List V) (Q : VK) (E : XK),
      Room k (A.deeper (envOfC qual (defScope st) s.heap.objs.size f cdv)) → A.guards = some [] → sp vs H Q E →
      ∃ t, PSs (cxOf CX0 P w K mg base N qual (defScope st) f cdv A above s H E).nox (defBody st) t ∧
        t { nx := fun _ H' => Q .non H', rt := Q } (start N vs) H) : FnG P w K mg base (k + 1) f fd ps sp :=
  fng_code F S many fun cdv _ => body cdv
end
section
variable {X : Cx}
/-- f(e, ..) of such a def -/
theorem pe_callG {k : Nat} {f : Addr} {fd : FuncData} {ps : List Str} {sp : Sp} {E : XK} {x : Str} {p pos : Pos} {e : Expr} {es : List Expr} {t : TA}
    (F : FnG X.prog X.w X.K X.mg X.base k f fd ps sp) (room : Room k X.A) (gd : X.A.guards = some []) (hg : Gl X x)
    (hm : X.mg x = some (.ref f)) (kp : PySem.W.keepIn X.K (.ref f) = true) (hb : Binds X.K fd ps []) (ha : PA X (e :: es) t)
    (hdb : (x == ("__debug__" : Str)) = false := by decide)
    (he : starEach (e :: es) X.env = (false, eval e X.env) :: starEach es X.env := by rfl)
    (hpl : (backTo pos (starEach es X.env)).any (·.1) = false := by rfl) :
    PE X (.Call (.Name x p) (e :: es) [] pos) (tCall sp [] E t) := by
  constructor
  intro pins s σ H Q I h
  refine wpAny_Call_Name_kw (ld_glob I hg hm ?_ hdb)
  refine PySem.W.callWith_K (h₀ := X.base) I.ok.mod.kin kp (thn (ha.run pos pins s σ H _ I h) fun us s1 d => ?_) he hpl
  obtain ⟨vs, H1, I1, rv, q⟩ := d
  refine ⟨I1.kIn, ?_⟩
  have q : sp vs H1 Q E := by
    have q' : sp (vs ++ []) H1 Q E := q
    rw [List.append_nil] at q'
    exact q'
  have hl : us.length = ps.length := rv.length.symm.trans (F.many _ _ _ _ q)
  have bt := hb s1 us I1.kIn (by rw [List.append_nil]; exact hl)
  rw [List.append_nil] at bt
  refine wpAny_call (codeAny_mono (F.goes X.A X.stack s1 H1 ⟨us, []⟩ us vs Q E room gd I1.env0 bt rv q) fun r s2 h2 => ?_)
  cases r with
  | error e => exact False.elim h2
  | ok fl =>
    cases fl with
    | ret u => exact I1.after h2
    | next => exact False.elim h2
    | brk => exact False.elim h2
    | cont => exact False.elim h2
/-- repr of data, where none is under way -/
def rRepr (K : PySem.W.Frag) : List V → Hp → VK → Prop := fun xs H Q => ∃ (a : Addr) (d : PyData), xs = [.ref a] ∧ Dp K H (.ref a) d ∧
  d.showable = true ∧ d.hasDict = false ∧ d.depth ≤ 32 ∧ d.shown.length ≤ sizeLine ∧ Q (.str d.shown) H
theorem call_repr (gd : X.A.guards = some []) (hu : X.A.units + 64 < cLine) : CallR X (.builtin "repr") (rRepr X.K) := by
  intro pins s σ H xs us Q I r h
  obtain ⟨a, d, rfl, hd, h1, h2, h3, h4, q⟩ := h
  cases r with
  | cons r1 r2 =>
    cases r2
    cases r1
    obtain ⟨as, rd⟩ := Dp.reads I d (.ref a) (.ref a) hd rfl
    exact repr_of_reads' rd h1 (fun z => by rw [h2] at z; cases z) gd (by omega) (fun _ _ e => e)
      (fun h' u tk hk => ⟨.str d.shown, H, I.kept hk, ⟨u, rfl⟩, q⟩) h4
end
/-! ### the law's own call -/
section
variable {P : Program} {w : World} {K : PySem.W.Frag} {mg mb : Str → Option Value}
theorem law_callG {k : Nat} {fa a : Addr} {fd : FuncData} {x : Str} {sp : Sp} {s : Shared} {vs : List Value} {ns : List Int}
    (inK : K.In s.heap) (ns1 : s.heap.Ns mainGlobals mg) (ns2 : s.heap.Ns builtinsNs mb) (blt : ∀ x : Str, x ≠ "__name__" → mb x = bootBuiltins x)
    (noLim : s.heap.NoLimit) (hg : s.gens = #[]) (ha : s.heap.get? a = some { cls := .type "list", data := .seq vs.toArray })
    (hi : IntsAre vs ns) (hl : ns.length ≤ sizeLine) (hr : Room k callerA)
    (F : ∀ base : Heap, K.In base → base.Ns mainGlobals mg → FnG P w K mg base k fa fd [x] sp)
    (bt : ∀ (s : Shared) (u : Value), BindsTo s fd ⟨[u], []⟩ [(x, u)])
    (hsp : ∀ H : Hp, SqL K H a (ns.map V.int) → sp [.ref a] H (fun v _ => v = .bl true) fun _ _ _ => False) :
    codeAny (model P w) callerA (.call (.ref fa) ⟨[.ref a], []⟩)
      (fun r s' => r = .ok (.ret (.bool true)) ∧ OldK s.heap s'.heap ∧ s'.os = s.os ∧ AllBare s'.gens) s := by
  have rv := vals_ints hi
  have lv := hi.length
  have key : ∀ H : Hp, (∀ b u, H b = some u → b = a ∧ K.lookup a = none ∧ u = .frz { cls := .type "list", data := .seq vs.toArray } (.lst (ns.map V.int))) →
      SqL K H a (ns.map V.int) → codeAny (model P w) callerA (.call (.ref fa) ⟨[.ref a], []⟩)
        (fun r s' => r = .ok (.ret (.bool true)) ∧ OldK s.heap s'.heap ∧ s'.os = s.os ∧ AllBare s'.gens) s := by
    intro H only sq
    have ok : HOk P w H s.heap := by
      intro b u e
      obtain ⟨rfl, _, rfl⟩ := only b u e
      exact ⟨ha, by rw [List.length_map]; exact hl, vs, _, rv, ha⟩
    have plain : ∀ {b : Addr} {o : Obj} {es : Array DictEntry} {n : Nat}, s.heap.get? b = some o → o.data = .dict es n → H b = none := by
      intro b o es n e d
      cases q : H b with
      | none => rfl
      | some u =>
        obtain ⟨rfl, _, _⟩ := only b u q
        rw [ha] at e
        cases e
        exact nomatch d
    have names : ∀ {b : Addr} {m : Str → Option Value}, s.heap.Ns b m → (hidT s.heap H).Ns b m := by
      rintro b m ⟨o, es, n, e, d, r⟩
      exact ⟨o, es, n, hidT_get e (plain e d), d, r⟩
    have inB : K.In (hidT s.heap H) := by
      intro b o e
      refine hidT_get (inK b o e) ?_
      cases q : H b with
      | none => rfl
      | some u =>
        obtain ⟨rfl, n, _⟩ := only b u q
        rw [n] at e
        cases e
    obtain ⟨mc, l1, l2⟩ := noLim
    have md : Mod K mg (hidT s.heap H) := ⟨inB, names ns1, ⟨mb, names ns2, blt⟩, ⟨mc, names l1, l2⟩⟩
    have env : Env0 P w K mg (hidT s.heap H) callerA [] s H :=
      ⟨rfl, md, fun b o e => of_hidT e, Nat.le_of_eq (hidT_size _ _), trivial, (fun b hb => by cases hb), ok, .of_eq hg⟩
    have go := (F _ inB (names ns1)).goes callerA [] s H ⟨[.ref a], []⟩ [.ref a] [.ref a] _ _ hr rfl env (bt s (.ref a)) (.cons rfl .nil) (hsp H sq)
    refine codeAny_mono go fun r s2 h2 => ?_
    cases r with
    | error e => exact False.elim h2
    | ok fl =>
      cases fl with
      | next => exact False.elim h2
      | brk => exact False.elim h2
      | cont => exact False.elim h2
      | ret u =>
        obtain ⟨v, H2, os, bare, un, ok2, rr, q⟩ := h2
        obtain rfl : v = V.bl true := q
        obtain rfl : u = Value.bool true := rr
        refine ⟨rfl, OldK.of_keep fun b o e => ?_, os, bare⟩
        cases q : H b with
        | none => exact un.keep b o e q (by intro z; cases z) (by simp)
        | some u =>
          obtain ⟨rfl, _, rfl⟩ := only b u q
          obtain ⟨e1, _⟩ := ok b _ q
          obtain ⟨e2, _⟩ := ok2 b _ (un.frzs b _ _ q)
          rw [e] at e1
          cases e1
          exact e2
  cases hk : K.lookup a with
  | none =>
    refine key (fun b => if b = a then some (.frz { cls := .type "list", data := .seq vs.toArray } (.lst (ns.map V.int))) else none) (fun b u e => ?_) (.inl (.inr ⟨_, if_pos rfl⟩))
    by_cases z : b = a
    · rw [if_pos z] at e
      cases e
      exact ⟨z, hk, rfl⟩
    · rw [if_neg z] at e
      cases e
  | some o =>
    have e := inK a o hk
    rw [ha] at e
    cases e
    refine key (fun _ => none) (fun b u e => by cases e) (.inr ⟨_, vs.toArray, _, hk, rfl, rfl, rfl, ?_, by simpa using rv⟩)
    rw [List.size_toArray, lv]
    exact hl
end
theorem walk_ofG {l : PySem.W.OpenLaw} {n k : Nat} {q : Program} {loose : List Str} {XP : (Str → Option Value) → Heap → Prop} {YP : World → Heap → Prop}
    {d : DefRec} {K : Params → PySem.W.Frag} {sp : World → Sp} {x : Str} (hn : l.most = some n) (hn2 : n ≤ sizeLine) (hdf : d.params.defaults = [])
    (hr : Room k callerA) (hY : ∀ (w : World) (h : Heap), YP w h → (K w.params).In h)
    (F : ∀ (w : World) (mg : Str → Option Value) (fa : Addr) (h : Heap), (K w.params).In h → h.Ns mainGlobals mg → mg d.name = some (.ref fa) →
      ∃ fd : FuncData, (∀ (s : Shared) (u : Value), BindsTo s fd ⟨[u], []⟩ [(x, u)]) ∧
        ∀ base : Heap, (K w.params).In base → base.Ns mainGlobals mg → FnG l.prog w (K w.params) mg base k fa fd [x] (sp w))
    (hsp : ∀ (w : World) (H : Hp) (a : Addr) (ns : List Int), ns.length ≤ n → SqL (K w.params) H a (ns.map V.int) → sp w [.ref a] H (fun v _ => v = .bl true) fun _ _ _ => False) :
    PySem.W.WalkO q loose XP YP l.row.toRowW d [] (fun f vs => PySem.call f vs) := by
  refine Att.attach_call hn hdf fun w s0 s1 mg mb fa o pm cd doc a vs ns G Y h1 h2 h3 h4 h5 h6 h7 h8 => ?_
  obtain ⟨fd, bt, hF⟩ := F w mg fa _ (hY w _ Y) G.T.g h4
  exact law_callG (hY w _ Y) G.T.g G.T.b G.T.builtins G.T.nolimit h8 h5 h6 (Nat.le_trans h7 hn2) hr hF bt (fun H sq => hsp w H a ns h7 sq)
end Ev
namespace Ev
open PySem L2 PySem.Spec PyProof.Rows
theorem walk_ofGE {l : PySem.W.OpenLaw} {n k : Nat} {q : Program} {loose : List Str} {XP : (Str → Option Value) → Heap → Prop} {YP : World → Heap → Prop}
    {d : DefRec} {x : Str} (hn : l.most = some n) (hn2 : n ≤ sizeLine) (hdf : d.params.defaults = []) (hr : Room k callerA)
    (F : ∀ (w : World) (mg : Str → Option Value) (fa : Addr) (h : Heap), YP w h → h.Ns mainGlobals mg → mg d.name = some (.ref fa) →
      ∃ (K : PySem.W.Frag) (fd : FuncData) (sp : Sp), K.In h ∧ (∀ (s : Shared) (u : Value), BindsTo s fd ⟨[u], []⟩ [(x, u)]) ∧
        (∀ (H : Hp) (a : Addr) (ns : List Int), ns.length ≤ n → SqL K H a (ns.map V.int) → sp [.ref a] H (fun v _ => v = .bl true) fun _ _ _ => False) ∧
        ∀ base : Heap, K.In base → base.Ns mainGlobals mg → FnG l.prog w K mg base k fa fd [x] sp) :
    PySem.W.WalkO q loose XP YP l.row.toRowW d [] (fun f vs => PySem.call f vs) := by
  refine Att.attach_call hn hdf fun w s0 s1 mg mb fa o pm cd doc a vs ns G Y h1 h2 h3 h4 h5 h6 h7 h8 => ?_
  obtain ⟨K, fd, sp, inK, bt, hsp, hF⟩ := F w mg fa _ Y G.T.g h4
  exact law_callG inK G.T.g G.T.b G.T.builtins G.T.nolimit h8 h5 h6 (Nat.le_trans h7 hn2) hr hF bt (fun H sq => hsp H a ns h7 sq)
end Ev
namespace Ev
open PySem L2 PySem.Spec PyProof.Rows
/-! An error that was caught stays in a local behind its suite: its object is told of from then on. -/
def Held (cls : Value) (d : Option Addr) (a : Addr) : HO := .ext fun h => ∃ oe : Obj, h.get? a = some oe ∧ Zc cls d oe ∧ ∃ vs : Array Value, oe.data = .fields vs
theorem held_ok {P : Program} {w : World} {H : Hp} {h : Heap} {a : Addr} {cls : Value} {d : Option Addr} {oe : Obj}
    (e : h.get? a = some oe) (z : Zc cls d oe) (f : ∃ vs : Array Value, oe.data = .fields vs) : ObjOk P w H h a (Held cls d a) :=
  ⟨⟨oe, e, z, f⟩, ⟨oe, e⟩, fun _ _ t k => by obtain ⟨o, q, r⟩ := t; exact ⟨o, k _ q, r⟩⟩
section
variable {X : Cx} {pins : List (Addr × Obj)} {σ : L2.St} {H : Hp} {s : Shared} {a : Addr} {cls : Value} {d : Option Addr} {oe : Obj}
theorem inv_hold (I : Inv X pins σ H s) (e : s.heap.get? a = some oe) (z : Zc cls d oe) (f : ∃ vs : Array Value, oe.data = .fields vs) (n : H a = none)
    (n0 : X.s_0.heap.get? a = none) (nL : a ≠ X.env.locals) (np : ∀ p ∈ X.pn ++ pins, p.1 ≠ a) : Inv X pins σ (upd H a (Held cls d a)) s := by
  have other : ∀ {b : Addr} {o : HO}, H b = some o → upd H a (Held cls d a) b = some o := fun {b o} q => by rw [upd_ne (ne_of_none q n)]; exact q
  constructor
  · exact I.ok
  · exact I.os
  · exact I.bare
  · constructor
    · exact I.base.keep
    · exact I.base.slot
    · intro b o q1 q2 q3
      have nb : b ≠ a := fun t => by rw [t, n0] at q1; cases q1
      rw [upd_ne nb]; exact I.base.free b o q1 q2 q3
    · exact I.base.there
    · exact fun b xs q => other (I.base.tups b xs q)
    · exact fun b o u q => other (I.base.frzs b o u q)
    · intro b ps q
      obtain ⟨more, t⟩ := I.base.tbls b ps q
      exact ⟨more, other t⟩
  · exact I.loc
  · exact I.cell
  · rw [upd_ne nL.symm]; exact I.free
  · intro x c q
    have nb : c ≠ a := fun t => by
      obtain ⟨v, o, q1, q2⟩ := I.cell x c q
      obtain ⟨vs, q3⟩ := f
      rw [t, e] at q1; cases q1
      rw [q3] at q2; cases q2
    rw [upd_ne nb]; exact I.freeC x c q
  · intro p hp
    obtain ⟨q1, q2, q3⟩ := I.pin p hp
    exact ⟨q1, by rw [upd_ne (np p hp)]; exact q2, q3⟩
  · intro b o q
    by_cases nb : b = a
    · subst nb
      rw [upd_same] at q
      cases q
      exact held_ok e z f
    · rw [upd_ne nb] at q
      exact (I.hok b o q).stay (fun _ _ _ t => t) (fun _ t => other t) (fun _ _ t => other t)
  · exact I.len
end
/-- what the clause wishes: the suite reads the error in slot i; behind it the error is told of, slot i is empty -/
def wHeld (K : PySem.W.Frag) (c : Value) (i : Nat) (ts : Addr → Value → Option Addr → TS) (Wout : WX) (n : Nat) (D : Ends) : WX := fun cls d σ H => σ.length = n →
  ∃ b, PySem.W.exmOne K cls c = some b ∧ (b = false → Wout cls d σ H) ∧ (b = true → ∀ a, H a = none →
    ts a cls d { nx := fun τ G => G a = none → D.nx (τ.set i none) (upd G a (Held cls d a)), rt := fun v G => D.rt v G, bk := fun τ G => D.bk (τ.set i none) G, ct := fun τ G => D.ct (τ.set i none) G } (σ.set i (some (.ref a))) H)
section
variable {X : Cx} {x n : Str} {c : Value} {i : Nat} {body suite : List Stmt} {b₀ : Stmt} {np pos pos' : Pos} {tb : WX → TS} {ts : Addr → Value → Option Addr → TS} {Wout : WX}
theorem ps_try_held (hs : X.stack = X.env :: X.outer) (hf : X.env.frame = some X.env.locals) (hex : X.ex = []) (hN : X.N.Nodup) (hi : X.N[i]? = some n) (hln : X.env.kindOf n = some .local) (hc : Names X x c) (tk : Takes X Wout)
    (hb : ∀ (W : WX) (pn : List (Addr × Obj)) (xe : Value → Shared → Prop), Takes (X.tr pn xe) W → PSs (X.tr pn xe) body (tb W))
    (hsu : ∀ (a : Addr) (oe : Obj) (cls : Value) (d : Option Addr) (pn : List (Addr × Obj)), Zc cls d oe → (∃ vs, oe.data = .fields vs) → PSs (X.suite a ((a, oe) :: pn)) (b₀ :: suite) (ts a cls d)) :
    PS X (.Try body [.ExceptHandler (some (.Name x np)) (some n) (b₀ :: suite) pos'] [] [] pos) (fun D σ H => tb (wHeld X.K c i ts Wout X.N.length D) D σ H) := by
  constructor
  intro pins s σ H D I h
  have ok := I.ok
  have frames : X.A.frames = some (X.env :: X.outer) := by rw [ok.frames, hs]
  have isLoc : Loc X.env.scope n := .inl hln
  let hands : List ExceptHandler := [.ExceptHandler (some (.Name x np)) (some n) (b₀ :: suite) pos']
  let land : Value → Shared → Prop := fun e s1 => wpAny (model X.prog X.w) X.A (noteFrame e X.env) (fun _ s2 => wpAny (model X.prog X.w) X.A (setFlight e none)
    (fun _ s3 => wpAny (model X.prog X.w) X.A (handleBy e X.env hands) (SP X pins D) X.xe s3) X.xe s2) X.xe s1
  have caught : Takes (X.tr (X.pn ++ pins) land) (wHeld X.K c i ts Wout X.N.length D) := by
    rintro u s' ⟨a, B, sI, pins', σ', H', cls, d, rfl, J', nb, up, sky, na, os, ag, wish⟩
    obtain ⟨b, hb1, hno, hyes⟩ := wish J'.len
    have J : Inv X pins σ' H' sI := J'.ofTry ok
    have sky2 : Sky B (X.env :: X.outer) a (Zc cls d) X.env.locals s'.heap := by rw [← hs]; exact sky
    refine Sky.land Zc.steady frames hf sky2 fun h3 fl3 up3 => ?_
    have J3 : Inv X pins σ' H' { s' with heap := h3 } := J.landed nb fl3.1 (up.trans up3) os ag
    obtain ⟨oe3, vs3, he3, hz3, hd3⟩ := fl3.there
    have nfr : a ∉ frs (X.env :: X.outer) := by
      intro hm
      obtain ⟨_, o2, e2, nf⟩ := fl3.2.2.1.mem hm
      rw [he3] at e2; cases e2
      exact nf _ hd3
    have nfr2 : a ∉ frs X.stack := by rw [hs]; exact nfr
    have nL : a ≠ X.env.locals := fun z => nfr (List.mem_filterMap.mpr ⟨_, List.mem_cons_self, by rw [hf, z]⟩)
    have nF : a ∉ X.fs := by
      intro hm
      obtain ⟨e, he, q⟩ := List.mem_filterMap.mp hm
      exact nfr (List.mem_filterMap.mpr ⟨e, List.mem_cons_of_mem _ he, q⟩)
    have nI : sI.heap.get? a = none := by
      cases q : sI.heap.get? a with
      | none => rfl
      | some o =>
        have z := nb a o q nfr2
        rw [fl3.2.1] at z; cases z
    have n0 : X.s_0.heap.get? a = none := by
      cases q : X.s_0.heap.get? a with
      | none => rfl
      | some o =>
        obtain ⟨o2, z⟩ := J.base.there a o q (by rw [hex]; simp)
        rw [nI] at z; cases z
    have npin : ∀ p ∈ X.pn ++ pins, p.1 ≠ a := fun p hp z => by
      have q := (J.pin p hp).1
      rw [z, nI] at q; cases q
    have S3 := J3.suite he3 hd3 na nL nF
    refine wpAny_handleBy_cons (codeAny_handlers_test ?_) (fun q => nomatch q)
    have LT : PySem.W.Looks (model X.prog X.w) h3 (typeOf (.ref a)) cls := by
      intro A Q E s k q
      exact wpAny_typeOf_ref (k _ _ he3) (by rw [hz3.1]; exact q)
    have LM := PySem.W.exm_one (M := model X.prog X.w) J3.kIn LT hb1
    have named : ∀ {Q E : Value → Shared → Prop}, Q c { s' with heap := h3 } → wpAny (model X.prog X.w) (X.A.mark (some (.ref a))) (eval (.Name x np) X.env) Q E { s' with heap := h3 } := by
      intro Q E q
      obtain ⟨g1, g2, g3⟩ := hc
      rcases g3 with m | ⟨m, v, nn⟩
      · exact ld_glob (X := X.suite a ((a, oe3) :: (X.pn ++ pins))) S3 g1 m q g2
      · exact ld_blt (X := X.suite a ((a, oe3) :: (X.pn ++ pins))) S3 g1 m v q nn g2
    refine named (LM.here ?_)
    cases b with
    | false =>
      refine wpAny_handleBy_nil (e := .ref a) (env := X.env) ?_
      obtain ⟨k1, k2, k3, oe, vs, T, oT, ts', he, hz, hd, h1, hr⟩ := id fl3
      unfold PySem.passOn
      refine wpAny_bind (wpAny_field he hd h1 ?_)
      rw [if_neg (by simp : ¬ ((Value.ref T == Value.none) = true))]
      have on : wpAny (model X.prog X.w) X.A (setFlight (.ref a) X.env.frame) (fun _ s4 => wpAny (model X.prog X.w) X.A (throw (.ref a) : Sem Flow) (SP X pins D) X.xe s4) X.xe { s' with heap := h3 } := by
        rw [hf]
        refine HandSPX.setFlight_upZ fl3 fun h4 hh4 up4 => ?_
        refine wpAny_throw (tk _ _ ⟨a, B, sI, pins, σ', H', cls, d, rfl, J, nb, (up.trans up3).trans up4, ?_, na, os, ag, hno rfl⟩)
        rw [hs]; exact .inr (.inr hh4)
      first
        | exact wpAny_bind (wpAny_pure (wpAny_bind on))
        | exact wpAny_bind on
    | true =>
      refine codeAny_handlers_suite_as (HandSPX.lands_againZ fl3 fun h4 fl4 up4 => ?_)
      have J4 : Inv X pins σ' H' { s' with heap := h4 } := J.landed nb fl4.1 ((up.trans up3).trans up4) os ag
      obtain ⟨oe4, vs4, he4, hz4, hd4⟩ := fl4.there
      refine store_ok (X := X.suite a ((a, oe4) :: (X.pn ++ pins))) (v := .ref a) (J4.suite he4 hd4 na nL nF) hN hi isLoc rfl (fun s5 S5 => ?_) (.inr hln)
      have suite := (hsu a oe4 cls d (X.pn ++ pins) hz4 ⟨_, hd4⟩).run [] s5 _ H' _ S5 (hyes rfl a na)
      refine wpAny_mono suite (fun f s6 hsp => ?_) (fun _ _ z => False.elim z)
      have gone : ∀ {τ : L2.St} {G : Hp} {Q : Shared → Prop}, Inv X pins τ G s6 → (∀ s7, Inv X pins (τ.set i none) G s7 → Q s7) →
          wpAny (model X.prog X.w) X.A (do bindName X.env n .none; unbindBehindTheSuite X.env n pos') (fun _ s7 => Q s7) X.xe s6 := by
        intro τ G Q S6 hq
        exact gone_ok S6 hN hi hln hq
      cases f with
      | next =>
        obtain ⟨τ, G, S6, q6⟩ := hsp
        obtain ⟨p1, p2, _⟩ := S6.pin (a, oe4) (List.mem_append_left _ List.mem_cons_self)
        exact gone (inv_hold (S6.unsuite ok) p1 hz4 ⟨_, hd4⟩ p2 n0 nL npin) fun s7 J7 => ⟨_, _, J7, q6 p2⟩
      | brk =>
        obtain ⟨τ, G, S6, q6⟩ := hsp
        exact gone (S6.unsuite ok) fun s7 J7 => ⟨_, _, J7, q6⟩
      | cont =>
        obtain ⟨τ, G, S6, q6⟩ := hsp
        exact gone (S6.unsuite ok) fun s7 J7 => ⟨_, _, J7, q6⟩
      | ret u =>
        obtain ⟨v, τ, G, S6, r6, q6⟩ := hsp
        exact gone (S6.unsuite ok) fun s7 J7 => ⟨_, _, _, J7, r6, q6⟩
  refine wpAny_Try_except (wpAny_mono ((hb _ (X.pn ++ pins) land caught).run [] s σ H D (I.toTry _) h) (fun f s1 hsp => ?_) (fun e s1 he => he))
  cases f with
  | next =>
    obtain ⟨τ, G, J, q⟩ := hsp
    exact wpAny_execs_nil ⟨τ, G, J.ofTry ok, q⟩
  | brk =>
    obtain ⟨τ, G, J, q⟩ := hsp
    exact ⟨τ, G, J.ofTry ok, q⟩
  | cont =>
    obtain ⟨τ, G, J, q⟩ := hsp
    exact ⟨τ, G, J.ofTry ok, q⟩
  | ret u =>
    obtain ⟨v, τ, G, J, r, q⟩ := hsp
    exact ⟨v, τ, G, J.ofTry ok, r, q⟩
end
/-- what the class of such an error says -/
structure HeldC (K : PySem.W.Frag) (C : Addr) : Prop where
  cl : (PySem.W.clsIn K C).isSome = true
  ga : PySem.W.findIn K (.ref C) "__getattribute__" = some (some (.builtin "BaseException.__getattribute__"))
  gg : PySem.W.findIn K (.ref C) "__getattr__" = some none
  ex : PySem.W.subIn K (.ref C) (.type "BaseException") = some true
  hd : PySem.W.hasDictIn K C = true
  ca : PySem.W.findIn K (.ref C) "__class__" = some (some (.builtin "object.__class__"))
  sp : PySem.W.specialIn K (.builtin "object.__class__") "__get__" = some (some (.builtin "getset_descriptor.__get__"))
  tk : PySem.W.takesIn K (.builtin "object.__class__") = some true
  mo : PySem.W.mroIn K C (.type "object") = some true
section
variable {X : Cx}
theorem held_at {pins : List (Addr × Obj)} {σ : L2.St} {H : Hp} {s : Shared} {a : Addr} {cls : Value} {d : Option Addr} (I : Inv X pins σ H s) (e : H a = some (Held cls d a)) :
    ∃ oe : Obj, s.heap.get? a = some oe ∧ Zc cls d oe ∧ ∃ vs : Array Value, oe.data = .fields vs := by
  have x : ObjOk X.prog X.w H s.heap a (.ext fun h => ∃ oe : Obj, h.get? a = some oe ∧ Zc cls d oe ∧ ∃ vs : Array Value, oe.data = .fields vs) := I.hok a _ e
  exact x.1
theorem held_inst {pins : List (Addr × Obj)} {σ : L2.St} {H : Hp} {s : Shared} {a C dd : Addr} {fs : List (Str × V)} (I : Inv X pins σ H s) (e : H a = some (Held (.ref C) (some dd) a)) (ed : H dd = some (.xd fs)) :
    ∃ (oe od : Obj) (mA : Str → Option Value), PySem.W.InstAt s.heap a oe C (some od) ∧ (∀ f, RelO (fs.lookup f) (mA f)) ∧ ∀ n, PySem.W.lookIn n od = some (mA n) := by
  obtain ⟨oe, he, hz, vs, hd⟩ := held_at I e
  obtain ⟨mA, hns, hr⟩ := (show ObjOk X.prog X.w H s.heap dd (.xd fs) from I.hok dd _ ed)
  obtain ⟨od, ho, hl⟩ := lookIn_ns hns
  exact ⟨oe, od, mA, ⟨he, hz.1, by unfold PySem.W.notCls; rw [hd] <;> rfl, by rw [hz.2]; exact ho⟩, hr, hl⟩
/-- isinstance(e, c), e such an error -/
def rIsHeld (K : PySem.W.Frag) : List V → Hp → VK → Prop := fun xs H Q => ∃ (a C dd : Addr) (fs : List (Str × V)) (c : V) (u : Value) (b : Bool),
  xs = [.ref a, c] ∧ H a = some (Held (.ref C) (some dd) a) ∧ H dd = some (.xd fs) ∧ HeldC K C ∧ ClsV c u ∧ PySem.W.kitOne K (.ref C) u = some b ∧ Q (.bl b) H
theorem call_isHeld : CallR X (.builtin "isinstance") (rIsHeld X.K) := by
  intro pins s σ H xs us Q I r h
  obtain ⟨a, C, dd, fs, c, u, b, rfl, ea, ed, T, k, e, q⟩ := h
  obtain ⟨u1, u2, rfl, r1, r2⟩ := vals2 r
  have e2 := k.eq r2
  subst e2
  cases r1
  obtain ⟨oe, od, mA, J, _, _⟩ := held_inst I ea ed
  exact PySem.W.kia_one (PySem.W.kitx_exc T.cl T.ga T.gg T.ex T.ca T.sp T.tk T.mo) I.kIn J e (fun z => nomatch z) fun tk => ⟨.bl b, H, I.tok tk, rfl, q⟩
/-- e.n, e such an error -/
def tHeldFld (K : PySem.W.Frag) (n : Str) (te : TE) : TE := fun σ H Q => te σ H fun x H1 => ∃ (a C dd : Addr) (fs : List (Str × V)) (v : V),
  x = .ref a ∧ H1 a = some (Held (.ref C) (some dd) a) ∧ H1 dd = some (.xd fs) ∧ HeldC K C ∧ PySem.W.findIn K (.ref C) n = some none ∧ fs.lookup n = some v ∧ Q v H1
theorem pe_heldFld {e : Expr} {te : TE} {pos : Pos} {n : Str} (he : PE X e te) (hb : attributeBase e n X.env (eval e X.env) = eval e X.env := by rfl) : PE X (.Attribute e n pos) (tHeldFld X.K n te) := by
  constructor
  intro pins s σ H Q I h
  refine attr_of hb (thn (he.run pins s σ H _ I h) fun u s1 hh => ?_)
  obtain ⟨x, H1, I1, rx, a, C, dd, fs, v, rfl, ea, ed, T, hno, l, q⟩ := hh
  obtain rfl : u = Value.ref a := rx
  obtain ⟨oe, od, mA, J, hr, hl⟩ := held_inst I1 ea ed
  obtain ⟨u, hu, ru⟩ := RelO.some_of (v := v) (o := mA n) (by rw [← l]; exact hr n)
  exact HandSPX.exc_get I1.kIn J T.ga T.gg T.ex (PySem.W.findObj_own T.hd hno rfl (by rw [hl, hu])) (handed_of ru) ⟨v, H1, I1.tok _, ru, q⟩
end
end Ev
namespace Ev
open PySem L2 PySem.Spec PyProof.Rows
abbrev sRebuilt : Stmt := top 5
/-! ### list(d.values()) -/
def tListVals (te : TE) : TE := fun σ H Q => te σ H fun x H1 => ∃ (d : Addr) (kvs : List (Key × V)), x = .ref d ∧ H1 d = some (.dK kvs) ∧ ∀ p, H1 p = none → Q (.ref p) (upd H1 p (.lst (kvs.map (·.2))))
section
variable {X : Cx} {e : Expr} {te : TE} {p apos cpos pos : Pos}
theorem vals_snd : ∀ {kvs : List (Key × V)} {vs : List (Key × Value)}, KV kvs vs → Vals (kvs.map (·.2)) (vs.map (·.2))
  | _, _, .nil => .nil
  | _, _, .cons h t => .cons h.2 (vals_snd t)
theorem pe_listVals (hc : X.calm = true) (he : PE X e te) (hg : Gl X "list") (hm : X.mg "list" = none) (hv : bootBuiltins "list" = some (.type "list")) (hbase : attributeBase e "values" X.env (eval e X.env) = eval e X.env := by rfl) (hline : (apos.endLine == cpos.line) = true := by rfl)
    (hs : starEach [.Call (.Attribute e "values" apos) [] [] cpos] X.env = (false, eval (.Call (.Attribute e "values" apos) [] [] cpos) X.env) :: starEach [] X.env := by rfl) :
    PE X (.Call (.Name "list" p) [.Call (.Attribute e "values" apos) [] [] cpos] [] pos) (tListVals te) := by
  constructor
  intro pins s σ H Q I hq
  refine wpAny_Call_Name_kw (ld_blt I hg hm hv ?_)
  refine PyProof.Rows.callWith_type1 ?_ hs rfl
  rw [hs]
  show wpAny _ _ (spliced ((false, eval (.Call (.Attribute e "values" apos) [] [] cpos) X.env) :: backTo pos (starEach [] X.env))) _ _ s
  refine Calls.spliced_cons ?_
  refine wpAny_Call_method (T := "dict") (id := "dict.values") hbase rfl hline F.plainAttrs_dict F.slot_dict_values F.type_dict_values (thn (he.run pins s σ H _ I hq) fun u s1 hh => ?_)
  obtain ⟨x, H1, I1, rx, d, kvs, rfl, hd, q⟩ := hh
  obtain rfl : u = Value.ref d := rx
  obtain ⟨hz, hs0, vs, kv, hdo⟩ := I1.hok d _ hd
  obtain ⟨ep, hat⟩ := hdo.dictAt
  have lk : kvs.length = vs.length := Paired.length kv
  refine ⟨hdo.typeIs, hdo.mapOf.noDict, ?_⟩
  show wpAny _ _ (callWith cpos (.builtin "dict.values") [.ref d] [] []) _ X.xe s1
  refine method_meetsIn F.slot_dict_values F.entry_dict_values rfl (PySem.evalArgs_none ⟨rfl, hdo.typeIs, F.args_dict_values_1 _, _, meets_dict_values (mixKind X.prog X.w) d hs0, ⟨vs, hdo⟩, ?_⟩)
  refine Calls.spliced_nil ?_
  have I2 : Inv X pins σ H1 { s1 with heap := s1.heap.push { cls := .type "dict_values", data := .fields #[.ref d] } } := I1.kept (t' := s1.toks) fun b ob q => Heap.get?_push_of_some _ q
  refine PySem.W.kdl_call (PySem.W.kdl_values (knd := mixKind X.prog X.w) (kvs := vs) (ep := ep)) (I1.ok.hd hc) ⟨⟨_, Heap.get?_push_size _ rfl, rfl, rfl⟩, hat.push _⟩ (by omega) fun h' tk acc c' hk hD hacc => ?_
  have e2 : acc.toList = vs.map (·.2) := PySem.W.kdl_vals_eq acc.toList (by rw [Array.length_toList]; exact hacc.1) fun j v e => hacc.2 j v (by rw [← Array.getElem?_toList]; exact e)
  refine ⟨.ref _, upd H1 _ (.lst (kvs.map (·.2))), I2.laid (t' := tk) hk (Nat.le_refl _) (show ObjOk X.prog X.w _ _ _ (.lst (kvs.map (·.2))) from ⟨by rw [List.length_map]; exact hz, acc.toList, c', by rw [e2]; exact vals_snd kv, by rw [Array.toArray_toList]; exact hD⟩), rfl, q _ (I2.hok.fresh (Nat.le_refl _))⟩
end
/-! ### what stands in a value -/
def AllFlat (us : List V) : Prop := ∀ u ∈ us, ∃ T, Flat u T
inductive Hold (H : Hp) : V → List V → Bool → Prop
  | flat {v : V} {T : String} : Flat v T → Hold H v [] false
  | tup {a : Addr} {us : List V} : H a = some (.tup us) → AllFlat us → us.length ≤ 900 → Hold H (.ref a) us false
  | lst {a : Addr} {us : List V} : H a = some (.lst us) → AllFlat us → us.length ≤ 900 → Hold H (.ref a) us true
  | dct {a : Addr} {kvs : List (Key × V)} : H a = some (.dK kvs) → AllFlat (kvs.map (·.2)) → kvs.length ≤ 900 → (kvs.map (·.1)).Nodup → Hold H (.ref a) (kvs.map (·.2)) true
/-- the copy of a value -/
inductive Alike (H : Hp) : V → Hp → V → Prop
  | same {v : V} {H' : Hp} : Alike H v H' v
  | lst {a b : Addr} {us : List V} {H' : Hp} : H a = some (.lst us) → H' b = some (.lst us) → Alike H (.ref a) H' (.ref b)
  | dct {a b : Addr} {kvs : List (Key × V)} {H' : Hp} : H a = some (.dK kvs) → H' b = some (.dK kvs) → Alike H (.ref a) H' (.ref b)
theorem Hold.keep {H H' : Hp} {v : V} {us : List V} {b : Bool} (h : Hold H v us b) (k : Same H H') : Hold H' v us b := by
  cases h with
  | flat f => exact .flat f
  | tup e a l => exact .tup (k _ _ e) a l
  | lst e a l => exact .lst (k _ _ e) a l
  | dct e a l n => exact .dct (k _ _ e) a l n
theorem Hold.len {H : Hp} {v : V} {us : List V} {b : Bool} (h : Hold H v us b) : us.length ≤ 900 := by
  cases h with
  | flat f => exact Nat.zero_le _
  | tup e a l => exact l
  | lst e a l => exact l
  | dct e a l n => rw [List.length_map]; exact l
theorem Hold.items {H : Hp} {v : V} {us : List V} {b : Bool} (h : Hold H v us b) : AllFlat us := by
  cases h with
  | flat f => exact fun u z => by cases z
  | tup e a l => exact a
  | lst e a l => exact a
  | dct e a l n => exact a
theorem Hold.ty {H : Hp} {v : V} {us : List V} {b : Bool} (h : Hold H v us b) : ∃ T : String, (∀ (K : PySem.W.Frag) (H' : Hp), Same H H' → TyX K H' v (.type T)) ∧ ∃ b1 b2 b3, kitB T "list" = some b1 ∧ kitB T "tuple" = some b2 ∧ kitB T "dict" = some b3 ∧ b = (b1 || b3) := by
  cases h with
  | @flat v T f => exact ⟨T, fun K H' _ => f.ty K H', false, false, false, f.l, f.t, f.d, rfl⟩
  | tup e a l => exact ⟨"tuple", fun K H' k => .base (.tup (k _ _ e)), false, true, false, by decide +kernel, by decide +kernel, by decide +kernel, rfl⟩
  | lst e a l => exact ⟨"list", fun K H' k => .base (.lst (k _ _ e)), true, false, false, by decide +kernel, by decide +kernel, by decide +kernel, rfl⟩
  | dct e a l n => exact ⟨"dict", fun K H' k => .base (.dK (k _ _ e)), false, false, true, by decide +kernel, by decide +kernel, by decide +kernel, rfl⟩
theorem kit_any2 {K : PySem.W.Frag} {T a b : String} {r1 r2 : Bool} (h1 : kitB T a = some r1) (h2 : kitB T b = some r2) : PySem.W.kitAny K (.type T) [.type a, .type b] = some (r1 || r2) := by
  refine kitAny_cons (kit_ty h1) (fun e => ?_) (fun e => by rw [e]; rfl)
  refine kitAny_cons (kit_ty h2) (fun e2 => ?_) (fun e2 => by rw [e, e2]; rfl)
  rw [e, e2]
  exact kitAny_nil
def spPartsV : Sp := fun vs H Q _ => ∃ (v : V) (us : List V) (b : Bool), vs = [v] ∧ Hold H v us b ∧ ∀ (p : Addr) (H' : Hp), H p = none → Same H H' → H' p = some (.lst us) → Q (.ref p) H'
def spRebuilt : Sp := fun vs H Q _ => ∃ (v : V) (us : List V) (p : Addr), vs = [v, .ref p] ∧ Hold H v us true ∧ H p = some (.lst us) ∧ ∀ (v' : V) (H' : Hp), Same H H' → Alike H v H' v' → Q v' H'
def spKeptV : Sp := fun vs H Q _ => ∃ (v : V) (us : List V) (b : Bool), vs = [v] ∧ Hold H v us b ∧ ∀ (v' : V) (H' : Hp), Same H H' → Alike H v H' v' → Q v' H'
theorem Same.gone {H H' : Hp} {p : Addr} (k : Same H H') (n : H' p = none) : H p = none := by
  cases e : H p with
  | none => rfl
  | some o => rw [k _ _ e] at n; cases n
section
variable {P : Program} {w : World} {K : PySem.W.Frag} {mg : Str → Option Value} {base : Heap}
theorem ok_partsV {f : Addr} {fd : FuncData} (F : Fun K "parts_of" "parts_of" sParts f fd) (T : Blt mg) (md : mg "dict" = none) : FnOk P w K mg base CX0 1 f fd ["value"] spPartsV := by
  refine F.ok scParts (fun vs H Q E h => ?_) (fun cdv A outer s H vs Q E hr h => ?_)
  · obtain ⟨v, us, b, rfl, _⟩ := h
    rfl
  · obtain ⟨v, us, b, rfl, hh, kk⟩ := h
    refine ⟨_, pss_cons (ps_if (pt_val (pe_callB call_isiT (by rfl) T.isi (by decide +kernel) (pa_cons (pv 0) (pa_cons (pe_tup (pa_cons (pe_bltn (v := .ty "list") (by rfl) T.list (by decide +kernel) rfl) (pa_cons (pe_bltn (v := .ty "tuple") (by rfl) T.tuple (by decide +kernel) rfl) pa_nil))) pa_nil))))
        (pss_one (ps_ret (pe_callTy call_list_of (by rfl) T.list (by decide +kernel) (pa_cons (pv 0) pa_nil)))) pss_nil)
      (pss_one (ps_ret (pe_ifExp (pt_val (pe_callB call_isi (by rfl) T.isi (by decide +kernel) (pa_cons (pv 0) (pa_cons (pe_bltn (v := .ty "dict") (by rfl) md (by decide +kernel) rfl) pa_nil)))) (pe_listVals rfl (pv 0) (by rfl) T.list (by decide +kernel)) (pe_lst pa_nil)))), ?_⟩
    have fin : ∀ (tp p : Addr) (ntp : H tp = none) (np : upd H tp (.tup [.ty "list", .ty "tuple"]) p = none), Q (.ref p) (upd (upd H tp (.tup [.ty "list", .ty "tuple"])) p (.lst us)) := fun tp p ntp np =>
      kk p _ (Same.gone (same_new ntp) np) ((same_new ntp).trans (same_new np)) upd_same
    cases hh with
    | @flat v TT f =>
      refine ⟨_, rfl, (by show 2 ≤ sizeLine; decide), fun tp ntp => ⟨_, tp, _, _, _, false, rfl, upd_same, .cons (.ty _) (.cons (.ty _) .nil), f.ty _ _, kit_any2 f.l f.t, _, rfl, iteF ?_⟩⟩
      exact ⟨_, rfl, _, _, _, _, false, rfl, .ty _, f.ty _ _, kit_ty f.d, _, rfl, iteF ⟨(by show 0 ≤ sizeLine; decide), fun p np => fin tp p ntp np⟩⟩
    | tup e a l =>
      refine ⟨_, rfl, (by show 2 ≤ sizeLine; decide), fun tp ntp => ⟨_, tp, _, _, _, true, rfl, upd_same, .cons (.ty _) (.cons (.ty _) .nil), .base (.tup (same_new ntp _ _ e)), kit_any2 (r1 := false) (r2 := true) (by decide +kernel) (by decide +kernel), _, rfl, iteT ?_⟩⟩
      exact ⟨_, rfl, _, _, rfl, .inr (SqT.of (same_new ntp _ _ e)), fun p np => fin tp p ntp np⟩
    | lst e a l =>
      refine ⟨_, rfl, (by show 2 ≤ sizeLine; decide), fun tp ntp => ⟨_, tp, _, _, _, true, rfl, upd_same, .cons (.ty _) (.cons (.ty _) .nil), .base (.lst (same_new ntp _ _ e)), kit_any2 (r1 := true) (r2 := false) (by decide +kernel) (by decide +kernel), _, rfl, iteT ?_⟩⟩
      exact ⟨_, rfl, _, _, rfl, .inl (SqL.of (same_new ntp _ _ e)), fun p np => fin tp p ntp np⟩
    | dct e a l n =>
      refine ⟨_, rfl, (by show 2 ≤ sizeLine; decide), fun tp ntp => ⟨_, tp, _, _, _, false, rfl, upd_same, .cons (.ty _) (.cons (.ty _) .nil), .base (.dK (same_new ntp _ _ e)), kit_any2 (r1 := false) (r2 := false) (by decide +kernel) (by decide +kernel), _, rfl, iteF ?_⟩⟩
      exact ⟨_, rfl, _, _, _, _, true, rfl, .ty _, .base (.dK (same_new ntp _ _ e)), kit_ty (by decide +kernel), _, rfl, iteT ⟨_, rfl, _, _, rfl, same_new ntp _ _ e, fun p np => fin tp p ntp np⟩⟩
theorem putK_take {kvs : List (Key × V)} (n : (kvs.map (·.1)).Nodup) {i : Nat} {k : Key} {z : V} (e : kvs[i]? = some (k, z)) : putK (kvs.take i) k z = kvs.take (i + 1) := by
  have hi : i < kvs.length := (List.getElem?_eq_some_iff.mp e).1
  have ei : kvs[i] = (k, z) := (List.getElem?_eq_some_iff.mp e).2
  have new : ((kvs.take i).any fun kv => decide (kv.1 = k)) = false := by
    rw [List.any_eq_false]
    intro p hp hq
    obtain ⟨j, hj, ej⟩ := List.mem_take_iff_getElem.mp hp
    have hq : p.1 = k := of_decide_eq_true hq
    have h1 : (kvs.map (·.1))[j]'(by rw [List.length_map]; omega) = k := by rw [List.getElem_map, ej, hq]
    have h2 : (kvs.map (·.1))[i]'(by rw [List.length_map]; omega) = k := by rw [List.getElem_map, ei]
    have h3 := (List.getElem_inj n).mp (h1.trans h2.symm)
    omega
  unfold putK
  rw [new, if_neg (by decide), List.take_add_one, e]
  rfl
theorem scRebuilt : FnScope ["value", "parts", "key", "part"] ["value", "parts"] (defScope sRebuilt) := ⟨rfl, rfl, rfl, by decide +kernel, rfl, by decide +kernel, by decide +kernel⟩
theorem ok_rebuilt {f : Addr} {fd : FuncData} (F : Fun K "rebuilt" "rebuilt" sRebuilt f fd) (T : Blt mg) (md : mg "dict" = none) (mz : mg "zip" = none) : FnOk P w K mg base CX0 1 f fd ["value", "parts"] spRebuilt := by
  refine F.ok scRebuilt (fun vs H Q E h => ?_) (fun cdv A outer s H vs Q E hr h => ?_)
  · obtain ⟨v, us, p, rfl, _⟩ := h
    rfl
  · obtain ⟨v, us, p, rfl, hh, hp, kk⟩ := h
    refine ⟨_, pss_cons (ps_if (pt_val (pe_callB call_isi (by rfl) T.isi (by decide +kernel) (pa_cons (pv 0) (pa_cons (pe_bltn (v := .ty "dict") (by rfl) md (by decide +kernel) rfl) pa_nil))))
        (pss_one (ps_ret (pe_dc (g := gTup K 2 (gCons (gName 2) (gCons (gName 3) gNil))) (tt := tYes) (tk := tVar 2) (tv := tVar 3) (own := [("key", 2), ("part", 3)]) rfl scRebuilt.nd (pi_zip (by rfl) mz (pa_cons (pe_callTy (call_list_dK rfl) (by rfl) T.list (by decide +kernel) (pa_cons (pv 0) pa_nil)) (pa_cons (pv 1) pa_nil)))
          (blkOk_by (own := [("key", 2), ("part", 3)]) (N := ["value", "parts", "key", "part"]) (sc := defScope sRebuilt) (by decide +kernel))
          (fun _ _ _ _ _ => pg_tup (by rfl) (pgs_cons (pg_name (i := 2) scRebuilt.nd rfl (.inl rfl)) (pgs_cons (pg_name (i := 3) scRebuilt.nd rfl (.inl rfl)) pgs_nil))) (fun _ _ _ _ _ => pts_nil) (fun _ _ _ _ _ => pv 2) (fun _ _ _ _ _ => pv 3)))) pss_nil)
      (pss_one (ps_ret (pe_ifExp (pt_val (pe_callB call_isi (by rfl) T.isi (by decide +kernel) (pa_cons (pv 0) (pa_cons (pe_bltn (v := .ty "tuple") (by rfl) T.tuple (by decide +kernel) rfl) pa_nil)))) pe_never (pv 1)))), ?_⟩
    generalize eb : true = bb at hh
    cases hh with
    | flat f => cases eb
    | tup e a l => cases eb
    | lst e a l =>
      refine ⟨_, rfl, _, _, _, _, false, rfl, .ty _, .base (.lst e), kit_ty (by decide +kernel), _, rfl, iteF ?_⟩
      refine ⟨_, rfl, _, _, _, _, false, rfl, .ty _, .base (.lst e), kit_ty (by decide +kernel), _, rfl, iteF ⟨_, rfl, ?_⟩⟩
      exact kk _ H (Same.refl H) (.lst e hp)
    | @dct a kvs e al l n =>
      refine ⟨_, rfl, _, _, _, _, true, rfl, .ty _, .base (.dK e), kit_ty (by decide +kernel), _, rfl, iteT ?_⟩
      refine ⟨_, rfl, a, kvs, rfl, e, fun q nq => ⟨_, rfl, q, p, _, _, rfl, SqL.of upd_same, SqL.of (same_new nq _ _ hp), fun D nD => ?_⟩⟩
      have hq1 := same_new (o := .dK []) nD _ _ (upd_same (H := H) (a := q) (o := .lst (kvs.map fun kv => kV kv.1)))
      have hp1 := same_new (o := .dK []) nD _ _ (same_new (o := .lst (kvs.map fun kv => kV kv.1)) nq _ _ hp)
      have hD1 : upd (upd H q (.lst (kvs.map fun kv => kV kv.1))) D (.dK []) D = some (.dK []) := upd_same
      have nDp : D ≠ p := fun z => by rw [z, same_new nq _ _ hp] at nD; cases nD
      have nDq : D ≠ q := fun z => by rw [z, upd_same] at nD; cases nD
      have s1 : Same H (upd (upd H q (.lst (kvs.map fun kv => kV kv.1))) D (.dK [])) := (same_new nq).trans (same_new nD)
      have nDH : H D = none := Same.gone (same_new nq) nD
      generalize upd (upd H q (.lst (kvs.map fun kv => kV kv.1))) D (.dK []) = H1 at hq1 hp1 hD1 s1
      refine ⟨fun i m G => m = kvs.length - i ∧ i ≤ kvs.length ∧ But D H1 G ∧ G D = some (.dK (kvs.take i)), ⟨_, rfl, Nat.zero_le _, But.refl _ _, hD1⟩, ?_⟩
      rintro i m G ⟨rfl, hi, bt, gD⟩
      have gq := bt _ _ nDq.symm hq1
      have gp := bt _ _ nDp.symm hp1
      by_cases hlt : i < kvs.length
      · right
        have ek : (kvs.map fun kv => kV kv.1)[i]? = some (kV kvs[i].1) := by rw [List.getElem?_map, List.getElem?_eq_getElem hlt]; rfl
        have ev : (kvs.map (·.2))[i]? = some kvs[i].2 := by rw [List.getElem?_map, List.getElem?_eq_getElem hlt]; rfl
        refine ⟨⟨_, _, _, _, SqL.of gq, SqL.of gp, ek, ev⟩, fun G' => But D H1 G' ∧ G' D = some (.dK (kvs.take (i + 1))), fun G' ⟨b2, d2⟩ => ⟨_, by omega, rfl, hlt, b2, d2⟩, fun x G' y => ?_⟩
        obtain ⟨tp, x1, x2, rfl, nt, rfl, h1, h2⟩ := y
        have e1 := h1 _ (SqL.of gq)
        have e2 := h2 _ (SqL.of gp)
        rw [ek] at e1
        rw [ev] at e2
        obtain rfl := Option.some.inj e1
        obtain rfl := Option.some.inj e2
        have gD2 := same_new (o := .tup [kV kvs[i].1, kvs[i].2]) nt _ _ gD
        refine ⟨_, _, rfl, SqT.of upd_same, rfl, _, _, rfl, _, _, rfl, rfl, rfl, ?_⟩
        refine ⟨_, rfl, _, rfl, _, kvs[i].1, rfl, gD2, ?_, ?_, ?_⟩
        · rw [List.length_take]
          exact Nat.lt_of_le_of_lt (show _ ≤ 900 by omega) (by rw [sizeLine_eq]; decide)
        · exact bt.trans ((Same.but (same_new nt)).trans But.upd_at)
        · rw [upd_same, show putK (kvs.take i) kvs[i].1 kvs[i].2 = kvs.take (i + 1) from putK_take n (by rw [List.getElem?_eq_getElem hlt])]
      · left
        have ei : i = kvs.length := by omega
        refine ⟨⟨_, _, SqL.of gq, SqL.of gp, .inl (by rw [List.length_map]; omega)⟩, ?_⟩
        rw [ei, List.take_length] at gD
        exact kk _ G (fun b o z => bt _ _ (ne_of_none z nDH) (s1 _ _ z)) (.dct e gD)
end
end Ev
namespace Ev
open PySem L2 PySem.Spec PyProof.Rows
theorem Alike.from {H H1 H' : Hp} {v v' : V} (k : Same H H1) (us : List V) (h : Hold H v us true) (a : Alike H1 v H' v') : Alike H v H' v' := by
  cases a with
  | same => exact .same
  | lst e1 e2 =>
    generalize eb : true = bb at h
    cases h with
    | flat f => cases eb
    | tup e a l => cases eb
    | lst e a l => rw [k _ _ e] at e1; cases e1; exact .lst e e2
    | dct e a l n => rw [k _ _ e] at e1; cases e1
  | dct e1 e2 =>
    generalize eb : true = bb at h
    cases h with
    | flat f => cases eb
    | tup e a l => cases eb
    | lst e a l => rw [k _ _ e] at e1; cases e1
    | dct e a l n => rw [k _ _ e] at e1; cases e1; exact .dct e e2
theorem flat_hold {H : Hp} {us : List V} (h : AllFlat us) {j : Nat} {u : V} (e : us[j]? = some u) : Hold H u [] false := by
  obtain ⟨T, f⟩ := h u (List.mem_of_getElem? e)
  exact .flat f
/-- the marks of the things -/
def marks (b : Bool) (n : Nat) : List Bool := b :: List.replicate n false
theorem marks_at {b : Bool} {n j : Nat} (h : j < n) : (marks b n)[j + 1]? = some false := by
  show (List.replicate n false)[j]? = some false
  rw [List.getElem?_replicate, if_pos h]
theorem ends_at {m n j : Nat} (h : j < m) : (List.replicate m (V.int (1 + (n : Int))))[j]? = some (V.int (1 + (n : Int))) := by
  rw [List.getElem?_replicate, if_pos h]
theorem cut_tail {x : V} {ys : List V} : cutV (x :: ys) (some 1) (some (1 + (ys.length : Int))) = ys := by
  unfold cutV
  have h1 : HT.sIx (x :: ys).length 0 (some 1) = 1 := by
    have := HT.sIx_nat (x :: ys).length 0 1
    rw [List.length_cons] at this ⊢
    rw [show ((1 : Nat) : Int) = 1 from rfl] at this
    rw [this]; omega
  have h2 : HT.sIx (x :: ys).length (x :: ys).length (some (1 + (ys.length : Int))) = ys.length + 1 := by
    have := HT.sIx_nat (x :: ys).length (x :: ys).length (ys.length + 1)
    rw [show ((ys.length + 1 : Nat) : Int) = 1 + (ys.length : Int) by omega] at this
    rw [this, List.length_cons]; omega
  rw [h1, h2, show (x :: ys).drop 1 = ys from rfl, show ys.length + 1 - 1 = ys.length by omega, List.take_length]
theorem cut_none {xs : List V} {h : Option Int} : cutV xs h h = [] ∨ h = none := by
  cases h with
  | none => exact .inr rfl
  | some k =>
    left
    unfold cutV
    have e : HT.sIx xs.length xs.length (some k) = HT.sIx xs.length 0 (some k) := rfl
    rw [e, Nat.sub_self, List.take_zero]
theorem cut_void {xs : List V} {k : Int} : cutV xs (some k) (some k) = [] := by
  rcases cut_none (xs := xs) (h := some k) with e | e
  · exact e
  · cases e
theorem ix_first {x : V} {ys : List V} : ixN (x :: ys).length 0 = some 0 := by
  unfold ixN
  rw [List.length_cons]
  simp
theorem any_none (n : Nat) : (List.replicate n false).any id = false := by
  rw [List.any_eq_false]
  intro x hx
  rw [List.eq_of_mem_replicate hx]
  decide
theorem Alike.put {H G : Hp} {v v' : V} {m : Addr} {xs : List V} {us : List V} (h : Alike H v G v') (hv : Hold H v us true) (hm : G m = some (.lst xs)) (nl : xs.length = us.length + 1) {o : HO} : Alike H v (upd G m o) v' := by
  cases h with
  | same => exact .same
  | lst e1 e2 =>
    refine .lst e1 ?_
    rw [upd_ne]
    · exact e2
    · intro z
      rw [z, hm] at e2
      cases e2
      generalize eb : true = bb at hv
      cases hv with
      | flat f => cases eb
      | tup e a l => cases eb
      | lst e a l => rw [e] at e1; cases e1; omega
      | dct e a l n => rw [e] at e1; cases e1
  | dct e1 e2 =>
    refine .dct e1 ?_
    rw [upd_ne]
    · exact e2
    · intro z
      rw [z, hm] at e2
      cases e2
abbrev sFlat : Stmt := top 2
abbrev sCopied : Stmt := top 3
theorem scCopied : FnScope ["value", "things", "ends", "at", "made", "loose", "place", "first", "end", "thing"] ["value"] (defScope sCopied) := ⟨rfl, rfl, rfl, by decide +kernel, rfl, by decide +kernel, by decide +kernel⟩
theorem scFlat : FnScope ["value", "part"] ["value"] (defScope sFlat) := ⟨rfl, rfl, rfl, by decide +kernel, rfl, by decide +kernel, by decide +kernel⟩
theorem kit_any3 {K : PySem.W.Frag} {T a b c : String} {r1 r2 r3 : Bool} (h1 : kitB T a = some r1) (h2 : kitB T b = some r2) (h3 : kitB T c = some r3) : PySem.W.kitAny K (.type T) [.type a, .type b, .type c] = some (r1 || (r2 || r3)) := by
  refine kitAny_cons (kit_ty h1) (fun e => ?_) (fun e => by rw [e]; rfl)
  rw [e]
  exact (kit_any2 h2 h3).trans rfl
def spFlat : Sp := fun vs H Q _ => ∃ (a : Addr) (us : List V), vs = [.ref a] ∧ H a = some (.tup us) ∧ AllFlat us ∧ us.length ≤ 900 ∧ ∀ H', Same H H' → Q (.bl true) H'
section
variable {P : Program} {w : World} {K : PySem.W.Frag} {mg : Str → Option Value} {base : Heap}
theorem ok_copied {f : Addr} {fd : FuncData} (F : Fun K "copied_deep" "copied_deep" sCopied f fd) (T : Blt mg) (md : mg "dict" = none) (ma : mg "any" = none) (D : Df P w K mg base 1 "parts_of" ["value"] spPartsV) (D2 : Df P w K mg base 1 "rebuilt" ["value", "parts"] spRebuilt) : FnOk P w K mg base CX0 2 f fd ["value"] spKeptV := by
  obtain ⟨f1, fd1, G1, g1, k1, b1⟩ := D.ex
  obtain ⟨f2, fd2, G2, g2, k2, b2⟩ := D2.ex
  refine F.ok scCopied (fun vs H Q E h => ?_) (fun cdv A outer s H vs Q E hr h => ?_)
  · obtain ⟨v, us, b, rfl, _⟩ := h
    rfl
  · obtain ⟨v, us, b, rfl, hh, kk⟩ := h
    refine ⟨_, pss_cons (ps_set (i := 1) scCopied.nd rfl (.inl rfl) (pe_lst (pa_cons (pv 0) pa_nil)))
      (pss_cons (ps_set (i := 2) scCopied.nd rfl (.inl rfl) (pe_lst pa_nil))
      (pss_cons (ps_set (i := 3) scCopied.nd rfl (.inl rfl) pe_int)
      (pss_cons (ps_while PassesOwn.never (pt_cmpR op_lt (pv 3) (pe_callB call_len_seq (by rfl) T.len PySem.boot_len (pa_cons (pv 1) pa_nil)) (nomark _))
        (pss_cons (ps_expr (pe_bm PySem.F.plainAttrs_list PySem.F.slot_list_extend PySem.F.type_list_extend mt_extend (pv 1) (pa_cons (pe_callTy call_list_of (by rfl) T.list (by decide +kernel) (pa_cons (pe_call G1 hr (by rfl) g1 k1 b1 .nil pass0 (pa_cons (pe_ix ix_list (pv 1) (pv 3) (fun _ _ => rfl)) pa_nil)) pa_nil)) pa_nil)))
        (pss_cons (ps_expr (pe_bm PySem.F.plainAttrs_list PySem.F.slot_list_append PySem.F.type_list_append mt_append (pv 2) (pa_cons (pe_callB call_len_seq (by rfl) T.len PySem.boot_len (pa_cons (pv 1) pa_nil)) pa_nil)))
        (pss_one (ps_aug (i := 3) scCopied.nd rfl (.inl rfl) pe_int ip_add)))))
      (pss_cons (ps_set (i := 4) scCopied.nd rfl (.inl rfl) (pe_callTy call_list_of (by rfl) T.list (by decide +kernel) (pa_cons (pv 1) pa_nil)))
      (pss_cons (ps_setLc (i := 5) (te := tCB (rIsiT K) (tCons (tVar 9) (tCons (tTup (tCons (tC (.ty "list")) (tCons (tC (.ty "dict")) tNil))) tNil))) (own := [("thing", 9)]) (g := gName 9) (by rfl) scCopied.nd rfl rfl (sw_true rfl rfl rfl (by decide +kernel)) (pi_list (pv 1))
          (blkOk_by (own := [("thing", 9)]) (N := ["value", "things", "ends", "at", "made", "loose", "place", "first", "end", "thing"]) (sc := defScope sCopied) (by decide +kernel))
          (fun _ _ _ _ _ => pg_name (i := 9) scCopied.nd rfl (.inl rfl)) (fun _ _ _ _ _ => pts_nil)
          (fun _ _ _ _ _ => pe_callB (id := "isinstance") call_isiT (by rfl) T.isi (by decide +kernel) (pa_cons (pv 9) (pa_cons (pe_tup (pa_cons (pe_bltn (v := .ty "list") (by rfl) T.list (by decide +kernel) rfl) (pa_cons (pe_bltn (v := .ty "dict") (by rfl) md (by decide +kernel) rfl) pa_nil))) pa_nil))))
      (pss_cons (ps_for PassesOwn.never rfl (pi_range3 rfl T.range (pa_cons (pe_op op_sub (pe_callB call_len_seq (by rfl) T.len PySem.boot_len (pa_cons (pv 1) pa_nil)) pe_int) (pa_cons (pe_un un_neg pe_int) (pa_cons (pe_un un_neg pe_int) pa_nil)))) (pg_name (i := 6) scCopied.nd rfl (.inl rfl))
        (pss_cons (ps_par (i := 7) (j := 8) rfl scCopied.nd rfl rfl (by decide) rfl rfl (pa_cons (pe_ifExp (pt_cmpR op_gt (pv 6) pe_int (nomark _)) (pe_ix ix_list (pv 2) (pe_op op_sub (pv 6) pe_int) (fun _ _ => rfl)) pe_int) (pa_cons (pe_ix ix_list (pv 2) (pv 6) (fun _ _ => rfl)) pa_nil)) (by rfl))
        (pss_cons (ps_if (pt_val (pe_callB (cr_any rfl) (by rfl) ma (by decide +kernel) (pa_cons (pe_slice sl_list (pv 5) (po_some (pv 7)) (po_some (pv 8))) pa_nil))) (pss_one ps_never) pss_nil)
        (pss_one (ps_if (pt_val (pe_ix ix_list (pv 5) (pv 6) (fun _ _ => rfl)))
          (pss_one (ps_asg (pe_call G2 hr (by rfl) g2 k2 b2 .nil pass0 (pa_cons (pe_ix ix_list (pv 1) (pv 6) (fun _ _ => rfl)) (pa_cons (pe_slice sl_list (pv 4) (po_some (pv 7)) (po_some (pv 8))) pa_nil))) (pg_sub (pv 4) (pv 6) set_list))) pss_nil)))))
      (pss_one (ps_ret (pe_ix ix_list (pv 4) pe_int (fun _ _ => rfl)))))))))), ?_⟩
    have hlen := hh.len
    have hit := hh.items
    have z1000 : ∀ {n : Nat}, n ≤ 902 → n ≤ sizeLine := fun h => Nat.le_trans h (by rw [sizeLine_eq]; decide)
    refine ⟨_, rfl, (by show 1 ≤ sizeLine; decide), fun t nt => ⟨(by show 0 ≤ sizeLine; decide), fun e ne => ?_⟩⟩
    have te : e ≠ t := fun z => by rw [z, upd_same] at ne; cases ne
    have s2 : Same H (upd (upd H t (.lst [v])) e (.lst [])) := (same_new nt).trans (same_new ne)
    have ht2 : upd (upd H t (.lst [v])) e (.lst []) t = some (.lst [v]) := same_new ne _ _ upd_same
    have he2 : upd (upd H t (.lst [v])) e (.lst []) e = some (.lst []) := upd_same
    have nte : H e = none := Same.gone (same_new nt) ne
    generalize upd (upd H t (.lst [v])) e (.lst []) = H2 at s2 ht2 he2 ⊢
    -- the walk over the things
    refine ⟨fun m σ H' => (m = us.length + 1 ∧ σ = [some v, some (.ref t), some (.ref e), some (.int 0), none, none, none, none, none, none] ∧ H' = H2) ∨
      (∃ k, k ≤ us.length ∧ m = us.length - k ∧ σ = [some v, some (.ref t), some (.ref e), some (.int (1 + (k : Int))), none, none, none, none, none, none] ∧ H' t = some (.lst (v :: us)) ∧ H' e = some (.lst (List.replicate (1 + k) (V.int (1 + (us.length : Int))))) ∧ Same H H'), ⟨_, .inl ⟨rfl, rfl, rfl⟩⟩, fun m σ H' h => ?_⟩
    rcases h with ⟨rfl, rfl, rfl⟩ | ⟨k, hk, rfl, rfl, ht, he, sm⟩
    · refine ⟨_, rfl, _, rfl, t, _, rfl, .inl (SqL.of ht2), _, _, rfl, rfl, _, rfl, ite2 (fun _ => ?_) (fun z => absurd (decide_eq_true (show (0 : Int) < ((1 : Nat) : Int) by decide)) z)⟩
      refine ⟨fun σ H' => σ = [some v, some (.ref t), some (.ref e), some (.int (1 + ((0 : Nat) : Int))), none, none, none, none, none, none] ∧ H' t = some (.lst (v :: us)) ∧ H' e = some (.lst (List.replicate (1 + 0) (V.int (1 + (us.length : Int))))) ∧ Same H H', fun σ' H' q => ⟨us.length, by omega, .inr ⟨0, Nat.zero_le _, rfl, q⟩⟩, ?_⟩
      refine ⟨_, rfl, .inl ⟨rfl, _, SqL.of ht2⟩, _, rfl, _, rfl, t, _, 0, v, rfl, rfl, SqL.of ht2, atI_nat (j := 0) rfl, v, us, b, rfl, hh.keep s2, fun p0 H30 np0 s30 hp0 => ⟨p0, _, rfl, .inl (SqL.of hp0), fun p np => ?_⟩⟩
      have s3 : Same H' (upd H30 p (.lst us)) := s30.trans (same_new np)
      have hp : upd H30 p (.lst us) p = some (.lst us) := upd_same
      generalize upd H30 p (.lst us) = H3 at s3 hp ⊢
      refine ⟨t, p, _, _, rfl, rfl, s3 _ _ ht2, hp, z1000 (by show 1 + us.length ≤ 902; omega), ?_⟩
      have he3 : upd H3 t (.lst ([v] ++ us)) e = some (.lst []) := by rw [upd_ne te]; exact s3 _ _ he2
      refine ⟨_, rfl, .inl ⟨rfl, _, SqL.of he3⟩, _, rfl, t, [v] ++ us, rfl, .inl (SqL.of upd_same), e, _, _, rfl, rfl, he3, (by show 0 < sizeLine; decide), ?_⟩
      refine ⟨_, rfl, _, _, rfl, rfl, rfl, ?_, ?_, fun b o q => ?_⟩
      · rw [upd_ne te.symm]; exact upd_same
      · have e1 : ((([v] ++ us).length : Nat) : Int) = 1 + (us.length : Int) := by rw [List.length_append, List.length_singleton]; omega
        rw [upd_same, e1]; rfl
      · rw [upd_ne (ne_of_none q nte), upd_ne (ne_of_none q nt)]
        exact s3 _ _ (s2 _ _ q)
    · by_cases hlt : k < us.length
      · have hge : (v :: us)[1 + k]? = some us[k] := by rw [Nat.add_comm]; exact List.getElem?_eq_getElem hlt
        have hix : atI (v :: us) (1 + (k : Int)) = some us[k] := by
          have := atI_nat (xs := v :: us) (j := 1 + k) hge
          rw [show ((1 + k : Nat) : Int) = 1 + (k : Int) by omega] at this
          exact this
        refine ⟨_, rfl, _, rfl, t, _, rfl, .inl (SqL.of ht), _, _, rfl, rfl, _, rfl, ite2 (fun _ => ?_) (fun z => absurd (decide_eq_true (show (1 + (k : Int)) < (((v :: us).length : Nat) : Int) by rw [List.length_cons]; omega)) z)⟩
        refine ⟨fun σ H' => σ = [some v, some (.ref t), some (.ref e), some (.int (1 + ((k + 1 : Nat) : Int))), none, none, none, none, none, none] ∧ H' t = some (.lst (v :: us)) ∧ H' e = some (.lst (List.replicate (1 + (k + 1)) (V.int (1 + (us.length : Int))))) ∧ Same H H', fun σ' H' q => ⟨us.length - (k + 1), by omega, .inr ⟨k + 1, hlt, rfl, q⟩⟩, ?_⟩
        refine ⟨_, rfl, .inl ⟨rfl, _, SqL.of ht⟩, _, rfl, _, rfl, t, _, _, us[k], rfl, rfl, SqL.of ht, hix, us[k], [], false, rfl, flat_hold hit (List.getElem?_eq_getElem hlt), fun p0 H30 np0 s30 hp0 => ⟨p0, _, rfl, .inl (SqL.of hp0), fun p np => ?_⟩⟩
        have s3 : Same H' (upd H30 p (.lst [])) := s30.trans (same_new np)
        have hp : upd H30 p (.lst []) p = some (.lst []) := upd_same
        generalize upd H30 p (.lst []) = H3 at s3 hp ⊢
        refine ⟨t, p, _, _, rfl, rfl, s3 _ _ ht, hp, z1000 (by show (v :: us).length + 0 ≤ 902; rw [List.length_cons]; omega), ?_⟩
        have he3 : upd H3 t (.lst ((v :: us) ++ [])) e = some (.lst (List.replicate (1 + k) (V.int (1 + (us.length : Int))))) := by rw [upd_ne te]; exact s3 _ _ he
        refine ⟨_, rfl, .inl ⟨rfl, _, SqL.of he3⟩, _, rfl, t, (v :: us) ++ [], rfl, .inl (SqL.of upd_same), e, _, _, rfl, rfl, he3, Nat.lt_of_lt_of_le (show (List.replicate (1 + k) (V.int (1 + (us.length : Int)))).length < 902 by rw [List.length_replicate]; omega) (z1000 (Nat.le_refl _)), ?_⟩
        refine ⟨_, rfl, _, _, rfl, rfl, ?_, ?_, ?_, fun b o q => ?_⟩
        · have e5 : (1 + (k : Int)) + 1 = 1 + ((k + 1 : Nat) : Int) := by omega
          show List.set _ 3 (some (V.int ((1 + (k : Int)) + 1))) = _
          rw [e5]; rfl
        · rw [upd_ne te.symm, upd_same, List.append_nil]
        · have e1 : ((((v :: us) ++ []).length : Nat) : Int) = 1 + (us.length : Int) := by rw [List.append_nil, List.length_cons]; omega
          rw [upd_same, e1, show 1 + (k + 1) = (1 + k) + 1 by omega, List.replicate_succ' (n := 1 + k)]
        · have e3 := s3 _ _ (sm _ _ q)
          rw [upd_ne (ne_of_none q nte), upd_ne (ne_of_none q nt)]
          exact e3
      · obtain rfl : k = us.length := by omega
        refine ⟨_, rfl, _, rfl, t, _, rfl, .inl (SqL.of ht), _, _, rfl, rfl, _, rfl, ite2 (fun z => absurd (of_decide_eq_true z) (show ¬ ((1 + (us.length : Int)) < (((v :: us).length : Nat) : Int)) by rw [List.length_cons]; omega)) (fun _ => ?_)⟩
        refine ⟨_, rfl, t, _, rfl, .inl (SqL.of ht), fun md nmd => ?_⟩
        have ht3 := same_new (o := .lst (v :: us)) nmd _ _ ht
        have he3 := same_new (o := .lst (v :: us)) nmd _ _ he
        have hm3 : upd H' md (.lst (v :: us)) md = some (.lst (v :: us)) := upd_same
        have sm3 := sm.trans (same_new (o := .lst (v :: us)) nmd)
        have nmH : H md = none := Same.gone sm nmd
        generalize upd H' md (.lst (v :: us)) = H3 at ht3 he3 hm3 sm3 ⊢
        refine ⟨_, rfl, t, rfl, ⟨_, SqL.of ht3⟩, fun D nD => ?_⟩
        refine lc_list (K := K) (a := t) (xs := v :: us) (fun i H' => H' D = some (.lst (((marks b us.length).take i).map V.bl)) ∧ But D H3 H') ⟨upd_same, But.upd_at⟩ (fun i H' _ q => SqL.of (q.2 _ _ (ne_of_none ht3 nD) ht3)) (fun i y H' hi ⟨e1, e2⟩ => ?_) (fun H' ⟨e1, e2⟩ => ?_)
        · have hil : i < us.length + 1 := (List.getElem?_eq_some_iff.mp hi).1
          obtain ⟨TT, r, hr1, ty, kit⟩ : ∃ (TT : String) (r : Bool), (marks b us.length)[i]? = some r ∧ (∀ (K : PySem.W.Frag) (G : Hp), Same H' G → TyX K G y (.type TT)) ∧ PySem.W.kitAny K (.type TT) [.type "list", .type "dict"] = some r := by
            cases i with
            | zero =>
              obtain rfl : v = y := Option.some.inj hi
              obtain ⟨TT, ty, b1, b2, b3, f1, f2, f3, eb⟩ := hh.ty
              refine ⟨TT, b, rfl, fun K G k => ty K G fun c o q => k _ _ (e2 _ _ (ne_of_none (sm3 _ _ q) nD) (sm3 _ _ q)), ?_⟩
              rw [eb]; exact kit_any2 f1 f3
            | succ j =>
              obtain ⟨TT, f⟩ := hit y (List.mem_of_getElem? (show us[j]? = some y from hi))
              exact ⟨TT, false, marks_at (by omega), fun K G _ => f.ty K G, kit_any2 f.l f.d⟩
          refine ⟨rfl, _, rfl, (by show 2 ≤ sizeLine; decide), fun tp ntp => ⟨y, tp, _, _, _, r, rfl, upd_same, .cons (.ty _) (.cons (.ty _) .nil), ty _ _ (same_new ntp), kit, _, same_new ntp _ _ e1, ?_, ?_, ?_⟩⟩
          · refine Nat.lt_of_lt_of_le (show _ < 902 from ?_) (z1000 (Nat.le_refl _))
            rw [List.length_map, List.length_take]; omega
          · rw [upd_same, List.take_add_one, hr1, List.map_append]; rfl
          · exact (e2.trans (Same.but (same_new ntp))).trans But.upd_at
        · have eM : (marks b us.length).take (v :: us).length = marks b us.length := by
            rw [List.take_of_length_le]
            show (List.replicate us.length false).length + 1 ≤ us.length + 1
            rw [List.length_replicate]; exact Nat.le_refl _
          rw [eM] at e1
          have s4 : Same H3 H' := fun b o q => e2 b o (ne_of_none q nD) q
          have ht4 := s4 _ _ ht3
          have he4 := s4 _ _ he3
          have hm4 := s4 _ _ hm3
          have s04 := sm3.trans s4
          have nDH : H D = none := Same.gone sm3 nD
          have lenI : ((((v :: us).length : Nat) : Int)) - 1 = (us.length : Int) := by rw [List.length_cons]; omega
          refine ⟨_, rfl, t, _, rfl, .inl (SqL.of ht4), _, _, rfl, rfl, _, rfl, _, rfl, (us.length : Int), -1, -1, us.length + 1, ?_, ?_, ?_⟩
          · show [V.int (((((v :: us).length : Nat) : Int)) - 1), V.int (-1), V.int (-1)] = _
            rw [lenI]
          · have h := RgC.neg (i := (us.length : Int)) (j := -1) (by omega) (by omega) (by decide) (by decide)
            rw [show ((us.length : Int) - -1).toNat = us.length + 1 by omega] at h
            exact h
          refine for_rangeC (lo := (us.length : Int)) (c := -1) (n := us.length + 1) (fun i σ H5 => (∃ v6 v7 v8 v9 : Option V, σ = [some v, some (.ref t), some (.ref e), some (.int (1 + (us.length : Int))), some (.ref md), some (.ref D), v6, v7, v8, v9]) ∧
            (i ≤ us.length → Same H' H5) ∧ (i = us.length + 1 → Same H H5 ∧ ∃ v', H5 md = some (.lst (v' :: us)) ∧ Alike H v H5 v')) ⟨⟨none, none, none, none, rfl⟩, fun _ => Same.refl _, fun z => by omega⟩ ?_ ?_
          · rintro i σ H5 hi ⟨⟨v6, v7, v8, v9, rfl⟩, u5, _⟩
            have s5 := u5 (by omega)
            clear u5
            have he5 := s5 _ _ he4
            have hD5 := s5 _ _ e1
            by_cases hlast : i = us.length
            · subst hlast
              have e0 : (us.length : Int) + ((us.length : Nat) : Int) * -1 = 0 := by omega
              rw [e0]
              refine ⟨_, rfl, _, _, rfl, rfl, _, rfl, ite2 (fun z => absurd (of_decide_eq_true z) (show ¬ ((0 : Int) < 0) by decide)) (fun _ => ?_)⟩
              refine ⟨_, rfl, _, rfl, e, _, _, _, rfl, rfl, SqL.of he5, atI_nat (j := 0) (ends_at (m := 1 + us.length) (by omega)), _, _, rfl, ?_⟩
              refine ⟨_, rfl, _, rfl, _, rfl, _, rfl, _, rfl, D, _, rfl, SqL.of hD5, fun sl nsl => ?_⟩
              have ecut : cutV ((marks b us.length).map V.bl) (some 1) (some (1 + (us.length : Int))) = (List.replicate us.length false).map V.bl := by
                have := cut_tail (x := V.bl b) (ys := (List.replicate us.length false).map V.bl)
                rw [List.length_map, List.length_replicate] at this
                exact this
              rw [ecut]
              refine ⟨sl, List.replicate us.length false, rfl, SqL.of upd_same, _, rfl, ?_⟩
              rw [any_none]
              refine iteF ?_
              have s6 := s5.trans (same_new (o := .lst ((List.replicate us.length false).map V.bl)) nsl)
              generalize upd H5 sl (.lst ((List.replicate us.length false).map V.bl)) = H6 at s6
              refine ⟨_, rfl, _, rfl, D, _, _, _, rfl, rfl, SqL.of (s6 _ _ e1), atI_nat (j := 0) rfl, _, rfl, ?_⟩
              cases b with
              | false => exact iteF ⟨⟨_, _, _, _, rfl⟩, fun z => by omega, fun _ => ⟨s04.trans s6, v, s6 _ _ hm4, .same⟩⟩
              | true =>
                refine iteT ⟨_, rfl, _, rfl, t, _, _, _, rfl, rfl, SqL.of (s6 _ _ ht4), atI_nat (j := 0) rfl, _, rfl, _, rfl, _, rfl, _, rfl, _, rfl, md, _, rfl, SqL.of (s6 _ _ hm4), fun q nq => ?_⟩
                rw [cut_tail]
                have s7 := s6.trans (same_new (o := .lst us) nq)
                have hq : upd H6 q (.lst us) q = some (.lst us) := upd_same
                generalize upd H6 q (.lst us) = H7 at s7 hq
                refine ⟨v, us, q, rfl, hh.keep (s04.trans s7), hq, fun v' H8 s8 al => ?_⟩
                have hm8 := s8 _ _ (s7 _ _ hm4)
                refine ⟨_, rfl, _, rfl, md, _, _, 0, rfl, rfl, hm8, ix_first, ?_⟩
                refine ⟨⟨_, _, _, _, rfl⟩, fun z => by omega, fun _ => ⟨fun c o z => ?_, v', upd_same, (al.from (s04.trans s7) us hh).put hh hm8 rfl⟩⟩
                rw [upd_ne (ne_of_none z nmH)]
                exact s8 _ _ (s7 _ _ (s04 _ _ z))
            · have hi2 : i < us.length := by omega
              obtain ⟨j, ej⟩ : ∃ j : Nat, us.length = i + j + 1 := ⟨us.length - i - 1, by omega⟩
              have e0 : (us.length : Int) + ((i : Nat) : Int) * -1 = ((j + 1 : Nat) : Int) := by omega
              rw [e0]
              have e9 : ((j + 1 : Nat) : Int) - 1 = ((j : Nat) : Int) := by omega
              refine ⟨_, rfl, _, _, rfl, rfl, _, rfl, ite2 (fun _ => ?_) (fun z => absurd (decide_eq_true (show (0 : Int) < ((j + 1 : Nat) : Int) by omega)) z)⟩
              have hfst : atI (List.replicate (1 + us.length) (V.int (1 + (us.length : Int)))) (((j + 1 : Nat) : Int) - 1) = some (V.int (1 + (us.length : Int))) := by
                rw [e9]
                exact atI_nat (ends_at (m := 1 + us.length) (by omega))
              refine ⟨_, rfl, _, rfl, _, _, rfl, rfl, e, _, _, V.int (1 + (us.length : Int)), rfl, rfl, SqL.of he5, hfst, ?_⟩
              refine ⟨_, rfl, _, rfl, e, _, _, _, rfl, rfl, SqL.of he5, atI_nat (j := j + 1) (ends_at (m := 1 + us.length) (by omega)), _, _, rfl, ?_⟩
              refine ⟨_, rfl, _, rfl, _, rfl, _, rfl, _, rfl, D, _, rfl, SqL.of hD5, fun sl nsl => ?_⟩
              rw [cut_void]
              refine ⟨sl, [], rfl, SqL.of upd_same, _, rfl, iteF ?_⟩
              refine ⟨_, rfl, _, rfl, D, _, _, _, rfl, rfl, SqL.of (same_new nsl _ _ hD5), atI_nat (j := j + 1) (show ((marks b us.length).map V.bl)[j + 1]? = some (V.bl false) by rw [List.getElem?_map, marks_at (by omega)]; rfl), _, rfl, iteF ?_⟩
              exact ⟨⟨_, _, _, _, rfl⟩, fun _ => s5.trans (same_new nsl), fun z => by omega⟩
          · rintro σ H5 ⟨⟨v6, v7, v8, v9, rfl⟩, _, s5⟩
            obtain ⟨s5, v', hm5, al⟩ := s5 rfl
            exact ⟨_, rfl, md, _, 0, v', rfl, rfl, SqL.of hm5, atI_nat (j := 0) rfl, kk _ H5 s5 al⟩
theorem ok_flat {f : Addr} {fd : FuncData} (F : Fun K "is_flat" "is_flat" sFlat f fd) (T : Blt mg) (md : mg "dict" = none) : FnOk P w K mg base CX0 2 f fd ["value"] spFlat := by
  refine F.ok scFlat (fun vs H Q E h => ?_) (fun cdv A outer s H vs Q E hr h => ?_)
  · obtain ⟨a, us, rfl, _⟩ := h
    rfl
  · obtain ⟨a, us, rfl, ha, af, hn, k⟩ := h
    refine ⟨_, pss_cons (ps_for PassesOwn.never rfl (pi_tup (pv 0)) (pg_name (i := 1) scFlat.nd rfl (.inl rfl))
        (pss_one (ps_if (pt_val (pe_callB call_isiT (by rfl) T.isi (by decide +kernel) (pa_cons (pv 1) (pa_cons (pe_tup (pa_cons (pe_bltn (v := .ty "list") (by rfl) T.list (by decide +kernel) rfl) (pa_cons (pe_bltn (v := .ty "tuple") (by rfl) T.tuple (by decide +kernel) rfl) (pa_cons (pe_bltn (v := .ty "dict") (by rfl) md (by decide +kernel) rfl) pa_nil)))) pa_nil)))) (pss_one ps_never) pss_nil)))
      (pss_one (ps_ret pe_bl)), ?_⟩
    refine ⟨_, rfl, a, rfl, ⟨_, SqT.of ha⟩, ?_⟩
    refine for_it (walk_tup (K := K) (a := a) (xs := us)) (fun i σ G => Same H G ∧ ∃ z, σ = [some (.ref a), z]) ⟨Same.refl _, _, rfl⟩ (fun i σ G _ h => SqT.of (h.1 _ _ ha)) (fun i v σ G2 G3 hi h y => ?_) (fun σ G h => ?_)
    · obtain ⟨s2, z, rfl⟩ := h
      obtain ⟨rfl, hx⟩ := y
      obtain ⟨TT, fl⟩ := af v (List.mem_of_getElem? hx)
      exact ⟨_, rfl, (by show 3 ≤ sizeLine; decide), fun tp ntp => ⟨v, tp, _, _, _, false, rfl, upd_same, .cons (.ty _) (.cons (.ty _) (.cons (.ty _) .nil)), fl.ty _ _, kit3 fl.l fl.t fl.d, _, rfl, iteF ⟨s2.trans (same_new ntp), _, rfl⟩⟩⟩
    · obtain ⟨s2, z, rfl⟩ := h
      exact k G s2
theorem ok_keptV {f : Addr} {fd : FuncData} (F : Fun K "kept" "kept" sKept f fd) (T : Blt mg) (md : mg "dict" = none) (D : Df P w K mg base 2 "is_flat" ["value"] spFlat) (D2 : Df P w K mg base 2 "copied_deep" ["value"] spKeptV) : FnOk P w K mg base CX0 3 f fd ["value"] spKeptV := by
  obtain ⟨f1, fd1, G1, g1, k1, b1⟩ := D.ex
  obtain ⟨f2, fd2, G2, g2, k2, b2⟩ := D2.ex
  refine F.ok scKept (fun vs H Q E h => ?_) (fun cdv A outer s H vs Q E hr h => ?_)
  · obtain ⟨v, us, b, rfl, _⟩ := h
    rfl
  · obtain ⟨v, us, b, rfl, hh, kk⟩ := h
    refine ⟨_, pss_cons (ps_if (pt_not (pt_val (pe_callB call_isiT (by rfl) T.isi (by decide +kernel) (pa_cons (pv 0) (pa_cons (pe_tup (pa_cons (pe_bltn (v := .ty "list") (by rfl) T.list (by decide +kernel) rfl) (pa_cons (pe_bltn (v := .ty "tuple") (by rfl) T.tuple (by decide +kernel) rfl) (pa_cons (pe_bltn (v := .ty "dict") (by rfl) md (by decide +kernel) rfl) pa_nil)))) pa_nil))))) (pss_one (ps_ret (pv 0))) pss_nil)
      (pss_cons (ps_if (PW.pt (pw_and (pt_val (pe_callB call_isi (by rfl) T.isi (by decide +kernel) (pa_cons (pv 0) (pa_cons (pe_bltn (v := .ty "tuple") (by rfl) T.tuple (by decide +kernel) rfl) pa_nil)))) (pw_and1 (pt_val (pe_call G1 hr (by rfl) g1 k1 b1 .nil pass0 (pa_cons (pv 0) pa_nil)))))) (pss_one (ps_ret (pv 0))) pss_nil)
      (pss_one (ps_ret (pe_call G2 hr (by rfl) g2 k2 b2 .nil pass0 (pa_cons (pv 0) pa_nil))))), ?_⟩
    cases hh with
    | @flat v TT fl =>
      refine ⟨_, rfl, (by show 3 ≤ sizeLine; decide), fun tp ntp => ⟨v, tp, _, _, _, false, rfl, upd_same, .cons (.ty _) (.cons (.ty _) (.cons (.ty _) .nil)), fl.ty _ _, kit3 fl.l fl.t fl.d, _, rfl, iteT ⟨_, rfl, ?_⟩⟩⟩
      exact kk _ _ (same_new ntp) .same
    | @tup a us e al l =>
      refine ⟨_, rfl, (by show 3 ≤ sizeLine; decide), fun tp ntp => ⟨_, tp, _, _, _, true, rfl, upd_same, .cons (.ty _) (.cons (.ty _) (.cons (.ty _) .nil)), .base (.tup (same_new ntp _ _ e)), kit_any3 (r1 := false) (r2 := true) (r3 := false) (by decide +kernel) (by decide +kernel) (by decide +kernel), _, rfl, iteF ?_⟩⟩
      have e1 := same_new (o := .tup [.ty "list", .ty "tuple", .ty "dict"]) ntp _ _ e
      refine ⟨_, rfl, _, _, _, _, true, rfl, .ty _, .base (.tup e1), kit_ty (by decide +kernel), _, rfl, iteT ?_⟩
      refine ⟨_, rfl, a, us, rfl, e1, al, l, fun H' s' => ⟨_, rfl, iteT ⟨_, rfl, ?_⟩⟩⟩
      exact kk _ _ ((same_new ntp).trans s') .same
    | @lst a us e al l =>
      refine ⟨_, rfl, (by show 3 ≤ sizeLine; decide), fun tp ntp => ⟨_, tp, _, _, _, true, rfl, upd_same, .cons (.ty _) (.cons (.ty _) (.cons (.ty _) .nil)), .base (.lst (same_new ntp _ _ e)), kit_any3 (r1 := true) (r2 := false) (r3 := false) (by decide +kernel) (by decide +kernel) (by decide +kernel), _, rfl, iteF ?_⟩⟩
      have s1 := same_new (H := H) (o := .tup [.ty "list", .ty "tuple", .ty "dict"]) ntp
      have e1 := s1 _ _ e
      refine ⟨_, rfl, _, _, _, _, false, rfl, .ty _, .base (.lst e1), kit_ty (by decide +kernel), _, rfl, iteF ?_⟩
      refine ⟨_, rfl, _, us, true, rfl, (Hold.lst e1 al l), fun v' H' s' al' => ?_⟩
      exact kk _ _ (s1.trans s') (al'.from s1 us (.lst e al l))
    | @dct a kvs e al l nd =>
      refine ⟨_, rfl, (by show 3 ≤ sizeLine; decide), fun tp ntp => ⟨_, tp, _, _, _, true, rfl, upd_same, .cons (.ty _) (.cons (.ty _) (.cons (.ty _) .nil)), .base (.dK (same_new ntp _ _ e)), kit_any3 (r1 := false) (r2 := false) (r3 := true) (by decide +kernel) (by decide +kernel) (by decide +kernel), _, rfl, iteF ?_⟩⟩
      have s1 := same_new (H := H) (o := .tup [.ty "list", .ty "tuple", .ty "dict"]) ntp
      have e1 := s1 _ _ e
      refine ⟨_, rfl, _, _, _, _, false, rfl, .ty _, .base (.dK e1), kit_ty (by decide +kernel), _, rfl, iteF ?_⟩
      refine ⟨_, rfl, _, _, true, rfl, (Hold.dct e1 al l nd), fun v' H' s' al' => ?_⟩
      exact kk _ _ (s1.trans s') (al'.from s1 _ (.dct e al l nd))
end
end Ev
namespace Ev
open PySem L2 PySem.Spec PyProof.Rows
/-! ### the checks of the package -/
section
variable {P : Program} {w : World} {K : PySem.W.Frag} {mg : Str → Option Value} {base : Heap}
theorem scIsInt : FnScope ["value"] ["value"] (defScope sIsInt) := ⟨rfl, rfl, rfl, by decide +kernel, rfl, by decide +kernel, by decide +kernel⟩
theorem ok_isInt {f : Addr} {fd : FuncData} (F : Fun K "is_integer" "is_integer" sIsInt f fd) (T : Blt mg) : FnOk P w K mg base CX0 1 f fd ["value"] spIsInt := by
  refine F.ok scIsInt (fun vs H Q E h => ?_) (fun cdv A outer s H vs Q E hr h => ?_)
  · obtain ⟨v, rfl, _⟩ := h
    rfl
  · obtain ⟨v, rfl, ⟨TT, bi, bb, ty, e1, e2, e3, e4⟩, k⟩ := h
    refine ⟨_, pss_one (ps_ret (pe_and (pe_callB call_isi (by rfl) T.isi (by decide +kernel) (pa_cons (pv 0) (pa_cons (pe_bltn (v := .ty "int") (by rfl) T.int (by decide +kernel) rfl) pa_nil)))
      (pe_one (pe_not (pe_callB call_isi (by rfl) T.isi (by decide +kernel) (pa_cons (pv 0) (pa_cons (pe_bltn (v := .ty "bool") (by rfl) T.bool (by decide +kernel) rfl) pa_nil))))))), ?_⟩
    refine ⟨_, rfl, _, _, _, _, bi, rfl, .ty _, ty _ _ (Same.refl H), kit_ty e1, bi, rfl, ?_⟩
    rw [← e4] at k
    cases bi with
    | false => exact iteF k
    | true => exact iteT ⟨_, rfl, _, _, _, _, bb, rfl, .ty _, ty _ _ (Same.refl H), kit_ty e2, _, rfl, k⟩
theorem scWithin : FnScope ["value", "least", "most"] ["value", "least", "most"] (defScope sWithin) := ⟨rfl, rfl, rfl, by decide +kernel, rfl, by decide +kernel, by decide +kernel⟩
theorem ok_within {f : Addr} {fd : FuncData} (F : Fun K "is_within" "is_within" sWithin f fd) (D : Df P w K mg base 1 "is_integer" ["value"] spIsInt) : FnOk P w K mg base CX0 2 f fd ["value", "least", "most"] spWithin := by
  obtain ⟨fI, fdI, GI, gI, kI, bI⟩ := D.ex
  refine F.ok scWithin (fun vs H Q E h => ?_) (fun cdv A outer s H vs Q E hr h => ?_)
  · obtain ⟨v, l, m, rfl, _⟩ := h
    rfl
  · obtain ⟨v, l, m, rfl, ty, k⟩ := h
    refine ⟨_, pss_one (ps_ret (pe_and (pe_call GI hr (by rfl) gI kI bI .nil pass0 (pa_cons (pv 0) pa_nil)) (pe_one (pe_chain op_le op_le (pv 1) (pv 0) (pv 2))))), ?_⟩
    refine ⟨_, rfl, v, rfl, ty, _, rfl, ?_⟩
    cases hw : wholeB v with
    | true =>
      obtain ⟨i, rfl⟩ := whole_int hw
      refine iteT ⟨_, rfl, _, rfl, _, _, rfl, rfl, _, rfl, ?_⟩
      have k : Q (.bl (decide (l ≤ i) && decide (i ≤ m))) H := k
      by_cases z : l ≤ i
      · rw [decide_eq_true z] at k ⊢
        exact iteT ⟨_, rfl, _, _, rfl, rfl, k⟩
      · rw [decide_eq_false z] at k ⊢
        exact iteF k
    | false =>
      rw [(not_whole hw l m).1] at k
      exact iteF k
theorem scIsKey : FnScope ["value"] ["value"] (defScope sIsKey) := ⟨rfl, rfl, rfl, by decide +kernel, rfl, by decide +kernel, by decide +kernel⟩
theorem ok_isKey {f : Addr} {fd : FuncData} (F : Fun K "is_key" "is_key" sIsKey f fd) (D : Df P w K mg base 1 "is_integer" ["value"] spIsInt) {t : Tok} (gK : mg "KEY_BOUND" = some (.int (10 ^ 30) t)) : FnOk P w K mg base CX0 2 f fd ["value"] spIsKey := by
  obtain ⟨fI, fdI, GI, gI, kI, bI⟩ := D.ex
  refine F.ok scIsKey (fun vs H Q E h => ?_) (fun cdv A outer s H vs Q E hr h => ?_)
  · obtain ⟨v, rfl, _⟩ := h
    rfl
  · obtain ⟨v, rfl, ty, k⟩ := h
    refine ⟨_, pss_one (ps_ret (pe_and (pe_call GI hr (by rfl) gI kI bI .nil pass0 (pa_cons (pv 0) pa_nil)) (pe_one (pe_chain op_lt op_lt (pe_un un_neg (pe_glob (v := .int (10 ^ 30)) rfl gK ⟨_, rfl⟩)) (pv 0) (pe_glob (v := .int (10 ^ 30)) rfl gK ⟨_, rfl⟩))))), ?_⟩
    refine ⟨_, rfl, v, rfl, ty, _, rfl, ?_⟩
    cases hw : wholeB v with
    | true =>
      obtain ⟨i, rfl⟩ := whole_int hw
      refine iteT ⟨_, rfl, _, rfl, _, _, rfl, rfl, _, rfl, ?_⟩
      have k : Q (.bl (decide (-(10 ^ 30) < i) && decide (i < 10 ^ 30))) H := k
      by_cases z : -(10 ^ 30) < i
      · rw [decide_eq_true z] at k ⊢
        exact iteT ⟨_, _, rfl, rfl, k⟩
      · rw [decide_eq_false z] at k ⊢
        exact iteF k
    | false =>
      rw [(not_whole hw 0 0).2] at k
      exact iteF k
theorem scIsName : FnScope ["value", "mark"] ["value"] (defScope sIsName) := ⟨rfl, rfl, rfl, by decide +kernel, rfl, by decide +kernel, by decide +kernel⟩
theorem nameB_eq {x : Str} (h1 : 1 ≤ x.length) (h2 : x.length ≤ 8) : nameB x = x.cps.toList.all inL := by
  unfold nameB
  rw [decide_eq_true h1, decide_eq_true h2]
  rfl
theorem nameB_lo {x : Str} (h : ¬ 1 ≤ x.length) : nameB x = false := by
  unfold nameB
  rw [decide_eq_false h]
  rfl
theorem nameB_hi {x : Str} (h : ¬ x.length ≤ 8) : nameB x = false := by
  unfold nameB
  rw [decide_eq_false h, Bool.and_false]
  rfl
theorem all_id (l : List Nat) : (l.map inL).all id = l.all inL := by
  induction l with
  | nil => rfl
  | cons a r ih => simp only [List.map_cons, List.all_cons, ih, id]
theorem take_at {l : List Nat} {i : Nat} {c : Nat} (h : l[i]? = some c) : l.take (i + 1) = l.take i ++ [c] := by
  rw [List.take_add_one, h]
  rfl
theorem ok_isName {f : Addr} {fd : FuncData} (F : Fun K "is_name" "is_name" sIsName f fd) (T : Blt mg) (ms : mg "str" = none) {t : Tok} (gL : mg "NAME_LENGTH" = some (.int 8 t)) {t2 : Tok} (gA : mg "LETTERS" = some (.str "abcdefghijklmnopqrstuvwxyz" t2)) : FnOk P w K mg base CX0 1 f fd ["value"] spIsName := by
  refine F.ok scIsName (fun vs H Q E h => ?_) (fun cdv A outer s H vs Q E hr h => ?_)
  · obtain ⟨v, rfl, _⟩ := h
    rfl
  · obtain ⟨v, rfl, ⟨TT, bi, bb, ty, e1, e2, e3, e4⟩, sh, k⟩ := h
    refine ⟨_, pss_cons (ps_if (PW.pt (pw_or (pt_not (pt_val (pe_callB call_isi (by rfl) T.isi (by decide +kernel) (pa_cons (pv 0) (pa_cons (pe_bltn (v := .ty "str") (by rfl) ms (by decide +kernel) rfl) pa_nil)))))
        (pw_or1 (pt_not (pt_chain op_le op_le pe_int (pe_callB call_len_str (by rfl) T.len PySem.boot_len (pa_cons (pv 0) pa_nil)) (pe_glob (v := .int 8) rfl gL ⟨_, rfl⟩)))))) (pss_one (ps_ret pe_bl)) pss_nil)
      (pss_one (ps_ret (pe_callB (cr_all rfl) (by rfl) T.all (by decide +kernel) (pa_cons (pe_lc (own := [("mark", 1)]) (g := gName 1) (by rfl) scIsName.nd (pi_str (pv 0)) (blkOk_by (own := [("mark", 1)]) (N := ["value", "mark"]) (sc := defScope sIsName) (by decide +kernel))
          (fun _ _ _ _ _ => pg_name (i := 1) scIsName.nd rfl (.inl rfl)) (fun _ _ _ _ _ => pts_nil) (fun _ _ _ _ _ => pe_cmpR op_in_sign (pv 1) (pe_glob (v := .str "abcdefghijklmnopqrstuvwxyz") rfl gA ⟨_, rfl⟩) (by rfl))) pa_nil)))), ?_⟩
    refine ⟨_, rfl, _, _, _, _, isS v, rfl, .ty _, ty _ _ (Same.refl H), kit_ty e3, _, rfl, ?_⟩
    cases hs : isS v with
    | false =>
      rw [not_isS hs] at k
      exact k H (Same.refl H)
    | true =>
      obtain ⟨x, rfl⟩ := isS_str hs
      have hx := (sh x rfl).1
      have hx2 : x.length ≤ sizeLine := Nat.le_trans hx (by decide)
      have k : ∀ H', Same H H' → Q (.bl (nameB x)) H' := k
      refine ⟨_, rfl, x, rfl, hx2, _, _, rfl, rfl, _, rfl, ?_⟩
      have fin : 1 ≤ x.length → x.length ≤ 8 → ∀ H', Same H H' → Q (.bl ((x.cps.toList.map inL).all id)) H' := fun z1 z2 H' s1 => by
        rw [all_id, ← nameB_eq z1 z2]
        exact k H' s1
      have hlen : x.cps.size = x.length := rfl
      by_cases z : (1 : Int) ≤ (x.length : Int)
      · rw [decide_eq_true z]
        refine iteT ⟨_, _, rfl, rfl, ?_⟩
        refine ⟨_, rfl, ite2 (fun e => ?_) (fun e => ?_)⟩
        · have z2 : ¬ (x.length : Int) ≤ 8 := fun z2 => by
            rw [show (!decide ((x.length : Int) ≤ 8)) = false by rw [decide_eq_true z2]; rfl] at e
            cases e
          have k0 := k H (Same.refl H)
          rw [nameB_hi (by omega)] at k0
          exact k0
        · have z2 : (x.length : Int) ≤ 8 := Decidable.byContradiction fun z2 => e (by show (!decide ((x.length : Int) ≤ 8)) = true; rw [decide_eq_false z2]; rfl)
          refine ⟨_, rfl, x, rfl, fun D nD => ?_⟩
          refine lc_it walk_str (fun i H' => H' D = some (.lst (((x.cps.toList.take i).map inL).map V.bl)) ∧ But D H H') ⟨upd_same, But.upd_at⟩ (fun _ _ _ _ => trivial) (fun i v H1 H' hi ⟨e1, e2⟩ y => ?_) (fun H' ⟨e1, e2⟩ => ?_)
          · obtain ⟨rfl, c, hc, rfl⟩ := y
            refine ⟨rfl, _, rfl, c, _, rfl, rfl, _, e1, ?_, ?_, ?_⟩
            · rw [List.length_map, List.length_map, List.length_take]
              exact Nat.lt_of_le_of_lt (Nat.min_le_left _ _) (Nat.lt_of_lt_of_le hi (Nat.le_trans (by omega) (show 1000 ≤ sizeLine by decide)))
            · rw [take_at (c := c) (by rw [Array.getElem?_toList]; exact hc), List.map_append, List.map_append]
              exact upd_same
            · exact e2.trans But.upd_at
          · rw [show x.cps.size = x.cps.toList.length by simp, List.take_length] at e1
            refine ⟨D, _, rfl, SqL.of e1, ?_⟩
            exact fin (by omega) (by omega) H' fun b o q => e2 b o (ne_of_none q nD) q
      · rw [decide_eq_false z]
        have k0 := k H (Same.refl H)
        rw [nameB_lo (by omega)] at k0
        exact ⟨_, rfl, iteT k0⟩
end
end Ev
namespace Ev
open PySem L2 PySem.Spec PyProof.Rows
/-! ### repr of a value that holds nothing but scalars -/
def sclr : V → PyData → Bool
  | .non, .none => true
  | .bl a, .bool b => a == b
  | .int a, .int b => decide (a = b)
  | .str a, .str b => a == b
  | _, _ => false
def keyD : Key → PyData
  | .inl i => .int i
  | .inr x => .str x
inductive Vd (K : PySem.W.Frag) (H : Hp) : V → PyData → Prop
  | plain {v : V} {d : PyData} : Dp K H v d → d.hasDict = false → Vd K H v d
  | dct {a : Addr} {kvs : List (Key × V)} {ds : List (PyData × PyData)} : H a = some (.dK kvs) → ds.map (·.1) = kvs.map (fun p => keyD p.1) → Paired (fun v d => sclr v d = true) (kvs.map (·.2)) (ds.map (·.2)) → Vd K H (.ref a) (.dict ds)
theorem reads_sc {h : Heap} {v : V} {d : PyData} {u : Value} (e : sclr v d = true) (r : RelV v u) : Reads h u d [] := by
  cases v <;> cases d <;> first | cases e | skip
  · cases (show u = Value.none from r); exact .none
  · obtain rfl := beq_iff_eq.mp e
    cases (show u = Value.bool _ from r); exact .bool _
  · obtain rfl := of_decide_eq_true e
    obtain ⟨t, q⟩ := (show ∃ t, u = Value.int _ t from r); cases q; exact .int _ _
  · obtain rfl := beq_iff_eq.mp e
    obtain ⟨t, q⟩ := (show ∃ t, u = Value.str _ t from r); cases q; exact .str _ _
theorem reads_scs {h : Heap} : ∀ {vs : List V} {ds : List PyData} {us : List Value}, Paired (fun v d => sclr v d = true) vs ds → Vals vs us → ReadsAll h us ds []
  | _, _, _, .nil, .nil => .nil
  | _, _, _, .cons e t, .cons r q => .cons (as := []) (bs := []) (reads_sc e r) (reads_scs t q)
theorem pair_vals {P : Program} {w : World} : ∀ {es : List DictEntry} {vs : List (Key × Value)}, Pairs (mixKind P w) es vs → es.map (·.val) = vs.map (·.2)
  | _, _, .nil => rfl
  | _, _, .cons h1 h2 t => by
    rw [List.map_cons, List.map_cons, h2, pair_vals t]
theorem reads_keys {P : Program} {w : World} {h : Heap} : ∀ {es : List DictEntry} {kvs : List (Key × V)} {vs : List (Key × Value)}, Pairs (mixKind P w) es vs → KV kvs vs → ReadsAll h (es.map (·.key)) (kvs.map fun p => keyD p.1) []
  | _, _, _, .nil, .nil => .nil
  | _, _, _, .cons h1 h2 t, .cons r q => by
    refine .cons (as := []) (bs := []) ?_ (reads_keys t q)
    dsimp only
    rw [r.1]
    rcases keyIs_shape (show keyIs _ _ = true from h1) with ⟨i, tk, e1, e2⟩ | ⟨x, tk, e1, e2⟩
    · rw [e1, e2]; exact .int _ _
    · rw [e1, e2]; exact .str _ _
section
variable {X : Cx}
/-- repr of such a value, where none is under way -/
def rReprV (K : PySem.W.Frag) : List V → Hp → VK → Prop := fun xs H Q => ∃ (v : V) (d : PyData), xs = [v] ∧ Vd K H v d ∧
  d.showable = true ∧ d.depth ≤ 32 ∧ d.shown.length ≤ sizeLine ∧ Q (.str d.shown) H
theorem call_reprV (gd : X.A.guards = some []) (hu : X.A.units + 64 < cLine) : CallR X (.builtin "repr") (rReprV X.K) := by
  intro pins s σ H xs us Q I r h
  obtain ⟨v, d, rfl, hd, h1, h3, h4, q⟩ := h
  obtain ⟨u, rfl, ru⟩ := vals1 r
  have fin : ∀ (h' : Heap) (t : Tok) (tk : Nat), (∀ b o, s.heap.get? b = some o → h'.get? b = some o) → EP X pins σ Q (.str d.shown t) { s with heap := h', toks := tk } := fun h' t tk hk => ⟨.str d.shown, H, I.kept hk, ⟨t, rfl⟩, q⟩
  have byRef : ∀ (a : Addr) (as : List Addr), u = .ref a → Reads s.heap (.ref a) d as → (d.hasDict = true → sysModules ∉ as) → wpAny (model X.prog X.w) X.A (call (.builtin "repr") [u]) (EP X pins σ Q) X.xe s := by
    intro a as eu rd hm
    subst eu
    exact repr_of_reads' rd h1 hm gd (by omega) (fun _ _ e => e) (fun h' t tk hk => fin h' t tk hk) h4
  cases hd with
  | plain dp nd =>
    cases dp with
    | non => cases ru; exact PySem.P.repr_of_none (fin s.heap _ _ fun _ _ e => e)
    | bl b => cases ru; exact PySem.P.repr_of_bool (fin s.heap _ _ fun _ _ e => e)
    | int i => obtain ⟨t, rfl⟩ := ru; exact PySem.P.repr_of_int (of_decide_eq_true h1) (fin s.heap _ _ fun _ _ e => e)
    | str x => obtain ⟨t, rfl⟩ := ru; exact PySem.P.repr_of_str (fin s.heap _ _ fun _ _ e => e) h4
    | lst sq al =>
      cases ru
      obtain ⟨as, rd⟩ := Dp.reads I _ _ _ (.lst sq al) rfl
      exact byRef _ as rfl rd fun z => by rw [nd] at z; cases z
    | tup sq al =>
      cases ru
      obtain ⟨as, rd⟩ := Dp.reads I _ _ _ (.tup sq al) rfl
      exact byRef _ as rfl rd fun z => by rw [nd] at z; cases z
  | @dct a kvs ds e ek ev =>
    cases ru
    obtain ⟨hz, hs0, vs, kv, hdo⟩ := (show ObjOk X.prog X.w H s.heap a (.dK kvs) from I.hok a _ e)
    obtain ⟨ep, ob, es, ho, ex, hdat, hko, hpr, hnd⟩ := hdo.dictAt
    have e1 : ReadsAll s.heap (es.toList.map (·.key)) (ds.map (·.1)) [] := by
      rw [ek]; exact reads_keys hpr kv
    have e2 : ReadsAll s.heap (es.toList.map (·.val)) (ds.map (·.2)) [] := by
      refine reads_scs ev ?_
      have e3 : es.toList.map (·.val) = vs.map (·.2) := pair_vals hpr
      rw [e3]; exact vals_snd kv
    refine byRef a (a :: [] ++ []) rfl (.dict ho ex.1 hdat e1 e2) fun _ z => ?_
    simp at z
    rw [← z] at hs0
    simp at hs0
end
end Ev
namespace Ev
open PySem L2 PySem.Spec PyProof.Rows LamX
theorem Pen.new {L : Addr} {H : Hp} {p q : Addr} {B : Int} {o : HO} (h : Pen L H p B) (n : H q = none) : Pen L (upd H q o) p B := h.keep (fun b u e => by rw [upd_ne (ne_of_none e n)]; exact e)
theorem Pen.some {L : Addr} {H : Hp} {p : Addr} {B : Int} (h : Pen L H p B) : ∃ xs, H p = some (.lst xs) := by
  obtain ⟨ns, t, c, h1, _⟩ := h
  exact ⟨_, h1⟩
theorem Pen.ne {L : Addr} {H : Hp} {p q : Addr} {B : Int} (h : Pen L H p B) (n : H q = none) : q ≠ p := by
  obtain ⟨xs, e⟩ := h.some
  exact (ne_of_none e n).symm
theorem But.free {L p a : Addr} {H H' : Hp} {B : Int} (t : But p H H') (h : Pen L H' p B) (n : H' a = none) : H a = none := by
  cases e : H a with
  | none => rfl
  | some o =>
    have := t a o (h.ne n) e
    rw [n] at this
    cases this
def spPick : Sp := fun vs H Q _ => ∃ (p l L : Addr) (xs : List V) (B : Int), vs = [.ref p, .ref l] ∧ H l = some (.lst xs) ∧ l ≠ p ∧ 1 ≤ xs.length ∧ xs.length ≤ 1000 ∧ B ≤ 1000000 ∧ Pen L H p B ∧
  ∀ (d : V) (H' : Hp), d ∈ xs → But p H H' → Pen L H' p (B + 1) → Q d H'
def spPickS : Sp := fun vs H Q _ => ∃ (p L : Addr) (x : Str) (B : Int), vs = [.ref p, .str x] ∧ 1 ≤ x.length ∧ x.length ≤ 1000 ∧ B ≤ 1000000 ∧ Pen L H p B ∧
  ∀ (c : Nat) (H' : Hp), c ∈ x.cps.toList → But p H H' → Pen L H' p (B + 1) → Q (.str ⟨#[c]⟩) H'
section
variable {P : Program} {w : World} {K : PySem.W.Frag} {mg : Str → Option Value} {base : Heap}
theorem scPick : FnScope ["_law_pen_here", "_law_some"] ["_law_pen_here", "_law_some"] (defScope sPick) := ⟨rfl, rfl, rfl, by decide +kernel, rfl, by decide +kernel, by decide +kernel⟩
theorem ok_pick {f : Addr} {fd : FuncData} (F : Fun K "_law_pick" "_law_pick" sPick f fd) (T : Blt mg) (D : Df P w K mg base 1 "_law_draw" ["_law_pen_here", "_law_many"] spDraw) : FnOk P w K mg base CX0 2 f fd ["_law_pen_here", "_law_some"] spPick := by
  obtain ⟨f1, fd1, G1, g1, k1, b1⟩ := D.ex
  refine F.ok scPick (fun vs H Q E h => ?_) (fun cdv A outer s H vs Q E hr h => ?_)
  · obtain ⟨p, l, L, xs, B, rfl, _⟩ := h
    rfl
  · obtain ⟨p, l, L, xs, B, rfl, hl, hne, x1, x2, hB, hp, kk⟩ := h
    refine ⟨_, pss_one (ps_ret (pe_ix ix_list (pv 1) (pe_call G1 hr (by rfl) g1 k1 b1 .nil pass0 (pa_cons (pv 0) (pa_cons (pe_callB call_len_seq (by rfl) T.len PySem.boot_len (pa_cons (pv 1) pa_nil)) pa_nil))) (fun _ _ => rfl))), ?_⟩
    refine ⟨_, rfl, _, rfl, _, rfl, l, _, rfl, .inl (SqL.of hl), p, L, _, B, rfl, by omega, by omega, hB, hp, fun d H1 bt pn d0 d1 => ?_⟩
    obtain ⟨j, rfl⟩ := Int.eq_ofNat_of_zero_le d0
    have hj : j < xs.length := by omega
    refine ⟨l, xs, _, xs[j], rfl, rfl, SqL.of (bt _ _ hne hl), atI_nat (List.getElem?_eq_getElem hj), ?_⟩
    exact kk _ _ (List.getElem_mem hj) bt pn
theorem ok_pickS {f : Addr} {fd : FuncData} (F : Fun K "_law_pick" "_law_pick" sPick f fd) (T : Blt mg) (D : Df P w K mg base 1 "_law_draw" ["_law_pen_here", "_law_many"] spDraw) : FnOk P w K mg base CX0 2 f fd ["_law_pen_here", "_law_some"] spPickS := by
  obtain ⟨f1, fd1, G1, g1, k1, b1⟩ := D.ex
  refine F.ok scPick (fun vs H Q E h => ?_) (fun cdv A outer s H vs Q E hr h => ?_)
  · obtain ⟨p, L, x, B, rfl, _⟩ := h
    rfl
  · obtain ⟨p, L, x, B, rfl, x1, x2, hB, hp, kk⟩ := h
    have x3 : x.length ≤ sizeLine := Nat.le_trans x2 (by decide)
    refine ⟨_, pss_one (ps_ret (pe_ix ix_str (pv 1) (pe_call G1 hr (by rfl) g1 k1 b1 .nil pass0 (pa_cons (pv 0) (pa_cons (pe_callB call_len_str (by rfl) T.len PySem.boot_len (pa_cons (pv 1) pa_nil)) pa_nil))) (fun _ _ => rfl))), ?_⟩
    refine ⟨_, rfl, _, rfl, _, rfl, x, rfl, x3, p, L, _, B, rfl, by omega, by omega, hB, hp, fun d H1 bt pn d0 d1 => ?_⟩
    obtain ⟨j, rfl⟩ := Int.eq_ofNat_of_zero_le d0
    have hj : j < x.cps.toList.length := by
      have e : x.cps.toList.length = x.length := by simp [Str.length]
      omega
    refine ⟨x, _, x.cps.toList[j], rfl, rfl, x3, atI_nat (List.getElem?_eq_getElem hj), ?_⟩
    exact kk _ _ (List.getElem_mem hj) bt pn
end
/-! ### the values -/
theorem Same.extN {H H' : Hp} (k : Same H H') : ExtN H H' := fun b o e _ => k b o e
theorem Pen.ext {L p : Addr} {H H' : Hp} {B : Int} (h : Pen L H p B) (k : ExtN H H') : Pen L H' p B := by
  obtain ⟨ns, t, c, h1, h2, h3⟩ := h
  exact ⟨ns, t, c, k _ _ h1 (fun _ z => by cases z), k _ _ h2 (fun _ z => by cases z), h3⟩
theorem Tabs.but {T : List (Addr × Str)} {p : Addr} {H H' : Hp} {xs : List V} (t : Tabs T H) (hp : H p = some (.lst xs)) (k : But p H H') : Tabs T H' := by
  intro q hq
  obtain ⟨ps, h1, h2, h3⟩ := t q hq
  refine ⟨ps, k _ _ (fun z => by rw [z, hp] at h1; cases h1) h1, h2, fun pos cv hc => ?_⟩
  obtain ⟨c, e1, e2⟩ := h3 pos cv hc
  refine ⟨c, e1, k _ _ (fun z => ?_) e2⟩
  rw [z, hp] at e2
  have e3 : HO.lst xs = HO.ext _ := Option.some.inj e2
  cases e3
inductive ValK (H : Hp) : V → PyData → Prop
  | non : ValK H .non .none
  | int (i : Int) : i.natAbs < 10 ^ 40 → ValK H (.int i) (.int i)
  | bl (b : Bool) : ValK H (.bl b) (.bool b)
  | str (x : Str) : (x.length ≤ 1000 ∧ ∀ c ∈ x.cps.toList, c < 1114112) → (PyData.str x).shown.length ≤ sizeLine → (PyData.str (PyData.str x).shown).canLay0 = true → ValK H (.str x) (.str x)
  | tup {a : Addr} (ns : List Int) : (ns = [] ∨ ns = [1]) → H a = some (.tup (ns.map V.int)) → ValK H (.ref a) (.tuple (ns.map .int))
  | lst {a : Addr} (ns : List Int) : (ns = [] ∨ ns = [1]) → H a = some (.lst (ns.map V.int)) → ValK H (.ref a) (.list (ns.map .int))
  | dct {a : Addr} (kvs : List (Int × Int)) : (kvs = [] ∨ kvs = [(1, 2)]) → H a = some (.dK (kvs.map fun p => (.inl p.1, V.int p.2))) → ValK H (.ref a) (.dict (kvs.map fun p => (.int p.1, .int p.2)))
theorem ValK.ext {H H' : Hp} {v : V} {d : PyData} (h : ValK H v d) (k : ExtN H H') : ValK H' v d := by
  cases h with
  | non => exact .non
  | int i a => exact .int i a
  | bl b => exact .bl b
  | str x a b c => exact .str x a b c
  | tup ns n e => exact .tup ns n (k _ _ e (fun _ z => by cases z))
  | lst ns n e => exact .lst ns n (k _ _ e (fun _ z => by cases z))
  | dct ns n e => exact .dct ns n (k _ _ e (fun _ z => by cases z))
theorem ValK.but {p : Addr} {H H' : Hp} {v : V} {d : PyData} (h : ValK H v d) (hne : v ≠ .ref p) (t : But p H H') : ValK H' v d := by
  cases h with
  | non => exact .non
  | int i a => exact .int i a
  | bl b => exact .bl b
  | str x a b c => exact .str x a b c
  | tup ns n e => exact .tup ns n (t _ _ (fun z => hne (by rw [z])) e)
  | lst ns n e => exact .lst ns n (t _ _ (fun z => hne (by rw [z])) e)
  | dct ns n e => exact .dct ns n (t _ _ (fun z => hne (by rw [z])) e)
theorem flat_non : Flat .non "NoneType" := ⟨fun _ _ => .base .non, by decide +kernel, by decide +kernel, by decide +kernel⟩
theorem flat_bl (b : Bool) : Flat (.bl b) "bool" := ⟨fun _ _ => .base (.bl b), by decide +kernel, by decide +kernel, by decide +kernel⟩
theorem flat_ints (ns : List Int) : AllFlat (ns.map V.int) := fun u z => by
  obtain ⟨i, _, rfl⟩ := List.mem_map.mp z
  exact ⟨_, flat_int i⟩
theorem short_ns {ns : List Int} (h : ns = [] ∨ ns = [1]) : (ns.map V.int).length ≤ 900 := by rcases h with rfl | rfl <;> decide
theorem ValK.hold {H : Hp} {v : V} {d : PyData} (h : ValK H v d) : ∃ us b, Hold H v us b := by
  cases h with
  | non => exact ⟨_, _, .flat flat_non⟩
  | int i a => exact ⟨_, _, .flat (flat_int i)⟩
  | bl b => exact ⟨_, _, .flat (flat_bl b)⟩
  | str x a _ => exact ⟨_, _, .flat (flat_str x)⟩
  | tup ns n e => exact ⟨_, _, .tup e (flat_ints ns) (short_ns n)⟩
  | lst ns n e => exact ⟨_, _, .lst e (flat_ints ns) (short_ns n)⟩
  | dct kvs n e =>
    rcases n with rfl | rfl
    · exact ⟨_, _, .dct e (fun u z => nomatch z) (by decide) (by simp)⟩
    · exact ⟨_, _, .dct e (fun u z => by obtain rfl := List.mem_singleton.mp z; exact ⟨_, flat_int 2⟩) (by decide) (by simp)⟩
theorem ValK.tyd {H : Hp} {v : V} {d : PyData} (h : ValK H v d) : Tyd H v := by
  cases h with
  | non => exact tyd_non H
  | int i a => exact tyd_int H i
  | bl b => exact tyd_bl H b
  | str x a _ => exact tyd_str H x
  | tup ns n e => exact tyd_tup e
  | lst ns n e => exact tyd_lst e
  | dct kvs n e => exact tyd_dct e
theorem ValK.short {H : Hp} {v : V} {d : PyData} (h : ValK H v d) : ShortS v := by
  intro x e
  cases h with
  | str y a _ => cases e; exact a
  | _ => cases e
theorem ValK.alike {H H' : Hp} {v v' : V} {d : PyData} (h : ValK H v d) (k : Same H H') (a : Alike H v H' v') : ValK H' v' d := by
  cases a with
  | same => exact h.ext (Same.extN k)
  | lst e1 e2 =>
    cases h with
    | tup ns n e => rw [e] at e1; cases e1
    | lst ns n e => rw [e] at e1; cases e1; exact .lst ns n e2
    | dct ns n e => rw [e] at e1; cases e1
  | dct e1 e2 =>
    cases h with
    | tup ns n e => rw [e] at e1; cases e1
    | lst ns n e => rw [e] at e1; cases e1
    | dct ns n e => rw [e] at e1; cases e1; exact .dct ns n e2
theorem lay_int (i : Int) : (PyData.str (PyData.int i).shown).canLay0 = true := by
  show PyData.strOk (Str.ofString (toString i)) = true
  rw [PyData.strOk, Str.ofString_eq_toList, List.all_toArray, List.all_eq_true]
  intro n hn
  obtain ⟨c, hc, rfl⟩ := List.mem_map.mp hn
  have := int_ascii i c hc
  exact decide_eq_true (by omega)
theorem len_int {i : Int} (h : i.natAbs < 10 ^ 40) : (PyData.int i).showable = true ∧ (PyData.int i).shown.length ≤ sizeLine := by
  have e : i.natAbs.log2 < 1920 := by
    by_cases z : i.natAbs = 0
    · rw [z]; decide
    · exact (Nat.log2_lt z).mpr (Nat.lt_of_lt_of_le h (by decide +kernel))
  exact ⟨decide_eq_true e, int_text_fits e⟩
theorem ValK.vd {K : PySem.W.Frag} {H : Hp} {v : V} {d : PyData} (h : ValK H v d) : Vd K H v d ∧ d.showable = true ∧ d.depth ≤ 32 ∧ d.shown.length ≤ sizeLine := by
  cases h with
  | non => exact ⟨.plain .non rfl, rfl, by decide, by decide +kernel⟩
  | int i a => exact ⟨.plain (.int i) rfl, (len_int a).1, by show 0 ≤ 32; decide, (len_int a).2⟩
  | bl b => exact ⟨.plain (.bl b) rfl, rfl, by show 0 ≤ 32; decide, by cases b <;> decide +kernel⟩
  | str x a b _ => exact ⟨.plain (.str x) rfl, rfl, by show 0 ≤ 32; decide, b⟩
  | tup ns n e =>
    rcases n with rfl | rfl
    · exact ⟨.plain (.tup (SqT.of e) .nil) rfl, by decide +kernel, by decide, by decide +kernel⟩
    · exact ⟨.plain (.tup (SqT.of e) (.cons (.int 1) .nil)) rfl, by decide +kernel, by decide, by decide +kernel⟩
  | lst ns n e =>
    rcases n with rfl | rfl
    · exact ⟨.plain (.lst (SqL.of e) .nil) rfl, by decide +kernel, by decide, by decide +kernel⟩
    · exact ⟨.plain (.lst (SqL.of e) (.cons (.int 1) .nil)) rfl, by decide +kernel, by decide, by decide +kernel⟩
  | dct kvs n e =>
    rcases n with rfl | rfl
    · exact ⟨.dct e rfl .nil, by decide +kernel, by decide, by decide +kernel⟩
    · exact ⟨.dct e rfl (.cons rfl .nil), by decide +kernel, by decide, by decide +kernel⟩
theorem ValK.lay {H : Hp} {v : V} {d : PyData} (h : ValK H v d) : (PyData.str d.shown).canLay0 = true := by
  cases h with
  | non => decide +kernel
  | int i a => exact lay_int i
  | bl b => cases b <;> decide +kernel
  | str x a _ e => exact e
  | tup ns n e => rcases n with rfl | rfl <;> decide +kernel
  | lst ns n e => rcases n with rfl | rfl <;> decide +kernel
  | dct ns n e => rcases n with rfl | rfl <;> decide +kernel
theorem repr_ascii : ∀ c, c < 128 → ((Builtin.Str.reprChar 39 c).all (· < 128)) = true ∧ ((Builtin.Str.reprChar 34 c).all (· < 128)) = true := by decide +kernel
theorem repr_fold {q : Nat} (hq : ∀ c, c < 128 → ((Builtin.Str.reprChar q c).all (· < 128)) = true) : ∀ (l : List Nat) (acc : Array Nat), (∀ c ∈ l, c < 128) → (∀ c ∈ acc.toList, c < 128) →
    ∀ c ∈ (l.foldl (fun out c => out ++ (Builtin.Str.reprChar q c).toArray) acc).toList, c < 128
  | [], acc, _, ha => ha
  | x :: r, acc, hl, ha => by
    rw [List.foldl_cons]
    refine repr_fold hq r _ (fun c hc => hl c (List.mem_cons_of_mem _ hc)) (fun c hc => ?_)
    rw [Array.toList_append, List.mem_append] at hc
    rcases hc with hc | hc
    · exact ha c hc
    · exact of_decide_eq_true (List.all_eq_true.mp (hq x (hl x List.mem_cons_self)) c hc)
/-- a short text of plain signs -/
theorem valk_str (H : Hp) {x : Str} (h1 : x.length ≤ 1000) (h2 : ∀ c ∈ x.cps.toList, c < 128) : ValK H (.str x) (.str x) := by
  refine .str x ⟨h1, fun c hc => Nat.lt_trans (h2 c hc) (by decide)⟩ ?_ ?_
  · have := StrLaws.reprText_len x (fun c hc => Nat.lt_of_lt_of_le (h2 c hc) (by decide))
    have e : sizeLine = 16777216 := sizeLine_eq
    show (reprText x).length ≤ sizeLine
    omega
  · show PyData.strOk (reprText x) = true
    have hq : reprQuote x = 39 ∨ reprQuote x = 34 := by
      unfold reprQuote
      split
      · exact .inr rfl
      · exact .inl rfl
    have all : ∀ c ∈ (reprText x).cps.toList, c < 128 := by
      intro c hc
      have hc : c ∈ ((x.cps.foldl (fun out c => out ++ (Builtin.Str.reprChar (reprQuote x) c).toArray) #[reprQuote x]).push (reprQuote x)).toList := hc
      rw [Array.toList_push, List.mem_append, ← Array.foldl_toList] at hc
      rcases hc with hc | hc
      · refine repr_fold (q := reprQuote x) (fun c h => ?_) _ _ h2 (fun c hc => ?_) c hc
        · rcases hq with e | e
          · rw [e]; exact (repr_ascii c h).1
          · rw [e]; exact (repr_ascii c h).2
        · have : c = reprQuote x := by simpa using hc
          omega
      · have : c = reprQuote x := by simpa using hc
        omega
    rw [PyData.strOk, ← Array.all_toList, List.all_eq_true]
    intro c hc
    exact decide_eq_true (Nat.lt_trans (all c hc) (by decide))
end Ev
namespace Ev
open PySem L2 PySem.Spec PyProof.Rows LamX
/-! The law's own call, where the law makes lambdas: the table of its code object is told of. -/
section
variable {P : Program} {w : World} {K : PySem.W.Frag} {mg mb : Str → Option Value}
theorem law_callT {k : Nat} {fa a c T : Addr} {fd : FuncData} {x : Str} {sp : Sp} {s : Shared} {vs : List Value} {ns : List Int}
    (inK : K.In s.heap) (ns1 : s.heap.Ns mainGlobals mg) (ns2 : s.heap.Ns builtinsNs mb) (blt : ∀ x : Str, x ≠ "__name__" → mb x = bootBuiltins x)
    (noLim : s.heap.NoLimit) (hg : s.gens = #[]) (hT : s.heap.get? T = some { cls := .none, data := .fields #[] }) (nT : K.lookup T = none) (hc : PySem.W.CodeHd s.heap c T)
    (hbm : ∃ (bm : Addr) (ob : Obj), mg "__builtins__" = some (.ref bm) ∧ bm ≠ builtinsNs ∧ s.heap.get? bm = some ob ∧ ob.cls = .type "module" ∧ ob.dict = some builtinsNs ∧ ob.data = .plain)
    (ha : s.heap.get? a = some { cls := .type "list", data := .seq vs.toArray }) (hi : IntsAre vs ns) (hl : ns.length ≤ sizeLine) (hr : Room k callerA)
    (F : ∀ base : Heap, K.In base → base.Ns mainGlobals mg → TabB base mg c T → FnG P w K mg base k fa fd [x] sp)
    (bt : ∀ (s : Shared) (u : Value), BindsTo s fd ⟨[u], []⟩ [(x, u)])
    (hsp : ∀ H : Hp, H T = some (.tbl #[]) → SqL K H a (ns.map V.int) → sp [.ref a] H (fun v _ => v = .bl true) fun _ _ _ => False) :
    codeAny (model P w) callerA (.call (.ref fa) ⟨[.ref a], []⟩)
      (fun r s' => r = .ok (.ret (.bool true)) ∧ OldK s.heap s'.heap ∧ s'.os = s.os ∧ AllBare s'.gens) s := by
  have rv := vals_ints hi
  have lv := hi.length
  have aT : a ≠ T := fun z => by
    rw [z, hT] at ha
    cases ha
  have key : ∀ H : Hp, H T = some (.tbl #[]) → (∀ b u, H b = some u → b ≠ T → b = a ∧ K.lookup a = none ∧ u = .frz { cls := .type "list", data := .seq vs.toArray } (.lst (ns.map V.int))) →
      SqL K H a (ns.map V.int) → codeAny (model P w) callerA (.call (.ref fa) ⟨[.ref a], []⟩)
        (fun r s' => r = .ok (.ret (.bool true)) ∧ OldK s.heap s'.heap ∧ s'.os = s.os ∧ AllBare s'.gens) s := by
    intro H eT only sq
    have ok : HOk P w H s.heap := by
      intro b u e
      by_cases zb : b = T
      · subst zb
        rw [eT] at e
        cases e
        exact hT
      · obtain ⟨rfl, _, rfl⟩ := only b u e zb
        exact ⟨ha, by rw [List.length_map]; exact hl, vs, _, rv, ha⟩
    have plain : ∀ {b : Addr} {o : Obj}, s.heap.get? b = some o → (∀ vs n, o.data ≠ .seq vs n) → o.data ≠ .fields #[] → H b = none := by
      intro b o e d1 d2
      cases q : H b with
      | none => rfl
      | some u =>
        by_cases zb : b = T
        · subst zb
          rw [hT] at e
          cases e
          exact absurd rfl d2
        · obtain ⟨rfl, _, _⟩ := only b u q zb
          rw [ha] at e
          cases e
          exact absurd rfl (d1 _ _)
    have names : ∀ {b : Addr} {m : Str → Option Value}, s.heap.Ns b m → (hidT s.heap H).Ns b m := by
      rintro b m ⟨o, es, n, e, d, r⟩
      exact ⟨o, es, n, hidT_get e (plain e (fun _ _ z => by rw [d] at z; cases z) fun z => by rw [d] at z; cases z), d, r⟩
    have inB : K.In (hidT s.heap H) := by
      intro b o e
      refine hidT_get (inK b o e) ?_
      cases q : H b with
      | none => rfl
      | some u =>
        by_cases zb : b = T
        · rw [zb, nT] at e
          cases e
        · obtain ⟨rfl, n, _⟩ := only b u q zb
          rw [n] at e
          cases e
    have tb : TabB (hidT s.heap H) mg c T := by
      obtain ⟨bm, ob, b1, b2, b3, b4, b5, b6⟩ := hbm
      refine ⟨?_, ⟨bm, ob, b1, b2, fun q => ?_, fun q => ?_, hidT_get b3 (plain b3 (fun _ _ z => by rw [b6] at z; cases z) fun z => by rw [b6] at z; cases z), b4, b5, b6⟩, fun z => ?_⟩
      · obtain ⟨o, us, file, tf, flags, tg, inF, text, tt, e1, r1, r2, r3, rest⟩ := hc
        refine ⟨o, us, file, tf, flags, tg, inF, text, tt, hidT_get e1 (plain e1 (fun _ _ z => by rw [r2] at z; cases z) fun z => ?_), r1, r2, r3, rest⟩
        rw [r2] at z
        cases z
        simp at r3
      · obtain ⟨o, es, n, e, d, _⟩ := ns1
        rw [q, e] at b3
        cases b3
        rw [d] at b6
        cases b6
      · rw [q, hT] at b3
        cases b3
        cases b6
      · obtain ⟨o, es, n, e, d, _⟩ := ns1
        rw [z, hT] at e
        cases e
        cases d
    obtain ⟨mc, l1, l2⟩ := noLim
    have md : Mod K mg (hidT s.heap H) := ⟨inB, names ns1, ⟨mb, names ns2, blt⟩, ⟨mc, names l1, l2⟩⟩
    have env : Env0 P w K mg (hidT s.heap H) callerA [] s H :=
      ⟨rfl, md, fun b o e => of_hidT e, Nat.le_of_eq (hidT_size _ _), trivial, (fun b hb => by cases hb), ok, .of_eq hg⟩
    have go := (F _ inB (names ns1) tb).goes callerA [] s H ⟨[.ref a], []⟩ [.ref a] [.ref a] _ _ hr rfl env (bt s (.ref a)) (.cons rfl .nil) (hsp H eT sq)
    refine codeAny_mono go fun r s2 h2 => ?_
    cases r with
    | error e => exact False.elim h2
    | ok fl =>
      cases fl with
      | next => exact False.elim h2
      | brk => exact False.elim h2
      | cont => exact False.elim h2
      | ret u =>
        obtain ⟨v, H2, os, bare, un, ok2, rr, q⟩ := h2
        obtain rfl : v = V.bl true := q
        obtain rfl : u = Value.bool true := rr
        have others : ∀ b o, b ≠ T → s.heap.get? b = some o → s2.heap.get? b = some o := by
          intro b o nb e
          cases q : H b with
          | none => exact un.keep b o e q (by intro z; cases z) (by simp)
          | some u =>
            obtain ⟨rfl, _, rfl⟩ := only b u q nb
            obtain ⟨e1, _⟩ := ok b _ q
            obtain ⟨e2, _⟩ := ok2 b _ (un.frzs b _ _ q)
            rw [e] at e1
            cases e1
            exact e2
        obtain ⟨more, eM⟩ := un.tbls T #[] eT
        have grown : s2.heap.get? T = some { cls := .none, data := .fields (#[] ++ more) } := ok2 T _ eM
        refine ⟨rfl, ⟨fun b o e => ?_, fun b o e => ?_⟩, os, bare⟩
        · by_cases nb : b = T
          · subst nb
            rw [hT] at e
            cases e
            exact .inr (.inl ⟨(hc.tab hT).isCodeTable, rfl, #[], more, rfl, grown⟩)
          · exact .inl (others b o nb e)
        · by_cases nb : b = T
          · subst nb
            exact ⟨_, grown⟩
          · exact ⟨o, others b o nb e⟩
  cases hk : K.lookup a with
  | none =>
    refine key (fun b => if b = T then some (.tbl #[]) else if b = a then some (.frz { cls := .type "list", data := .seq vs.toArray } (.lst (ns.map V.int))) else none) (if_pos rfl) (fun b u e nb => ?_)
      (.inl (.inr ⟨_, (if_neg aT).trans (if_pos rfl)⟩))
    rw [if_neg nb] at e
    by_cases z : b = a
    · rw [if_pos z] at e
      cases e
      exact ⟨z, hk, rfl⟩
    · rw [if_neg z] at e
      cases e
  | some o =>
    have e := inK a o hk
    rw [ha] at e
    cases e
    refine key (fun b => if b = T then some (.tbl #[]) else none) (if_pos rfl) (fun b u e nb => by rw [if_neg nb] at e; cases e) (.inr ⟨_, vs.toArray, _, hk, rfl, rfl, rfl, ?_, by simpa using rv⟩)
    rw [List.size_toArray, lv]
    exact hl
end
/-- the law's call, the table of another def's code object told -/
theorem walk_ofGT {l : PySem.W.OpenLaw} {n k : Nat} {q : Program} {loose : List Str} {XP : (Str → Option Value) → Heap → Prop} {YP : World → Heap → Prop}
    {d : DefRec} {x xr : Str} (hn : l.most = some n) (hn2 : n ≤ sizeLine) (hdf : d.params.defaults = []) (hr : Room k callerA) (hrec : ((recsOf q).any fun e => e.name == xr) = true)
    (F : ∀ (w : World) (mg : Str → Option Value) (fa : Addr) (h : Heap), YP w h → h.Ns mainGlobals mg → mg d.name = some (.ref fa) →
      ∃ (K : PySem.W.Frag) (fd fdr : FuncData) (sp : Sp) (fr c T : Addr) (o : Obj), K.In h ∧ (∀ (s : Shared) (u : Value), BindsTo s fd ⟨[u], []⟩ [(x, u)]) ∧
        mg xr = some (.ref fr) ∧ K.lookup fr = some o ∧ o.data = .func fdr ∧ fdr.code = .ref c ∧ PySem.W.codeHdIn K c T = true ∧ K.lookup T = none ∧
        (∀ (H : Hp) (a : Addr) (ns : List Int), ns.length ≤ n → H T = some (.tbl #[]) → SqL K H a (ns.map V.int) → sp [.ref a] H (fun v _ => v = .bl true) fun _ _ _ => False) ∧
        ∀ base : Heap, K.In base → base.Ns mainGlobals mg → TabB base mg c T → FnG l.prog w K mg base k fa fd [x] sp) :
    PySem.W.WalkO q loose XP YP l.row.toRowW d [] (fun f vs => PySem.call f vs) := by
  refine Att.attach_callB hn hdf fun w s0 s1 mg mb fa o pm cd doc a vs ns G Y h1 h2 h3 h4 h5 h6 h7 hbits h8 => ?_
  obtain ⟨K, fd, fdr, sp, fr, c, T, o1, inK, bt, k0, k1, k2, k3, kc, kT, hsp, hF⟩ := F w mg fa _ Y G.T.g h4
  have hc := PySem.W.codeHd_of_K inK kc
  have hT : s1.heap.get? T = some { cls := .none, data := .fields #[] } := by
    obtain ⟨dL, hm, e1⟩ := List.any_eq_true.mp hrec
    obtain ⟨a2, o2, fd2, c2, P2, g1, g2, g3, g4, g5, g6⟩ := G.T.tab dL hm
    rw [beq_iff_eq.mp e1, k0] at g1
    cases g1
    rw [inK _ _ k1] at g2
    cases g2
    rw [k2] at g3
    cases g3
    rw [k3] at g4
    cases g4
    obtain ⟨⟨oc, vc, e1, _, e3, e4⟩, hP⟩ := g6
    obtain ⟨oc', vs', file, tf, flags, tg, inF, text, tt, f1, f2, f3, f4, _⟩ := id hc
    rw [f1] at e1
    cases e1
    rw [f3] at e3
    cases e3
    rw [f4] at e4
    cases e4
    exact hP
  exact law_callT inK G.T.g G.T.b G.T.builtins G.T.nolimit h8 hT kT hc G.T.bmain h5 h6 (Nat.le_trans h7 hn2) hr hF bt (fun H eT sq => hsp H a ns h7 eT sq)
end Ev
namespace Ev
open PySem L2 PySem.Spec PyProof.Rows
/-- a def that may raise, under its name -/
structure DfX (P : Program) (w : World) (K : PySem.W.Frag) (mg : Str → Option Value) (base : Heap) (k : Nat) (x : Str) (ps : List Str) (sp : Sp) : Prop where
  ex : ∃ (f : Addr) (fd : FuncData), FnOk P w K mg base (L2.CX P w) k f fd ps sp ∧ mg x = some (.ref f) ∧ PySem.W.keepIn K (.ref f) = true ∧ Binds K fd ps []
/-- an error's field -/
def Told (C : Addr) (n : Str) (H : Hp) (v : V) (E : XK) : Prop := ∀ (d : Addr) (v' : V) (H' : Hp), Same H H' → H d = none → H' d = some (.xd [(n, v')]) → Alike H v H' v' → E (.ref C) (some d) H'
def spExInit (C : Addr) (n : Str) : Sp := fun vs H Q _ => ∃ (a : Addr) (v : V) (us : List V) (b : Bool), vs = [.ref a, v] ∧ H a = some (exo a C none) ∧ Hold H v us b ∧
  ∀ (d : Addr) (v' : V) (H' : Hp), H d = none → H' a = some (exo a C (some d)) → H' d = some (exd d [(n, v')]) → (∀ b o, b ≠ a → H b = some o → H' b = some o) → Alike H v H' v' → Q .non H'
theorem Alike.on {H G G' : Hp} {v v' : V} (h : Alike H v G v') (k1 : ∀ b xs, G b = some (.lst xs) → G' b = some (.lst xs)) (k2 : ∀ b kvs, G b = some (.dK kvs) → G' b = some (.dK kvs)) : Alike H v G' v' := by
  cases h with
  | same => exact .same
  | lst e1 e2 => exact .lst e1 (k1 _ _ e2)
  | dct e1 e2 => exact .dct e1 (k2 _ _ e2)
theorem exo_lst {a C : Addr} {d : Option Addr} {xs : List V} : exo a C d ≠ .lst xs := fun z => by
  have z : HO.ext _ = HO.lst xs := z
  cases z
theorem exo_dK {a C : Addr} {d : Option Addr} {xs : List (Key × V)} : exo a C d ≠ .dK xs := fun z => by
  have z : HO.ext _ = HO.dK xs := z
  cases z
theorem exd_lst {a : Addr} {d : List (Str × V)} {xs : List V} : exd a d ≠ .lst xs := fun z => by
  have z : HO.ext _ = HO.lst xs := z
  cases z
theorem exd_dK {a : Addr} {d : List (Str × V)} {xs : List (Key × V)} : exd a d ≠ .dK xs := fun z => by
  have z : HO.ext _ = HO.dK xs := z
  cases z
/-- an error class of the package with one field n -/
structure ErrC (P : Program) (w : World) (K : PySem.W.Frag) (mg : Str → Option Value) (base : Heap) (x n : Str) (C : Addr) : Prop where
  cl : OexC K C
  g : mg x = some (.ref C)
  ex : ∃ (f : Addr) (fd : FuncData), PySem.W.findIn K (.ref C) "__init__" = some (some (.ref f)) ∧ PySem.W.typeIn K (.ref f) = some (.type "function") ∧ FnOk P w K mg base CX0 4 f fd ["self", n] (spExInit C n) ∧ Binds K fd ["self", n] []
section
variable {P : Program} {w : World} {K : PySem.W.Frag} {mg : Str → Option Value} {base : Heap}
theorem scBK : FnScope ["self", "value"] ["self", "value"] (defScope sKInit) := ⟨rfl, rfl, rfl, by decide +kernel, rfl, by decide +kernel, by decide +kernel⟩
theorem ok_bk {f C : Addr} {fd : FuncData} (F : Fun K "__init__" "BadKey.__init__" sKInit f fd) (T : OexC K C) (no : PySem.W.findIn K (.ref C) "value" = some none) (D : Df P w K mg base 3 "kept" ["value"] spKeptV) : FnOk P w K mg base CX0 4 f fd ["self", "value"] (spExInit C "value") := by
  obtain ⟨f1, fd1, G1, g1, k1, b1⟩ := D.ex
  refine F.ok scBK (fun vs H Q E h => ?_) (fun cdv A outer s H vs Q E hr h => ?_)
  · obtain ⟨a, v, us, b, rfl, _⟩ := h
    rfl
  · obtain ⟨a, v, us, b, rfl, ha, hv, kk⟩ := h
    refine ⟨_, pss_one (ps_ost (pv 0) (pe_call G1 hr (by rfl) g1 k1 b1 .nil pass0 (pa_cons (pv 1) pa_nil))), ?_⟩
    refine ⟨_, rfl, v, us, b, rfl, hv, fun v' H1 s1 al => ⟨_, rfl, a, C, rfl, T, no, .inl ⟨s1 _ _ ha, fun dx nd dne => ?_⟩⟩⟩
    refine kk dx v' _ (s1.free nd) upd_same (by rw [upd_ne dne]; exact upd_same) (fun b o nb e => ?_) (al.on (fun b xs e => ?_) (fun b xs e => ?_))
    · rw [upd_ne nb, upd_ne (ne_of_none (s1 _ _ e) nd)]
      exact s1 _ _ e
    · have nb : b ≠ a := fun z => by rw [z, s1 _ _ ha] at e; exact exo_lst (Option.some.inj e)
      rw [upd_ne nb, upd_ne (ne_of_none e nd)]; exact e
    · have nb : b ≠ a := fun z => by rw [z, s1 _ _ ha] at e; exact exo_dK (Option.some.inj e)
      rw [upd_ne nb, upd_ne (ne_of_none e nd)]; exact e
theorem scBM : FnScope ["self", "value"] ["self", "value"] (defScope sNInit) := ⟨rfl, rfl, rfl, by decide +kernel, rfl, by decide +kernel, by decide +kernel⟩
theorem ok_bm {f C : Addr} {fd : FuncData} (F : Fun K "__init__" "BadName.__init__" sNInit f fd) (T : OexC K C) (no : PySem.W.findIn K (.ref C) "value" = some none) (D : Df P w K mg base 3 "kept" ["value"] spKeptV) : FnOk P w K mg base CX0 4 f fd ["self", "value"] (spExInit C "value") := by
  obtain ⟨f1, fd1, G1, g1, k1, b1⟩ := D.ex
  refine F.ok scBM (fun vs H Q E h => ?_) (fun cdv A outer s H vs Q E hr h => ?_)
  · obtain ⟨a, v, us, b, rfl, _⟩ := h
    rfl
  · obtain ⟨a, v, us, b, rfl, ha, hv, kk⟩ := h
    refine ⟨_, pss_one (ps_ost (pv 0) (pe_call G1 hr (by rfl) g1 k1 b1 .nil pass0 (pa_cons (pv 1) pa_nil))), ?_⟩
    refine ⟨_, rfl, v, us, b, rfl, hv, fun v' H1 s1 al => ⟨_, rfl, a, C, rfl, T, no, .inl ⟨s1 _ _ ha, fun dx nd dne => ?_⟩⟩⟩
    refine kk dx v' _ (s1.free nd) upd_same (by rw [upd_ne dne]; exact upd_same) (fun b o nb e => ?_) (al.on (fun b xs e => ?_) (fun b xs e => ?_))
    · rw [upd_ne nb, upd_ne (ne_of_none (s1 _ _ e) nd)]
      exact s1 _ _ e
    · have nb : b ≠ a := fun z => by rw [z, s1 _ _ ha] at e; exact exo_lst (Option.some.inj e)
      rw [upd_ne nb, upd_ne (ne_of_none e nd)]; exact e
    · have nb : b ≠ a := fun z => by rw [z, s1 _ _ ha] at e; exact exo_dK (Option.some.inj e)
      rw [upd_ne nb, upd_ne (ne_of_none e nd)]; exact e
/-- what the raising of such an error comes to -/
theorem raised {C : Addr} {n : Str} {H : Hp} {v : V} {E : XK} (hv : ∃ us b, Hold H v us b) (k : Told C n H v E) (a' : Addr) (na : H a' = none) :
    spExInit C n [.ref a', v] (upd H a' (exo a' C none)) (fun v' H2 => v' = .non ∧ ∃ (d : Addr) (fs : List (Str × V)), H2 a' = some (exo a' C (some d)) ∧ H2 d = some (exd d fs) ∧ H d = none ∧ E (.ref C) (some d) (upd (del H2 a') d (.xd fs))) (fun _ _ _ => False) := by
  obtain ⟨us, b, hv⟩ := hv
  refine ⟨a', v, us, b, rfl, upd_same, hv.keep (same_new na), fun d v' H' nd ha' hd bt al => ⟨rfl, d, _, ha', hd, ?_, ?_⟩⟩
  · have dne : d ≠ a' := fun z => by rw [z, upd_same] at nd; cases nd
    rw [upd_ne dne] at nd
    exact nd
  · have dne : d ≠ a' := fun z => by rw [z, upd_same] at nd; cases nd
    rw [upd_ne dne] at nd
    have hkeep : ∀ b o, H b = some o → upd (del H' a') d (.xd [(n, v')]) b = some o := fun b o e => by
      rw [upd_ne (ne_of_none e nd), del_ne (ne_of_none e na)]
      exact bt b o (ne_of_none e na) (by rw [upd_ne (ne_of_none e na)]; exact e)
    refine k d v' _ hkeep nd upd_same ?_
    have al2 : Alike H v H' v' := by
      cases al with
      | same => exact .same
      | lst e1 e2 =>
        rename_i a b us
        refine .lst ?_ e2
        have nb : a ≠ a' := fun z => by rw [z, upd_same] at e1; exact exo_lst (Option.some.inj e1)
        rw [upd_ne nb] at e1; exact e1
      | dct e1 e2 =>
        rename_i a b us
        refine .dct ?_ e2
        have nb : a ≠ a' := fun z => by rw [z, upd_same] at e1; exact exo_dK (Option.some.inj e1)
        rw [upd_ne nb] at e1; exact e1
    refine al2.on (fun b xs e => ?_) (fun b xs e => ?_)
    · have n1 : b ≠ a' := fun z => by rw [z, ha'] at e; exact exo_lst (Option.some.inj e)
      have n2 : b ≠ d := fun z => by rw [z, hd] at e; exact exd_lst (Option.some.inj e)
      rw [upd_ne n2, del_ne n1]; exact e
    · have n1 : b ≠ a' := fun z => by rw [z, ha'] at e; exact exo_dK (Option.some.inj e)
      have n2 : b ≠ d := fun z => by rw [z, hd] at e; exact exd_dK (Option.some.inj e)
      rw [upd_ne n2, del_ne n1]; exact e
/-- .. where something was laid ahead of it -/
theorem Told.later {C : Addr} {n : Str} {H H1 : Hp} {v : V} {E : XK} (h : ∀ H1, Same H H1 → Told C n H1 v E) (k : Same H H1) : Told C n H1 v E := h H1 k
def spNeedK (C : Addr) : Sp := fun vs H Q E => ∃ v : V, vs = [v] ∧ Tyd H v ∧ ((fitsB v = true ∧ Q .non H) ∨ (fitsB v = false ∧ (∃ us b, Hold H v us b) ∧ Told C "value" H v E))
def spNeedN (C : Addr) : Sp := fun vs H Q E => ∃ v : V, vs = [v] ∧ Tyd H v ∧ ShortS v ∧ ((nmB v = true ∧ ∀ H', Same H H' → Q .non H') ∨ (nmB v = false ∧ (∃ us b, Hold H v us b) ∧ ∀ H', Same H H' → Told C "value" H' v E))
theorem scNeedK : FnScope ["value"] ["value"] (defScope sNeedK) := ⟨rfl, rfl, rfl, by decide +kernel, rfl, by decide +kernel, by decide +kernel⟩
theorem ok_needK {f C : Addr} {fd : FuncData} (F : Fun K "need_key" "need_key" sNeedK f fd) (D : Df P w K mg base 2 "is_key" ["value"] spIsKey) (B : ErrC P w K mg base "BadKey" "value" C) :
    FnOk P w K mg base (L2.CX P w) 6 f fd ["value"] (spNeedK C) := by
  obtain ⟨fW, fdW, GW, gW, kW, bW⟩ := D.ex
  obtain ⟨TC, gC, fi, fdi, iC, tI, GI, bI⟩ := id B
  refine F.okX scNeedK (fun vs H Q E h => ?_) (fun cdv A outer s H vs Q E hr h => ?_)
  · obtain ⟨v, rfl, _⟩ := h
    rfl
  · obtain ⟨v, rfl, ty, h⟩ := h
    refine ⟨_, pss_one (ps_if (pt_not (pt_val (pe_call GW (hr.mono (by decide)) (by rfl) gW kW bW .nil pass0 (pa_cons (pv 0) pa_nil))))
      (pss_one (ps_raise rfl (takes_of rfl rfl rfl rfl) (pmk_oex TC iC tI GI hr bI .nil pass0 (by rfl) gC (pa_cons (pv 0) pa_nil)))) pss_nil), ?_⟩
    rcases h with ⟨e, k⟩ | ⟨e, hv, k⟩
    · exact ⟨_, rfl, v, rfl, ty, true, by rw [e], iteF k⟩
    · have out : tMkO C (spExInit C "value") [] (tCons (tVar 0) tNil) [some v] H E := ⟨_, rfl, (by show 1 ≤ 1000; decide), fun a' na => raised hv k a' na⟩
      exact ⟨_, rfl, v, rfl, ty, false, by rw [e], iteT out⟩
theorem scNeedN : FnScope ["value"] ["value"] (defScope sNeedN) := ⟨rfl, rfl, rfl, by decide +kernel, rfl, by decide +kernel, by decide +kernel⟩
theorem ok_needN {f C : Addr} {fd : FuncData} (F : Fun K "need_name" "need_name" sNeedN f fd) (D : Df P w K mg base 1 "is_name" ["value"] spIsName) (B : ErrC P w K mg base "BadName" "value" C) :
    FnOk P w K mg base (L2.CX P w) 6 f fd ["value"] (spNeedN C) := by
  obtain ⟨fW, fdW, GW, gW, kW, bW⟩ := D.ex
  obtain ⟨TC, gC, fi, fdi, iC, tI, GI, bI⟩ := id B
  refine F.okX scNeedN (fun vs H Q E h => ?_) (fun cdv A outer s H vs Q E hr h => ?_)
  · obtain ⟨v, rfl, _⟩ := h
    rfl
  · obtain ⟨v, rfl, ty, sh, h⟩ := h
    refine ⟨_, pss_one (ps_if (pt_not (pt_val (pe_call GW (hr.mono (by decide)) (by rfl) gW kW bW .nil pass0 (pa_cons (pv 0) pa_nil))))
      (pss_one (ps_raise rfl (takes_of rfl rfl rfl rfl) (pmk_oex TC iC tI GI hr bI .nil pass0 (by rfl) gC (pa_cons (pv 0) pa_nil)))) pss_nil), ?_⟩
    rcases h with ⟨e, k⟩ | ⟨e, ⟨us, b, hv⟩, k⟩
    · exact ⟨_, rfl, v, rfl, ty, sh, fun H' s1 => ⟨true, by rw [e], iteF (k H' s1)⟩⟩
    · refine ⟨_, rfl, v, rfl, ty, sh, fun H' s1 => ⟨false, by rw [e], iteT ?_⟩⟩
      exact ⟨_, rfl, (by show 1 ≤ 1000; decide), fun a' na => raised ⟨us, b, hv.keep s1⟩ (k H' s1) a' na⟩
end
end Ev
namespace Ev
open PySem L2 PySem.Spec PyProof.Rows LamX
/-- v shows as x -/
def Shows (K : PySem.W.Frag) (H : Hp) (v : V) (x : Str) : Prop := ∃ d : PyData, Vd K H v d ∧ d.showable = true ∧ d.depth ≤ 32 ∧ d.shown.length ≤ sizeLine ∧ d.shown = x
theorem sqL_keep {K : PySem.W.Frag} {H H' : Hp} {a : Addr} {xs : List V} (k : Same H H') (h : SqL K H a xs) : SqL K H' a xs := by
  rcases h with (e | ⟨o, e⟩) | e
  · exact .inl (.inl (k _ _ e))
  · exact .inl (.inr ⟨o, k _ _ e⟩)
  · exact .inr e
theorem sqT_keep {K : PySem.W.Frag} {H H' : Hp} {a : Addr} {xs : List V} (k : Same H H') (h : SqT K H a xs) : SqT K H' a xs := by
  rcases h with (e | ⟨o, e⟩) | e
  · exact .inl (.inl (k _ _ e))
  · exact .inl (.inr ⟨o, k _ _ e⟩)
  · exact .inr e
mutual
theorem dp_keep {K : PySem.W.Frag} {H H' : Hp} (k : Same H H') : ∀ (v : V) (d : PyData), Dp K H v d → Dp K H' v d
  | _, _, .non => .non
  | _, _, .bl b => .bl b
  | _, _, .int i => .int i
  | _, _, .str x => .str x
  | _, _, .lst s a => .lst (sqL_keep k s) (dps_keep k _ _ a)
  | _, _, .tup s a => .tup (sqT_keep k s) (dps_keep k _ _ a)
theorem dps_keep {K : PySem.W.Frag} {H H' : Hp} (k : Same H H') : ∀ (vs : List V) (ds : List PyData), DpAll K H vs ds → DpAll K H' vs ds
  | _, _, .nil => .nil
  | _, _, .cons h t => .cons (dp_keep k _ _ h) (dps_keep k _ _ t)
end
theorem Shows.keep {K : PySem.W.Frag} {H H' : Hp} {v : V} {x : Str} (h : Shows K H v x) (k : Same H H') : Shows K H' v x := by
  obtain ⟨d, hd, sh⟩ := h
  refine ⟨d, ?_, sh⟩
  cases hd with
  | plain dp nd => exact .plain (dp_keep k _ _ dp) nd
  | dct e ek ev => exact .dct (k _ _ e) ek ev
/-- what is heard of a call -/
def THeard (K : PySem.W.Frag) (CK CN : Addr) : (XK → Hp → VK → Prop) → Hp → VK → Prop := fun tl H Q =>
  tl (fun cls d H' => ∃ (dd : Addr) (v : V) (x w : Str), d = some dd ∧ H' dd = some (.xd [("value", v)]) ∧ Shows K H' v x ∧ ((cls = .ref CK ∧ w = "key") ∨ (cls = .ref CN ∧ w = "name")) ∧
    ∀ (r : Addr) (G : Hp), Same H' G → H' r = none → G r = some (.tup [.str w, .str x]) → Q (.ref r) G) H
    fun v H' => [v].length ≤ sizeLine ∧ ∀ r, H' r = none → Q (.ref r) (upd H' r (.lst [v]))
theorem three {σ : L2.St} (h : σ.length = 3) : ∃ x0 x1 x2, σ = [x0, x1, x2] := by
  match σ, h with
  | [x0, x1, x2], _ => exact ⟨x0, x1, x2, rfl⟩
theorem scHeard : FnScope ["_law_ask", "_law_caught", "error"] ["_law_ask"] (defScope sHeard) := ⟨rfl, rfl, rfl, by decide +kernel, rfl, by decide +kernel, by decide +kernel⟩
section
variable {X : Cx}
theorem heard_gives {CK CN FE : Addr} {q : Str} {g : Addr} {cdg : Value} (gd : X.A.guards = some []) {k : Nat} (hr : Room (k + 1) X.A) (T : Blt X.mg) (mr : X.mg "repr" = none) (gF : X.mg "FairError" = some (.ref FE)) (gK : X.mg "BadKey" = some (.ref CK)) (gN : X.mg "BadName" = some (.ref CN)) (HK : HeldC X.K CK) (HN : HeldC X.K CN)
    (noK : PySem.W.findIn X.K (.ref CK) "value" = some none) (noN : PySem.W.findIn X.K (.ref CN) "value" = some none) (teK : PySem.W.exmOne X.K (.ref CK) (.ref FE) = some true) (teN : PySem.W.exmOne X.K (.ref CN) (.ref FE) = some true) (iKK : PySem.W.kitOne X.K (.ref CK) (.ref CK) = some true) (iNK : PySem.W.kitOne X.K (.ref CN) (.ref CK) = some false) (iNN : PySem.W.kitOne X.K (.ref CN) (.ref CN) = some true) :
    GivesTo X ["_law_ask", "_law_caught", "error"] "_law_heard" (defScope sHeard) g cdg (defBody sHeard) "_law_ask" q (THeard X.K CK CN) := by
  intro f c' s H Q tl act hc h
  refine ⟨_, pss_cons (ps_set (i := 1) scHeard.nd rfl (.inl rfl) pe_non)
    (pss_cons (ps_try_held (X := (cxOf C8.CX0 X.prog X.w X.K X.mg X.base ["_law_ask", "_law_caught", "error"] "_law_heard" (defScope sHeard) g cdg X.A X.stack s H C8.E0).nox) (c := .ref FE) (i := 2) (Wout := fun _ _ _ _ => False)
      (tb := fun W D σ H => ∃ Ech : XK, (∀ cls d σ' H', Ech cls d H' → W cls d σ' H') ∧ σ[0]? = some (some (.ref f)) ∧ H c' = some (CodeO c' q) ∧ tl Ech H fun v H' => [v].length ≤ sizeLine ∧ ∀ r, H' r = none → D.rt (.ref r) (upd H' r (.lst [v])))
      (ts := fun a cls d => tAsg (tVar 2) (gName 1)) rfl rfl rfl scHeard.nd rfl rfl ⟨rfl, by decide, .inl gF⟩ L2.takes0 (fun W pn xe tk => ?_) (fun a oe cls d pn _ _ => pss_one (ps_set (i := 1) scHeard.nd rfl (.inl rfl) (pv 2))))
    (pss_cons (ps_if (pt_val (pe_callB call_isHeld (by rfl) T.isi (by decide +kernel) (pa_cons (pv 1) (pa_cons (pe_glob (v := .ref CK) rfl gK rfl) pa_nil))))
      (pss_one (ps_ret (pe_tup (pa_cons pe_str (pa_cons (pe_callB (call_reprV gd (Room.units (hr.deeper _))) (by rfl) mr (by decide +kernel) (pa_cons (pe_heldFld (pv 1)) pa_nil)) pa_nil))))) pss_nil)
    (pss_one (ps_ret (pe_ifExp (pt_val (pe_callB call_isHeld (by rfl) T.isi (by decide +kernel) (pa_cons (pv 1) (pa_cons (pe_glob (v := .ref CN) rfl gN rfl) pa_nil))))
      (pe_tup (pa_cons pe_str (pa_cons (pe_callB (call_reprV gd (Room.units (hr.deeper _))) (by rfl) mr (by decide +kernel) (pa_cons (pe_heldFld (pv 1)) pa_nil)) pa_nil))) pe_never))))), ?_⟩
  · refine ⟨fun pins s' σ H' D I h' => ?_⟩
    obtain ⟨Ech, hW, h1, h2, h3⟩ := h'
    exact (pss_one (ps_ret (pe_lst (pa_cons (act W pn xe Ech _ _ tk hW) pa_nil)))).run pins s' σ H' D I ⟨h1, h2, h3⟩
  · refine ⟨_, fun cls d σ' H' z hlen => ?_, rfl, hc, h⟩
    obtain ⟨dd, v, x, w, rfl, ed, sh, hcls, fin⟩ := z
    obtain ⟨x0, x1, x2, rfl⟩ := three hlen
    have te : PySem.W.exmOne X.K cls (.ref FE) = some true := by rcases hcls with ⟨rfl, _⟩ | ⟨rfl, _⟩ <;> assumption
    refine ⟨true, te, (fun z => by cases z), fun _ a na => ⟨_, rfl, fun _ => ?_⟩⟩
    have sA : Same H' (upd H' a (Held cls (some dd) a)) := same_new na
    have hA : upd H' a (Held cls (some dd) a) a = some (Held cls (some dd) a) := upd_same
    have hD := sA _ _ ed
    have shA := sh.keep sA
    generalize upd H' a (Held cls (some dd) a) = HA at sA hA hD shA
    obtain ⟨d, vd, v1, v2, v3, v4⟩ := shA
    rcases hcls with ⟨rfl, rfl⟩ | ⟨rfl, rfl⟩
    · refine ⟨_, rfl, a, CK, dd, _, _, _, true, rfl, hA, hD, HK, .own CK, iKK, _, rfl, iteT ?_⟩
      refine ⟨_, rfl, a, CK, dd, _, v, rfl, hA, hD, HK, noK, rfl, v, d, rfl, vd, v1, v2, v3, (by show 2 ≤ sizeLine; decide), fun tq ntq => ?_⟩
      rw [v4]
      exact fin tq _ (sA.trans (same_new ntq)) (Same.gone sA ntq) upd_same
    · refine ⟨_, rfl, a, CN, dd, _, _, _, false, rfl, hA, hD, HN, .own CK, iNK, _, rfl, iteF ?_⟩
      refine ⟨_, rfl, a, CN, dd, _, _, _, true, rfl, hA, hD, HN, .own CN, iNN, _, rfl, iteT ?_⟩
      refine ⟨_, rfl, a, CN, dd, _, v, rfl, hA, hD, HN, noN, rfl, v, d, rfl, vd, v1, v2, v3, (by show 2 ≤ sizeLine; decide), fun tq ntq => ?_⟩
      rw [v4]
      exact fin tq _ (sA.trans (same_new ntq)) (Same.gone sA ntq) upd_same
end
end Ev
namespace Ev
open PySem L2 PySem.Spec PyProof.Rows LamX
section
variable {P : Program} {w : World} {K : PySem.W.Frag} {mg : Str → Option Value} {base : Heap}
theorem scLName : FnScope ["_law_value_here", "_law_sign"] ["_law_value_here"] (defScope sLName) := ⟨rfl, rfl, rfl, by decide +kernel, rfl, by decide +kernel, by decide +kernel⟩
/-- the signs that are no letters -/
def badS (l : List Nat) : List Nat := l.filter fun c => !inL c
theorem badS_take {l : List Nat} {i c : Nat} (h : l[i]? = some c) : badS (l.take (i + 1)) = if inL c = true then badS (l.take i) else badS (l.take i) ++ [c] := by
  unfold badS
  rw [take_at h, List.filter_append]
  cases e : inL c <;> simp [e]
theorem badS_nil (l : List Nat) : (badS l).isEmpty = l.all inL := by
  unfold badS
  induction l with
  | nil => rfl
  | cons a r ih =>
    rw [List.filter_cons, List.all_cons]
    cases h : inL a with
    | true => simpa using ih
    | false => rfl
theorem badS_sub {l : List Nat} {c : Nat} (h : c ∈ badS l) : c ∈ l := (List.mem_filter.mp h).1
theorem badS_len (l : List Nat) : (badS l).length ≤ l.length := List.length_filter_le _ _
def sgn (c : Nat) : Str := ⟨#[c]⟩
theorem dpSigns {H : Hp} : ∀ l : List Nat, DpAll K H (l.map fun c => V.str (sgn c)) (l.map fun c => PyData.str (sgn c))
  | [] => .nil
  | c :: r => .cons (.str _) (dpSigns r)
theorem sh_signs {l : List Nat} (h : ∀ c ∈ l, c < 1114112) : SeqAt.shaped (.list (l.map fun c => PyData.str (sgn c))) = true := by
  have h1 : ∀ l : List Nat, (∀ c ∈ l, c < 1114112) → PyData.canLayAll0 (l.map fun c => PyData.str (sgn c)) = true := by
    intro l
    induction l with
    | nil => intro _; rfl
    | cons n r ih =>
      intro h
      have hn := h n List.mem_cons_self
      have i2 := ih fun c hc => h c (List.mem_cons_of_mem _ hc)
      have i3 : PyData.strOk (sgn n) = true := by simp [PyData.strOk, sgn, hn]
      simp only [List.map_cons, PyData.canLayAll0, PyData.canLay0, i2, i3, Bool.and_self]
  have h2 : ∀ l : List Nat, PyData.depthAll (l.map fun c => PyData.str (sgn c)) ≤ 1 := by
    intro l
    induction l with
    | nil => simp [PyData.depthAll]
    | cons n r ih => simp [PyData.depthAll, PyData.depth]; omega
  unfold SeqAt.shaped
  rw [Bool.and_eq_true]
  refine ⟨by simp [PyData.canLay0, h1 l h], decide_eq_true ?_⟩
  have := h2 l
  simp [PyData.depth]; omega
theorem eqv_signs (l : List Nat) : PyData.eqv (.list (l.map fun c => PyData.str (sgn c))) (.list []) = l.isEmpty := by
  cases l <;> simp [PyData.eqv, PyData.eqvAll]
theorem ok_lname {f : Addr} {fd : FuncData} (F : Fun K "_law_is_name" "_law_is_name" sLName f fd) (T : Blt mg) (ms : mg "str" = none) : FnOk P w K mg base CX0 1 f fd ["_law_value_here"] spIsName := by
  refine F.ok scLName (fun vs H Q E h => ?_) (fun cdv A outer s H vs Q E hr h => ?_)
  · obtain ⟨v, rfl, _⟩ := h
    rfl
  · obtain ⟨v, rfl, ⟨TT, bi, bb, ty, e1, e2, e3, e4⟩, sh, k⟩ := h
    refine ⟨_, pss_cons (ps_if (PW.pt (pw_or (pt_not (pt_val (pe_callB call_isi (by rfl) T.isi (by decide +kernel) (pa_cons (pv 0) (pa_cons (pe_bltn (v := .ty "str") (by rfl) ms (by decide +kernel) rfl) pa_nil)))))
        (pw_or (pt_cmpR op_eq (pe_callB call_len_str (by rfl) T.len PySem.boot_len (pa_cons (pv 0) pa_nil)) pe_int (nomark _))
        (pw_or1 (pt_cmpR op_gt (pe_callB call_len_str (by rfl) T.len PySem.boot_len (pa_cons (pv 0) pa_nil)) pe_int (nomark _)))))) (pss_one (ps_ret pe_bl)) pss_nil)
      (pss_one (ps_ret (pe_cmpR (op_eqD (Room.units hr)) (pe_lc (own := [("_law_sign", 1)]) (g := gName 1) (by rfl) scLName.nd (pi_str (pv 0)) (blkOk_by (own := [("_law_sign", 1)]) (N := ["_law_value_here", "_law_sign"]) (sc := defScope sLName) (by decide +kernel))
          (fun _ _ _ _ _ => pg_name (i := 1) scLName.nd rfl (.inl rfl)) (fun _ _ _ _ _ => pts_one (pt_cmpR op_notIn_sign (pv 1) pe_str (by rfl))) (fun _ _ _ _ _ => pv 1)) (pe_lst pa_nil) (nomark _)))), ?_⟩
    refine ⟨_, rfl, _, _, _, _, isS v, rfl, .ty _, ty _ _ (Same.refl H), kit_ty e3, _, rfl, ?_⟩
    cases hs : isS v with
    | false =>
      rw [not_isS hs] at k
      exact k H (Same.refl H)
    | true =>
      obtain ⟨x, rfl⟩ := isS_str hs
      obtain ⟨hx, hc⟩ := sh x rfl
      have hx2 : x.length ≤ sizeLine := Nat.le_trans hx (by decide)
      have k : ∀ H', Same H H' → Q (.bl (nameB x)) H' := k
      refine ⟨_, rfl, x, rfl, hx2, ?_⟩
      refine ⟨rfl, _, rfl, ite2 (fun e => ?_) (fun e => ?_)⟩
      · have z : (x.length : Int) = 0 := V.int.inj (of_decide_eq_true e)
        have k0 := k H (Same.refl H)
        rw [nameB_lo (by omega)] at k0
        exact k0
      have z : ¬ (x.length : Int) = 0 := fun z => e (by rw [z]; exact decide_eq_true rfl)
      refine ⟨_, rfl, x, rfl, hx2, _, _, rfl, rfl, _, rfl, ite2 (fun e => ?_) (fun e => ?_)⟩
      · have z2 : (8 : Int) < (x.length : Int) := of_decide_eq_true e
        have k0 := k H (Same.refl H)
        rw [nameB_hi (by omega)] at k0
        exact k0
      have z2 : ¬ (8 : Int) < (x.length : Int) := fun z2 => e (decide_eq_true z2)
      refine ⟨_, rfl, x, rfl, fun D nD => ?_⟩
      refine lc_it walk_str (fun i H' => H' D = some (.lst ((badS (x.cps.toList.take i)).map fun c => V.str (sgn c))) ∧ But D H H') ⟨upd_same, But.upd_at⟩ (fun _ _ _ _ => trivial) (fun i v H1 H' hi ⟨e1, e2⟩ y => ?_) (fun H' ⟨e1, e2⟩ => ?_)
      · obtain ⟨rfl, c, hc, rfl⟩ := y
        have hc' : x.cps.toList[i]? = some c := by rw [Array.getElem?_toList]; exact hc
        refine ⟨rfl, _, rfl, c, _, rfl, rfl, _, rfl, ite2 (fun e => ?_) (fun e => ?_)⟩
        · have nl : inL c = false := by
            have e : (!inL c) = true := e
            simpa using e
          refine ⟨_, rfl, _, e1, ?_, ?_, ?_⟩
          · rw [List.length_map]
            refine Nat.lt_of_le_of_lt (badS_len _) ?_
            rw [List.length_take]
            exact Nat.lt_of_le_of_lt (Nat.min_le_left _ _) (Nat.lt_of_lt_of_le hi (Nat.le_trans hx (by decide)))
          · rw [badS_take hc', if_neg (by rw [nl]; exact Bool.false_ne_true), List.map_append]
            exact upd_same
          · exact e2.trans But.upd_at
        · have nl : inL c = true := by
            have e : ¬ (!inL c) = true := e
            simpa using e
          refine ⟨?_, e2⟩
          rw [badS_take hc', if_pos nl]
          exact e1
      · rw [show x.cps.size = x.cps.toList.length by simp, List.take_length] at e1
        refine ⟨(by show 0 ≤ sizeLine; decide), fun D2 nD2 => ⟨_, _, .lst (SqL.of (same_new nD2 _ _ e1)) (dpSigns _), .lst (SqL.of upd_same) .nil, sh_signs fun c hc' => hc c (badS_sub hc'), rfl, ?_⟩⟩
        rw [eqv_signs, badS_nil, ← nameB_eq (by omega) (by omega)]
        exact k _ (fun b o q => same_new nD2 _ _ (e2 b o (ne_of_none q nD) q))
/-! ### the draw of a value -/
def spValue : Sp := fun vs H Q _ => ∃ (p L : Addr) (B : Int), vs = [.ref p] ∧ B ≤ 900000 ∧ Pen L H p B ∧ ∀ (v : V) (d : PyData) (H' : Hp), ValK H' v d → v ≠ .ref p → But p H H' → Pen L H' p (B + 20) → Q v H'
theorem Pen.upd {L p D : Addr} {H H3 : Hp} {B B3 : Int} {o : HO} (h : Pen L H p B) (h0 : Pen L H3 p B3) (nD : H3 D = none) : Pen L (upd H D o) p B := by
  obtain ⟨ns, t, c, h1, h2, r⟩ := h
  obtain ⟨_, _, _, g1, g2, _⟩ := h0
  exact ⟨ns, t, c, by rw [upd_ne (ne_of_none g1 nD)]; exact h1, by rw [upd_ne (ne_of_none g2 nD)]; exact h2, r⟩
theorem sum_sgn : ∀ l : List Nat, ((l.map sgn).map (·.length)).sum = l.length
  | [] => rfl
  | c :: r => by
    have e : (sgn c).length = 1 := rfl
    rw [List.map_cons, List.map_cons, List.sum_cons, sum_sgn r, List.length_cons, e]
    omega
theorem scValue : FnScope ["_law_pen_here", "_law_way", "_law_edge", "_law_signs", "_law_spot_so"] ["_law_pen_here"] (defScope sValue) := ⟨rfl, rfl, rfl, by decide +kernel, rfl, by decide +kernel, by decide +kernel⟩
theorem ok_value {f : Addr} {fd : FuncData} (F : Fun K "_law_value" "_law_value" sValue f fd) (T : Blt mg) (D1 : Df P w K mg base 1 "_law_draw" ["_law_pen_here", "_law_many"] spDraw) (D2 : Df P w K mg base 2 "_law_pick" ["_law_pen_here", "_law_some"] spPick)
    (D3 : Df P w K mg base 2 "_law_pick" ["_law_pen_here", "_law_some"] spPickS) : FnOk P w K mg base CX0 3 f fd ["_law_pen_here"] spValue := by
  obtain ⟨f1, fd1, G1, g1, k1, b1⟩ := D1.ex
  obtain ⟨f2, fd2, G2, g2, k2, b2⟩ := D2.ex
  obtain ⟨f3, fd3, G3, g3, k3, b3⟩ := D3.ex
  refine F.ok scValue (fun vs H Q E h => ?_) (fun cdv A outer s H vs Q E hr h => ?_)
  · obtain ⟨p, L, B, rfl, _⟩ := h
    rfl
  · obtain ⟨p, L, B, rfl, hB, hp, kk⟩ := h
    have hr1 : Room 1 _ := hr.mono (by decide)
    refine ⟨_, pss_cons (ps_set (i := 1) scValue.nd rfl (.inl rfl) (pe_call G1 hr1 (by rfl) g1 k1 b1 .nil pass0 (pa_cons (pv 0) (pa_cons pe_int pa_nil))))
      (pss_cons (ps_if (pt_cmpR op_eq (pv 1) pe_int (nomark _)) (pss_one (ps_ret (pe_call G2 hr (by rfl) g2 k2 b2 .nil pass0 (pa_cons (pv 0) (pa_cons (pe_lst (pa_cons pe_non (pa_cons pe_bl (pa_cons pe_bl (pa_cons (pe_tup pa_nil) (pa_cons (pe_tup (pa_cons pe_int pa_nil)) (pa_cons (pe_lst pa_nil) (pa_cons (pe_lst (pa_cons pe_int pa_nil)) (pa_cons pe_dnewK
          (pa_cons (pe_disp (pps_cons pe_int pe_int pps_nil) rfl rfl (by simp) (by decide)) (pa_cons pe_str (pa_cons pe_str (pa_cons pe_str (pa_cons pe_str (pa_cons pe_str (pa_cons pe_str (pa_cons pe_str pa_nil))))))))))))))))) pa_nil))))) pss_nil)
      (pss_cons (ps_if (pt_cmpR op_eq (pv 1) pe_int (nomark _)) (pss_cons (ps_set (i := 2) scValue.nd rfl (.inl rfl) (pe_call G2 hr (by rfl) g2 k2 b2 .nil pass0 (pa_cons (pv 0) (pa_cons (pe_lst (pa_cons (pe_op op_pow pe_int pe_int) (pa_cons (pe_op op_sub (pe_op op_pow pe_int pe_int) pe_int) (pa_cons (pe_op op_pow pe_int pe_int) (pa_cons pe_int (pa_cons pe_int (pa_cons (pe_op op_pow pe_int pe_int) pa_nil))))))) pa_nil))))
          (pss_one (ps_ret (pe_op op_mul (pe_call G2 hr (by rfl) g2 k2 b2 .nil pass0 (pa_cons (pv 0) (pa_cons (pe_lst (pa_cons pe_int (pa_cons (pe_un un_neg pe_int) pa_nil))) pa_nil))) (pe_op op_sub (pe_op op_add (pv 2) (pe_call G1 hr1 (by rfl) g1 k1 b1 .nil pass0 (pa_cons (pv 0) (pa_cons pe_int pa_nil)))) pe_int))))) pss_nil)
      (pss_cons (ps_if (pt_cmpR op_eq (pv 1) pe_int (nomark _)) (pss_cons (ps_set (i := 3) scValue.nd rfl (.inr rfl) (pe_call G2 hr (by rfl) g2 k2 b2 .nil pass0 (pa_cons (pv 0) (pa_cons (pe_lst (pa_cons pe_str (pa_cons pe_str (pa_cons pe_str (pa_cons pe_str (pa_cons pe_str (pa_cons pe_str pa_nil))))))) pa_nil))))
          (pss_one (ps_ret (pe_join pe_str (pe_lc (own := [("_law_spot_so", 4)]) (g := gName 4) (by rfl) scValue.nd (pi_range1 rfl T.range (pa_cons (pe_call G1 hr1 (by rfl) g1 k1 b1 .nil pass0 (pa_cons (pv 0) (pa_cons pe_int pa_nil))) pa_nil)) (blkOk_by (own := [("_law_spot_so", 4)]) (N := ["_law_pen_here", "_law_way", "_law_edge", "_law_signs", "_law_spot_so"]) (sc := defScope sValue) (by decide +kernel))
            (fun _ _ _ _ _ => pg_name (i := 4) scValue.nd rfl (.inl rfl)) (fun _ _ _ _ _ => pts_nil) (fun _ _ _ _ _ => pe_call G3 hr (by rfl) g3 k3 b3 .nil pass0 (pa_cons (pv 0) (pa_cons (pv 3) pa_nil)))))))) pss_nil)
      (pss_one (ps_ret (pe_op op_sub (pe_call G1 hr1 (by rfl) g1 k1 b1 .nil pass0 (pa_cons (pv 0) (pa_cons (pe_op op_pow pe_int pe_int) pa_nil))) (pe_op op_mul pe_int (pe_op op_pow pe_int pe_int)))))))), ?_⟩
    refine ⟨_, rfl, p, L, _, _, rfl, by decide, by decide, by omega, hp, fun way H1 t1 p1 lo1 hi1 => ?_⟩
    refine ⟨_, rfl, rfl, _, rfl, ite2 (fun _ => ?_) (fun _ => ?_)⟩
    · refine ⟨_, rfl, (by show 0 ≤ sizeLine; decide), fun t0 nt0 => ?_⟩
      have s0 := same_new (o := .tup []) nt0
      have h0 : upd H1 t0 (.tup []) t0 = some (.tup []) := upd_same
      have q0 := p1.ne nt0
      have m0 := p1.new (o := .tup []) nt0
      generalize upd H1 t0 (.tup []) = A0 at s0 h0 m0 ⊢
      refine ⟨(by show 1 ≤ sizeLine; decide), fun t1' nt1 => ?_⟩
      have s1 := same_new (o := .tup [.int 1]) nt1
      have h1 : upd A0 t1' (.tup [.int 1]) t1' = some (.tup [.int 1]) := upd_same
      have q1 := m0.ne nt1
      have m1 := m0.new (o := .tup [.int 1]) nt1
      generalize upd A0 t1' (.tup [.int 1]) = A1 at s1 h1 m1 ⊢
      refine ⟨(by show 0 ≤ sizeLine; decide), fun t2 nt2 => ?_⟩
      have s2 := same_new (o := .lst []) nt2
      have h2 : upd A1 t2 (.lst []) t2 = some (.lst []) := upd_same
      have q2 := m1.ne nt2
      have m2 := m1.new (o := .lst []) nt2
      generalize upd A1 t2 (.lst []) = A2 at s2 h2 m2 ⊢
      refine ⟨(by show 1 ≤ sizeLine; decide), fun t3 nt3 => ?_⟩
      have s3 := same_new (o := .lst [.int 1]) nt3
      have h3 : upd A2 t3 (.lst [.int 1]) t3 = some (.lst [.int 1]) := upd_same
      have q3 := m2.ne nt3
      have m3 := m2.new (o := .lst [.int 1]) nt3
      generalize upd A2 t3 (.lst [.int 1]) = A3 at s3 h3 m3 ⊢
      refine fun t4 nt4 => ?_
      have s4 := same_new (o := .dK []) nt4
      have h4 : upd A3 t4 (.dK []) t4 = some (.dK []) := upd_same
      have q4 := m3.ne nt4
      have m4 := m3.new (o := .dK []) nt4
      generalize upd A3 t4 (.dK []) = A4 at s4 h4 m4 ⊢
      refine fun t5 nt5 => ⟨upd_same, [(.inl 1, .int 2)], rfl, by decide, ?_⟩
      have e5 : upd (upd A4 t5 (.dK [])) t5 (.dK (mergeK [] [(.inl 1, .int 2)])) = upd A4 t5 (.dK [(.inl 1, .int 2)]) := by
        funext b
        by_cases z : b = t5
        · rw [z, upd_same, upd_same]; rfl
        · rw [upd_ne z, upd_ne z, upd_ne z]
      rw [e5]
      have s5 := same_new (o := .dK [(.inl 1, .int 2)]) nt5
      have h5 : upd A4 t5 (.dK [(.inl 1, .int 2)]) t5 = some (.dK [(.inl 1, .int 2)]) := upd_same
      have q5 := m4.ne nt5
      have m5 := m4.new (o := .dK [(.inl 1, .int 2)]) nt5
      clear e5
      generalize upd A4 t5 (.dK [(.inl 1, .int 2)]) = A5 at s5 h5 m5 ⊢
      refine ⟨(by show 16 ≤ sizeLine; decide), fun l nl => ?_⟩
      have s6 := same_new (o := .lst [.non, .bl true, .bl false, .ref t0, .ref t1', .ref t2, .ref t3, .ref t4, .ref t5, .str "", .str "1", .str "a b", .str "a\n", .str "ab1", .str "A", .str "a-b"]) nl
      have m6 := m5.new (o := .lst [.non, .bl true, .bl false, .ref t0, .ref t1', .ref t2, .ref t3, .ref t4, .ref t5, .str "", .str "1", .str "a b", .str "a\n", .str "ab1", .str "A", .str "a-b"]) nl
      refine ⟨p, l, L, _, _, rfl, upd_same, m5.ne nl, (by show 1 ≤ 16; decide), (by show 16 ≤ 1000; decide), by omega, m6, fun dv H7 mem t7 p7 => ?_⟩
      have bt : But p H H7 := t1.trans ((Same.but (s0.trans (s1.trans (s2.trans (s3.trans (s4.trans (s5.trans s6))))))).trans t7)
      have p8 := p7.mono (B' := B + 20) (by omega)
      have ne : ∀ {t : Addr}, t ≠ p → V.ref t ≠ V.ref p := fun n z => n (V.ref.inj z)
      have st : ∀ {x : Str}, x.length ≤ 1000 → (x.cps.toList.all (· < 128)) = true → Q (.str x) H7 := fun h1 h2 => kk _ _ _ (valk_str H7 h1 fun c hc => of_decide_eq_true (List.all_eq_true.mp h2 c hc)) (fun z => by cases z) bt p8
      simp only [List.mem_cons, List.not_mem_nil, or_false] at mem
      rcases mem with rfl | rfl | rfl | rfl | rfl | rfl | rfl | rfl | rfl | rfl | rfl | rfl | rfl | rfl | rfl | rfl
      · exact kk _ _ _ .non (fun z => by cases z) bt p8
      · exact kk _ _ _ (.bl _) (fun z => by cases z) bt p8
      · exact kk _ _ _ (.bl _) (fun z => by cases z) bt p8
      · exact kk _ _ _ (.tup [] (.inl rfl) (t7 _ _ q0 (s6 _ _ (s5 _ _ (s4 _ _ (s3 _ _ (s2 _ _ (s1 _ _ h0)))))))) (ne q0) bt p8
      · exact kk _ _ _ (.tup [1] (.inr rfl) (t7 _ _ q1 (s6 _ _ (s5 _ _ (s4 _ _ (s3 _ _ (s2 _ _ h1))))))) (ne q1) bt p8
      · exact kk _ _ _ (.lst [] (.inl rfl) (t7 _ _ q2 (s6 _ _ (s5 _ _ (s4 _ _ (s3 _ _ h2)))))) (ne q2) bt p8
      · exact kk _ _ _ (.lst [1] (.inr rfl) (t7 _ _ q3 (s6 _ _ (s5 _ _ (s4 _ _ h3))))) (ne q3) bt p8
      · exact kk _ _ _ (.dct [] (.inl rfl) (t7 _ _ q4 (s6 _ _ (s5 _ _ h4)))) (ne q4) bt p8
      · exact kk _ _ _ (.dct [(1, 2)] (.inr rfl) (t7 _ _ q5 (s6 _ _ h5))) (ne q5) bt p8
      all_goals exact st (by decide +kernel) (by decide +kernel)
    refine ⟨_, rfl, rfl, _, rfl, ite2 (fun _ => ?_) (fun _ => ?_)⟩
    · refine ⟨_, rfl, _, _, rfl, rfl, ⟨by decide, by decide, by decide⟩, _, _, rfl, rfl, ⟨by decide, by decide, by decide⟩, _, _, rfl, rfl, _, _, rfl, rfl, ⟨by decide, by decide, by decide⟩, _, _, rfl, rfl, ⟨by decide, by decide, by decide⟩, (by show 6 ≤ sizeLine; decide), fun l nl => ?_⟩
      refine ⟨p, l, L, _, _, rfl, upd_same, p1.ne nl, (by show 1 ≤ 6; decide), (by show 6 ≤ 1000; decide), by omega, p1.new nl, fun dv H2 mem t2 p2 => ?_⟩
      have s2 := t1.trans ((Same.but (same_new nl)).trans t2)
      obtain ⟨ed, rfl, ed0, ed1⟩ : ∃ i : Int, dv = .int i ∧ 0 ≤ i ∧ i ≤ 10 ^ 31 := by
        simp only [List.mem_cons, List.not_mem_nil, or_false] at mem
        rcases mem with rfl | rfl | rfl | rfl | rfl | rfl <;> exact ⟨_, rfl, by decide, by decide⟩
      clear mem t2 t1 p1
      refine ⟨_, rfl, _, rfl, (by show 2 ≤ sizeLine; decide), fun l2 nl2 => ?_⟩
      refine ⟨p, l2, L, _, _, rfl, upd_same, p2.ne nl2, (by show 1 ≤ 2; decide), (by show 2 ≤ 1000; decide), by omega, p2.new nl2, fun dv H3 mem t3 p3 => ?_⟩
      have s3 := s2.trans ((Same.but (same_new nl2)).trans t3)
      obtain ⟨sg, rfl, sg1⟩ : ∃ i : Int, dv = .int i ∧ (i = 1 ∨ i = -1) := by
        simp only [List.mem_cons, List.not_mem_nil, or_false] at mem
        rcases mem with rfl | rfl
        · exact ⟨_, rfl, .inl rfl⟩
        · exact ⟨_, rfl, .inr rfl⟩
      clear mem t3
      refine ⟨_, rfl, _, rfl, p, L, _, _, rfl, by decide, by decide, by omega, p3, fun dd H4 t4 p4 lo4 hi4 => ?_⟩
      refine ⟨_, _, rfl, rfl, _, _, rfl, rfl, _, _, rfl, rfl, .inl (by rcases sg1 with rfl | rfl <;> decide), ?_⟩
      refine kk _ _ _ (.int _ ?_) (fun z => by cases z) (s3.trans t4) (p4.mono (by omega))
      have e31 : (10 : Int) ^ 31 = 10000000000000000000000000000000 := by decide
      have e40 : (10 : Nat) ^ 40 = 10000000000000000000000000000000000000000 := by decide
      rw [e31] at ed1
      rw [e40]
      rcases sg1 with rfl | rfl <;> omega
    refine ⟨_, rfl, rfl, _, rfl, ite2 (fun _ => ?_) (fun _ => ?_)⟩
    · refine ⟨_, rfl, (by show 6 ≤ sizeLine; decide), fun l nl => ?_⟩
      refine ⟨p, l, L, _, _, rfl, upd_same, p1.ne nl, (by show 1 ≤ 6; decide), (by show 6 ≤ 1000; decide), by omega, p1.new nl, fun dv H2 mem t2 p2 => ?_⟩
      have s2 := t1.trans ((Same.but (same_new nl)).trans t2)
      obtain ⟨x, rfl, x1, x2, x3⟩ : ∃ x : Str, dv = .str x ∧ 1 ≤ x.length ∧ x.length ≤ 1000 ∧ (x.cps.toList.all (· < 128)) = true := by
        simp only [List.mem_cons, List.not_mem_nil, or_false] at mem
        rcases mem with rfl | rfl | rfl | rfl | rfl | rfl <;> exact ⟨_, rfl, by decide +kernel, by decide +kernel, by decide +kernel⟩
      clear mem t2 t1 p1
      refine ⟨⟨_, rfl⟩, _, rfl, p, L, _, _, rfl, by decide, by decide, by omega, p2, fun n H3 t3 p3 n0 n1 => ?_⟩
      have s3 := s2.trans t3
      clear t3 s2 p2
      refine ⟨n, rfl, by omega, by omega, fun D nD => ?_⟩
      refine lc_it walk_range (fun i H' => ∃ cs : List Nat, cs.length = i ∧ (∀ c ∈ cs, c < 128) ∧ H' D = some (.lst (cs.map fun c => V.str (sgn c))) ∧ But p H H' ∧ Pen L H' p (B + 3 + i))
        ⟨[], rfl, fun c z => (nomatch z), upd_same, s3.trans (Same.but (same_new nD)), (p3.new nD).mono (by omega)⟩ (fun _ _ _ _ => trivial) (fun i v H4 H' hi ⟨cs, e1, e2, e3, e4, e5⟩ y => ?_) (fun H' ⟨cs, e1, e2, e3, e4, e5⟩ => ?_)
      · obtain ⟨rfl, rfl⟩ := y
        refine ⟨rfl, _, rfl, _, rfl, p, L, x, _, rfl, x1, x2, by omega, e5, fun c H5 mem t5 p5 => ?_⟩
        have hc : c < 128 := of_decide_eq_true (List.all_eq_true.mp x3 c mem)
        refine ⟨_, t5 _ _ (p3.ne nD) e3, ?_, cs ++ [c], by rw [List.length_append, e1]; rfl, fun z hz => ?_, ?_, ?_, ?_⟩
        · rw [List.length_map, e1]
          exact Nat.lt_of_lt_of_le (show i < 1000 by omega) (by decide)
        · rcases List.mem_append.mp hz with h | h
          · exact e2 z h
          · obtain rfl := List.mem_singleton.mp h
            exact hc
        · rw [List.map_append]
          exact upd_same
        · exact fun b o nb e => by rw [upd_ne (ne_of_none (s3 b o nb e) nD)]; exact t5 b o nb (e4 b o nb e)
        · exact (p5.upd p3 nD).mono (by omega)
      · have ej : Txt.join "" (cs.map sgn) = ⟨cs.toArray⟩ := (beq_iff_eq.mp (PyProof.Rows.join_plain_closes "" (cs.map sgn))).trans (show Str.join (Str.ofString "") (cs.map sgn) = _ by
          rw [show Str.ofString "" = (⟨#[]⟩ : Str) by decide +kernel]
          exact PyProof.Rows.join_ones cs)
        refine ⟨"", D, cs.map sgn, rfl, rfl, .inl (SqL.of (by rw [List.map_map]; exact e3)), ?_, ?_⟩
        · rw [sum_sgn, List.length_map]
          show cs.length + cs.length * 0 ≤ 16777216
          omega
        · rw [ej]
          refine kk _ _ _ (valk_str H' (show cs.length ≤ 1000 by omega) (fun c hc => e2 c (by simpa using hc))) (fun z => by cases z) e4 (e5.mono (by omega))
    · refine ⟨_, rfl, _, _, rfl, rfl, ⟨by decide, by decide, by decide⟩, p, L, _, _, rfl, by decide, by decide, by omega, p1, fun dd H4 t4 p4 lo4 hi4 => ?_⟩
      refine ⟨_, _, rfl, rfl, ⟨by decide, by decide, by decide⟩, _, _, rfl, rfl, .inl (by decide), _, _, rfl, rfl, ?_⟩
      refine kk _ _ _ (.int _ ?_) (fun z => by cases z) (t1.trans t4) (p4.mono (by omega))
      have e11 : (10 : Int) ^ Int.toNat 11 = 100000000000 := by decide
      have e12 : (10 : Int) ^ Int.toNat 12 = 1000000000000 := by decide
      have e40 : (10 : Nat) ^ 40 = 10000000000000000000000000000000000000000 := by decide
      rw [e12] at hi4
      rw [e11, e40]
      omega
end
end Ev
namespace Ev
open PySem L2 PySem.Spec PyProof.Rows LamX
/-! ### a def called by keywords alone -/
section
variable {X : Cx}
def tCallK0 (sp : Sp) (gV : List V → List V → List V) (E : XK) (tk : TA) : TE := fun σ H Q => tk σ H fun zs H2 => sp (gV [] zs) H2 Q E
theorem pe_callK0 {CX : CXT} {k : Nat} {f : Addr} {fd : FuncData} {ps ks : List Str} {sp : Sp} {E : XK} {x : Str} {p pos : Pos} {kws : List Keyword} {tk : TA} {g : List Value → List Value → List Value} {gV : List V → List V → List V}
    (F : FnOk X.prog X.w X.K X.mg X.base CX k f fd ps sp) (hr : Room k X.A) (hg : Gl X x) (hm : X.mg x = some (.ref f)) (hk : PySem.W.keepIn X.K (.ref f) = true) (hb : KBinds X.K fd ps ks g gV) (hx : Passes CX X E)
    (hkw : PK X kws tk) (hall : (backToKw pos (keywordEach kws X.env)).all (·.1.isSome) = true := by rfl) (hks : (backToKw pos (keywordEach kws X.env)).filterMap (·.1) = ks := by rfl)
    (hdb : (x == ("__debug__" : Str)) = false := by decide)
    (hpl : ((backTo pos (starEach [] X.env)).any (·.1) || (backToKw pos (keywordEach kws X.env)).any (·.1.isNone)) = false := by rfl) :
    PE X (.Call (.Name x p) [] kws pos) (tCallK0 sp gV E tk) := by
  refine ⟨fun pins s σ H Q I h => ?_⟩
  refine wpAny_Call_Name_kw (ld_glob I hg hm ?_ hdb)
  refine PySem.W.callWith_KW0 (first := []) (h₀ := X.base) I.ok.mod.kin hk hall ?_ hpl
  refine thn (hkw.run pos pins s σ H _ I h) fun ws s2 ⟨zs, H2, I2, rz, q2⟩ => ⟨I2.kIn, ?_⟩
  rw [hks]
  exact run_fnk (us := []) (vs := []) F hr hb hx I2 .nil rz q2
end
def gK {α : Type} : List α → List α → List α
  | [], [a] => [a]
  | _, _ => []
theorem gK_rel {vs zs : List V} {us ws : List Value} (r1 : Vals vs us) (r2 : Vals zs ws) : Vals (gK vs zs) (gK us ws) := by
  cases r1 with
  | cons a t => exact .nil
  | nil =>
    cases r2 with
    | nil => exact .nil
    | cons a t =>
      cases t with
      | nil => exact .cons a .nil
      | cons b t => exact .nil
def gW {α : Type} : List α → List α → List α
  | [], [m, l, v] => [v, l, m]
  | _, _ => []
theorem gW_rel {vs zs : List V} {us ws : List Value} (r1 : Vals vs us) (r2 : Vals zs ws) : Vals (gW vs zs) (gW us ws) := by
  cases r1 with
  | cons a t => exact .nil
  | nil =>
    cases r2 with
    | nil => exact .nil
    | cons a t =>
      cases t with
      | nil => exact .nil
      | cons b t =>
        cases t with
        | nil => exact .nil
        | cons c t =>
          cases t with
          | nil => exact .cons c (.cons b (.cons a .nil))
          | cons d t => exact .nil
theorem gK_len {α : Type} {us ws : List α} (h : (gK us ws).length = 1) : ∃ a, us = [] ∧ ws = [a] := by
  match us, ws, h with
  | [], [a], _ => exact ⟨a, rfl, rfl⟩
theorem gW_len {α : Type} {us ws : List α} (h : (gW us ws).length = 3) : ∃ a b c, us = [] ∧ ws = [a, b, c] := by
  match us, ws, h with
  | [], [a, b, c], _ => exact ⟨a, b, c, rfl, rfl⟩
/-! ### what is heard -/
def outO (b : Bool) (w x : Str) : HO := if b then .lst [.non] else .tup [.str w, .str x]
def outD (b : Bool) (w x : Str) : PyData := if b then .list [.none] else .tuple [.str w, .str x]
theorem outO_tbl (b : Bool) (w x : Str) (ps : Array Value) : outO b w x ≠ .tbl ps := by
  cases b <;> exact fun z => by cases z
theorem out_dp {K : PySem.W.Frag} {G : Hp} {r : Addr} {b : Bool} {w x : Str} (e : G r = some (outO b w x)) : Dp K G (.ref r) (outD b w x) := by
  cases b with
  | true => exact .lst (SqL.of e) (.cons .non .nil)
  | false => exact .tup (SqT.of e) (.cons (.str _) (.cons (.str _) .nil))
theorem out_shaped {b : Bool} {w x : Str} (h1 : (PyData.str w).canLay0 = true) (h2 : (PyData.str x).canLay0 = true) : SeqAt.shaped (.list [outD b w x, outD b w x]) = true := by
  unfold SeqAt.shaped
  rw [Bool.and_eq_true]
  simp only [PyData.canLay0] at h1 h2
  cases b
  · refine ⟨?_, by simp [PyData.depth, PyData.depthAll, outD]⟩
    simp only [outD, PyData.canLay0, PyData.canLayAll0, h1, h2, Bool.and_true, if_neg Bool.false_ne_true]
  · exact ⟨(show (PyData.list [.list [.none], .list [.none]]).canLay0 = true by decide +kernel), by simp [PyData.depth, PyData.depthAll, outD]⟩
theorem out_eqv {b : Bool} {w x : Str} : PyData.eqv (.list [outD b w x, outD b w x]) (.list [outD b w x, outD b w x]) = true := by
  cases b <;> exact SeqAt.eqv_refl_plain _ rfl
section
variable {K : PySem.W.Frag} {CK CN : Addr} {H : Hp} {v : V} {d : PyData} {QQ : Addr → Hp → Prop}
/-- what an error tells -/
def EHeard (K : PySem.W.Frag) (CK CN : Addr) (QQ : Addr → Hp → Prop) : XK := fun cls d H' => ∃ (dd : Addr) (v : V) (x w : Str), d = some dd ∧ H' dd = some (.xd [("value", v)]) ∧ Shows K H' v x ∧ ((cls = .ref CK ∧ w = "key") ∨ (cls = .ref CN ∧ w = "name")) ∧
    ∀ (r : Addr) (G : Hp), Same H' G → H' r = none → G r = some (.tup [.str w, .str x]) → QQ r G
theorem ValK.told (h : ValK H v d) {C : Addr} {w : Str} (hC : (C = CK ∧ w = "key") ∨ (C = CN ∧ w = "name")) (fin : ∀ (r : Addr) (G : Hp), Same H G → H r = none → G r = some (.tup [.str w, .str d.shown]) → QQ r G) : Told C "value" H v (EHeard K CK CN QQ) := by
  refine fun dd v' H' s nd e al => ⟨dd, v', d.shown, w, rfl, e, ⟨d, ?_⟩, ?_, fun r G sG nr hr => fin r G (s.trans sG) (Same.gone s nr) hr⟩
  · obtain ⟨h1, h2, h3, h4⟩ := (h.alike s al).vd (K := K)
    exact ⟨h1, h2, h3, h4, rfl⟩
  · rcases hC with ⟨rfl, rfl⟩ | ⟨rfl, rfl⟩
    · exact .inl ⟨rfl, rfl⟩
    · exact .inr ⟨rfl, rfl⟩
theorem ValK.key (h : ValK H v d) (fin : ∀ (r : Addr) (G : Hp), Same H G → H r = none → G r = some (outO (fitsB v) "key" d.shown) → QQ r G) :
    (fitsB v = true ∧ ([V.non].length ≤ sizeLine ∧ ∀ r, H r = none → QQ r (upd H r (.lst [.non])))) ∨ (fitsB v = false ∧ (∃ us b, Hold H v us b) ∧ Told CK "value" H v (EHeard K CK CN QQ)) := by
  cases e : fitsB v with
  | true =>
    rw [e] at fin
    exact .inl ⟨rfl, (by show 1 ≤ sizeLine; decide), fun r nr => fin r _ (same_new nr) nr upd_same⟩
  | false =>
    rw [e] at fin
    exact .inr ⟨rfl, h.hold, h.told (.inl ⟨rfl, rfl⟩) fin⟩
theorem ValK.nam (h : ValK H v d) (fin : ∀ (r : Addr) (G : Hp), Same H G → H r = none → G r = some (outO (nmB v) "name" d.shown) → QQ r G) :
    (nmB v = true ∧ ∀ H', Same H H' → ([V.non].length ≤ sizeLine ∧ ∀ r, H' r = none → QQ r (upd H' r (.lst [.non])))) ∨ (nmB v = false ∧ (∃ us b, Hold H v us b) ∧ ∀ H', Same H H' → Told CN "value" H' v (EHeard K CK CN QQ)) := by
  cases e : nmB v with
  | true =>
    rw [e] at fin
    exact .inl ⟨rfl, fun H' s => ⟨(by show 1 ≤ sizeLine; decide), fun r nr => fin r _ (s.trans (same_new nr)) (Same.gone s nr) upd_same⟩⟩
  | false =>
    rw [e] at fin
    exact .inr ⟨rfl, h.hold, fun H' s => (h.ext (Same.extN s)).told (.inr ⟨rfl, rfl⟩) fun r G sG nr hr => fin r G (s.trans sG) (Same.gone s nr) hr⟩
end
/-- the list of the two that were heard -/
theorem two {H H1 G1 H2 G3 : Hp} {l r1 r2 : Addr} {o : HO} {T : List (Addr × Str)} (ho : ∀ ps, o ≠ .tbl ps) (e1 : ExtN H H1) (s1 : Same H1 G1) (h1 : G1 r1 = some o) (nl : G1 l = none) (e2 : ExtN (upd G1 l (.lst [.ref r1])) H2) (T2 : Tabs T H2)
    (s2 : Same H2 G3) (n2 : H2 r2 = none) (h2 : G3 r2 = some o) :
    G3 l = some (.lst [.ref r1]) ∧ ExtN H (upd G3 l (.lst [.ref r1, .ref r2])) ∧ Tabs T (upd G3 l (.lst [.ref r1, .ref r2])) ∧ upd G3 l (.lst [.ref r1, .ref r2]) l = some (.lst [.ref r1, .ref r2]) ∧ upd G3 l (.lst [.ref r1, .ref r2]) r1 = some o ∧ upd G3 l (.lst [.ref r1, .ref r2]) r2 = some o := by
  have r1l : r1 ≠ l := ne_of_none h1 nl
  have hl2 : H2 l = some (.lst [.ref r1]) := e2 _ _ upd_same (fun _ z => by cases z)
  have hl3 := s2 _ _ hl2
  have r2l : r2 ≠ l := fun z => by rw [z, hl2] at n2; cases n2
  have hr1 : G3 r1 = some o := s2 _ _ (e2 _ _ (by rw [upd_ne r1l]; exact h1) ho)
  refine ⟨hl3, fun b u e n => ?_, Tabs.but (T2.ext s2) hl3 But.upd_at, upd_same, by rw [upd_ne r1l]; exact hr1, by rw [upd_ne r2l]; exact h2⟩
  have g1 := s1 _ _ (e1 b u e n)
  have bl : b ≠ l := ne_of_none g1 nl
  rw [upd_ne bl]
  exact s2 _ _ (e2 b u (by rw [upd_ne bl]; exact g1) n)
end Ev
namespace Ev
open PySem L2 PySem.Spec PyProof.Rows LamX
abbrev nRight : List Str := ["_law_pen_here", "_law_value_here", "_law_whole", "_law_fits", "_law_low", "_law_high", "_law_thing", "_law_due", "_law_heard_here"]
theorem scRight : FnScope nRight ["_law_pen_here", "_law_value_here"] (defScope sRight) := ⟨rfl, rfl, rfl, by decide +kernel, rfl, by decide +kernel, by decide +kernel⟩
def spRight (T : List (Addr × Str)) : Sp := fun vs H Q _ => ∃ (p L : Addr) (B : Int) (v : V) (d : PyData), vs = [.ref p, v] ∧ B ≤ 900000 ∧ Pen L H p B ∧ ValK H v d ∧ v ≠ .ref p ∧ Tabs T H ∧ ∀ H', Pen L H' p (B + 5) → Tabs T H' → Q (.bl true) H'
theorem bools3 (a b c : Bool) : (PyData.list [.bool a, .bool b, .bool c]).shown.length ≤ sizeLine := by cases a <;> cases b <;> cases c <;> decide +kernel
theorem bool1 (a : Bool) : (PyData.bool a).shown.length ≤ sizeLine := by cases a <;> decide +kernel
theorem pe_imp {X : Cx} {e : Expr} {t t' : TE} (h : PE X e t) (k : ∀ σ H Q, t' σ H Q → t σ H Q) : PE X e t' := ⟨fun pins s σ H Q I q => h.run pins s σ H Q I (k σ H Q q)⟩
def tWhole (i : Nat) : TE := fun σ H Q => ∃ v, σ[i]? = some (some v) ∧ Tyd H v ∧ Q (.bl (wholeB v)) H
def tFits : TE := fun σ H Q => ∃ v, σ[1]? = some (some v) ∧ σ[2]? = some (some (.bl (wholeB v))) ∧ Q (.bl (fitsB v)) H
def tDue : TE := fun σ H Q => ∃ (v : V) (l m : Int), σ[6]? = some (some v) ∧ σ[4]? = some (some (.int l)) ∧ σ[5]? = some (some (.int m)) ∧ Tyd H v ∧ Q (.bl (withB l m v)) H
def tOutK (K : PySem.W.Frag) : TE := fun σ H Q => ∃ (v : V) (d : PyData), σ[1]? = some (some v) ∧ ValK H v d ∧ σ[3]? = some (some (.bl (fitsB v))) ∧ ∀ t G, Same H G → G t = some (outO (fitsB v) "key" d.shown) → Q (.ref t) G
def tOutN (K : PySem.W.Frag) : TE := fun σ H Q => ∃ (v : V) (d : PyData), σ[1]? = some (some v) ∧ ValK H v d ∧ ∀ t G, Same H G → G t = some (outO (nmB v) "name" d.shown) → Q (.ref t) G
section
variable {P : Program} {w : World} {K : PySem.W.Frag} {mg : Str → Option Value} {base : Heap}
theorem ok_right {f CK CN FE cc TT : Addr} {fd : FuncData} {q : Str} (F : Fun K "_law_right" "_law_right" sRight f fd) (T : Blt mg) (hc : fd.code = .ref cc) (TB : TabB base mg cc TT) (mr : mg "repr" = none) (ms : mg "str" = none)
    (hq : q = (envOfC "_law_right" (defScope sRight) 0 f (.ref cc)).qual ++ ("<lambda>" : Str))
    (D1 : Df P w K mg base 1 "_law_draw" ["_law_pen_here", "_law_many"] spDraw) (D2 : Df P w K mg base 1 "_law_is_name" ["_law_value_here"] spIsName)
    {fi : Addr} {fdi : FuncData} (GI : FnOk P w K mg base CX0 1 fi fdi ["value"] spIsInt) (gI : mg "is_integer" = some (.ref fi)) (kI : PySem.W.keepIn K (.ref fi) = true) (bI : KBinds K fdi ["value"] ["value"] gK gK)
    {fk : Addr} {fdk : FuncData} (GK : FnOk P w K mg base CX0 2 fk fdk ["value"] spIsKey) (gK' : mg "is_key" = some (.ref fk)) (kK : PySem.W.keepIn K (.ref fk) = true) (bK : KBinds K fdk ["value"] ["value"] gK gK)
    {fn : Addr} {fdn : FuncData} (GN : FnOk P w K mg base CX0 1 fn fdn ["value"] spIsName) (gN : mg "is_name" = some (.ref fn)) (kN : PySem.W.keepIn K (.ref fn) = true) (bN : KBinds K fdn ["value"] ["value"] gK gK)
    {fw : Addr} {fdw : FuncData} (GW : FnOk P w K mg base CX0 2 fw fdw ["value", "least", "most"] spWithin) (gW' : mg "is_within" = some (.ref fw)) (kW : PySem.W.keepIn K (.ref fw) = true) (bW : Binds K fdw ["value", "least", "most"] []) (bWk : KBinds K fdw ["value", "least", "most"] ["most", "least", "value"] gW gW)
    {fa : Addr} {fda : FuncData} (GA : FnOk P w K mg base (L2.CX P w) 6 fa fda ["value"] (spNeedK CK)) (gA : mg "need_key" = some (.ref fa)) (kA : PySem.W.keepIn K (.ref fa) = true) (bA : Binds K fda ["value"] []) (bAk : KBinds K fda ["value"] ["value"] gK gK)
    {fb : Addr} {fdb : FuncData} (GB : FnOk P w K mg base (L2.CX P w) 6 fb fdb ["value"] (spNeedN CN)) (gB : mg "need_name" = some (.ref fb)) (kB : PySem.W.keepIn K (.ref fb) = true) (bB : Binds K fdb ["value"] []) (bBk : KBinds K fdb ["value"] ["value"] gK gK)
    {fh : Addr} {fdh : FuncData} (FH : Fun K "_law_heard" "_law_heard" sHeard fh fdh) (gh : mg "_law_heard" = some (.ref fh)) (bh : Binds K fdh ["_law_ask"] [])
    (gF : mg "FairError" = some (.ref FE)) (gCK : mg "BadKey" = some (.ref CK)) (gCN : mg "BadName" = some (.ref CN)) (HK : HeldC K CK) (HN : HeldC K CN)
    (noK : PySem.W.findIn K (.ref CK) "value" = some none) (noN : PySem.W.findIn K (.ref CN) "value" = some none) (teK : PySem.W.exmOne K (.ref CK) (.ref FE) = some true) (teN : PySem.W.exmOne K (.ref CN) (.ref FE) = some true) (iKK : PySem.W.kitOne K (.ref CK) (.ref CK) = some true) (iNK : PySem.W.kitOne K (.ref CN) (.ref CK) = some false) (iNN : PySem.W.kitOne K (.ref CN) (.ref CN) = some true) :
    FnG P w K mg base 9 f fd ["_law_pen_here", "_law_value_here"] (spRight [(TT, q)]) := by
  obtain ⟨f1, fd1, G1, g1, k1, b1⟩ := D1.ex
  obtain ⟨f2, fd2, G2, g2, k2, b2⟩ := D2.ex
  have kh := FH.kp
  obtain ⟨och, odh, kVh, doch, pmh, anh, cdvh, cth, oslh, rfl, lkh, hcdh⟩ := FH.ex
  refine fng_code F scRight (fun vs H Q E h => ?_) (fun cdv ecd A outer s H vs Q E hr gd h => ?_)
  · obtain ⟨p, L, B, v, d, rfl, _⟩ := h
    rfl
  · obtain ⟨p, L, B, v, d, rfl, hB, pn, vk, vp, hT, kk⟩ := h
    obtain rfl : cdv = .ref cc := ecd.symm.trans hc
    have hr1 : Room 1 _ := hr.mono (by decide)
    have hr2 : Room 2 _ := hr.mono (by decide)
    have hq' : q = (cxOf CX0 P w K mg base nRight "_law_right" (defScope sRight) f (.ref cc) A outer s H E).nox.env.qual ++ ("<lambda>" : Str) := hq
    have lam : ∀ {params : Arguments} {body : Expr} {scope : Scope} {lpos pos p : Pos} {t : XK → TE}, LamS (defScope sRight) scope → defaultsOf params (cxOf CX0 P w K mg base nRight "_law_right" (defScope sRight) f (.ref cc) A outer s H E).env = ([], []) →
        (∀ (q : Str) (cl : List (Str × Addr)) (pm cv ctv : Value), bindArgs (PySem.W.kla_fn "<lambda>" q params body scope cl pm cv ctv) ⟨[], []⟩ = pure []) →
        (∀ (A' : Around) (outer' : List Env) (s' : Shared) (H' : Hp) (E' : XK) (f' c' : Addr), Room 6 (A'.deeper (lamEnv (cxOf CX0 P w K mg base nRight "_law_right" (defScope sRight) f (.ref cc) A outer s H E).nox scope s'.heap.objs.size f' c')) →
          PE (lamCx (cxOf CX0 P w K mg base nRight "_law_right" (defScope sRight) f (.ref cc) A outer s H E).nox A' outer' s' H' E' scope f' c') body (t E')) →
        PE (cxOf CX0 P w K mg base nRight "_law_right" (defScope sRight) f (.ref cc) A outer s H E).nox (.Call (.Name "_law_heard" p) [.Lambda params body scope lpos] [] pos) (tLam [(TT, q)] (THeard K CK CN) t) := by
      intro params body scope lpos pos p t LS hdef hbind hbody
      subst hq'
      have h4 : Gl (cxOf CX0 P w K mg base nRight "_law_right" (defScope sRight) f (.ref cc) A outer s H E).nox "_law_heard" := by rfl
      refine pe_lamcall (X := (cxOf CX0 P w K mg base nRight "_law_right" (defScope sRight) f (.ref cc) A outer s H E).nox) (k := 6) (T := [(TT, _)]) (TT := THeard K CK CN) (x := "_law_heard") (a := "_law_ask") (g := fh) (c := cc) (P := TT) (pg := defArgs sHeard) (bg := defBody sHeard) (sg := defScope sHeard)
        (Ng := ["_law_ask", "_law_caught", "error"]) h4 gh kh lkh hcdh bh scHeard ?_ ?_ ?_ ?_ ?_ ?_ ?_ ?_ ?_ ?_ ?_ ?_ ?_ ?_ ?_
      · rfl
      · exact .inl rfl
      · exact heard_gives gd hr T mr gF gCK gCN HK HN noK noN teK teN iKK iNK iNN
      · exact TB
      · rfl
      · exact List.mem_singleton.mpr rfl
      · exact fun p hp _ => by rw [List.mem_singleton.mp hp]
      · exact hr
      · exact LS
      · exact hdef
      · exact hbind
      · exact hbody
      · decide
      · decide
      · decide
    have hu : (cxOf CX0 P w K mg base nRight "_law_right" (defScope sRight) f (.ref cc) A outer s H E).nox.A.units + 64 < cLine := Room.units hr
    refine ⟨_, pss_cons (ps_set (i := 2) scRight.nd rfl (.inl rfl) (pe_imp (t' := tWhole 1) (pe_and (pe_callB call_isi (by rfl) T.isi (by decide +kernel) (pa_cons (pv 1) (pa_cons (pe_bltn (v := .ty "int") (by rfl) T.int (by decide +kernel) rfl) pa_nil)))
        (pe_one (pe_not (pe_callB call_isi (by rfl) T.isi (by decide +kernel) (pa_cons (pv 1) (pa_cons (pe_bltn (v := .ty "bool") (by rfl) T.bool (by decide +kernel) rfl) pa_nil)))))) (fun σ H Q h => ?_)))
      (pss_cons (ps_set (i := 3) scRight.nd rfl (.inl rfl) (pe_imp (t' := tFits) (pe_and (pv 2) (pe_one (pe_chain op_lt op_lt (pe_un un_neg (pe_op op_pow pe_int pe_int)) (pv 1) (pe_op op_pow pe_int pe_int)))) (fun σ H Q h => ?_)))
      (pss_cons (ps_if (pt_cmpR op_ne (pe_callB (call_reprV gd hu) (by rfl) mr (by decide +kernel) (pa_cons (pe_lst (pa_cons (pe_callK0 GI hr1 (by rfl) gI kI bI (E := E0) pass0 (pk_cons (pv 1) pk_nil)) (pa_cons (pe_callK0 GK hr2 (by rfl) gK' kK bK (E := E0) pass0 (pk_cons (pv 1) pk_nil)) (pa_cons (pe_callK0 GN hr1 (by rfl) gN kN bN (E := E0) pass0 (pk_cons (pv 1) pk_nil)) pa_nil)))) pa_nil))
          (pe_callB (call_reprV gd hu) (by rfl) mr (by decide +kernel) (pa_cons (pe_lst (pa_cons (pv 2) (pa_cons (pv 3) (pa_cons (pe_call G2 hr1 (by rfl) g2 k2 b2 .nil pass0 (pa_cons (pv 1) pa_nil)) pa_nil)))) pa_nil)) (nomark _)) (pss_one (ps_ret pe_bl)) pss_nil)
      (pss_cons (ps_set (i := 4) scRight.nd rfl (.inl rfl) (pe_op op_sub (pe_call G1 hr1 (by rfl) g1 k1 b1 .nil pass0 (pa_cons (pv 0) (pa_cons pe_int pa_nil))) pe_int))
      (pss_cons (ps_set (i := 5) scRight.nd rfl (.inl rfl) (pe_op op_sub (pe_op op_add (pv 4) (pe_call G1 hr1 (by rfl) g1 k1 b1 .nil pass0 (pa_cons (pv 0) (pa_cons pe_int pa_nil)))) pe_int))
      (pss_cons (ps_for PassesOwn.never rfl (pi_list (pe_lst (pa_cons (pv 1) (pa_cons (pv 4) (pa_cons (pv 5) (pa_cons (pe_op op_sub (pv 4) pe_int) (pa_cons (pe_op op_add (pv 5) pe_int) (pa_cons (pe_cmpR op_gt (pv 4) pe_int (nomark _)) pa_nil)))))))) (pg_name (i := 6) scRight.nd rfl (.inl rfl))
        (pss_cons (ps_set (i := 7) scRight.nd rfl (.inl rfl) (pe_imp (t' := tDue) (pe_and (pe_callB call_isi (by rfl) T.isi (by decide +kernel) (pa_cons (pv 6) (pa_cons (pe_bltn (v := .ty "int") (by rfl) T.int (by decide +kernel) rfl) pa_nil)))
          (pe_and (pe_not (pe_callB call_isi (by rfl) T.isi (by decide +kernel) (pa_cons (pv 6) (pa_cons (pe_bltn (v := .ty "bool") (by rfl) T.bool (by decide +kernel) rfl) pa_nil)))) (pe_one (pe_chain op_le op_le (pv 4) (pv 6) (pv 5))))) (fun σ H Q h => ?_)))
        (pss_one (ps_if (PW.pt (pw_or (pt_cmpR op_ne (pe_callB (call_reprV gd hu) (by rfl) mr (by decide +kernel) (pa_cons (pe_call GW hr2 (by rfl) gW' kW bW .nil pass0 (pa_cons (pv 6) (pa_cons (pv 4) (pa_cons (pv 5) pa_nil)))) pa_nil)) (pe_callB (call_reprV gd hu) (by rfl) mr (by decide +kernel) (pa_cons (pv 7) pa_nil)) (nomark _))
          (pw_or1 (pt_cmpR op_ne (pe_callB (call_reprV gd hu) (by rfl) mr (by decide +kernel) (pa_cons (pe_callK0 GW hr2 (by rfl) gW' kW bWk (E := E0) pass0 (pk_cons (pv 5) (pk_cons (pv 4) (pk_cons (pv 6) pk_nil)))) pa_nil)) (pe_callB (call_reprV gd hu) (by rfl) mr (by decide +kernel) (pa_cons (pv 7) pa_nil)) (nomark _))))) (pss_one (ps_ret pe_bl)) pss_nil))))
      (pss_cons (ps_set (i := 8) scRight.nd rfl (.inl rfl) (pe_lst (pa_cons (lam (t := fun E' => tCall (spNeedK CK) [] E' (tCons (tVar 1) tNil)) (lamS_by (by decide +kernel)) rfl (fun _ _ _ _ _ => rfl) (fun _ _ _ _ E' _ _ hrL => pe_call GA hrL (by rfl) gA kA bA .nil (E := E') (passes_call (takes_of rfl rfl rfl rfl) (fun _ _ _ _ h => h)) (pa_cons (pv 1) pa_nil))) pa_nil)))
      (pss_cons (ps_expr (pe_bm PySem.F.plainAttrs_list PySem.F.slot_list_append PySem.F.type_list_append mt_append (pv 8) (pa_cons (lam (t := fun E' => tCallK0 (spNeedK CK) gK E' (tCons (tVar 1) tNil)) (lamS_by (by decide +kernel)) rfl (fun _ _ _ _ _ => rfl) (fun _ _ _ _ E' _ _ hrL => pe_callK0 GA hrL (by rfl) gA kA bAk (E := E') (passes_call (takes_of rfl rfl rfl rfl) (fun _ _ _ _ h => h)) (pk_cons (pv 1) pk_nil))) pa_nil)))
      (pss_cons (ps_if (pt_cmpR (op_neD hu) (pv 8) (pe_op op_rep (pe_lst (pa_cons (pe_imp (t' := tOutK K) (pe_ifExp (pt_val (pv 3)) (pe_lst (pa_cons pe_non pa_nil)) (pe_tup (pa_cons pe_str (pa_cons (pe_callB (call_reprV gd hu) (by rfl) mr (by decide +kernel) (pa_cons (pv 1) pa_nil)) pa_nil)))) (fun σ H Q h => ?_)) pa_nil)) pe_int) (nomark _)) (pss_one (ps_ret pe_bl)) pss_nil)
      (pss_cons (ps_set (i := 8) scRight.nd rfl (.inl rfl) (pe_lst (pa_cons (lam (t := fun E' => tCall (spNeedN CN) [] E' (tCons (tVar 1) tNil)) (lamS_by (by decide +kernel)) rfl (fun _ _ _ _ _ => rfl) (fun _ _ _ _ E' _ _ hrL => pe_call GB hrL (by rfl) gB kB bB .nil (E := E') (passes_call (takes_of rfl rfl rfl rfl) (fun _ _ _ _ h => h)) (pa_cons (pv 1) pa_nil))) pa_nil)))
      (pss_cons (ps_expr (pe_bm PySem.F.plainAttrs_list PySem.F.slot_list_append PySem.F.type_list_append mt_append (pv 8) (pa_cons (lam (t := fun E' => tCallK0 (spNeedN CN) gK E' (tCons (tVar 1) tNil)) (lamS_by (by decide +kernel)) rfl (fun _ _ _ _ _ => rfl) (fun _ _ _ _ E' _ _ hrL => pe_callK0 GB hrL (by rfl) gB kB bBk (E := E') (passes_call (takes_of rfl rfl rfl rfl) (fun _ _ _ _ h => h)) (pk_cons (pv 1) pk_nil))) pa_nil)))
      (pss_one (ps_ret (pe_cmpR (op_eqD hu) (pv 8) (pe_op op_rep (pe_lst (pa_cons (pe_imp (t' := tOutN K) (pe_ifExp (pt_val (pe_call G2 hr1 (by rfl) g2 k2 b2 .nil pass0 (pa_cons (pv 1) pa_nil))) (pe_lst (pa_cons pe_non pa_nil)) (pe_tup (pa_cons pe_str (pa_cons (pe_callB (call_reprV gd hu) (by rfl) mr (by decide +kernel) (pa_cons (pv 1) pa_nil)) pa_nil)))) (fun σ H Q h => ?_)) pa_nil)) pe_int) (nomark _)))))))))))))), ?_⟩
    · obtain ⟨v, hv, ⟨TT', bi, bb, tx, e1, e2, e3, e4⟩, k⟩ := h
      refine ⟨_, hv, _, _, _, _, bi, rfl, .ty _, tx _ _ (Same.refl H), kit_ty e1, bi, rfl, ?_⟩
      rw [← e4] at k
      cases bi with
      | false => exact iteF k
      | true => exact iteT ⟨_, hv, _, _, _, _, bb, rfl, .ty _, tx _ _ (Same.refl H), kit_ty e2, _, rfl, k⟩
    · obtain ⟨v, hv, hw, k⟩ := h
      refine ⟨_, hw, _, rfl, ?_⟩
      cases e : wholeB v with
      | true =>
        obtain ⟨i, rfl⟩ := whole_int e
        refine iteT ⟨_, _, rfl, rfl, ⟨by decide, by decide, by decide⟩, _, rfl, _, hv, _, _, rfl, rfl, _, rfl, ?_⟩
        have k : Q (.bl (decide (-(10 ^ 30) < i) && decide (i < 10 ^ 30))) H := k
        by_cases z : -(10 ^ 30) < i
        · rw [decide_eq_true z] at k
          rw [decide_eq_true (show -(10 ^ Int.toNat 30) < i from z)]
          exact iteT ⟨_, _, rfl, rfl, ⟨by decide, by decide, by decide⟩, _, _, rfl, rfl, k⟩
        · rw [decide_eq_false z] at k
          rw [decide_eq_false (show ¬ -(10 ^ Int.toNat 30) < i from z)]
          exact iteF k
      | false =>
        rw [(not_whole e 0 0).2] at k
        exact iteF k
    · obtain ⟨v, l, m, hv, hl, hm, ⟨TT', bi, bb, tx, e1, e2, e3, e4⟩, k⟩ := h
      refine ⟨_, hv, _, _, _, _, bi, rfl, .ty _, tx _ _ (Same.refl H), kit_ty e1, bi, rfl, ?_⟩
      cases bi with
      | false =>
        rw [(not_whole (v := v) e4.symm l m).1] at k
        exact iteF k
      | true =>
        refine iteT ⟨_, hv, _, _, _, _, bb, rfl, .ty _, tx _ _ (Same.refl H), kit_ty e2, _, rfl, ?_⟩
        cases bb with
        | true =>
          rw [(not_whole (v := v) e4.symm l m).1] at k
          exact ⟨_, rfl, iteF k⟩
        | false =>
          obtain ⟨i, rfl⟩ := whole_int (v := v) e4.symm
          refine ⟨_, rfl, iteT ⟨_, hl, _, hv, _, _, rfl, rfl, _, rfl, ?_⟩⟩
          have k : Q (.bl (decide (l ≤ i) && decide (i ≤ m))) H := k
          by_cases z : l ≤ i
          · rw [decide_eq_true z] at k ⊢
            exact iteT ⟨_, hm, _, _, rfl, rfl, k⟩
          · rw [decide_eq_false z] at k ⊢
            exact iteF k
    · obtain ⟨v, d, hv, vk, h3, k⟩ := h
      obtain ⟨w1, w2, w3, w4⟩ := vk.vd (K := K)
      refine ⟨_, h3, _, rfl, ?_⟩
      cases e : fitsB v with
      | true =>
        rw [e] at k
        exact iteT ⟨(by show 1 ≤ sizeLine; decide), fun t nt => k t _ (same_new nt) upd_same⟩
      | false =>
        rw [e] at k
        exact iteF ⟨_, hv, v, d, rfl, w1, w2, w3, w4, (by show 2 ≤ sizeLine; decide), fun t nt => k t _ (same_new nt) upd_same⟩
    · obtain ⟨v, d, hv, vk, k⟩ := h
      refine ⟨_, hv, v, rfl, vk.tyd, vk.short, fun H1 s1 => ⟨_, rfl, ?_⟩⟩
      obtain ⟨w1, w2, w3, w4⟩ := (vk.ext (Same.extN s1)).vd (K := K)
      cases e : nmB v with
      | true =>
        rw [e] at k
        exact iteT ⟨(by show 1 ≤ sizeLine; decide), fun t nt => k t _ (s1.trans (same_new nt)) upd_same⟩
      | false =>
        rw [e] at k
        exact iteF ⟨_, hv, v, d, rfl, w1, w2, w3, w4, (by show 2 ≤ sizeLine; decide), fun t nt => k t _ (s1.trans (same_new nt)) upd_same⟩
    have ty := vk.tyd
    have sh := vk.short
    refine ⟨v, rfl, ty, v, rfl, rfl, ?_⟩
    -- the three checks
    refine ⟨_, rfl, v, rfl, ty, _, rfl, v, rfl, ty, _, rfl, v, rfl, ty, sh, fun H1 s1 => ⟨(by show 3 ≤ sizeLine; decide), fun l1 nl1 => ?_⟩⟩
    have sl1 := s1.trans (same_new (o := .lst [.bl (wholeB v), .bl (fitsB v), .bl (nmB v)]) nl1)
    have hl1 : upd H1 l1 (.lst [.bl (wholeB v), .bl (fitsB v), .bl (nmB v)]) l1 = some (.lst [.bl (wholeB v), .bl (fitsB v), .bl (nmB v)]) := upd_same
    generalize upd H1 l1 (.lst [.bl (wholeB v), .bl (fitsB v), .bl (nmB v)]) = A1 at sl1 hl1 ⊢
    refine ⟨.ref l1, .list [.bool (wholeB v), .bool (fitsB v), .bool (nmB v)], rfl, .plain (.lst (SqL.of hl1) (.cons (.bl _) (.cons (.bl _) (.cons (.bl _) .nil)))) rfl, rfl, by simp [PyData.depth, PyData.depthAll], bools3 _ _ _, ?_⟩
    refine ⟨_, rfl, _, rfl, _, rfl, v, rfl, ty.keep sl1, sh, fun H2 s2 => ⟨(by show 3 ≤ sizeLine; decide), fun l2 nl2 => ?_⟩⟩
    have sl2 := sl1.trans (s2.trans (same_new (o := .lst [.bl (wholeB v), .bl (fitsB v), .bl (nmB v)]) nl2))
    have hl2 : upd H2 l2 (.lst [.bl (wholeB v), .bl (fitsB v), .bl (nmB v)]) l2 = some (.lst [.bl (wholeB v), .bl (fitsB v), .bl (nmB v)]) := upd_same
    generalize upd H2 l2 (.lst [.bl (wholeB v), .bl (fitsB v), .bl (nmB v)]) = A2 at sl2 hl2 ⊢
    refine ⟨.ref l2, .list [.bool (wholeB v), .bool (fitsB v), .bool (nmB v)], rfl, .plain (.lst (SqL.of hl2) (.cons (.bl _) (.cons (.bl _) (.cons (.bl _) .nil)))) rfl, rfl, by simp [PyData.depth, PyData.depthAll], bools3 _ _ _, ?_⟩
    refine ⟨rfl, _, rfl, ite2 (fun e => absurd e (by simp)) (fun _ => ?_)⟩
    -- the bounds
    have pn2 := pn.keep sl2
    have vk2 := vk.ext (Same.extN sl2)
    have hT2 := hT.ext sl2
    clear s1 s2 sl1 hl1 nl1 nl2 hl2 H1 H2 A1 l1 l2 sl2
    refine ⟨_, rfl, p, L, _, _, rfl, by decide, by decide, by omega, pn2, fun dl H3 t3 p3 lo3 hi3 => ⟨_, _, rfl, rfl, ?_⟩⟩
    refine ⟨_, rfl, _, rfl, p, L, _, _, rfl, by decide, by decide, by omega, p3, fun dh H4 t4 p4 lo4 hi4 => ⟨_, _, rfl, rfl, _, _, rfl, rfl, ?_⟩⟩
    obtain ⟨xs2, hx2⟩ := pn2.some
    obtain ⟨xs3, hx3⟩ := p3.some
    have vk4 := (vk2.but vp t3).but vp t4
    have hT4 := Tabs.but (Tabs.but hT2 hx2 t3) hx3 t4
    clear t3 t4 hx2 hx3 p3 pn2 vk2 hT2
    refine ⟨_, rfl, _, rfl, _, rfl, _, rfl, _, _, rfl, rfl, _, rfl, _, _, rfl, rfl, _, rfl, _, _, rfl, rfl, (by show 6 ≤ sizeLine; decide), fun l nl => ⟨l, rfl, ⟨_, SqL.of upd_same⟩, ?_⟩⟩
    refine for_it (n := 6) (walk_list (K := K) (a := l) (xs := [v, .int (dl - 4), .int (dl - 4 + dh - 1), .int (dl - 4 - 1), .int (dl - 4 + dh - 1 + 1), .bl (decide (0 < dl - 4))]))
      (fun i σ H' => (∃ v6 v7, σ = [some (.ref p), some v, some (.bl (wholeB v)), some (.bl (fitsB v)), some (.int (dl - 4)), some (.int (dl - 4 + dh - 1)), v6, v7, none]) ∧ H' = upd H4 l (.lst [v, .int (dl - 4), .int (dl - 4 + dh - 1), .int (dl - 4 - 1), .int (dl - 4 + dh - 1 + 1), .bl (decide (0 < dl - 4))]))
      ⟨⟨none, none, rfl⟩, rfl⟩ (fun i σ H' _ h => by rw [h.2]; exact SqL.of upd_same) ?_ ?_
    · rintro i x σ G G' hi ⟨⟨v6, v7, rfl⟩, rfl⟩ ⟨rfl, hx⟩
      have tx : Tyd (upd H4 l (.lst [v, .int (dl - 4), .int (dl - 4 + dh - 1), .int (dl - 4 - 1), .int (dl - 4 + dh - 1 + 1), .bl (decide (0 < dl - 4))])) x := by
        have m := List.mem_of_getElem? hx
        simp only [List.mem_cons, List.not_mem_nil, or_false] at m
        rcases m with rfl | rfl | rfl | rfl | rfl | rfl
        · exact vk4.tyd.keep (same_new nl)
        · exact tyd_int _ _
        · exact tyd_int _ _
        · exact tyd_int _ _
        · exact tyd_int _ _
        · exact tyd_bl _ _
      refine ⟨x, dl - 4, dl - 4 + dh - 1, rfl, rfl, rfl, tx, ?_⟩
      refine ⟨_, rfl, _, rfl, _, rfl, x, dl - 4, dl - 4 + dh - 1, rfl, tx, .bl _, .bool _, rfl, .plain (.bl _) rfl, rfl, (by show 0 ≤ 32; decide), bool1 _, _, rfl, .bl _, .bool _, rfl, .plain (.bl _) rfl, rfl, (by show 0 ≤ 32; decide), bool1 _, rfl, _, rfl, ite2 (fun e => absurd e (by simp)) (fun _ => ?_)⟩
      refine ⟨_, rfl, _, rfl, _, rfl, x, dl - 4, dl - 4 + dh - 1, rfl, tx, .bl _, .bool _, rfl, .plain (.bl _) rfl, rfl, (by show 0 ≤ 32; decide), bool1 _, _, rfl, .bl _, .bool _, rfl, .plain (.bl _) rfl, rfl, (by show 0 ≤ 32; decide), bool1 _, rfl, _, rfl, ite2 (fun e => absurd e (by simp)) (fun _ => ?_)⟩
      exact ⟨⟨_, _, rfl⟩, rfl⟩
    · rintro σ G ⟨⟨v6, v7, rfl⟩, rfl⟩
      have p5 := p4.new (o := .lst [v, .int (dl - 4), .int (dl - 4 + dh - 1), .int (dl - 4 - 1), .int (dl - 4 + dh - 1 + 1), .bl (decide (0 < dl - 4))]) nl
      have vk5 := vk4.ext (Same.extN (same_new (o := .lst [v, .int (dl - 4), .int (dl - 4 + dh - 1), .int (dl - 4 - 1), .int (dl - 4 + dh - 1 + 1), .bl (decide (0 < dl - 4))]) nl))
      have hT5 := hT4.ext (same_new (o := .lst [v, .int (dl - 4), .int (dl - 4 + dh - 1), .int (dl - 4 - 1), .int (dl - 4 + dh - 1 + 1), .bl (decide (0 < dl - 4))]) nl)
      clear vk4 hT4 p4
      generalize upd H4 l (.lst [v, .int (dl - 4), .int (dl - 4 + dh - 1), .int (dl - 4 - 1), .int (dl - 4 + dh - 1 + 1), .bl (decide (0 < dl - 4))]) = H5 at p5 vk5 hT5 ⊢
      refine ⟨hT5, fun H6 e6 T6 => ?_⟩
      refine ⟨_, rfl, v, rfl, (vk5.ext e6).tyd, ValK.key (vk5.ext e6) (fun r1 G1 s1 n1 h1 => ?_)⟩
      refine ⟨(by show 1 ≤ sizeLine; decide), fun lh nlh => ?_⟩
      refine ⟨_, rfl, .inl ⟨rfl, _, SqL.of upd_same⟩, (T6.ext s1).ext (same_new nlh), fun H7 e7 T7 => ?_⟩
      have e57 : ExtN H5 H7 := (e6.trans (Same.extN s1)).trans ((Same.extN (same_new nlh)).trans e7)
      refine ⟨_, rfl, v, rfl, (vk5.ext e57).tyd, ValK.key (vk5.ext e57) (fun r2 G2 s2 n2 h2 => ?_)⟩
      obtain ⟨hl, kE, kT, gl, gr1, gr2⟩ := two (outO_tbl _ _ _) e6 s1 h1 nlh e7 T7 s2 n2 h2
      refine ⟨lh, _, _, rfl, rfl, hl, (by show 1 < sizeLine; decide), ?_⟩
      generalize hG : upd G2 lh (HO.lst ([V.ref r1] ++ [V.ref r2])) = G4
      have hG' : upd G2 lh (HO.lst [V.ref r1, V.ref r2]) = G4 := hG
      rw [hG'] at kE kT gl gr1 gr2
      have vk6 := vk5.ext kE
      have p6 := p5.ext kE
      clear hG hG' hl e6 T6 s1 n1 h1 nlh e7 T7 e57 s2 n2 h2 vk5 p5 hT5 kE
      refine ⟨_, rfl, v, d, rfl, vk6, rfl, fun t Gt st ht => ?_⟩
      refine ⟨(by show 1 ≤ sizeLine; decide), fun a5 na5 => ⟨a5, 2, _, rfl, rfl, upd_same, by decide, by decide, (by show 1 * 2 ≤ sizeLine; decide), fun a6 na6 => ?_⟩⟩
      have sa := (same_new (o := .lst [.ref t]) na5).trans (same_new (o := .lst [.ref t, .ref t]) na6)
      have ha : upd (upd Gt a5 (.lst [.ref t])) a6 (.lst [.ref t, .ref t]) a6 = some (.lst [.ref t, .ref t]) := upd_same
      have hte := sa _ _ ht
      have sb := st.trans sa
      have shd := out_shaped (b := fitsB v) (w := "key") (x := d.shown) (by decide +kernel) vk6.lay
      refine ⟨.list [outD (fitsB v) "key" d.shown, outD (fitsB v) "key" d.shown], .list [outD (fitsB v) "key" d.shown, outD (fitsB v) "key" d.shown],
        .lst (SqL.of (sb _ _ gl)) (.cons (out_dp (sb _ _ gr1)) (.cons (out_dp (sb _ _ gr2)) .nil)), .lst (SqL.of ha) (.cons (out_dp hte) (.cons (out_dp hte) .nil)), shd, shd, _, rfl, ?_⟩
      rw [out_eqv]
      refine iteF ?_
      generalize hG : upd (upd Gt a5 (HO.lst [V.ref t])) a6 (HO.lst (List.replicate (Int.toNat 2) [V.ref t]).flatten) = G8
      have hG' : upd (upd Gt a5 (.lst [.ref t])) a6 (.lst [.ref t, .ref t]) = G8 := hG
      rw [hG'] at sb
      have vk8 := vk6.ext (Same.extN sb)
      have p8 := p6.keep sb
      have T8 := kT.ext sb
      clear hG hG' sb hte ha sa na5 na6 ht st vk6 p6 kT gl gr1 gr2 shd
      -- names
      refine ⟨T8, fun H6 e6 T6 => ?_⟩
      refine ⟨_, rfl, v, rfl, (vk8.ext e6).tyd, (vk8.ext e6).short, ValK.nam (vk8.ext e6) (fun r1 G1 s1 n1 h1 => ?_)⟩
      refine ⟨(by show 1 ≤ sizeLine; decide), fun lh nlh => ?_⟩
      refine ⟨_, rfl, .inl ⟨rfl, _, SqL.of upd_same⟩, (T6.ext s1).ext (same_new nlh), fun H7 e7 T7 => ?_⟩
      have e57 : ExtN G8 H7 := (e6.trans (Same.extN s1)).trans ((Same.extN (same_new nlh)).trans e7)
      refine ⟨_, rfl, v, rfl, (vk8.ext e57).tyd, (vk8.ext e57).short, ValK.nam (vk8.ext e57) (fun r2 G2 s2 n2 h2 => ?_)⟩
      obtain ⟨hl, kE, kT, gl, gr1, gr2⟩ := two (outO_tbl _ _ _) e6 s1 h1 nlh e7 T7 s2 n2 h2
      refine ⟨lh, _, _, rfl, rfl, hl, (by show 1 < sizeLine; decide), ?_⟩
      generalize hG : upd G2 lh (HO.lst ([V.ref r1] ++ [V.ref r2])) = G9
      have hG' : upd G2 lh (HO.lst [V.ref r1, V.ref r2]) = G9 := hG
      rw [hG'] at kE kT gl gr1 gr2
      have vk9 := vk8.ext kE
      have p9 := p8.ext kE
      clear hG hG' hl e6 T6 s1 n1 h1 nlh e7 T7 e57 s2 n2 h2 vk8 p8 kE
      refine ⟨_, rfl, v, d, rfl, vk9, fun t Gt st ht => ?_⟩
      refine ⟨(by show 1 ≤ sizeLine; decide), fun a5 na5 => ⟨a5, 2, _, rfl, rfl, upd_same, by decide, by decide, (by show 1 * 2 ≤ sizeLine; decide), fun a6 na6 => ?_⟩⟩
      have sa := (same_new (o := .lst [.ref t]) na5).trans (same_new (o := .lst [.ref t, .ref t]) na6)
      have ha : upd (upd Gt a5 (.lst [.ref t])) a6 (.lst [.ref t, .ref t]) a6 = some (.lst [.ref t, .ref t]) := upd_same
      have hte := sa _ _ ht
      have sb := st.trans sa
      have shd := out_shaped (b := nmB v) (w := "name") (x := d.shown) (by decide +kernel) vk9.lay
      refine ⟨.list [outD (nmB v) "name" d.shown, outD (nmB v) "name" d.shown], .list [outD (nmB v) "name" d.shown, outD (nmB v) "name" d.shown],
        .lst (SqL.of (sb _ _ gl)) (.cons (out_dp (sb _ _ gr1)) (.cons (out_dp (sb _ _ gr2)) .nil)), .lst (SqL.of ha) (.cons (out_dp hte) (.cons (out_dp hte) .nil)), shd, shd, ?_⟩
      rw [out_eqv]
      exact kk _ ((p9.keep sb).mono (by omega)) (kT.ext sb)
end
end Ev
namespace Ev
open PySem L2 PySem.Spec PyProof.Rows LamX
def spPen (K : PySem.W.Frag) : Sp := fun vs H Q _ => ∃ (a : Addr) (ns : List Int), vs = [.ref a] ∧ SqL K H a (ns.map V.int) ∧ ns.length ≤ 63 ∧
  ∀ (p L : Addr) (H' : Hp), H p = none → Same H H' → Pen L H' p 0 → Q (.ref p) H'
def spLawT (K : PySem.W.Frag) (T : Addr) : Sp := fun vs H Q _ => ∃ (a : Addr) (ns : List Int), vs = [.ref a] ∧ SqL K H a (ns.map V.int) ∧ ns.length ≤ 63 ∧ H T = some (.tbl #[]) ∧ ∀ H', Q (.bl true) H'
theorem cut_ints (ns : List Int) (h : Int) : ∃ ms : List Int, cutV (ns.map V.int) none (some h) = ms.map V.int ∧ ms.length ≤ ns.length := by
  unfold cutV
  generalize HT.sIx (ns.map V.int).length 0 none = x
  generalize HT.sIx (ns.map V.int).length (ns.map V.int).length (some h) - x = y
  refine ⟨(ns.drop x).take y, ?_, ?_⟩
  · rw [List.map_take, List.map_drop]
  · rw [List.length_take, List.length_drop]; omega
abbrev nLaw : List Str := ["_law_script", "_law_pen_here", "_law_turn_so", "_law_told"]
theorem scLaw : FnScope nLaw ["_law_script"] (defScope sLaw) := ⟨rfl, rfl, rfl, by decide +kernel, rfl, by decide +kernel, by decide +kernel⟩
section
variable {P : Program} {w : World} {K : PySem.W.Frag} {mg : Str → Option Value} {base : Heap}
theorem scPen : FnScope ["_law_script"] ["_law_script"] (defScope sPen) := ⟨rfl, rfl, rfl, by decide +kernel, rfl, by decide +kernel, by decide +kernel⟩
theorem ok_pen {f : Addr} {fd : FuncData} (F : Fun K "_law_pen" "_law_pen" sPen f fd) (T : Blt mg) : FnOk P w K mg base CX0 1 f fd ["_law_script"] (spPen K) := by
  refine F.ok scPen (fun vs H Q E h => ?_) (fun cdv A outer s H vs Q E hr h => ?_)
  · obtain ⟨a, ns, rfl, _⟩ := h
    rfl
  · obtain ⟨a, ns, rfl, hS, hlen, kk⟩ := h
    refine ⟨_, pss_one (ps_ret (pe_lst (pa_cons (pe_callTy call_list_of (by rfl) T.list (by decide +kernel) (pa_cons (pe_slice sl_list (pv 0) po_none (po_some pe_int)) pa_nil)) (pa_cons pe_int (pa_cons pe_int pa_nil))))), ?_⟩
    refine ⟨_, rfl, _, rfl, a, _, rfl, hS, fun l1 nl1 => ⟨l1, _, rfl, .inl (SqL.of upd_same), fun l2 nl2 => ⟨(by show 3 ≤ sizeLine; decide), fun p np => ?_⟩⟩⟩
    obtain ⟨ms, e1, e2⟩ := cut_ints ns 63
    rw [e1] at nl2 np ⊢
    have s1 : Same H (upd (upd H l1 (.lst (ms.map V.int))) l2 (.lst (ms.map V.int))) := (same_new nl1).trans (same_new nl2)
    have s2 := s1.trans (same_new (o := .lst [.ref l2, .int 0, .int 0]) np)
    refine kk p l2 _ ?_ s2 ⟨ms, 0, 0, upd_same, by rw [upd_ne (ne_of_none upd_same np)]; exact upd_same, ne_of_none upd_same np, by omega, by decide, by decide, by decide⟩
    cases z : H p with
    | none => rfl
    | some o => rw [s1 _ _ z] at np; cases np
theorem ok_law {f : Addr} {fd : FuncData} {TT : Addr} {q : Str} (F : Fun K "law" "law" sLaw f fd) (T : Blt mg)
    (D1 : Df P w K mg base 1 "_law_pen" ["_law_script"] (spPen K)) (D2 : Df P w K mg base 3 "_law_value" ["_law_pen_here"] spValue) (D3 : Df P w K mg base 2 "is_key" ["value"] spIsKey) (D4 : Df P w K mg base 1 "is_name" ["value"] spIsName)
    {f8 : Addr} {fd8 : FuncData} (G8 : FnG P w K mg base 9 f8 fd8 ["_law_pen_here", "_law_value_here"] (spRight [(TT, q)])) (g8 : mg "_law_right" = some (.ref f8)) (k8 : PySem.W.keepIn K (.ref f8) = true) (b8 : Binds K fd8 ["_law_pen_here", "_law_value_here"] []) :
    FnG P w K mg base 10 f fd ["_law_script"] (spLawT K TT) := by
  obtain ⟨f1, fd1, G1, g1, k1, b1⟩ := D1.ex
  obtain ⟨f2, fd2, G2, g2, k2, b2⟩ := D2.ex
  obtain ⟨f3, fd3, G3, g3, k3, b3⟩ := D3.ex
  obtain ⟨f4, fd4, G4, g4, k4, b4⟩ := D4.ex
  refine fng_of F scLaw (fun vs H Q E h => ?_) (fun cdv A outer s H vs Q E hr gd h => ?_)
  · obtain ⟨a, ns, rfl, _⟩ := h
    rfl
  · obtain ⟨a, ns, rfl, hS, hlen, hT, kk⟩ := h
    have hr1 : Room 1 _ := hr.mono (by decide)
    have hr2 : Room 2 _ := hr.mono (by decide)
    have hr3 : Room 3 _ := hr.mono (by decide)
    have hr8 : Room 9 _ := hr.mono (by decide)
    refine ⟨_, pss_cons (ps_set (i := 1) scLaw.nd rfl (.inl rfl) (pe_call G1 hr1 (by rfl) g1 k1 b1 .nil pass0 (pa_cons (pv 0) pa_nil)))
      (pss_cons (ps_for PassesOwn.never rfl (pi_range1 rfl T.range (pa_cons pe_int pa_nil)) (pg_name (i := 2) scLaw.nd rfl (.inl rfl))
        (pss_one (ps_if (pt_not (pt_val (pe_callG (E := E0) G8 hr8 gd (by rfl) g8 k8 b8 (pa_cons (pv 1) (pa_cons (pe_call G2 hr3 (by rfl) g2 k2 b2 .nil pass0 (pa_cons (pv 1) pa_nil)) pa_nil))))) (pss_one (ps_ret pe_bl)) pss_nil)))
      (pss_cons (ps_set (i := 3) scLaw.nd rfl (.inl rfl) (pe_lst (pa_cons (pe_call G3 hr2 (by rfl) g3 k3 b3 .nil pass0 (pa_cons (pe_op op_sub (pe_op op_pow pe_int pe_int) pe_int) pa_nil)) (pa_cons (pe_call G3 hr2 (by rfl) g3 k3 b3 .nil pass0 (pa_cons (pe_op op_sub pe_int (pe_op op_pow pe_int pe_int)) pa_nil))
        (pa_cons (pe_call G3 hr2 (by rfl) g3 k3 b3 .nil pass0 (pa_cons (pe_op op_pow pe_int pe_int) pa_nil)) (pa_cons (pe_call G3 hr2 (by rfl) g3 k3 b3 .nil pass0 (pa_cons (pe_un un_neg (pe_op op_pow pe_int pe_int)) pa_nil)) (pa_cons (pe_call G3 hr2 (by rfl) g3 k3 b3 .nil pass0 (pa_cons pe_bl pa_nil)) pa_nil)))))))
      (pss_one (ps_ret (pe_and (pe_cmpR (op_eqD (Room.units hr)) (pv 3) (pe_lst (pa_cons pe_bl (pa_cons pe_bl (pa_cons pe_bl (pa_cons pe_bl (pa_cons pe_bl pa_nil)))))) (nomark _)) (pe_and (pe_call G4 hr1 (by rfl) g4 k4 b4 .nil pass0 (pa_cons pe_str pa_nil)) (pe_one (pe_not (pe_call G4 hr1 (by rfl) g4 k4 b4 .nil pass0 (pa_cons pe_str pa_nil)))))))))), ?_⟩
    refine ⟨_, rfl, a, ns, rfl, hS, hlen, fun p L H1 np s1 pn0 => ?_⟩
    have tb1 : Tabs [(TT, q)] H1 := fun z hz => by rw [List.mem_singleton.mp hz]; exact TabS.nil (s1 _ _ hT)
    refine ⟨20, rfl, by decide, by decide, for_range (n := 20) (fun i σ H2 => (∃ v2 : Option V, σ = [some (.ref a), some (.ref p), v2, none]) ∧ Pen L H2 p (40 * (i : Int)) ∧ Tabs [(TT, q)] H2) ⟨⟨none, rfl⟩, pn0.mono (by decide), tb1⟩ ?_ ?_⟩
    · rintro i σ H4 hi ⟨⟨v2, rfl⟩, pn, tb⟩
      obtain ⟨xs, hx⟩ := pn.some
      refine ⟨_, rfl, _, rfl, p, L, _, rfl, by omega, pn, fun v d H5 vk vp t5 p5 => ?_⟩
      refine ⟨p, L, _, v, d, rfl, by omega, p5, vk, vp, Tabs.but tb hx t5, fun H6 p6 T6 => ⟨_, rfl, iteF ?_⟩⟩
      exact ⟨⟨_, rfl⟩, p6.mono (by omega), T6⟩
    · rintro σ H4 ⟨⟨v2, rfl⟩, pn, tb⟩
      refine ⟨_, _, rfl, rfl, ⟨by decide, by decide, by decide⟩, _, _, rfl, rfl, _, rfl, tyd_int _ _, ?_⟩
      refine ⟨_, _, rfl, rfl, ⟨by decide, by decide, by decide⟩, _, _, rfl, rfl, _, rfl, tyd_int _ _, ?_⟩
      refine ⟨_, _, rfl, rfl, ⟨by decide, by decide, by decide⟩, _, rfl, tyd_int _ _, ?_⟩
      refine ⟨_, _, rfl, rfl, ⟨by decide, by decide, by decide⟩, _, rfl, _, rfl, tyd_int _ _, ?_⟩
      refine ⟨_, rfl, tyd_bl _ _, (by show 5 ≤ sizeLine; decide), fun l nl => ?_⟩
      have f1 : fitsB (.int (10 ^ Int.toNat 30 - 1)) = true := by decide +kernel
      have f2 : fitsB (.int (1 - 10 ^ Int.toNat 30)) = true := by decide +kernel
      have f3 : fitsB (.int (10 ^ Int.toNat 30)) = false := by decide +kernel
      have f4 : fitsB (.int (-(10 ^ Int.toNat 30))) = false := by decide +kernel
      have hl : upd H4 l (HO.lst [V.bl (fitsB (.int (10 ^ Int.toNat 30 - 1))), V.bl (fitsB (.int (1 - 10 ^ Int.toNat 30))), V.bl (fitsB (.int (10 ^ Int.toNat 30))), V.bl (fitsB (.int (-(10 ^ Int.toNat 30)))), V.bl (fitsB (.bl true))]) l = some (.lst [.bl true, .bl true, .bl false, .bl false, .bl false]) := by
        rw [upd_same, f1, f2, f3, f4]
        rfl
      generalize hG : upd H4 l _ = H5
      have hl5 : H5 l = some (.lst [.bl true, .bl true, .bl false, .bl false, .bl false]) := by rw [← hG]; exact hl
      clear hl hG
      have n1 : nmB (.str "abcdefgh") = true := by decide +kernel
      have n2 : nmB (.str "abcdefghi") = false := by decide +kernel
      have c1 : ShortS (.str "abcdefgh") := fun x e => by cases e; exact ⟨by decide +kernel, by decide +kernel⟩
      have c2 : ShortS (.str "abcdefghi") := fun x e => by cases e; exact ⟨by decide +kernel, by decide +kernel⟩
      have dd : ∀ {G : Hp} {b : Addr}, G b = some (.lst [.bl true, .bl true, .bl false, .bl false, .bl false]) → Dp K G (.ref b) (.list [.bool true, .bool true, .bool false, .bool false, .bool false]) := fun e => .lst (SqL.of e) (.cons (.bl _) (.cons (.bl _) (.cons (.bl _) (.cons (.bl _) (.cons (.bl _) .nil)))))
      refine ⟨_, rfl, (by show 5 ≤ sizeLine; decide), fun l2 nl2 => ⟨_, _, dd (same_new nl2 _ _ hl5), dd upd_same, by decide +kernel, by decide +kernel, _, rfl, ?_⟩⟩
      rw [show PyData.eqv (.list [.bool true, .bool true, .bool false, .bool false, .bool false]) (.list [.bool true, .bool true, .bool false, .bool false, .bool false]) = true by decide +kernel]
      refine iteT ⟨_, rfl, tyd_str _ _, c1, fun H6 _ => ⟨_, rfl, ?_⟩⟩
      rw [n1]
      refine iteT ⟨_, rfl, tyd_str _ _, c2, fun H7 _ => ⟨_, rfl, ?_⟩⟩
      rw [n2]
      exact kk _
end
end Ev
namespace Ev
open PySem L2 PySem.Spec PyProof.Rows LamX
/-- the table of a code object -/
def tabAt (K : PySem.W.Frag) (c : Addr) : Addr := match K.lookup c with
  | some ⟨_, _, .fields vs, _⟩ => (match (vs[11]? : Option Value) with | some (.ref T) => T | _ => 0)
  | _ => 0
theorem kb_gK {K : PySem.W.Frag} {x qual y : Str} {st : Stmt} {f : Addr} {fd : FuncData} (F : Fun K x qual st f fd)
    (h : ∀ (kV doc pm : Value) (an : Option Addr) (cdv ct a : Value), bindArgs (PySem.W.fnOf x qual (defArgs st) (defBody st) (defScope st) .none kV doc pm an cdv ct) ⟨[], [(y, a)]⟩ = pure [(y, a)]) : KBinds K fd [y] [y] gK gK := by
  obtain ⟨oc, od, kV, doc, pm, an, cdv, ct, osl, rfl, lk, hcd⟩ := F.ex
  refine ⟨fun s us ws _ hl => ?_, gK_rel⟩
  obtain ⟨a, rfl, rfl⟩ := gK_len hl
  exact .of_eq (h _ _ _ _ _ _ _)
theorem kb_gW {K : PySem.W.Frag} {x qual : Str} {st : Stmt} {f : Addr} {fd : FuncData} (F : Fun K x qual st f fd)
    (h : ∀ (kV doc pm : Value) (an : Option Addr) (cdv ct a b c : Value), bindArgs (PySem.W.fnOf x qual (defArgs st) (defBody st) (defScope st) .none kV doc pm an cdv ct) ⟨[], (["most", "least", "value"] : List Str).zip [a, b, c]⟩ = pure ((["value", "least", "most"] : List Str).zip [c, b, a])) : KBinds K fd ["value", "least", "most"] ["most", "least", "value"] gW gW := by
  obtain ⟨oc, od, kV, doc, pm, an, cdv, ct, osl, rfl, lk, hcd⟩ := F.ex
  refine ⟨fun s us ws _ hl => ?_, gW_rel⟩
  obtain ⟨a, b, c, rfl, rfl⟩ := gW_len hl
  exact .of_eq (h _ _ _ _ _ _ _ _ _)
theorem walk_ofGTK {l : PySem.W.OpenLaw} {n k : Nat} {q : Program} {loose : List Str} {XP : (Str → Option Value) → Heap → Prop} {YP : World → Heap → Prop}
    {d : DefRec} {K : Params → PySem.W.Frag} {x xr : Str} (hn : l.most = some n) (hn2 : n ≤ sizeLine) (hdf : d.params.defaults = []) (hr : Room k callerA) (hrec : ((recsOf q).any fun e => e.name == xr) = true)
    (hY : ∀ (w : World) (h : Heap), YP w h → (K w.params).In h)
    (F : ∀ (w : World) (mg : Str → Option Value) (fa : Addr) (h : Heap), (K w.params).In h → h.Ns mainGlobals mg → mg d.name = some (.ref fa) →
      ∃ (fd fdr : FuncData) (sp : Sp) (fr c T : Addr) (o : Obj), (∀ (s : Shared) (u : Value), BindsTo s fd ⟨[u], []⟩ [(x, u)]) ∧
        mg xr = some (.ref fr) ∧ (K w.params).lookup fr = some o ∧ o.data = .func fdr ∧ fdr.code = .ref c ∧ PySem.W.codeHdIn (K w.params) c T = true ∧ (K w.params).lookup T = none ∧
        (∀ (H : Hp) (a : Addr) (ns : List Int), ns.length ≤ n → H T = some (.tbl #[]) → SqL (K w.params) H a (ns.map V.int) → sp [.ref a] H (fun v _ => v = .bl true) fun _ _ _ => False) ∧
        ∀ base : Heap, (K w.params).In base → base.Ns mainGlobals mg → TabB base mg c T → FnG l.prog w (K w.params) mg base k fa fd [x] sp) :
    PySem.W.WalkO q loose XP YP l.row.toRowW d [] (fun f vs => PySem.call f vs) :=
  walk_ofGT hn hn2 hdf hr hrec fun w mg fa h Y ns hm => by
    obtain ⟨fd, fdr, sp, fr, c, T, o, r⟩ := F w mg fa h (hY w h Y) ns hm
    exact ⟨K w.params, fd, fdr, sp, fr, c, T, o, hY w h Y, r⟩
theorem kit_clsB {K : PySem.W.Frag} {t : Value} {C : Addr} {b : Bool} (h1 : PySem.W.isClsIn K C = true) (h2 : PySem.W.typeIn K (.ref C) = some (.type "type")) (h3 : PySem.W.subIn K t (.ref C) = some b) : PySem.W.kitCls K t (.ref C) = some b := by
  have h1 : (PySem.W.clsIn K C).isSome = true := h1
  unfold PySem.W.kitCls
  simp only [h1, h2, h3]
  cases b <;> decide
theorem kit_own {K : PySem.W.Frag} {t : Value} {C : Addr} (h1 : PySem.W.isClsIn K C = true) (h2 : PySem.W.typeIn K (.ref C) = some (.type "type")) (h3 : PySem.W.subIn K t (.ref C) = some true) : PySem.W.kitOne K t (.ref C) = some true := by
  unfold PySem.W.kitOne
  split
  · rfl
  · exact kit_clsB h1 h2 h3
theorem kit_not {K : PySem.W.Frag} {D C : Addr} (h1 : PySem.W.isClsIn K C = true) (h2 : PySem.W.typeIn K (.ref C) = some (.type "type")) (h3 : PySem.W.subIn K (.ref D) (.ref C) = some false) (h4 : PySem.W.subIn K (.ref C) (.ref C) = some true) : PySem.W.kitOne K (.ref D) (.ref C) = some false := by
  unfold PySem.W.kitOne
  split
  · rename_i z
    by_cases e : D = C
    · rw [e, h4] at h3
      cases h3
    · have n : ((Value.ref D) == (Value.ref C)) = false := by simp [e]
      rw [n] at z
      cases z
  · exact kit_clsB h1 h2 h3
theorem exm_own {K : PySem.W.Frag} {t : Value} {C : Addr} (h1 : PySem.W.isClsIn K C = true) (h2 : PySem.W.typeIn K (.ref C) = some (.type "type")) (h3 : PySem.W.subIn K t (.ref C) = some true) (h4 : PySem.W.subIn K (.ref C) (.type "BaseException") = some true) : PySem.W.exmOne K t (.ref C) = some true := by
  unfold PySem.W.exmOne
  rw [h4, if_pos (by decide)]
  exact kit_clsB h1 h2 h3
set_option maxHeartbeats 4000000 in
theorem all_mk {l : PySem.W.OpenLaw} {w : World} {K : PySem.W.Frag} {h : Heap} {mg : Str → Option Value} {f0 f1 f2 f3 f4 f5 f6 f7 f8 f9 f10 f11 f12 cL f13 f14 f15 f90 f91 f16 CK CN FE f30 f31 fa : Addr} {od0 an0 od1 an1 od2 an2 od3 an3 od4 an4 od5 an5 od6 an6 od7 an7 od8 an8 od9 an9 od10 an10 od11 an11 od12 an12 od13 an13 od14 an14 od15 od90 od91 an15 an90 an91 od16 an16 od30 an30 od31 an31 : Option Addr} {sl0 sl1 sl2 sl3 sl4 sl5 sl6 sl7 sl8 sl9 sl10 sl11 sl12 sl13 sl14 sl15 sl90 sl91 sl16 sl30 sl31 : Array (Option Value)} {oc0 kV0 dc0 pm0 ct0 cd0 oc1 kV1 dc1 pm1 ct1 cd1 oc2 kV2 dc2 pm2 ct2 cd2 oc3 kV3 dc3 pm3 ct3 cd3 oc4 kV4 dc4 pm4 ct4 cd4 oc5 kV5 dc5 pm5 ct5 cd5 oc6 kV6 dc6 pm6 ct6 cd6 oc7 kV7 dc7 pm7 ct7 cd7 oc8 kV8 dc8 pm8 ct8 cd8 oc9 kV9 dc9 pm9 ct9 cd9 oc10 kV10 dc10 pm10 ct10 cd10 oc11 kV11 dc11 pm11 ct11 cd11 oc12 kV12 dc12 pm12 ct12 oc13 kV13 dc13 pm13 ct13 cd13 oc14 kV14 dc14 pm14 ct14 cd14 oc15 oc90 oc91 kV15 kV90 kV91 dc15 dc90 dc91 pm15 pm90 pm91 ct15 ct90 ct91 cd15 cd90 cd91 oc16 kV16 dc16 pm16 ct16 cd16 oc30 kV30 dc30 pm30 ct30 cd30 oc31 kV31 dc31 pm31 ct31 cd31 : Value} {tK tN tL : Tok} {nmCK qCK nsCK bsCK bmCK snCK subCK abCK colCK ddCK k0CK k1CK k2CK k3CK k5CK nmCN qCN nsCN bsCN bmCN snCN subCN abCN colCN ddCN k0CN k1CN k2CN k3CN k5CN : _} (X : K.In h) (G : h.Ns mainGlobals mg) (hfa : mg "law" = some (.ref fa))
    (a0 : PySem.W.nsIn K mainGlobals "is_integer" = some (some (.ref f0)))
    (l0 : K.lookup f0 = some ⟨oc0, od0, .func (PySem.W.fnOf "is_integer" "is_integer" (defArgs sIsInt) (defBody sIsInt) (defScope sIsInt) .none kV0 dc0 pm0 an0 cd0 ct0), sl0⟩)
    (c0 : PySem.W.codeIn K cd0 "is_integer" = true)
    (k0 : PySem.W.keepIn K (.ref f0) = true)
    (a1 : PySem.W.nsIn K mainGlobals "is_within" = some (some (.ref f1)))
    (l1 : K.lookup f1 = some ⟨oc1, od1, .func (PySem.W.fnOf "is_within" "is_within" (defArgs sWithin) (defBody sWithin) (defScope sWithin) .none kV1 dc1 pm1 an1 cd1 ct1), sl1⟩)
    (c1 : PySem.W.codeIn K cd1 "is_within" = true)
    (k1 : PySem.W.keepIn K (.ref f1) = true)
    (a2 : PySem.W.nsIn K mainGlobals "is_key" = some (some (.ref f2)))
    (l2 : K.lookup f2 = some ⟨oc2, od2, .func (PySem.W.fnOf "is_key" "is_key" (defArgs sIsKey) (defBody sIsKey) (defScope sIsKey) .none kV2 dc2 pm2 an2 cd2 ct2), sl2⟩)
    (c2 : PySem.W.codeIn K cd2 "is_key" = true)
    (k2 : PySem.W.keepIn K (.ref f2) = true)
    (a3 : PySem.W.nsIn K mainGlobals "is_name" = some (some (.ref f3)))
    (l3 : K.lookup f3 = some ⟨oc3, od3, .func (PySem.W.fnOf "is_name" "is_name" (defArgs sIsName) (defBody sIsName) (defScope sIsName) .none kV3 dc3 pm3 an3 cd3 ct3), sl3⟩)
    (c3 : PySem.W.codeIn K cd3 "is_name" = true)
    (k3 : PySem.W.keepIn K (.ref f3) = true)
    (a4 : PySem.W.nsIn K mainGlobals "need_key" = some (some (.ref f4)))
    (l4 : K.lookup f4 = some ⟨oc4, od4, .func (PySem.W.fnOf "need_key" "need_key" (defArgs sNeedK) (defBody sNeedK) (defScope sNeedK) .none kV4 dc4 pm4 an4 cd4 ct4), sl4⟩)
    (c4 : PySem.W.codeIn K cd4 "need_key" = true)
    (k4 : PySem.W.keepIn K (.ref f4) = true)
    (a5 : PySem.W.nsIn K mainGlobals "need_name" = some (some (.ref f5)))
    (l5 : K.lookup f5 = some ⟨oc5, od5, .func (PySem.W.fnOf "need_name" "need_name" (defArgs sNeedN) (defBody sNeedN) (defScope sNeedN) .none kV5 dc5 pm5 an5 cd5 ct5), sl5⟩)
    (c5 : PySem.W.codeIn K cd5 "need_name" = true)
    (k5 : PySem.W.keepIn K (.ref f5) = true)
    (a6 : PySem.W.nsIn K mainGlobals "_law_pen" = some (some (.ref f6)))
    (l6 : K.lookup f6 = some ⟨oc6, od6, .func (PySem.W.fnOf "_law_pen" "_law_pen" (defArgs sPen) (defBody sPen) (defScope sPen) .none kV6 dc6 pm6 an6 cd6 ct6), sl6⟩)
    (c6 : PySem.W.codeIn K cd6 "_law_pen" = true)
    (k6 : PySem.W.keepIn K (.ref f6) = true)
    (a7 : PySem.W.nsIn K mainGlobals "_law_draw" = some (some (.ref f7)))
    (l7 : K.lookup f7 = some ⟨oc7, od7, .func (PySem.W.fnOf "_law_draw" "_law_draw" (defArgs sDraw) (defBody sDraw) (defScope sDraw) .none kV7 dc7 pm7 an7 cd7 ct7), sl7⟩)
    (c7 : PySem.W.codeIn K cd7 "_law_draw" = true)
    (k7 : PySem.W.keepIn K (.ref f7) = true)
    (a8 : PySem.W.nsIn K mainGlobals "_law_pick" = some (some (.ref f8)))
    (l8 : K.lookup f8 = some ⟨oc8, od8, .func (PySem.W.fnOf "_law_pick" "_law_pick" (defArgs sPick) (defBody sPick) (defScope sPick) .none kV8 dc8 pm8 an8 cd8 ct8), sl8⟩)
    (c8 : PySem.W.codeIn K cd8 "_law_pick" = true)
    (k8 : PySem.W.keepIn K (.ref f8) = true)
    (a9 : PySem.W.nsIn K mainGlobals "_law_value" = some (some (.ref f9)))
    (l9 : K.lookup f9 = some ⟨oc9, od9, .func (PySem.W.fnOf "_law_value" "_law_value" (defArgs sValue) (defBody sValue) (defScope sValue) .none kV9 dc9 pm9 an9 cd9 ct9), sl9⟩)
    (c9 : PySem.W.codeIn K cd9 "_law_value" = true)
    (k9 : PySem.W.keepIn K (.ref f9) = true)
    (a10 : PySem.W.nsIn K mainGlobals "_law_is_name" = some (some (.ref f10)))
    (l10 : K.lookup f10 = some ⟨oc10, od10, .func (PySem.W.fnOf "_law_is_name" "_law_is_name" (defArgs sLName) (defBody sLName) (defScope sLName) .none kV10 dc10 pm10 an10 cd10 ct10), sl10⟩)
    (c10 : PySem.W.codeIn K cd10 "_law_is_name" = true)
    (k10 : PySem.W.keepIn K (.ref f10) = true)
    (a11 : PySem.W.nsIn K mainGlobals "_law_heard" = some (some (.ref f11)))
    (l11 : K.lookup f11 = some ⟨oc11, od11, .func (PySem.W.fnOf "_law_heard" "_law_heard" (defArgs sHeard) (defBody sHeard) (defScope sHeard) .none kV11 dc11 pm11 an11 cd11 ct11), sl11⟩)
    (c11 : PySem.W.codeIn K cd11 "_law_heard" = true)
    (k11 : PySem.W.keepIn K (.ref f11) = true)
    (a12 : PySem.W.nsIn K mainGlobals "_law_right" = some (some (.ref f12)))
    (l12 : K.lookup f12 = some ⟨oc12, od12, .func (PySem.W.fnOf "_law_right" "_law_right" (defArgs sRight) (defBody sRight) (defScope sRight) .none kV12 dc12 pm12 an12 (.ref cL) ct12), sl12⟩)
    (c12 : PySem.W.codeIn K (.ref cL) "_law_right" = true)
    (k12 : PySem.W.keepIn K (.ref f12) = true)
    (a13 : PySem.W.nsIn K mainGlobals "law" = some (some (.ref f13)))
    (l13 : K.lookup f13 = some ⟨oc13, od13, .func (PySem.W.fnOf "law" "law" (defArgs sLaw) (defBody sLaw) (defScope sLaw) .none kV13 dc13 pm13 an13 cd13 ct13), sl13⟩)
    (c13 : PySem.W.codeIn K cd13 "law" = true)
    (k13 : PySem.W.keepIn K (.ref f13) = true)
    (a14 : PySem.W.nsIn K mainGlobals "kept" = some (some (.ref f14)))
    (l14 : K.lookup f14 = some ⟨oc14, od14, .func (PySem.W.fnOf "kept" "kept" (defArgs sKept) (defBody sKept) (defScope sKept) .none kV14 dc14 pm14 an14 cd14 ct14), sl14⟩)
    (c14 : PySem.W.codeIn K cd14 "kept" = true)
    (k14 : PySem.W.keepIn K (.ref f14) = true)
    (a15 : PySem.W.nsIn K mainGlobals "parts_of" = some (some (.ref f15)))
    (l15 : K.lookup f15 = some ⟨oc15, od15, .func (PySem.W.fnOf "parts_of" "parts_of" (defArgs sParts) (defBody sParts) (defScope sParts) .none kV15 dc15 pm15 an15 cd15 ct15), sl15⟩)
    (c15 : PySem.W.codeIn K cd15 "parts_of" = true)
    (k15 : PySem.W.keepIn K (.ref f15) = true)
    (a90 : PySem.W.nsIn K mainGlobals "is_flat" = some (some (.ref f90)))
    (l90 : K.lookup f90 = some ⟨oc90, od90, .func (PySem.W.fnOf "is_flat" "is_flat" (defArgs sFlat) (defBody sFlat) (defScope sFlat) .none kV90 dc90 pm90 an90 cd90 ct90), sl90⟩)
    (c90 : PySem.W.codeIn K cd90 "is_flat" = true)
    (k90 : PySem.W.keepIn K (.ref f90) = true)
    (a91 : PySem.W.nsIn K mainGlobals "copied_deep" = some (some (.ref f91)))
    (l91 : K.lookup f91 = some ⟨oc91, od91, .func (PySem.W.fnOf "copied_deep" "copied_deep" (defArgs sCopied) (defBody sCopied) (defScope sCopied) .none kV91 dc91 pm91 an91 cd91 ct91), sl91⟩)
    (c91 : PySem.W.codeIn K cd91 "copied_deep" = true)
    (k91 : PySem.W.keepIn K (.ref f91) = true)
    (a16 : PySem.W.nsIn K mainGlobals "rebuilt" = some (some (.ref f16)))
    (l16 : K.lookup f16 = some ⟨oc16, od16, .func (PySem.W.fnOf "rebuilt" "rebuilt" (defArgs sRebuilt) (defBody sRebuilt) (defScope sRebuilt) .none kV16 dc16 pm16 an16 cd16 ct16), sl16⟩)
    (c16 : PySem.W.codeIn K cd16 "rebuilt" = true)
    (k16 : PySem.W.keepIn K (.ref f16) = true)
    (aCK : PySem.W.nsIn K mainGlobals "BadKey" = some (some (.ref CK)))
    (aCN : PySem.W.nsIn K mainGlobals "BadName" = some (some (.ref CN)))
    (aFE : PySem.W.nsIn K mainGlobals "FairError" = some (some (.ref FE)))
    (icCK : PySem.W.isClsIn K CK = true)
    (ttCK : PySem.W.typeIn K (.ref CK) = some (.type "type"))
    (icCN : PySem.W.isClsIn K CN = true)
    (ttCN : PySem.W.typeIn K (.ref CN) = some (.type "type"))
    (icFE : PySem.W.isClsIn K FE = true)
    (ttFE : PySem.W.typeIn K (.ref FE) = some (.type "type"))
    (suKK : PySem.W.subIn K (.ref CK) (.ref CK) = some true)
    (suNN : PySem.W.subIn K (.ref CN) (.ref CN) = some true)
    (suNK : PySem.W.subIn K (.ref CN) (.ref CK) = some false)
    (suKF : PySem.W.subIn K (.ref CK) (.ref FE) = some true)
    (suNF : PySem.W.subIn K (.ref CN) (.ref FE) = some true)
    (suFX : PySem.W.subIn K (.ref FE) (.type "BaseException") = some true)
    (gaCK : PySem.W.findIn K (.ref CK) "__getattribute__" = some (some (.builtin "BaseException.__getattribute__")))
    (ggCK : PySem.W.findIn K (.ref CK) "__getattr__" = some none)
    (hdCK : PySem.W.hasDictIn K CK = true)
    (hcCK : PySem.W.findIn K (.ref CK) "__class__" = some (some (.builtin "object.__class__")))
    (moCK : PySem.W.mroIn K CK (.type "object") = some true)
    (saCK : PySem.W.findIn K (.ref CK) "__setattr__" = some (some (.builtin "object.__setattr__")))
    (exCK : PySem.W.subIn K (.ref CK) (.type "BaseException") = some true)
    (keCK : PySem.W.keepIn K (.ref CK) = true)
    (noCK : PySem.W.findIn K (.ref CK) "value" = some none)
    (lxCK : K.lookup CK = some (excClassObj nmCK qCK CK nsCK bsCK bmCK true snCK subCK abCK colCK ddCK k0CK k1CK k2CK k3CK k5CK "ValueError.__new__"))
    (rxCK : PySem.HandSPX.refsVE bmCK = true)
    (gaCN : PySem.W.findIn K (.ref CN) "__getattribute__" = some (some (.builtin "BaseException.__getattribute__")))
    (ggCN : PySem.W.findIn K (.ref CN) "__getattr__" = some none)
    (hdCN : PySem.W.hasDictIn K CN = true)
    (hcCN : PySem.W.findIn K (.ref CN) "__class__" = some (some (.builtin "object.__class__")))
    (moCN : PySem.W.mroIn K CN (.type "object") = some true)
    (saCN : PySem.W.findIn K (.ref CN) "__setattr__" = some (some (.builtin "object.__setattr__")))
    (exCN : PySem.W.subIn K (.ref CN) (.type "BaseException") = some true)
    (keCN : PySem.W.keepIn K (.ref CN) = true)
    (noCN : PySem.W.findIn K (.ref CN) "value" = some none)
    (lxCN : K.lookup CN = some (excClassObj nmCN qCN CN nsCN bsCN bmCN true snCN subCN abCN colCN ddCN k0CN k1CN k2CN k3CN k5CN "ValueError.__new__"))
    (rxCN : PySem.HandSPX.refsVE bmCN = true)
    (hdL : PySem.W.codeHdIn K cL (tabAt K cL) = true)
    (noT : K.lookup (tabAt K cL) = none)
    (ikn : PySem.W.specialIn K (.builtin "object.__class__") "__get__" = some (some (.builtin "getset_descriptor.__get__")))
    (ikt : PySem.W.takesIn K (.builtin "object.__class__") = some true)
    (m30 : PySem.W.findIn K (.ref CK) "__init__" = some (some (.ref f30)))
    (l30 : K.lookup f30 = some ⟨oc30, od30, .func (PySem.W.fnOf "__init__" "BadKey.__init__" (defArgs sKInit) (defBody sKInit) (defScope sKInit) .none kV30 dc30 pm30 an30 cd30 ct30), sl30⟩)
    (c30 : PySem.W.codeIn K cd30 "BadKey.__init__" = true)
    (k30 : PySem.W.keepIn K (.ref f30) = true)
    (ty30 : PySem.W.typeIn K (.ref f30) = some (.type "function"))
    (m31 : PySem.W.findIn K (.ref CN) "__init__" = some (some (.ref f31)))
    (l31 : K.lookup f31 = some ⟨oc31, od31, .func (PySem.W.fnOf "__init__" "BadName.__init__" (defArgs sNInit) (defBody sNInit) (defScope sNInit) .none kV31 dc31 pm31 an31 cd31 ct31), sl31⟩)
    (c31 : PySem.W.codeIn K cd31 "BadName.__init__" = true)
    (k31 : PySem.W.keepIn K (.ref f31) = true)
    (ty31 : PySem.W.typeIn K (.ref f31) = some (.type "function"))
    (hgK : PySem.W.nsIn K mainGlobals "KEY_BOUND" = some (some (.int (10 ^ 30) tK)))
    (hgN : PySem.W.nsIn K mainGlobals "NAME_LENGTH" = some (some (.int 8 tN)))
    (hgL : PySem.W.nsIn K mainGlobals "LETTERS" = some (some (.str "abcdefghijklmnopqrstuvwxyz" tL)))
    (zint : PySem.W.nsIn K mainGlobals "int" = some none)
    (zlen : PySem.W.nsIn K mainGlobals "len" = some none)
    (zabs : PySem.W.nsIn K mainGlobals "abs" = some none)
    (zlist : PySem.W.nsIn K mainGlobals "list" = some none)
    (zmin : PySem.W.nsIn K mainGlobals "min" = some none)
    (zmax : PySem.W.nsIn K mainGlobals "max" = some none)
    (zisinstance : PySem.W.nsIn K mainGlobals "isinstance" = some none)
    (zbool : PySem.W.nsIn K mainGlobals "bool" = some none)
    (ztuple : PySem.W.nsIn K mainGlobals "tuple" = some none)
    (zall : PySem.W.nsIn K mainGlobals "all" = some none)
    (zrange : PySem.W.nsIn K mainGlobals "range" = some none)
    (zrepr : PySem.W.nsIn K mainGlobals "repr" = some none)
    (zany : PySem.W.nsIn K mainGlobals "any" = some none)
    (zdict : PySem.W.nsIn K mainGlobals "dict" = some none)
    (zzip : PySem.W.nsIn K mainGlobals "zip" = some none)
    (zstr : PySem.W.nsIn K mainGlobals "str" = some none) :
    ∃ (fd fdr : FuncData) (sp : Sp) (fr c T : Addr) (o : Obj), (∀ (s : Shared) (u : Value), BindsTo s fd ⟨[u], []⟩ [("_law_script", u)]) ∧ mg "_law_right" = some (.ref fr) ∧ K.lookup fr = some o ∧ o.data = .func fdr ∧ fdr.code = .ref c ∧ PySem.W.codeHdIn K c T = true ∧ K.lookup T = none ∧
      (∀ (H : Hp) (a : Addr) (ns : List Int), ns.length ≤ 63 → H T = some (.tbl #[]) → SqL K H a (ns.map V.int) → sp [.ref a] H (fun v _ => v = .bl true) fun _ _ _ => False) ∧
      ∀ base : Heap, K.In base → base.Ns mainGlobals mg → TabB base mg c T → FnG l.prog w K mg base 10 fa fd ["_law_script"] sp := by
  have e := hfa.symm.trans (PySem.W.mg_of X G a13)
  cases e
  have F0 := fun_mk (st := sIsInt) l0 c0 k0
  have b0 := F0.binds (ps := ["value"]) fun _ _ _ _ _ _ us hl => match us, hl with | [_], _ => rfl
  have F1 := fun_mk (st := sWithin) l1 c1 k1
  have b1 := F1.binds (ps := ["value", "least", "most"]) fun _ _ _ _ _ _ us hl => match us, hl with | [_, _, _], _ => rfl
  have F2 := fun_mk (st := sIsKey) l2 c2 k2
  have b2 := F2.binds (ps := ["value"]) fun _ _ _ _ _ _ us hl => match us, hl with | [_], _ => rfl
  have F3 := fun_mk (st := sIsName) l3 c3 k3
  have b3 := F3.binds (ps := ["value"]) fun _ _ _ _ _ _ us hl => match us, hl with | [_], _ => rfl
  have F4 := fun_mk (st := sNeedK) l4 c4 k4
  have b4 := F4.binds (ps := ["value"]) fun _ _ _ _ _ _ us hl => match us, hl with | [_], _ => rfl
  have F5 := fun_mk (st := sNeedN) l5 c5 k5
  have b5 := F5.binds (ps := ["value"]) fun _ _ _ _ _ _ us hl => match us, hl with | [_], _ => rfl
  have F6 := fun_mk (st := sPen) l6 c6 k6
  have b6 := F6.binds (ps := ["_law_script"]) fun _ _ _ _ _ _ us hl => match us, hl with | [_], _ => rfl
  have F7 := fun_mk (st := sDraw) l7 c7 k7
  have b7 := F7.binds (ps := ["_law_pen_here", "_law_many"]) fun _ _ _ _ _ _ us hl => match us, hl with | [_, _], _ => rfl
  have F8 := fun_mk (st := sPick) l8 c8 k8
  have b8 := F8.binds (ps := ["_law_pen_here", "_law_some"]) fun _ _ _ _ _ _ us hl => match us, hl with | [_, _], _ => rfl
  have F9 := fun_mk (st := sValue) l9 c9 k9
  have b9 := F9.binds (ps := ["_law_pen_here"]) fun _ _ _ _ _ _ us hl => match us, hl with | [_], _ => rfl
  have F10 := fun_mk (st := sLName) l10 c10 k10
  have b10 := F10.binds (ps := ["_law_value_here"]) fun _ _ _ _ _ _ us hl => match us, hl with | [_], _ => rfl
  have F11 := fun_mk (st := sHeard) l11 c11 k11
  have b11 := F11.binds (ps := ["_law_ask"]) fun _ _ _ _ _ _ us hl => match us, hl with | [_], _ => rfl
  have F12 := fun_mk (st := sRight) l12 c12 k12
  have b12 := F12.binds (ps := ["_law_pen_here", "_law_value_here"]) fun _ _ _ _ _ _ us hl => match us, hl with | [_, _], _ => rfl
  have F13 := fun_mk (st := sLaw) l13 c13 k13
  have b13 := F13.binds (ps := ["_law_script"]) fun _ _ _ _ _ _ us hl => match us, hl with | [_], _ => rfl
  have F14 := fun_mk (st := sKept) l14 c14 k14
  have b14 := F14.binds (ps := ["value"]) fun _ _ _ _ _ _ us hl => match us, hl with | [_], _ => rfl
  have F15 := fun_mk (st := sParts) l15 c15 k15
  have b15 := F15.binds (ps := ["value"]) fun _ _ _ _ _ _ us hl => match us, hl with | [_], _ => rfl
  have F90 := fun_mk (st := sFlat) l90 c90 k90
  have b90 := F90.binds (ps := ["value"]) fun _ _ _ _ _ _ us hl => match us, hl with | [_], _ => rfl
  have F91 := fun_mk (st := sCopied) l91 c91 k91
  have b91 := F91.binds (ps := ["value"]) fun _ _ _ _ _ _ us hl => match us, hl with | [_], _ => rfl
  have F16 := fun_mk (st := sRebuilt) l16 c16 k16
  have b16 := F16.binds (ps := ["value", "parts"]) fun _ _ _ _ _ _ us hl => match us, hl with | [_, _], _ => rfl
  have F30 := fun_mk (st := sKInit) l30 c30 k30
  have b30 := F30.binds (ps := ["self", "value"]) fun _ _ _ _ _ _ us hl => match us, hl with | [_, _], _ => rfl
  have F31 := fun_mk (st := sNInit) l31 c31 k31
  have b31 := F31.binds (ps := ["self", "value"]) fun _ _ _ _ _ _ us hl => match us, hl with | [_, _], _ => rfl
  have T : Blt mg := ⟨PySem.W.mg_none_of X G zint, PySem.W.mg_none_of X G zlen, PySem.W.mg_none_of X G zabs, PySem.W.mg_none_of X G zlist, PySem.W.mg_none_of X G zmin, PySem.W.mg_none_of X G zmax, PySem.W.mg_none_of X G zisinstance, PySem.W.mg_none_of X G zbool, PySem.W.mg_none_of X G ztuple, PySem.W.mg_none_of X G zall, PySem.W.mg_none_of X G zrange, PySem.W.mg_none_of X G zrepr⟩
  have kb0 := kb_gK (y := "value") F0 (fun _ _ _ _ _ _ _ => rfl)
  have kb1 := kb_gW F1 (fun _ _ _ _ _ _ _ _ _ => rfl)
  have kb2 := kb_gK (y := "value") F2 (fun _ _ _ _ _ _ _ => rfl)
  have kb3 := kb_gK (y := "value") F3 (fun _ _ _ _ _ _ _ => rfl)
  have kb4 := kb_gK (y := "value") F4 (fun _ _ _ _ _ _ _ => rfl)
  have kb5 := kb_gK (y := "value") F5 (fun _ _ _ _ _ _ _ => rfl)
  refine ⟨PySem.W.fnOf "law" "law" (defArgs sLaw) (defBody sLaw) (defScope sLaw) .none kV13 dc13 pm13 an13 cd13 ct13, PySem.W.fnOf "_law_right" "_law_right" (defArgs sRight) (defBody sRight) (defScope sRight) .none kV12 dc12 pm12 an12 (.ref cL) ct12, spLawT K (tabAt K cL), f12, cL, tabAt K cL, _, fun s v => .of_eq rfl, PySem.W.mg_of X G a12, l12, rfl, rfl, hdL, noT, fun H a ns hl hT hS => ⟨a, ns, rfl, hS, hl, hT, fun _ => rfl⟩, fun base _ _ TB => ?_⟩
  have G0 := ok_isInt (P := l.prog) (w := w) (mg := mg) (base := base) F0 T
  have d0 : Df l.prog w K mg base 1 "is_integer" ["value"] _ := ⟨f0, _, G0, PySem.W.mg_of X G a0, F0.kp, b0⟩
  have G1 := ok_within (P := l.prog) (w := w) (mg := mg) (base := base) F1 d0
  have G2 := ok_isKey (P := l.prog) (w := w) (mg := mg) (base := base) F2 d0 (PySem.W.mg_of X G hgK)
  have d2 : Df l.prog w K mg base 2 "is_key" ["value"] _ := ⟨f2, _, G2, PySem.W.mg_of X G a2, F2.kp, b2⟩
  have G3 := ok_isName (P := l.prog) (w := w) (mg := mg) (base := base) F3 T (PySem.W.mg_none_of X G zstr) (PySem.W.mg_of X G hgN) (PySem.W.mg_of X G hgL)
  have d3 : Df l.prog w K mg base 1 "is_name" ["value"] _ := ⟨f3, _, G3, PySem.W.mg_of X G a3, F3.kp, b3⟩
  have d15 : Df l.prog w K mg base 1 "parts_of" ["value"] _ := ⟨f15, _, ok_partsV F15 T (PySem.W.mg_none_of X G zdict), PySem.W.mg_of X G a15, F15.kp, b15⟩
  have d16 : Df l.prog w K mg base 1 "rebuilt" ["value", "parts"] _ := ⟨f16, _, ok_rebuilt F16 T (PySem.W.mg_none_of X G zdict) (PySem.W.mg_none_of X G zzip), PySem.W.mg_of X G a16, F16.kp, b16⟩
  have d90 : Df l.prog w K mg base 2 "is_flat" ["value"] _ := ⟨f90, _, ok_flat F90 T (PySem.W.mg_none_of X G zdict), PySem.W.mg_of X G a90, F90.kp, b90⟩
  have d91 : Df l.prog w K mg base 2 "copied_deep" ["value"] _ := ⟨f91, _, ok_copied F91 T (PySem.W.mg_none_of X G zdict) (PySem.W.mg_none_of X G zany) d15 d16, PySem.W.mg_of X G a91, F91.kp, b91⟩
  have d14 : Df l.prog w K mg base 3 "kept" ["value"] _ := ⟨f14, _, ok_keptV F14 T (PySem.W.mg_none_of X G zdict) d90 d91, PySem.W.mg_of X G a14, F14.kp, b14⟩
  have oK : OexC K CK := ⟨⟨_, _, _, _, _, _, _, _, _, _, _, _, _, _, _, lxCK, rxCK⟩, saCK, exCK, ttCK, keCK⟩
  have oN : OexC K CN := ⟨⟨_, _, _, _, _, _, _, _, _, _, _, _, _, _, _, lxCN, rxCN⟩, saCN, exCN, ttCN, keCN⟩
  have G30 := ok_bk (P := l.prog) (w := w) (mg := mg) (base := base) F30 oK noCK d14
  have G31 := ok_bm (P := l.prog) (w := w) (mg := mg) (base := base) F31 oN noCN d14
  have EK : ErrC l.prog w K mg base "BadKey" "value" CK := ⟨oK, PySem.W.mg_of X G aCK, _, _, m30, ty30, G30, b30⟩
  have EN : ErrC l.prog w K mg base "BadName" "value" CN := ⟨oN, PySem.W.mg_of X G aCN, _, _, m31, ty31, G31, b31⟩
  have G4 := ok_needK F4 d2 EK
  have G5 := ok_needN F5 d3 EN
  have d6 : Df l.prog w K mg base 1 "_law_pen" ["_law_script"] _ := ⟨f6, _, ok_pen F6 T, PySem.W.mg_of X G a6, F6.kp, b6⟩
  have d7 : Df l.prog w K mg base 1 "_law_draw" ["_law_pen_here", "_law_many"] _ := ⟨f7, _, ok_draw F7 T, PySem.W.mg_of X G a7, F7.kp, b7⟩
  have d8 : Df l.prog w K mg base 2 "_law_pick" ["_law_pen_here", "_law_some"] _ := ⟨f8, _, ok_pick F8 T d7, PySem.W.mg_of X G a8, F8.kp, b8⟩
  have d8s : Df l.prog w K mg base 2 "_law_pick" ["_law_pen_here", "_law_some"] _ := ⟨f8, _, ok_pickS F8 T d7, PySem.W.mg_of X G a8, F8.kp, b8⟩
  have d9 : Df l.prog w K mg base 3 "_law_value" ["_law_pen_here"] _ := ⟨f9, _, ok_value F9 T d7 d8 d8s, PySem.W.mg_of X G a9, F9.kp, b9⟩
  have d10 : Df l.prog w K mg base 1 "_law_is_name" ["_law_value_here"] _ := ⟨f10, _, ok_lname F10 T (PySem.W.mg_none_of X G zstr), PySem.W.mg_of X G a10, F10.kp, b10⟩
  have HK : HeldC K CK := ⟨icCK, gaCK, ggCK, exCK, hdCK, hcCK, ikn, ikt, moCK⟩
  have HN : HeldC K CN := ⟨icCN, gaCN, ggCN, exCN, hdCN, hcCN, ikn, ikt, moCN⟩
  have GR := ok_right (P := l.prog) (w := w) (mg := mg) (base := base) F12 T rfl TB (PySem.W.mg_none_of X G zrepr) (PySem.W.mg_none_of X G zstr) rfl d7 d10 G0 (PySem.W.mg_of X G a0) F0.kp kb0 G2 (PySem.W.mg_of X G a2) F2.kp kb2 G3 (PySem.W.mg_of X G a3) F3.kp kb3 G1 (PySem.W.mg_of X G a1) F1.kp b1 kb1 G4 (PySem.W.mg_of X G a4) F4.kp b4 kb4 G5 (PySem.W.mg_of X G a5) F5.kp b5 kb5
    F11 (PySem.W.mg_of X G a11) b11 (PySem.W.mg_of X G aFE) (PySem.W.mg_of X G aCK) (PySem.W.mg_of X G aCN) HK HN noCK noCN (exm_own icFE ttFE suKF suFX) (exm_own icFE ttFE suNF suFX) (kit_own icCK ttCK suKK) (kit_not icCK ttCK suNK suKK) (kit_own icCN ttCN suNN)
  exact ok_law F13 T d6 d9 d2 d3 GR (PySem.W.mg_of X G a12) F12.kp b12
end Ev
open PySem PySem.W PyProof.Rows
set_option maxRecDepth 100000 in
set_option maxHeartbeats 0 in
theorem PySem.Challenge.cw_evenrules_k02_what_is_an_integer_a_key_a_holds : PySem.Challenge.rw_evenrules_k02_what_is_an_integer_a_key_a.Holds := by
  exact hd (by
    k_fill
    refine Ev.walk_ofGTK (l := PySem.Challenge.rw_evenrules_k02_what_is_an_integer_a_key_a) (n := 63) (k := 10) (x := "_law_script") (xr := "_law_right") rfl (by decide) rfl ⟨rfl, by decide, by decide⟩ (by kernel_rfl) (fun w h Y => PySem.W.km_in_of Y) ?F
    case F =>
      intro w mg fa h KX G hmg
      refine' Ev.all_mk KX G hmg ?a0 ?l0 ?c0 ?k0 ?a1 ?l1 ?c1 ?k1 ?a2 ?l2 ?c2 ?k2 ?a3 ?l3 ?c3 ?k3 ?a4 ?l4 ?c4 ?k4 ?a5 ?l5 ?c5 ?k5 ?a6 ?l6 ?c6 ?k6 ?a7 ?l7 ?c7 ?k7 ?a8 ?l8 ?c8 ?k8 ?a9 ?l9 ?c9 ?k9 ?a10 ?l10 ?c10 ?k10 ?a11 ?l11 ?c11 ?k11 ?a12 ?l12 ?c12 ?k12 ?a13 ?l13 ?c13 ?k13 ?a14 ?l14 ?c14 ?k14 ?a15 ?l15 ?c15 ?k15 ?a90 ?l90 ?c90 ?k90 ?a91 ?l91 ?c91 ?k91 ?a16 ?l16 ?c16 ?k16 ?aCK ?aCN ?aFE ?icCK ?ttCK ?icCN ?ttCN ?icFE ?ttFE ?suKK ?suNN ?suNK ?suKF ?suNF ?suFX ?gaCK ?ggCK ?hdCK ?hcCK ?moCK ?saCK ?exCK ?keCK ?noCK ?lxCK ?rxCK ?gaCN ?ggCN ?hdCN ?hcCN ?moCN ?saCN ?exCN ?keCN ?noCN ?lxCN ?rxCN ?hdL ?noT ?ikn ?ikt ?m30 ?l30 ?c30 ?k30 ?ty30 ?m31 ?l31 ?c31 ?k31 ?ty31 ?hgK ?hgN ?hgL ?zint ?zlen ?zabs ?zlist ?zmin ?zmax ?zisinstance ?zbool ?ztuple ?zall ?zrange ?zrepr ?zany ?zdict ?zzip ?zstr
      (case a0 => k_is)
      (case l0 => k_is)
      (case c0 => k_is)
      (case k0 => k_is)
      (case a1 => k_is)
      (case l1 => k_is)
      (case c1 => k_is)
      (case k1 => k_is)
      (case a2 => k_is)
      (case l2 => k_is)
      (case c2 => k_is)
      (case k2 => k_is)
      (case a3 => k_is)
      (case l3 => k_is)
      (case c3 => k_is)
      (case k3 => k_is)
      (case a4 => k_is)
      (case l4 => k_is)
      (case c4 => k_is)
      (case k4 => k_is)
      (case a5 => k_is)
      (case l5 => k_is)
      (case c5 => k_is)
      (case k5 => k_is)
      (case a6 => k_is)
      (case l6 => k_is)
      (case c6 => k_is)
      (case k6 => k_is)
      (case a7 => k_is)
      (case l7 => k_is)
      (case c7 => k_is)
      (case k7 => k_is)
      (case a8 => k_is)
      (case l8 => k_is)
      (case c8 => k_is)
      (case k8 => k_is)
      (case a9 => k_is)
      (case l9 => k_is)
      (case c9 => k_is)
      (case k9 => k_is)
      (case a10 => k_is)
      (case l10 => k_is)
      (case c10 => k_is)
      (case k10 => k_is)
      (case a11 => k_is)
      (case l11 => k_is)
      (case c11 => k_is)
      (case k11 => k_is)
      (case a12 => k_is)
      (case l12 => k_is)
      (case c12 => k_is)
      (case k12 => k_is)
      (case a13 => k_is)
      (case l13 => k_is)
      (case c13 => k_is)
      (case k13 => k_is)
      (case a14 => k_is)
      (case l14 => k_is)
      (case c14 => k_is)
      (case k14 => k_is)
      (case a15 => k_is)
      (case l15 => k_is)
      (case c15 => k_is)
      (case k15 => k_is)
      (case a90 => k_is)
      (case l90 => k_is)
      (case c90 => k_is)
      (case k90 => k_is)
      (case a91 => k_is)
      (case l91 => k_is)
      (case c91 => k_is)
      (case k91 => k_is)
      (case a16 => k_is)
      (case l16 => k_is)
      (case c16 => k_is)
      (case k16 => k_is)
      (case aCK => k_is)
      (case aCN => k_is)
      (case aFE => k_is)
      (case icCK => k_is)
      (case ttCK => k_is)
      (case icCN => k_is)
      (case ttCN => k_is)
      (case icFE => k_is)
      (case ttFE => k_is)
      (case suKK => k_is)
      (case suNN => k_is)
      (case suNK => k_is)
      (case suKF => k_is)
      (case suNF => k_is)
      (case suFX => k_is)
      (case gaCK => k_is)
      (case ggCK => k_is)
      (case hdCK => k_is)
      (case hcCK => k_is)
      (case moCK => k_is)
      (case saCK => k_is)
      (case exCK => k_is)
      (case keCK => k_is)
      (case noCK => k_is)
      (case lxCK => k_is)
      (case rxCK => decide +kernel)
      (case gaCN => k_is)
      (case ggCN => k_is)
      (case hdCN => k_is)
      (case hcCN => k_is)
      (case moCN => k_is)
      (case saCN => k_is)
      (case exCN => k_is)
      (case keCN => k_is)
      (case noCN => k_is)
      (case lxCN => k_is)
      (case rxCN => decide +kernel)
      (case hdL => kernel_rfl)
      (case noT => kernel_rfl)
      (case ikn => k_is)
      (case ikt => k_is)
      (case m30 => k_is)
      (case l30 => k_is)
      (case c30 => k_is)
      (case k30 => k_is)
      (case ty30 => k_is)
      (case m31 => k_is)
      (case l31 => k_is)
      (case c31 => k_is)
      (case k31 => k_is)
      (case ty31 => k_is)
      (case hgK => k_is)
      (case hgN => k_is)
      (case hgL => k_is)
      (case zint => k_is)
      (case zlen => k_is)
      (case zabs => k_is)
      (case zlist => k_is)
      (case zmin => k_is)
      (case zmax => k_is)
      (case zisinstance => k_is)
      (case zbool => k_is)
      (case ztuple => k_is)
      (case zall => k_is)
      (case zrange => k_is)
      (case zrepr => k_is)
      (case zany => k_is)
      (case zdict => k_is)
      (case zzip => k_is)
      (case zstr => k_is))
