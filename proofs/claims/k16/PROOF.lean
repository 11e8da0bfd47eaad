import PyProof.Rows.All
import Wide.All
import OpenK.AllK
import Wide.FinOn
import HandS.ForMost
import HandS.Codes
import HandS.IsInst
import HandS.Defaults
import HandS.MakeKw
import HandS.MakeKwOnly
import HandS.ClsMeth
import HandS.TupAny
import HandS.Style
import HandS.Iter
import HandS.ExcInit
import HandS.Conv
import HandS.Star
import HandS.Text
import KE.KExcIs
import HandS.ForExc
import HandS.Lambda
import HandS.EndTab
import HandS.Zip
import HandS.DictComp
import KE.KDictList
import HandS.DeepEq
import HandS.RaiseMore
import KE.DataEq
import HandS.TupLe
import HandS.Walk
import PySem.Challenge.RW_evenrules_k16_weights_that_are_fair
open PySem PySem.W PyProof.Rows
set_option Elab.async false
set_option linter.all false
set_option maxRecDepth 100000 in
set_option maxHeartbeats 0 in
open_top hd for PySem.Challenge.rw_evenrules_k16_weights_that_are_fair
set_option maxRecDepth 100000
set_option maxHeartbeats 4000000
namespace Ev
open PySem L2
def top (i : Nat) : Stmt := PySem.Challenge.pw_evenrules_k16_weights_that_are_fair.main.body.getD i (.Pass ⟨0, 0, 0, 0⟩)
abbrev sDraw : Stmt := top 47
/-- all that was tracked is as it was, but at p -/
def But (p : Addr) (H H' : Hp) : Prop := ∀ b o, b ≠ p → H b = some o → H' b = some o
theorem But.refl (p : Addr) (H : Hp) : But p H H := fun _ _ _ e => e
theorem But.trans {p : Addr} {H H1 H2 : Hp} (a : But p H H1) (b : But p H1 H2) : But p H H2 := fun c o n e => b c o n (a c o n e)
theorem Same.but {p : Addr} {H H' : Hp} (a : Same H H') : But p H H' := fun c o _ e => a c o e
theorem But.upd_new {p q : Addr} {H : Hp} {o : HO} (h : H q = none) : But p H (upd H q o) := fun b u _ e => by
  rw [upd_ne (ne_of_none e h)]; exact e
theorem But.upd_at {p : Addr} {H : Hp} {o : HO} : But p H (upd H p o) := fun b u n e => by
  rw [upd_ne n]; exact e
/-- the pen: a list of a list of ints, how often it was asked, and a rest -/
def Pen (L : Addr) (H : Hp) (p : Addr) (B : Int) : Prop := ∃ (ns : List Int) (turn carry : Int),
  H p = some (.lst [.ref L, .int turn, .int carry]) ∧ H L = some (.lst (ns.map V.int)) ∧ L ≠ p ∧ ns.length ≤ 63 ∧ 0 ≤ turn ∧ turn ≤ B ∧ 0 ≤ carry
theorem Pen.keep {L : Addr} {H H' : Hp} {p : Addr} {B : Int} (h : Pen L H p B) (k : Same H H') : Pen L H' p B := by
  obtain ⟨ns, t, c, h1, h2, h3, h4, h5, h6, h7⟩ := h
  exact ⟨ns, t, c, k _ _ h1, k _ _ h2, h3, h4, h5, h6, h7⟩
theorem Pen.mono {L : Addr} {H : Hp} {p : Addr} {B B' : Int} (h : Pen L H p B) (k : B ≤ B') : Pen L H p B' := by
  obtain ⟨ns, t, c, h1, h2, h3, h4, h5, h6, h7⟩ := h
  exact ⟨ns, t, c, h1, h2, h3, h4, h5, by omega, h7⟩
def spDraw : Sp := fun vs H Q _ => ∃ (p L : Addr) (m B : Int), vs = [.ref p, .int m] ∧ 1 ≤ m ∧ m < 1073741824 ∧ B ≤ 1000000 ∧ Pen L H p B ∧
  ∀ (d : Int) (H' : Hp), But p H H' → Pen L H' p (B + 1) → 0 ≤ d → d < m → Q (.int d) H'
theorem dpInts {K : PySem.W.Frag} {H : Hp} : ∀ ns : List Int, DpAll K H (ns.map V.int) (ns.map PyData.int)
  | [] => .nil
  | n :: r => .cons (.int n) (dpInts r)
theorem sh_ints (ns : List Int) : SeqAt.shaped (.list (ns.map PyData.int)) = true := by
  have h1 : ∀ ns : List Int, PyData.canLayAll0 (ns.map PyData.int) = true := by
    intro ns
    induction ns with
    | nil => rfl
    | cons n r ih => simp [PyData.canLayAll0, PyData.canLay0, ih]
  have h2 : ∀ ns : List Int, PyData.depthAll (ns.map PyData.int) ≤ 1 := by
    intro ns
    induction ns with
    | nil => simp [PyData.depthAll]
    | cons n r ih => simp [PyData.depthAll, PyData.depth]; omega
  unfold SeqAt.shaped
  rw [Bool.and_eq_true]
  refine ⟨by simp [PyData.canLay0, h1], decide_eq_true ?_⟩
  have := h2 ns
  simp [PyData.depth]; omega
theorem eqv_nil (ns : List Int) : PyData.eqv (.list (ns.map PyData.int)) (.list []) = ns.isEmpty := by
  cases ns <;> simp [PyData.eqv, PyData.eqvAll]
section
variable {P : Program} {w : World} {K : PySem.W.Frag} {mg : Str → Option Value} {base : Heap}
/-- built-ins that the program does not cover -/
structure Blt (mg : Str → Option Value) : Prop where
  int : mg "int" = none
  len : mg "len" = none
  abs : mg "abs" = none
  list : mg "list" = none
  min : mg "min" = none
  max : mg "max" = none
  isi : mg "isinstance" = none
  bool : mg "bool" = none
  tuple : mg "tuple" = none
  all : mg "all" = none
  range : mg "range" = none
  repr : mg "repr" = none
theorem scD : FnScope ["_law_pen_here", "_law_many", "_law_digit", "_law_at", "_law_cell", "_law_great", "_law_mixed"] ["_law_pen_here", "_law_many"] (defScope sDraw) := ⟨rfl, rfl, rfl, by decide +kernel, rfl, by decide +kernel, by decide +kernel⟩
theorem fmod_lo (a : Int) {m : Int} (h : 1 ≤ m) : 0 ≤ a.fmod m := by rw [Int.fmod_eq_emod_of_nonneg a (by omega)]; exact Int.emod_nonneg a (by omega)
theorem fmod_hi (a : Int) {m : Int} (h : 1 ≤ m) : a.fmod m < m := by rw [Int.fmod_eq_emod_of_nonneg a (by omega)]; exact Int.emod_lt_of_pos a (by omega)
theorem fdiv_lo {a m : Int} (h : 1 ≤ m) (h0 : 0 ≤ a) : 0 ≤ a.fdiv m := by rw [Int.fdiv_eq_ediv_of_nonneg a (by omega)]; exact Int.ediv_nonneg h0 (by omega)
theorem cell_at {ns : List Int} (h : ns ≠ []) (t : Int) : ∃ c : Int, atI (ns.map V.int) (t.fmod (((ns.map V.int).length : Nat) : Int)) = some (V.int c) := by
  rw [List.length_map]
  have l : 0 < ns.length := List.length_pos_iff.mpr h
  have h1 : 0 ≤ t.fmod (ns.length : Int) := fmod_lo t (by omega)
  have h2 : t.fmod (ns.length : Int) < ns.length := fmod_hi t (by omega)
  generalize t.fmod (ns.length : Int) = i at h1 h2
  obtain ⟨j, rfl⟩ := Int.eq_ofNat_of_zero_le h1
  have hj : j < ns.length := by omega
  exact ⟨ns[j], atI_nat (by rw [List.getElem?_map, List.getElem?_eq_getElem hj]; rfl)⟩
theorem mul_le_of {a b A B : Int} (a0 : 0 ≤ a) (b0 : 0 ≤ b) (ha : a ≤ A) (hb : b ≤ B) : 0 ≤ a * b ∧ a * b ≤ A * B :=
  ⟨Int.mul_nonneg a0 b0, Int.mul_le_mul ha hb b0 (by omega)⟩
theorem bound1 (c : Int) {M C D t : Int} (hM : 1 ≤ M) (hM2 : M ≤ 4294967296) (hC : 0 ≤ C ∧ C ≤ 1000000) (hD : 0 ≤ D ∧ D ≤ 1000000) (h0 : 0 ≤ t) (h1 : t ≤ 1000000) : (c.fmod M + C * t + D).natAbs < 2 ^ 64 := by
  have a1 := fmod_lo c hM
  have a2 := fmod_hi c hM
  have ⟨a3, a4⟩ := mul_le_of hC.1 h0 hC.2 h1
  omega
theorem bound2 {x C5 C6 C7 t : Int} (hx : 0 ≤ x ∧ x < 4294967296) (h5 : 0 ≤ C5 ∧ C5 ≤ 1000000) (h6 : 0 ≤ C6 ∧ C6 ≤ 1000000) (h7 : 0 ≤ C7 ∧ C7 ≤ 1000000) (h0 : 0 ≤ t) (h1 : t ≤ 1000000) :
    (x * (2 * t + C5) + C6 * t * t + C7).natAbs < 2 ^ 64 := by
  have ⟨a1, a2⟩ := mul_le_of (b := 2 * t + C5) (A := 4294967296) (B := 3000000) hx.1 (by omega) (by omega) (by omega)
  have ⟨a3, a4⟩ := mul_le_of h6.1 h0 h6.2 h1
  have ⟨a5, a6⟩ := mul_le_of a3 h0 a4 h1
  omega
theorem great_nn {c e : Int} (h : e ≤ (if c < 0 then -c else c)) (b : Bool) : 0 ≤ 2 * ((if c < 0 then -c else c) - e) + (if b = true then 1 else 0) := by
  cases b
  · rw [if_neg Bool.false_ne_true]; omega
  · rw [if_pos rfl]; omega
theorem lt64 {x : Int} (h : 0 ≤ x ∧ x < 4294967296) : -(2 ^ 64) < x ∧ x < 2 ^ 64 := ⟨by omega, by omega⟩
theorem nz {M : Int} (h : 0 < M) : M ≠ 0 := by omega
theorem ok_draw {f : Addr} {fd : FuncData} (F : Fun K "_law_draw" "_law_draw" sDraw f fd) (T : Blt mg) : FnOk P w K mg base CX0 1 f fd ["_law_pen_here", "_law_many"] spDraw := by
  refine F.ok scD (fun vs H Q E h => ?_) (fun cdv A outer s H vs Q E hr h => ?_)
  · obtain ⟨p, L, m, B, rfl, _⟩ := h
    rfl
  · obtain ⟨p, L, m, B, rfl, hm, hm2, hB, ⟨ns, tn, ca, hp, hL, Lp, hlen, t0, tB, c0⟩, k⟩ := h
    have hu := hu_of hr
    refine ⟨_, pss_cons (ps_if (pt_cmpR op_gt (pe_ix ix_list (pv 0) pe_int (fun _ _ => rfl)) pe_int (nomark _))
        (pss_cons (ps_set (i := 2) scD.nd rfl (.inl rfl) (pe_op op_modN (pe_callTy call_int1 (by rfl) T.int (by decide +kernel) (pa_cons (pe_ix ix_list (pv 0) pe_int (fun _ _ => rfl)) pa_nil)) (pv 1)))
        (pss_cons (ps_asg (pe_op op_fdivN (pe_callTy call_int1 (by rfl) T.int (by decide +kernel) (pa_cons (pe_ix ix_list (pv 0) pe_int (fun _ _ => rfl)) pa_nil)) (pv 1)) (pg_sub (pv 0) pe_int set_list))
        (pss_one (ps_ret (pv 2))))) pss_nil)
      (pss_cons (ps_set (i := 3) scD.nd rfl (.inl rfl) (pe_ix ix_list (pv 0) pe_int (fun _ _ => rfl)))
      (pss_cons (ps_asg (pe_op op_add (pv 3) pe_int) (pg_sub (pv 0) pe_int set_list))
      (pss_cons (ps_set (i := 4) scD.nd rfl (.inl rfl) (pe_op op_add (pe_op op_mul pe_int (pv 3)) pe_int))
      (pss_cons (ps_if (pt_cmpR (op_neD hr.units) (pe_ix ix_list (pv 0) pe_int (fun _ _ => rfl)) (pe_lst pa_nil) (nomark _))
        (pss_one (ps_set (i := 4) scD.nd rfl (.inl rfl) (pe_ix ix_list (pe_ix ix_list (pv 0) pe_int (fun _ _ => rfl))
          (pe_op op_modN (pe_callTy call_int1 (by rfl) T.int (by decide +kernel) (pa_cons (pv 3) pa_nil)) (pe_callB call_len_seq (by rfl) T.len PySem.boot_len (pa_cons (pe_ix ix_list (pv 0) pe_int (fun _ _ => rfl)) pa_nil))) (fun _ _ => rfl)))) pss_nil)
      (pss_cons (ps_if (PW.pt (pw_and (pt_cmpR op_lt (pv 3) (pe_callB call_len_seq (by rfl) T.len PySem.boot_len (pa_cons (pe_ix ix_list (pv 0) pe_int (fun _ _ => rfl)) pa_nil)) (nomark _))
          (pw_and1 (pt_cmpR op_ge (pe_callB call_abs (by rfl) T.abs (by decide +kernel) (pa_cons (pv 4) pa_nil)) (pe_op op_pow pe_int pe_int) (nomark _)))))
        (pss_cons (ps_set (i := 5) scD.nd rfl (.inl rfl) (pe_op op_add (pe_op op_mul pe_int (pe_op op_sub (pe_callB call_abs (by rfl) T.abs (by decide +kernel) (pa_cons (pv 4) pa_nil)) (pe_op op_pow pe_int pe_int)))
            (pe_callTy call_int1 (by rfl) T.int (by decide +kernel) (pa_cons (pe_cmpR op_lt (pv 4) pe_int (nomark _)) pa_nil))))
        (pss_cons (ps_asg (pe_op op_fdivN (pe_callTy call_int1 (by rfl) T.int (by decide +kernel) (pa_cons (pv 5) pa_nil)) (pv 1)) (pg_sub (pv 0) pe_int set_list))
        (pss_one (ps_ret (pe_op op_modN (pe_callTy call_int1 (by rfl) T.int (by decide +kernel) (pa_cons (pv 5) pa_nil)) (pv 1)))))) pss_nil)
      (pss_cons (ps_set (i := 6) scD.nd rfl (.inl rfl) (pe_op op_modN (pe_callTy call_int1 (by rfl) T.int (by decide +kernel) (pa_cons (pe_op op_pow (pe_op op_add (pe_op op_add
          (pe_op op_modN (pe_callTy call_int1 (by rfl) T.int (by decide +kernel) (pa_cons (pv 4) pa_nil)) pe_int) (pe_op op_mul pe_int (pv 3))) pe_int) pe_int) pa_nil)) pe_int))
      (pss_cons (ps_set (i := 6) scD.nd rfl (.inl rfl) (pe_op op_modN (pe_callTy call_int1 (by rfl) T.int (by decide +kernel) (pa_cons (pe_op op_pow (pe_op op_add (pe_op op_add
          (pe_op op_mul (pv 6) (pe_op op_add (pe_op op_mul pe_int (pv 3)) pe_int)) (pe_op op_mul (pe_op op_mul pe_int (pv 3)) (pv 3))) pe_int) pe_int) pa_nil)) pe_int))
      (pss_one (ps_ret (pe_op op_modN (pe_callTy call_int1 (by rfl) T.int (by decide +kernel) (pa_cons (pe_op op_fdivN (pv 6) pe_int) pa_nil)) (pv 1))))))))))), ?_⟩
    have i2 : ∀ {a b c : V}, atI [a, b, c] 2 = some c := fun {a b c} => atI_nat (j := 2) rfl
    have i1 : ∀ {a b c : V}, atI [a, b, c] 1 = some b := fun {a b c} => atI_nat (j := 1) rfl
    have i0 : ∀ {a b c : V}, atI [a, b, c] 0 = some a := fun {a b c} => atI_nat (j := 0) rfl
    -- if pen[2] > 0
    refine ⟨_, rfl, p, _, 2, _, rfl, rfl, SqL.of hp, i2, _, _, rfl, rfl, _, rfl, ite2 (fun e => ?_) (fun e => ?_)⟩
    · -- digit
      refine ⟨_, rfl, p, _, 2, _, rfl, rfl, SqL.of hp, i2, .inl ⟨_, rfl, _, rfl, _, _, rfl, rfl, (by omega), ?_⟩⟩
      refine ⟨_, rfl, p, _, 2, _, rfl, rfl, SqL.of hp, i2, .inl ⟨_, rfl, _, rfl, _, _, rfl, rfl, ⟨by omega, by omega⟩, _, rfl, p, _, _, 2, rfl, rfl, hp, rfl, ?_⟩⟩
      refine ⟨_, rfl, ?_⟩
      exact k _ _ But.upd_at ⟨ns, tn, _, upd_same, by rw [upd_ne Lp]; exact hL, Lp, hlen, t0, by omega, fdiv_lo hm c0⟩ (fmod_lo _ hm) (fmod_hi _ hm)
    · -- turn
      refine ⟨_, rfl, p, _, 1, _, rfl, rfl, SqL.of hp, i1, ?_⟩
      refine ⟨_, rfl, _, _, rfl, rfl, _, rfl, p, _, _, 1, rfl, rfl, hp, rfl, ?_⟩
      have hp1 : upd H p (.lst ([V.ref L, V.int tn, V.int ca].set 1 (V.int (tn + 1)))) p = some (.lst [.ref L, .int (tn + 1), .int ca]) := upd_same
      have hL1 : upd H p (.lst ([V.ref L, V.int tn, V.int ca].set 1 (V.int (tn + 1)))) L = some (.lst (ns.map V.int)) := by rw [upd_ne Lp]; exact hL
      have b1 : But p H (upd H p (.lst ([V.ref L, V.int tn, V.int ca].set 1 (V.int (tn + 1))))) := But.upd_at
      generalize upd H p (.lst ([V.ref L, V.int tn, V.int ca].set 1 (V.int (tn + 1)))) = H1 at hp1 hL1 b1 ⊢
      -- cell = c * turn + c'
      refine ⟨_, rfl, _, _, rfl, rfl, .inl ⟨by decide, by decide⟩, _, _, rfl, rfl, ?_⟩
      -- if pen[0] != []
      refine ⟨_, rfl, p, _, 0, _, rfl, rfl, SqL.of hp1, i0, by decide, fun l hl => ?_⟩
      have n1 : p ≠ l := ne_of_none hp1 hl
      have n2 : L ≠ l := ne_of_none hL1 hl
      have hp2 : upd H1 l (.lst []) p = some (.lst [.ref L, .int (tn + 1), .int ca]) := by rw [upd_ne n1]; exact hp1
      have hL2 : upd H1 l (.lst []) L = some (.lst (ns.map V.int)) := by rw [upd_ne n2]; exact hL1
      have hl2 : upd H1 l (.lst []) l = some (.lst []) := upd_same
      have b2 : But p H (upd H1 l (.lst [])) := b1.trans (But.upd_new hl)
      clear b1 hp1 hL1
      generalize upd H1 l (.lst []) = H2 at hp2 hL2 hl2 b2
      refine ⟨_, _, .lst (SqL.of hL2) (dpInts ns), .lst (SqL.of hl2) .nil, sh_ints ns, sh_ints [], _, rfl, ?_⟩
      rw [eqv_nil]
      -- the rest, for any cell
      have hcell : ∀ c : Int, ∃ j : Int, (if c < 0 then -c else c) = j ∧ 0 ≤ j := fun c => by
        by_cases z : c < 0
        · exact ⟨_, rfl, by rw [if_pos z]; omega⟩
        · exact ⟨_, rfl, by rw [if_neg z]; omega⟩
      have fin : ∀ H' : Hp, H' p = some (.lst [.ref L, .int (tn + 1), .int ca]) → H' L = some (.lst (ns.map V.int)) → But p H H' → Pen L H' p (B + 1) := fun H' e1 e2 _ =>
        ⟨ns, tn + 1, ca, e1, e2, Lp, hlen, by omega, by omega, c0⟩
      have ht : tn ≤ 1000000 := by omega
      have hm6 : 0 ≤ 71315 * tn ∧ 71315 * tn ≤ 71315 * 1000000 := mul_le_of (by decide) t0 (Int.le_refl _) ht
      have hq : ∀ {x m : Int}, 1 ≤ m → m ≤ 4294967296 → 0 ≤ x.fmod m ∧ x.fmod m < 4294967296 := fun {x m} h1 h2 => ⟨fmod_lo x h1, by have := fmod_hi x h1; omega⟩
      cases hn : ns with
      | nil =>
        refine iteF ?_
        refine ⟨_, rfl, _, rfl, p, _, 0, _, rfl, rfl, SqL.of hp2, i0, L, _, rfl, .inl (SqL.of hL2), _, _, rfl, rfl, _, rfl, ite2 (fun e1 => ?_) (fun e1 => ?_)⟩
        · refine ⟨_, rfl, _, rfl, _, _, rfl, rfl, ⟨by decide, by decide, by decide⟩, _, _, rfl, rfl, _, rfl, ite2 (fun e2 => ?_) (fun e2 => ?_)⟩
          · refine ⟨_, rfl, _, rfl, _, _, rfl, rfl, ⟨by decide, by decide, by decide⟩, _, _, rfl, rfl, _, _, rfl, rfl, .inl ⟨by decide, by decide⟩, _, rfl, _, _, rfl, rfl, .inr ⟨_, rfl, _, _, rfl, rfl, ?_⟩⟩
            refine ⟨_, rfl, .inl ⟨_, rfl, _, rfl, _, _, rfl, rfl, ⟨by omega, by omega⟩, _, rfl, p, _, _, 2, rfl, rfl, hp2, rfl, ?_⟩⟩
            refine ⟨_, rfl, .inl ⟨_, rfl, _, rfl, _, _, rfl, rfl, (by omega), ?_⟩⟩
            refine k _ _ (b2.trans But.upd_at) ⟨_, tn + 1, _, upd_same, by rw [upd_ne Lp]; exact hL2, Lp, hlen, by omega, by omega, fdiv_lo hm ?_⟩ (fmod_lo _ hm) (fmod_hi _ hm)
            have e3 := of_decide_eq_true e2
            exact great_nn e3 _
          · skip
            refine ⟨_, rfl, .inl ⟨_, rfl, _, _, rfl, rfl, nz (by decide), _, rfl, _, _, rfl, rfl, .inl ⟨by decide, by decide⟩, _, _, rfl, rfl, _, _, rfl, rfl, _, _, rfl, rfl, ⟨by decide, by decide, bound1 _ (by decide) (by decide) (by decide) (by decide) t0 ht⟩, .inl ⟨_, rfl, _, _, rfl, rfl, nz (by decide), ?_⟩⟩⟩
            refine ⟨_, rfl, _, rfl, _, _, rfl, rfl, .inl ⟨by decide, by decide⟩, _, _, rfl, rfl, _, _, rfl, rfl, .inl ?_, _, rfl, _, _, rfl, rfl, .inl ⟨by decide, by decide⟩, _, rfl, _, _, rfl, rfl, .inl ?_, _, _, rfl, rfl, _, _, rfl, rfl, _, _, rfl, rfl, ⟨by decide, by decide, ?_⟩, .inl ⟨_, rfl, _, _, rfl, rfl, nz (by decide), ?_⟩⟩
            · exact lt64 (hq (by decide) (by decide))
            · exact ⟨by omega, by omega⟩
            · exact bound2 (hq (by decide) (by decide)) (by decide) (by decide) (by decide) t0 ht
            · refine ⟨_, rfl, _, _, rfl, rfl, ⟨by decide, by decide⟩, .inl ⟨_, rfl, _, rfl, _, _, rfl, rfl, (by omega), ?_⟩⟩
              exact k _ _ b2 (fin _ hp2 hL2 b2) (fmod_lo _ hm) (fmod_hi _ hm)
        · skip
          refine ⟨_, rfl, .inl ⟨_, rfl, _, _, rfl, rfl, nz (by decide), _, rfl, _, _, rfl, rfl, .inl ⟨by decide, by decide⟩, _, _, rfl, rfl, _, _, rfl, rfl, _, _, rfl, rfl, ⟨by decide, by decide, bound1 _ (by decide) (by decide) (by decide) (by decide) t0 ht⟩, .inl ⟨_, rfl, _, _, rfl, rfl, nz (by decide), ?_⟩⟩⟩
          refine ⟨_, rfl, _, rfl, _, _, rfl, rfl, .inl ⟨by decide, by decide⟩, _, _, rfl, rfl, _, _, rfl, rfl, .inl ?_, _, rfl, _, _, rfl, rfl, .inl ⟨by decide, by decide⟩, _, rfl, _, _, rfl, rfl, .inl ?_, _, _, rfl, rfl, _, _, rfl, rfl, _, _, rfl, rfl, ⟨by decide, by decide, ?_⟩, .inl ⟨_, rfl, _, _, rfl, rfl, nz (by decide), ?_⟩⟩
          · exact lt64 (hq (by decide) (by decide))
          · exact ⟨by omega, by omega⟩
          · exact bound2 (hq (by decide) (by decide)) (by decide) (by decide) (by decide) t0 ht
          · refine ⟨_, rfl, _, _, rfl, rfl, ⟨by decide, by decide⟩, .inl ⟨_, rfl, _, rfl, _, _, rfl, rfl, (by omega), ?_⟩⟩
            exact k _ _ b2 (fin _ hp2 hL2 b2) (fmod_lo _ hm) (fmod_hi _ hm)
      | cons n0 nr =>
        refine iteT ?_
        obtain ⟨c, hc⟩ := cell_at (ns := ns) (by rw [hn]; exact List.cons_ne_nil _ _) tn
        refine ⟨_, rfl, p, _, 0, _, rfl, rfl, SqL.of hp2, i0, _, rfl, .inl ⟨_, rfl, _, rfl, p, _, 0, _, rfl, rfl, SqL.of hp2, i0, L, _, rfl, .inl (SqL.of hL2), _, _, rfl, rfl, (by rw [List.length_map, hn, List.length_cons]; omega), L, _, _, _, rfl, rfl, SqL.of hL2, hc, ?_⟩⟩
        refine ⟨_, rfl, _, rfl, p, _, 0, _, rfl, rfl, SqL.of hp2, i0, L, _, rfl, .inl (SqL.of hL2), _, _, rfl, rfl, _, rfl, ite2 (fun e1 => ?_) (fun e1 => ?_)⟩
        · refine ⟨_, rfl, _, rfl, _, _, rfl, rfl, ⟨by decide, by decide, by decide⟩, _, _, rfl, rfl, _, rfl, ite2 (fun e2 => ?_) (fun e2 => ?_)⟩
          · refine ⟨_, rfl, _, rfl, _, _, rfl, rfl, ⟨by decide, by decide, by decide⟩, _, _, rfl, rfl, _, _, rfl, rfl, .inl ⟨by decide, by decide⟩, _, rfl, _, _, rfl, rfl, .inr ⟨_, rfl, _, _, rfl, rfl, ?_⟩⟩
            refine ⟨_, rfl, .inl ⟨_, rfl, _, rfl, _, _, rfl, rfl, ⟨by omega, by omega⟩, _, rfl, p, _, _, 2, rfl, rfl, hp2, rfl, ?_⟩⟩
            refine ⟨_, rfl, .inl ⟨_, rfl, _, rfl, _, _, rfl, rfl, (by omega), ?_⟩⟩
            refine k _ _ (b2.trans But.upd_at) ⟨_, tn + 1, _, upd_same, by rw [upd_ne Lp]; exact hL2, Lp, hlen, by omega, by omega, fdiv_lo hm ?_⟩ (fmod_lo _ hm) (fmod_hi _ hm)
            have e3 := of_decide_eq_true e2
            exact great_nn e3 _
          · skip
            refine ⟨_, rfl, .inl ⟨_, rfl, _, _, rfl, rfl, nz (by decide), _, rfl, _, _, rfl, rfl, .inl ⟨by decide, by decide⟩, _, _, rfl, rfl, _, _, rfl, rfl, _, _, rfl, rfl, ⟨by decide, by decide, bound1 _ (by decide) (by decide) (by decide) (by decide) t0 ht⟩, .inl ⟨_, rfl, _, _, rfl, rfl, nz (by decide), ?_⟩⟩⟩
            refine ⟨_, rfl, _, rfl, _, _, rfl, rfl, .inl ⟨by decide, by decide⟩, _, _, rfl, rfl, _, _, rfl, rfl, .inl ?_, _, rfl, _, _, rfl, rfl, .inl ⟨by decide, by decide⟩, _, rfl, _, _, rfl, rfl, .inl ?_, _, _, rfl, rfl, _, _, rfl, rfl, _, _, rfl, rfl, ⟨by decide, by decide, ?_⟩, .inl ⟨_, rfl, _, _, rfl, rfl, nz (by decide), ?_⟩⟩
            · exact lt64 (hq (by decide) (by decide))
            · exact ⟨by omega, by omega⟩
            · exact bound2 (hq (by decide) (by decide)) (by decide) (by decide) (by decide) t0 ht
            · refine ⟨_, rfl, _, _, rfl, rfl, ⟨by decide, by decide⟩, .inl ⟨_, rfl, _, rfl, _, _, rfl, rfl, (by omega), ?_⟩⟩
              exact k _ _ b2 (fin _ hp2 hL2 b2) (fmod_lo _ hm) (fmod_hi _ hm)
        · skip
          refine ⟨_, rfl, .inl ⟨_, rfl, _, _, rfl, rfl, nz (by decide), _, rfl, _, _, rfl, rfl, .inl ⟨by decide, by decide⟩, _, _, rfl, rfl, _, _, rfl, rfl, _, _, rfl, rfl, ⟨by decide, by decide, bound1 _ (by decide) (by decide) (by decide) (by decide) t0 ht⟩, .inl ⟨_, rfl, _, _, rfl, rfl, nz (by decide), ?_⟩⟩⟩
          refine ⟨_, rfl, _, rfl, _, _, rfl, rfl, .inl ⟨by decide, by decide⟩, _, _, rfl, rfl, _, _, rfl, rfl, .inl ?_, _, rfl, _, _, rfl, rfl, .inl ⟨by decide, by decide⟩, _, rfl, _, _, rfl, rfl, .inl ?_, _, _, rfl, rfl, _, _, rfl, rfl, _, _, rfl, rfl, ⟨by decide, by decide, ?_⟩, .inl ⟨_, rfl, _, _, rfl, rfl, nz (by decide), ?_⟩⟩
          · exact lt64 (hq (by decide) (by decide))
          · exact ⟨by omega, by omega⟩
          · exact bound2 (hq (by decide) (by decide)) (by decide) (by decide) (by decide) t0 ht
          · refine ⟨_, rfl, _, _, rfl, rfl, ⟨by decide, by decide⟩, .inl ⟨_, rfl, _, rfl, _, _, rfl, rfl, (by omega), ?_⟩⟩
            exact k _ _ b2 (fin _ hp2 hL2 b2) (fmod_lo _ hm) (fmod_hi _ hm)
end
end Ev
namespace Ev
open PySem L2
abbrev sIsInt : Stmt := top 13
abbrev sWithin : Stmt := top 14
abbrev sTryInit : Stmt := inClass (top 30) 0
abbrev sTryTurns : Stmt := inClass (top 30) 1
abbrev sTwice : Stmt := inClass (top 30) 2
abbrev sTurnInit : Stmt := inClass (top 29) 0
abbrev sTurnTurns : Stmt := inClass (top 29) 1
abbrev sGreatest : Stmt := inClass (top 28) 2
abbrev sFair : Stmt := top 31
abbrev sNeedW : Stmt := top 34
abbrev sPair : Stmt := top 35
abbrev sTimes : Stmt := top 36
abbrev sPlus : Stmt := top 37
abbrev sTurn : Stmt := top 38
abbrev sNeedT : Stmt := top 39
abbrev sHalves : Stmt := top 40
abbrev sNeedH : Stmt := top 41
def fairB (p q k x y : Int) : Bool := decide (q * y ≤ p * x + k) && decide (q * x ≤ p * y + k)
def spIsInt : Sp := fun vs H Q _ => ∃ i : Int, vs = [.int i] ∧ Q (.bl true) H
def spWithin : Sp := fun vs H Q _ => ∃ v l m : Int, vs = [.int v, .int l, .int m] ∧ l ≤ v ∧ v ≤ m ∧ Q (.bl true) H
def spNeedW : Sp := fun vs H Q _ => ∃ v : Int, vs = [.int v] ∧ 1 ≤ v ∧ v ≤ 10 ^ 60 ∧ Q .non H
def spPair (_K : PySem.W.Frag) : Sp := fun vs H Q _ => ∃ (a : Addr) (x y m : Int), vs = [.ref a, .int m] ∧ H a = some (.tup [.int x, .int y]) ∧ (1 ≤ x ∧ x ≤ m) ∧ (1 ≤ y ∧ y ≤ m) ∧ ∀ H', Same H H' → Q (.bl true) H'
def spTimes (_K : PySem.W.Frag) : Sp := fun vs H Q _ => ∃ (a : Addr) (p q : Int), vs = [.ref a] ∧ H a = some (.tup [.int p, .int q]) ∧ 1 ≤ q ∧ q ≤ p ∧ p ≤ 6 ∧ ∀ H', Same H H' → Q (.bl true) H'
def spPlus : Sp := fun vs H Q _ => ∃ k : Int, vs = [.int k] ∧ -6 ≤ k ∧ k ≤ 6 ∧ Q (.bl true) H
def spTurn (_K : PySem.W.Frag) : Sp := fun vs H Q _ => ∃ (a : Addr) (p q : Int), vs = [.ref a] ∧ H a = some (.tup [.int p, .int q]) ∧ (1 ≤ p ∧ p ≤ 8) ∧ (1 ≤ q ∧ q ≤ 8) ∧ ∀ H', Same H H' → Q (.bl true) H'
def spNeedT (_K : PySem.W.Frag) : Sp := fun vs H Q _ => ∃ (a : Addr) (p q k : Int), vs = [.ref a, .int k] ∧ H a = some (.tup [.int p, .int q]) ∧ 1 ≤ q ∧ q ≤ p ∧ p ≤ 6 ∧ -6 ≤ k ∧ k ≤ 6 ∧ ∀ H', Same H H' → Q .non H'
def spHalves (_K : PySem.W.Frag) : Sp := fun vs H Q _ => ∃ (a : Addr) (p q k : Int), vs = [.ref a, .int k] ∧ H a = some (.tup [.int p, .int q]) ∧ 2 * q ≤ p + k ∧ Q (.bl true) H
def spNeedH (_K : PySem.W.Frag) : Sp := fun vs H Q _ => ∃ (a : Addr) (p q k : Int), vs = [.ref a, .int k] ∧ H a = some (.tup [.int p, .int q]) ∧ 0 ≤ q ∧ 2 * q ≤ p + k ∧ Q .non H
section
variable {P : Program} {w : World} {K : PySem.W.Frag} {mg : Str → Option Value} {base : Heap}
theorem scIsInt : FnScope ["value"] ["value"] (defScope sIsInt) := ⟨rfl, rfl, rfl, by decide +kernel, rfl, by decide +kernel, by decide +kernel⟩
theorem ok_isInt {f : Addr} {fd : FuncData} (F : Fun K "is_integer" "is_integer" sIsInt f fd) (T : Blt mg) : FnOk P w K mg base CX0 1 f fd ["value"] spIsInt := by
  refine F.ok scIsInt (fun vs H Q E h => ?_) (fun cdv A outer s H vs Q E hr h => ?_)
  · obtain ⟨i, rfl, _⟩ := h
    rfl
  · obtain ⟨i, rfl, k⟩ := h
    refine ⟨_, pss_one (ps_ret (pe_and (pe_callB call_isi (by rfl) T.isi (by decide +kernel) (pa_cons (pv 0) (pa_cons (pe_bltn (v := .ty "int") (by rfl) T.int (by decide +kernel) rfl) pa_nil)))
      (pe_one (pe_not (pe_callB call_isi (by rfl) T.isi (by decide +kernel) (pa_cons (pv 0) (pa_cons (pe_bltn (v := .ty "bool") (by rfl) T.bool (by decide +kernel) rfl) pa_nil))))))), ?_⟩
    refine ⟨_, rfl, _, _, _, _, true, rfl, .ty _, .base (.int i), kit_ty (by decide +kernel), true, rfl, iteT ⟨_, rfl, _, _, _, _, false, rfl, .ty _, .base (.int i), kit_ty (by decide +kernel), _, rfl, ?_⟩⟩
    exact k
theorem scWithin : FnScope ["value", "least", "most"] ["value", "least", "most"] (defScope sWithin) := ⟨rfl, rfl, rfl, by decide +kernel, rfl, by decide +kernel, by decide +kernel⟩
theorem ok_within {f fI : Addr} {fd fdI : FuncData} (F : Fun K "is_within" "is_within" sWithin f fd) (T : Blt mg)
    (GI : FnOk P w K mg base CX0 1 fI fdI ["value"] spIsInt) (gI : mg "is_integer" = some (.ref fI)) (kI : PySem.W.keepIn K (.ref fI) = true) (bI : Binds K fdI ["value"] []) : FnOk P w K mg base CX0 2 f fd ["value", "least", "most"] spWithin := by
  refine F.ok scWithin (fun vs H Q E h => ?_) (fun cdv A outer s H vs Q E hr h => ?_)
  · obtain ⟨v, l, m, rfl, _⟩ := h
    rfl
  · obtain ⟨v, l, m, rfl, h1, h2, k⟩ := h
    refine ⟨_, pss_one (ps_ret (pe_and (pe_call GI hr (by rfl) gI kI bI .nil pass0 (pa_cons (pv 0) pa_nil)) (pe_one (pe_chain op_le op_le (pv 1) (pv 0) (pv 2))))), ?_⟩
    refine ⟨_, rfl, v, rfl, true, rfl, iteT ⟨_, rfl, _, rfl, _, _, rfl, rfl, true, congrArg V.bl (decide_eq_true h1), iteT ⟨_, rfl, _, _, rfl, rfl, ?_⟩⟩⟩
    show Q (.bl (decide (v ≤ m))) H
    rw [decide_eq_true h2]
    exact k

/-- a def that stands under its name -/
structure Df (P : Program) (w : World) (K : PySem.W.Frag) (mg : Str → Option Value) (base : Heap) (k : Nat) (x : Str) (ps : List Str) (sp : Sp) : Prop where
  ex : ∃ (f : Addr) (fd : FuncData), FnOk P w K mg base CX0 k f fd ps sp ∧ mg x = some (.ref f) ∧ PySem.W.keepIn K (.ref f) = true ∧ Binds K fd ps []
theorem scNeedW : FnScope ["value"] ["value"] (defScope sNeedW) := ⟨rfl, rfl, rfl, by decide +kernel, rfl, by decide +kernel, by decide +kernel⟩
theorem ok_needW {f : Addr} {fd : FuncData} (F : Fun K "need_weight" "need_weight" sNeedW f fd) (D : Df P w K mg base 2 "is_within" ["value", "least", "most"] spWithin) {t : Tok} (gM : mg "MOST_WEIGHT" = some (.int (10 ^ 60) t)) :
    FnOk P w K mg base CX0 3 f fd ["value"] spNeedW := by
  obtain ⟨fW, fdW, GW, gW, kW, bW⟩ := D.ex
  refine F.ok scNeedW (fun vs H Q E h => ?_) (fun cdv A outer s H vs Q E hr h => ?_)
  · obtain ⟨i, rfl, _⟩ := h
    rfl
  · obtain ⟨i, rfl, h1, h2, k⟩ := h
    refine ⟨_, pss_one (ps_if (pt_not (pt_val (pe_call GW hr (by rfl) gW kW bW .nil pass0 (pa_cons (pv 0) (pa_cons pe_int (pa_cons (pe_glob (v := .int (10 ^ 60)) rfl gM ⟨_, rfl⟩) pa_nil)))))) (pss_one ps_never) pss_nil), ?_⟩
    exact ⟨_, rfl, _, _, _, rfl, h1, h2, true, rfl, iteF k⟩
theorem scPair : FnScope ["value", "most", "item"] ["value", "most"] (defScope sPair) := ⟨rfl, rfl, rfl, by decide +kernel, rfl, by decide +kernel, by decide +kernel⟩
theorem ok_pair {f : Addr} {fd : FuncData} (F : Fun K "is_pair" "is_pair" sPair f fd) (T : Blt mg) (D : Df P w K mg base 2 "is_within" ["value", "least", "most"] spWithin) :
    FnOk P w K mg base CX0 3 f fd ["value", "most"] (spPair K) := by
  obtain ⟨fW, fdW, GW, gW, kW, bW⟩ := D.ex
  refine F.ok scPair (fun vs H Q E h => ?_) (fun cdv A outer s H vs Q E hr h => ?_)
  · obtain ⟨a, x, y, m, rfl, _⟩ := h
    rfl
  · obtain ⟨a, x, y, m, rfl, ha, hx, hy, k⟩ := h
    refine ⟨_, pss_one (ps_ret (pe_and (pe_callB call_isi (by rfl) T.isi (by decide +kernel) (pa_cons (pv 0) (pa_cons (pe_bltn (v := .ty "tuple") (by rfl) T.tuple (by decide +kernel) rfl) pa_nil)))
      (pe_and (pe_cmpR op_eq (pe_callB call_len_seq (by rfl) T.len PySem.boot_len (pa_cons (pv 0) pa_nil)) pe_int (nomark _))
      (pe_one (pe_callB (cr_all rfl) (by rfl) T.all (by decide +kernel) (pa_cons (pe_lc (own := [("item", 2)]) (g := gName 2) (by rfl) scPair.nd (pi_tup (pv 0)) (blkOk_by (own := [("item", 2)]) (N := ["value", "most", "item"]) (sc := defScope sPair) (by decide +kernel))
          (fun _ _ _ _ _ => pg_name (i := 2) scPair.nd rfl (.inl rfl)) (fun _ _ _ _ _ => pts_nil) (fun _ _ _ _ _ => pe_call GW hr (by rfl) gW kW bW .nil pass0 (pa_cons (pv 2) (pa_cons pe_int (pa_cons (pv 1) pa_nil))))) pa_nil)))))), ?_⟩
    refine ⟨_, rfl, _, _, _, _, true, rfl, .ty _, .base (.tup ha), kit_ty (by decide +kernel), true, rfl, iteT ⟨_, rfl, a, _, rfl, .inr (SqT.of ha), rfl, true, congrArg V.bl (decide_eq_true rfl), iteT ⟨_, rfl, a, rfl, ⟨_, SqT.of ha⟩, fun D nD => ?_⟩⟩⟩
    have naD : a ≠ D := ne_of_none ha nD
    refine lc_tup (xs := [V.int x, V.int y]) (fun i H' => H' D = some (.lst ((List.replicate i true).map V.bl)) ∧ But D H H') ⟨upd_same, But.upd_at⟩ (fun i H' _ h => SqT.of (h.2 _ _ naD ha)) (fun i v H' hi ⟨e1, e2⟩ => ?_) (fun H' ⟨e1, e2⟩ => ?_)
    · obtain ⟨z, rfl, z1, z2⟩ : ∃ z : Int, v = .int z ∧ 1 ≤ z ∧ z ≤ m := by
        match i, hi with
        | 0, hi => exact ⟨x, (Option.some.inj hi).symm, hx.1, hx.2⟩
        | 1, hi => exact ⟨y, (Option.some.inj hi).symm, hy.1, hy.2⟩
        | n + 2, hi => cases hi
      have hil : i < 2 := (List.getElem?_eq_some_iff.mp hi).1
      refine ⟨rfl, _, rfl, _, rfl, _, _, _, rfl, z1, z2, _, e1, ?_, ?_, ?_⟩
      · rw [List.length_map, List.length_replicate]; exact small1000 (by omega)
      · rw [List.replicate_succ', List.map_append]
        exact upd_same
      · exact e2.trans But.upd_at
    · refine ⟨D, [true, true], rfl, SqL.of e1, ?_⟩
      exact k H' fun b o e => e2 b o (ne_of_none e nD) e
end
end Ev
namespace Ev
open PySem L2
section
variable {P : Program} {w : World} {K : PySem.W.Frag} {mg : Str → Option Value} {base : Heap}
theorem tup1 {a b : V} : atI [a, b] 1 = some b := atI_nat (j := 1) rfl
theorem tup0 {a b : V} : atI [a, b] 0 = some a := atI_nat (j := 0) rfl
theorem scTimes : FnScope ["value"] ["value"] (defScope sTimes) := ⟨rfl, rfl, rfl, by decide +kernel, rfl, by decide +kernel, by decide +kernel⟩
theorem ok_times {f : Addr} {fd : FuncData} (F : Fun K "is_times" "is_times" sTimes f fd) (D : Df P w K mg base 3 "is_pair" ["value", "most"] (spPair K)) {CW : Addr} {mc u : Value} (gW : mg "WeightRule" = some (.ref CW)) (cr : ClX.CRead K CW mc) (cv : ClX.CVal K CW mc "MOST" (.int 6) u) :
    FnOk P w K mg base CX0 4 f fd ["value"] (spTimes K) := by
  obtain ⟨fP, fdP, GP, gP, kP, bP⟩ := D.ex
  refine F.ok scTimes (fun vs H Q E h => ?_) (fun cdv A outer s H vs Q E hr h => ?_)
  · obtain ⟨a, p, q, rfl, _⟩ := h
    rfl
  · obtain ⟨a, p, q, rfl, ha, h1, h2, h3, k⟩ := h
    refine ⟨_, pss_one (ps_ret (pe_and (pe_call GP hr (by rfl) gP kP bP .nil pass0 (pa_cons (pv 0) (pa_cons (ClX.pe_cval (pe_glob (v := .ref CW) rfl gW rfl)) pa_nil)))
      (pe_one (pe_cmpR op_le (pe_ix ix_tup (pv 0) pe_int (fun _ _ => rfl)) (pe_ix ix_tup (pv 0) pe_int (fun _ _ => rfl)) (nomark _))))), ?_⟩
    refine ⟨_, rfl, CW, mc, _, u, rfl, cr, cv, a, p, q, _, rfl, ha, ⟨by omega, by omega⟩, ⟨by omega, by omega⟩, fun H' s => ⟨true, rfl, ?_⟩⟩
    refine ⟨_, rfl, a, _, 1, _, rfl, rfl, SqT.of (s _ _ ha), tup1, _, rfl, a, _, 0, _, rfl, rfl, SqT.of (s _ _ ha), tup0, _, _, rfl, rfl, ?_⟩
    show Q (.bl (decide (q ≤ p))) H'
    rw [decide_eq_true h2]
    exact k H' s
theorem scPlus : FnScope ["value"] ["value"] (defScope sPlus) := ⟨rfl, rfl, rfl, by decide +kernel, rfl, by decide +kernel, by decide +kernel⟩
theorem ok_plus {f : Addr} {fd : FuncData} (F : Fun K "is_plus" "is_plus" sPlus f fd) (D : Df P w K mg base 2 "is_within" ["value", "least", "most"] spWithin) {t : Tok} (gM : mg "MOST_PLUS" = some (.int 6 t)) : FnOk P w K mg base CX0 3 f fd ["value"] spPlus := by
  obtain ⟨fW, fdW, GW, gW, kW, bW⟩ := D.ex
  refine F.ok scPlus (fun vs H Q E h => ?_) (fun cdv A outer s H vs Q E hr h => ?_)
  · obtain ⟨i, rfl, _⟩ := h
    rfl
  · obtain ⟨i, rfl, h1, h2, k⟩ := h
    refine ⟨_, pss_one (ps_ret (pe_call GW hr (by rfl) gW kW bW .nil pass0 (pa_cons (pv 0) (pa_cons (pe_un un_neg (pe_glob (v := .int 6) rfl gM ⟨_, rfl⟩)) (pa_cons (pe_glob (v := .int 6) rfl gM ⟨_, rfl⟩) pa_nil))))), ?_⟩
    exact ⟨_, rfl, _, rfl, _, _, _, rfl, h1, h2, k⟩
theorem scTurn : FnScope ["value"] ["value"] (defScope sTurn) := ⟨rfl, rfl, rfl, by decide +kernel, rfl, by decide +kernel, by decide +kernel⟩
theorem ok_turn {f : Addr} {fd : FuncData} (F : Fun K "is_turn" "is_turn" sTurn f fd) (D : Df P w K mg base 3 "is_pair" ["value", "most"] (spPair K)) {t : Tok} (gM : mg "MOST_TURN" = some (.int 8 t)) : FnOk P w K mg base CX0 4 f fd ["value"] (spTurn K) := by
  obtain ⟨fP, fdP, GP, gP, kP, bP⟩ := D.ex
  refine F.ok scTurn (fun vs H Q E h => ?_) (fun cdv A outer s H vs Q E hr h => ?_)
  · obtain ⟨a, p, q, rfl, _⟩ := h
    rfl
  · obtain ⟨a, p, q, rfl, ha, h1, h2, k⟩ := h
    refine ⟨_, pss_one (ps_ret (pe_call GP hr (by rfl) gP kP bP .nil pass0 (pa_cons (pv 0) (pa_cons (pe_glob (v := .int 8) rfl gM ⟨_, rfl⟩) pa_nil)))), ?_⟩
    exact ⟨_, rfl, a, p, q, _, rfl, ha, h1, h2, k⟩
theorem scNeedT : FnScope ["times", "plus"] ["times", "plus"] (defScope sNeedT) := ⟨rfl, rfl, rfl, by decide +kernel, rfl, by decide +kernel, by decide +kernel⟩
theorem ok_needT {f : Addr} {fd : FuncData} (F : Fun K "need_times" "need_times" sNeedT f fd) (D1 : Df P w K mg base 4 "is_times" ["value"] (spTimes K)) (D2 : Df P w K mg base 3 "is_plus" ["value"] spPlus) : FnOk P w K mg base CX0 5 f fd ["times", "plus"] (spNeedT K) := by
  obtain ⟨f1, fd1, G1, g1, k1, b1⟩ := D1.ex
  obtain ⟨f2, fd2, G2, g2, k2, b2⟩ := D2.ex
  refine F.ok scNeedT (fun vs H Q E h => ?_) (fun cdv A outer s H vs Q E hr h => ?_)
  · obtain ⟨a, p, q, k, rfl, _⟩ := h
    rfl
  · obtain ⟨a, p, q, k, rfl, ha, h1, h2, h3, h4, h5, kk⟩ := h
    refine ⟨_, pss_cons (ps_if (pt_not (pt_val (pe_call G1 hr (by rfl) g1 k1 b1 .nil pass0 (pa_cons (pv 0) pa_nil)))) (pss_one ps_never) pss_nil)
      (pss_one (ps_if (pt_not (pt_val (pe_call G2 (hr.mono (by decide)) (by rfl) g2 k2 b2 .nil pass0 (pa_cons (pv 1) pa_nil)))) (pss_one ps_never) pss_nil)), ?_⟩
    exact ⟨_, rfl, a, p, q, rfl, ha, h1, h2, h3, fun H' s => ⟨true, rfl, iteF ⟨_, rfl, k, rfl, h4, h5, true, rfl, iteF (kk H' s)⟩⟩⟩
theorem scHalves : FnScope ["times", "plus", "over", "under"] ["times", "plus"] (defScope sHalves) := ⟨rfl, rfl, rfl, by decide +kernel, rfl, by decide +kernel, by decide +kernel⟩
theorem ok_halves {f : Addr} {fd : FuncData} (F : Fun K "has_halves" "has_halves" sHalves f fd) : FnOk P w K mg base CX0 1 f fd ["times", "plus"] (spHalves K) := by
  refine F.ok scHalves (fun vs H Q E h => ?_) (fun cdv A outer s H vs Q E hr h => ?_)
  · obtain ⟨a, p, q, k, rfl, _⟩ := h
    rfl
  · obtain ⟨a, p, q, k, rfl, ha, h1, kk⟩ := h
    refine ⟨_, pss_cons (ps_asg (pv 0) (pg_tup (by rfl) (pgs_cons (pg_name (i := 2) scHalves.nd rfl (.inl rfl)) (pgs_cons (pg_name (i := 3) scHalves.nd rfl (.inl rfl)) pgs_nil))))
      (pss_one (ps_ret (pe_cmpR op_ge (pe_op op_add (pv 2) (pv 1)) (pe_op op_mul pe_int (pv 3)) (nomark _)))), ?_⟩
    refine ⟨_, rfl, a, _, rfl, SqT.of ha, rfl, _, _, rfl, _, _, rfl, rfl, ?_⟩
    refine ⟨_, rfl, _, rfl, _, _, rfl, rfl, _, rfl, _, _, rfl, rfl, .inl ⟨by decide, by decide⟩, _, _, rfl, rfl, ?_⟩
    show Q (.bl (decide (2 * q ≤ p + k))) H
    rw [decide_eq_true h1]
    exact kk
theorem scNeedH : FnScope ["times", "plus", "over", "under"] ["times", "plus"] (defScope sNeedH) := ⟨rfl, rfl, rfl, by decide +kernel, rfl, by decide +kernel, by decide +kernel⟩
theorem ok_needH {f : Addr} {fd : FuncData} (F : Fun K "need_halves" "need_halves" sNeedH f fd) (D : Df P w K mg base 1 "has_halves" ["times", "plus"] (spHalves K)) : FnOk P w K mg base CX0 2 f fd ["times", "plus"] (spNeedH K) := by
  obtain ⟨f1, fd1, G1, g1, k1, b1⟩ := D.ex
  refine F.ok scNeedH (fun vs H Q E h => ?_) (fun cdv A outer s H vs Q E hr h => ?_)
  · obtain ⟨a, p, q, k, rfl, _⟩ := h
    rfl
  · obtain ⟨a, p, q, k, rfl, ha, h0, h1, kk⟩ := h
    refine ⟨_, pss_cons (ps_asg (pv 0) (pg_tup (by rfl) (pgs_cons (pg_name (i := 2) scNeedH.nd rfl (.inl rfl)) (pgs_cons (pg_name (i := 3) scNeedH.nd rfl (.inl rfl)) pgs_nil))))
      (pss_cons (ps_if (pt_cmpR op_lt (pe_op op_add (pv 2) (pv 1)) (pv 3) (nomark _)) (pss_one ps_never) pss_nil)
      (pss_one (ps_if (pt_not (pt_val (pe_call G1 hr (by rfl) g1 k1 b1 .nil pass0 (pa_cons (pv 0) (pa_cons (pv 1) pa_nil))))) (pss_one ps_never) pss_nil))), ?_⟩
    refine ⟨_, rfl, a, _, rfl, SqT.of ha, rfl, _, _, rfl, _, _, rfl, rfl, ?_⟩
    refine ⟨_, rfl, _, rfl, _, _, rfl, rfl, _, rfl, _, _, rfl, rfl, _, rfl, ite2 (fun e => ?_) (fun _ => ?_)⟩
    · have := of_decide_eq_true e; omega
    · exact ⟨_, rfl, _, rfl, a, p, q, k, rfl, ha, h1, true, rfl, iteF kk⟩
end
end Ev
namespace Ev
open PySem L2
/-- the part of a rule object that every rule has -/
structure RB (K : PySem.W.Frag) (H : Hp) (r : Addr) (p q k : Int) : Prop where
  ex : ∃ (C dx : Addr) (fs : List (Str × V)) (a : Addr), H r = some (.ins C dx fs) ∧ Cls K C ∧ NoAttr K C "times" ∧ NoAttr K C "plus" ∧ fs.lookup ("times" : Str) = some (.ref a) ∧ fs.lookup ("plus" : Str) = some (.int k) ∧ H a = some (.tup [.int p, .int q])
  b1 : 1 ≤ q
  b2 : q ≤ p
  b3 : p ≤ 6
  b4 : -6 ≤ k
  b5 : k ≤ 6
def tryF (a : Addr) (k : Int) : List (Str × V) := [("times", .ref a), ("plus", .int k)]
def turnF (a : Addr) (k : Int) (b : Addr) (r : Int) : List (Str × V) := [("times", .ref a), ("plus", .int k), ("turn", .ref b), ("turn_plus", .int r)]
def tryT (p q k l i o : Int) (n : Option Int) : Int :=
  if (fairB p q k l i && fairB p q k (l + i) o) = true then 1 else
    match n with
    | none => 1
    | some n => if (decide (1 < i) && (fairB p q k l n && (fairB p q k (i - n) o && fairB p q k (l + n) (i - n + o)))) = true then 2 else 1
def turnT (t s r i o : Int) : Int := if s * i ≤ t * o + r then 1 else if 1 < i then 2 else 0
def spFair (K : PySem.W.Frag) : Sp := fun vs H Q _ => ∃ (r : Addr) (p q k x y : Int), vs = [.ref r, .int x, .int y] ∧ RB K H r p q k ∧ Q (.bl (fairB p q k x y)) H
def spGreatest (K : PySem.W.Frag) : Sp := fun vs H Q _ => ∃ (r : Addr) (p q k x : Int), vs = [.ref r, .int x] ∧ RB K H r p q k ∧ 1 ≤ x ∧ x ≤ 10 ^ 60 ∧ Q (.int ((p * x + k).fdiv q)) H
def spTwice (K : PySem.W.Frag) : Sp := fun vs H Q _ => ∃ (r : Addr) (p q k l i o n : Int), vs = [.ref r, .int l, .int i, .int o, .int n] ∧ RB K H r p q k ∧ Q (.bl (fairB p q k l n && (fairB p q k (i - n) o && fairB p q k (l + n) (i - n + o)))) H
def vOpt : Option Int → V
  | none => .non
  | some n => .int n
def spTryTurns (K : PySem.W.Frag) (C : Addr) : Sp := fun vs H Q _ => ∃ (r : Addr) (p q k l i o : Int) (n : Option Int) (dx : Addr) (fs : List (Str × V)), vs = [.ref r, .int l, .int i, .int o, vOpt n] ∧ RB K H r p q k ∧ H r = some (.ins C dx fs) ∧ fs.lookup ("twice_is_fair" : Str) = none ∧ (n = none → i = 1) ∧
  Q (.int (tryT p q k l i o n)) H
def spTurnTurns (K : PySem.W.Frag) (C : Addr) : Sp := fun vs H Q _ => ∃ (r : Addr) (l i o : Int) (n : Option Int) (dx a b : Addr) (k t s c : Int), vs = [.ref r, .int l, .int i, .int o, vOpt n] ∧ H r = some (.ins C dx (turnF a k b c)) ∧ H b = some (.tup [.int t, .int s]) ∧ (1 ≤ t ∧ t ≤ 8) ∧ (1 ≤ s ∧ s ≤ 8) ∧
  Q (.int (turnT t s c i o)) H
section
variable {P : Program} {w : World} {K : PySem.W.Frag} {mg : Str → Option Value} {base : Heap}
theorem m64 {q : Int} (h1 : 1 ≤ q) (h2 : q ≤ 8) : -(2 ^ 64) < q ∧ q < 2 ^ 64 := ⟨by omega, by omega⟩
theorem scFair : FnScope ["rule", "x", "y", "over", "under"] ["rule", "x", "y"] (defScope sFair) := ⟨rfl, rfl, rfl, by decide +kernel, rfl, by decide +kernel, by decide +kernel⟩
theorem ok_fair {f : Addr} {fd : FuncData} (F : Fun K "are_fair" "are_fair" sFair f fd) : FnOk P w K mg base CX0 1 f fd ["rule", "x", "y"] (spFair K) := by
  refine F.ok scFair (fun vs H Q E h => ?_) (fun cdv A outer s H vs Q E hr h => ?_)
  · obtain ⟨r, p, q, k, x, y, rfl, _⟩ := h
    rfl
  · obtain ⟨r, p, q, k, x, y, rfl, ⟨⟨C, dx, fs, a, hr1, cl, n1, n2, l1, l2, ha⟩, b1, b2, b3, b4, b5⟩, kk⟩ := h
    refine ⟨_, pss_cons (ps_asg (pe_fld (pv 0) rfl) (pg_tup (by rfl) (pgs_cons (pg_name (i := 3) scFair.nd rfl (.inl rfl)) (pgs_cons (pg_name (i := 4) scFair.nd rfl (.inl rfl)) pgs_nil))))
      (pss_one (ps_ret (pe_and (pe_cmpR op_le (pe_op op_mul (pv 4) (pv 2)) (pe_op op_add (pe_op op_mul (pv 3) (pv 1)) (pe_fld (pv 0) rfl)) (nomark _))
        (pe_one (pe_cmpR op_le (pe_op op_mul (pv 4) (pv 1)) (pe_op op_add (pe_op op_mul (pv 3) (pv 2)) (pe_fld (pv 0) rfl)) (nomark _)))))), ?_⟩
    have q6 := m64 b1 (show q ≤ 8 by omega)
    have p6 := m64 (show 1 ≤ p by omega) (show p ≤ 8 by omega)
    refine ⟨_, rfl, r, C, dx, fs, _, rfl, hr1, cl, n1, l1, a, _, rfl, SqT.of ha, rfl, _, _, rfl, _, _, rfl, rfl, ?_⟩
    refine ⟨_, rfl, _, rfl, _, _, rfl, rfl, .inl q6, _, rfl, _, rfl, _, _, rfl, rfl, .inl p6, _, rfl, r, C, dx, fs, _, rfl, hr1, cl, n2, l2, _, _, rfl, rfl, _, _, rfl, rfl, _, rfl, ite2 (fun e => ?_) (fun e => ?_)⟩
    · refine ⟨_, rfl, _, rfl, _, _, rfl, rfl, .inl q6, _, rfl, _, rfl, _, _, rfl, rfl, .inl p6, _, rfl, r, C, dx, fs, _, rfl, hr1, cl, n2, l2, _, _, rfl, rfl, _, _, rfl, rfl, ?_⟩
      show Q (.bl (decide (q * x ≤ p * y + k))) H
      rw [show fairB p q k x y = decide (q * x ≤ p * y + k) by unfold fairB; rw [show decide (q * y ≤ p * x + k) = true from e, Bool.true_and]] at kk
      exact kk
    · rw [show fairB p q k x y = false by unfold fairB; rw [show decide (q * y ≤ p * x + k) = false from Bool.eq_false_iff.mpr e, Bool.false_and]] at kk
      exact kk
theorem scTwice : FnScope ["self", "light", "inner", "outer", "near", "far"] ["self", "light", "inner", "outer", "near"] (defScope sTwice) := ⟨rfl, rfl, rfl, by decide +kernel, rfl, by decide +kernel, by decide +kernel⟩
theorem ok_twice {f : Addr} {fd : FuncData} (F : Fun K "twice_is_fair" "TryRule.twice_is_fair" sTwice f fd) (D : Df P w K mg base 1 "are_fair" ["rule", "x", "y"] (spFair K)) : FnOk P w K mg base CX0 2 f fd ["self", "light", "inner", "outer", "near"] (spTwice K) := by
  obtain ⟨f1, fd1, G1, g1, k1, b1⟩ := D.ex
  refine F.ok scTwice (fun vs H Q E h => ?_) (fun cdv A outer s H vs Q E hr h => ?_)
  · obtain ⟨r, p, q, k, l, i, o, n, rfl, _⟩ := h
    rfl
  · obtain ⟨r, p, q, k, l, i, o, n, rfl, R, kk⟩ := h
    refine ⟨_, pss_cons (ps_set (i := 5) scTwice.nd rfl (.inl rfl) (pe_op op_sub (pv 2) (pv 4)))
      (pss_one (ps_ret (pe_and (pe_call G1 hr (by rfl) g1 k1 b1 .nil pass0 (pa_cons (pv 0) (pa_cons (pv 1) (pa_cons (pv 4) pa_nil))))
        (pe_and (pe_call G1 hr (by rfl) g1 k1 b1 .nil pass0 (pa_cons (pv 0) (pa_cons (pv 5) (pa_cons (pv 3) pa_nil))))
        (pe_one (pe_call G1 hr (by rfl) g1 k1 b1 .nil pass0 (pa_cons (pv 0) (pa_cons (pe_op op_add (pv 1) (pv 4)) (pa_cons (pe_op op_add (pv 5) (pv 3)) pa_nil))))))))), ?_⟩
    refine ⟨_, rfl, _, rfl, _, _, rfl, rfl, _, rfl, _, rfl, _, rfl, r, p, q, k, _, _, rfl, R, _, rfl, ite2 (fun e => ?_) (fun e => ?_)⟩
    · rw [e, Bool.true_and] at kk
      refine ⟨_, rfl, _, rfl, _, rfl, r, p, q, k, _, _, rfl, R, _, rfl, ite2 (fun e => ?_) (fun e => ?_)⟩
      · rw [show fairB p q k (i - n) o = true from e, Bool.true_and] at kk
        exact ⟨_, rfl, _, rfl, _, rfl, _, _, rfl, rfl, _, rfl, _, rfl, _, _, rfl, rfl, r, p, q, k, _, _, rfl, R, kk⟩
      · rw [show fairB p q k (i - n) o = false from Bool.eq_false_iff.mpr e, Bool.false_and] at kk
        exact kk
    · rw [Bool.eq_false_iff.mpr e, Bool.false_and] at kk
      exact kk
end
end Ev
namespace Ev
open PySem L2 PySem.Spec PyProof.Rows
abbrev sGreatB : Stmt := top 32
def spGreatB (K : PySem.W.Frag) : Sp := fun vs H Q _ => ∃ (r : Addr) (p q k x : Int), vs = [.ref r, .int x] ∧ RB K H r p q k ∧ Q (.int ((p * x + k).fdiv q)) H
section
variable {X : Cx}
theorem pe_or {e : Expr} {t t' : TE} (h : PE X e t) (h' : PE X e t') : PE X e (fun σ H Q => t σ H Q ∨ t' σ H Q) :=
  ⟨fun pins s σ H Q I q => q.elim (h.run pins s σ H Q I) (h'.run pins s σ H Q I)⟩
/-- o.m(k = v, ..): keywords alone -/
def tMethK (C : Addr) (m : Str) (sp : Sp) (gV : List V → List V → List V) (E : XK) (ta : TE) (tk : TA) : TE := fun σ H Q => ta σ H fun x H1 => ∃ a dx fs, x = .ref a ∧ H1 a = some (.ins C dx fs) ∧ fs.lookup m = none ∧
  tk σ H1 fun zs H2 => sp (gV [x] zs) H2 Q E
theorem pe_methK0 {CX : CXT} {k : Nat} {f C : Addr} {fd : FuncData} {ps ks : List Str} {sp : Sp} {E : XK} {o : Expr} {m : Str} {pos : Pos} {apos : Pos} {kws : List Keyword} {ta : TE} {tk : TA} {g : List Value → List Value → List Value} {gV : List V → List V → List V} {pl : Sem Bool}
    (he : PE X o ta) (c : Cls X.K C) (hm : Meth X.K C m f) (F : FnOk X.prog X.w X.K X.mg X.base CX k f fd ps sp) (hr : Room k X.A) (hb : KBinds X.K fd ps ks g gV) (hx : Passes CX X E) (hkw : PK X kws tk)
    (hall : (backToKw pos (keywordEach kws X.env)).all (·.1.isSome) = true := by rfl) (hks : (backToKw pos (keywordEach kws X.env)).filterMap (·.1) = ks := by rfl)
    (hpl : ((backTo pos (starEach [] X.env)).any (·.1) || (backToKw pos (keywordEach kws X.env)).any (·.1.isNone)) = false := by rfl)
    (ht : eval (.Call (.Attribute o m apos) [] kws pos) X.env = (do
      let ov ← eval o X.env
      standAt apos.atName
      let (f, first) ← holding [ov] (getMethod ov m pl)
      callWith pos f first (backTo pos (starEach [] X.env)) (backToKw pos (keywordEach kws X.env))) := by rfl) :
    PE X (.Call (.Attribute o m apos) [] kws pos) (tMethK C m sp gV E ta tk) := by
  refine ⟨fun pins s σ H Q I h => ?_⟩
  refine PySem.W.methodCall_KW (pl := pl) (thn (he.run pins s σ H _ I h) fun u s1 ⟨x, H1, I1, rx, a, dx, fs, ex, ea, l, q⟩ => ?_) ht
  subst ex
  obtain rfl : u = Value.ref a := rx
  refine getmeth_ok I1 ea c hm l ?_
  refine PySem.W.callWith_KW0 (first := [.ref a]) (h₀ := X.base) I.ok.mod.kin hm.kp hall ?_ hpl
  refine thn (hkw.run pos pins s1 σ H1 _ I1 q) fun ws s2 ⟨zs, H2, I2, rz, q2⟩ => ⟨I2.kIn, ?_⟩
  rw [hks]
  exact run_fnk (us := [.ref a]) (vs := [.ref a]) F hr hb hx I2 (.cons rfl .nil) rz q2
end
section
variable {P : Program} {w : World} {K : PySem.W.Frag} {mg : Str → Option Value} {base : Heap}
theorem scGreatB : FnScope ["rule", "x", "over", "under"] ["rule", "x"] (defScope sGreatB) := ⟨rfl, rfl, rfl, by decide +kernel, rfl, by decide +kernel, by decide +kernel⟩
theorem ok_greatB {f : Addr} {fd : FuncData} (F : Fun K "greatest_beside" "greatest_beside" sGreatB f fd) : FnOk P w K mg base CX0 1 f fd ["rule", "x"] (spGreatB K) := by
  refine F.ok scGreatB (fun vs H Q E h => ?_) (fun cdv A outer s H vs Q E hr h => ?_)
  · obtain ⟨r, p, q, k, x, rfl, _⟩ := h
    rfl
  · obtain ⟨r, p, q, k, x, rfl, ⟨⟨C, dx, fs, a, hr1, cl, n1, n2, l1, l2, ha⟩, b1, b2, b3, b4, b5⟩, kk⟩ := h
    refine ⟨_, pss_cons (ps_asg (pe_fld (pv 0) rfl) (pg_tup (by rfl) (pgs_cons (pg_name (i := 2) scGreatB.nd rfl (.inl rfl)) (pgs_cons (pg_name (i := 3) scGreatB.nd rfl (.inl rfl)) pgs_nil))))
      (pss_one (ps_ret (pe_op op_fdivN (pe_op op_add (pe_op op_mul (pv 2) (pv 1)) (pe_fld (pv 0) rfl)) (pv 3)))), ?_⟩
    have p6 := m64 (show 1 ≤ p by omega) (show p ≤ 8 by omega)
    refine ⟨_, rfl, r, C, dx, fs, _, rfl, hr1, cl, n1, l1, a, _, rfl, SqT.of ha, rfl, _, _, rfl, _, _, rfl, rfl, ?_⟩
    exact ⟨_, rfl, _, rfl, _, _, rfl, rfl, .inl p6, _, rfl, r, C, dx, fs, _, rfl, hr1, cl, n2, l2, _, _, rfl, rfl, _, rfl, _, _, rfl, rfl, ⟨by omega, by omega⟩, kk⟩
theorem scGreatest : FnScope ["self", "x"] ["self", "x"] (defScope sGreatest) := ⟨rfl, rfl, rfl, by decide +kernel, rfl, by decide +kernel, by decide +kernel⟩
theorem ok_greatest {f : Addr} {fd : FuncData} (F : Fun K "greatest" "WeightRule.greatest" sGreatest f fd) (D : Df P w K mg base 3 "need_weight" ["value"] spNeedW) (DB : Df P w K mg base 1 "greatest_beside" ["rule", "x"] (spGreatB K)) : FnOk P w K mg base CX0 4 f fd ["self", "x"] (spGreatest K) := by
  obtain ⟨f1, fd1, G1, g1, k1, bb1⟩ := D.ex
  obtain ⟨f2, fd2, G2, g2, k2, bb2⟩ := DB.ex
  refine F.ok scGreatest (fun vs H Q E h => ?_) (fun cdv A outer s H vs Q E hr h => ?_)
  · obtain ⟨r, p, q, k, x, rfl, _⟩ := h
    rfl
  · obtain ⟨r, p, q, k, x, rfl, rb, x1, x2, kk⟩ := h
    refine ⟨_, pss_cons (ps_expr (pe_call G1 hr (by rfl) g1 k1 bb1 .nil pass0 (pa_cons (pv 1) pa_nil)))
      (pss_one (ps_ret (pe_call G2 (hr.mono (by decide)) (by rfl) g2 k2 bb2 .nil pass0 (pa_cons (pv 0) (pa_cons (pv 1) pa_nil))))), ?_⟩
    exact ⟨_, rfl, x, rfl, x1, x2, _, rfl, _, rfl, r, p, q, k, x, rfl, rb, kk⟩
def tryN (p q k l i o : Int) : Option Int → Int
  | none => 1
  | some n => if (decide (1 < i) && (fairB p q k l n && (fairB p q k (i - n) o && fairB p q k (l + n) (i - n + o)))) = true then 2 else 1
theorem tryT_eq (p q k l i o : Int) (n : Option Int) : tryT p q k l i o n = if (fairB p q k l i && fairB p q k (l + i) o) = true then 1 else tryN p q k l i o n := by
  unfold tryT tryN
  cases n <;> rfl
theorem scTryTurns : FnScope ["self", "light", "inner", "outer", "near"] ["self", "light", "inner", "outer", "near"] (defScope sTryTurns) := ⟨rfl, rfl, rfl, by decide +kernel, rfl, by decide +kernel, by decide +kernel⟩
theorem ok_tryTurns {f f2 C : Addr} {fd fd2 : FuncData} (F : Fun K "turns" "TryRule.turns" sTryTurns f fd) (D : Df P w K mg base 1 "are_fair" ["rule", "x", "y"] (spFair K)) (cl : Cls K C) (G2 : FnOk P w K mg base CX0 2 f2 fd2 ["self", "light", "inner", "outer", "near"] (spTwice K))
    (b2 : Binds K fd2 ["self", "light", "inner", "outer", "near"] []) (m2 : Meth K C "twice_is_fair" f2) : FnOk P w K mg base CX0 3 f fd ["self", "light", "inner", "outer", "near"] (spTryTurns K C) := by
  obtain ⟨f1, fd1, G1, g1, k1, bb1⟩ := D.ex
  refine F.ok scTryTurns (fun vs H Q E h => ?_) (fun cdv A outer s H vs Q E hr h => ?_)
  · obtain ⟨r, p, q, k, l, i, o, n, dx, fs, rfl, _⟩ := h
    rfl
  · obtain ⟨r, p, q, k, l, i, o, n, dx, fs, rfl, R, hr0, hno, hn, kk⟩ := h
    have hr1 : Room 1 _ := hr.mono (by decide)
    refine ⟨_, pss_cons (ps_if (PW.pt (pw_and (pt_val (pe_call G1 hr1 (by rfl) g1 k1 bb1 .nil pass0 (pa_cons (pv 0) (pa_cons (pv 1) (pa_cons (pv 2) pa_nil)))))
        (pw_and1 (pt_val (pe_call G1 hr1 (by rfl) g1 k1 bb1 .nil pass0 (pa_cons (pv 0) (pa_cons (pe_op op_add (pv 1) (pv 2)) (pa_cons (pv 3) pa_nil)))))))) (pss_one (ps_ret pe_int)) pss_nil)
      (pss_one (ps_ret (pe_ifExp (PW.pt (pw_and (pt_cmpR op_gt (pv 2) pe_int (nomark _))
        (pw_and1 (pt_val (pe_meth (pv 0) cl m2 G2 hr b2 .nil pass0 (pa_cons (pv 1) (pa_cons (pv 2) (pa_cons (pv 3) (pa_cons (pv 4) pa_nil))))))))) pe_int pe_int))), ?_⟩
    refine ⟨_, rfl, _, rfl, _, rfl, r, p, q, k, _, _, rfl, R, _, rfl, ite2 (fun e => ?_) (fun e => ?_)⟩
    · refine ⟨_, rfl, _, rfl, _, rfl, _, _, rfl, rfl, _, rfl, r, p, q, k, _, _, rfl, R, _, rfl, ite2 (fun e2 => ?_) (fun e2 => ?_)⟩
      · rw [tryT_eq, if_pos (by rw [Bool.and_eq_true]; exact ⟨e, e2⟩)] at kk
        exact kk
      · rw [tryT_eq, if_neg (by rw [Bool.and_eq_true]; exact fun z => e2 z.2)] at kk
        refine ⟨_, rfl, _, _, rfl, rfl, _, rfl, ite2 (fun g => ?_) (fun g => ?_)⟩
        · cases n with
          | none =>
            have := hn rfl
            have g := of_decide_eq_true g
            omega
          | some n =>
            refine ⟨_, rfl, r, dx, fs, rfl, hr0, hno, _, rfl, _, rfl, _, rfl, _, rfl, r, p, q, k, _, _, _, _, rfl, R, _, rfl, ite2 (fun g2 => ?_) (fun g2 => ?_)⟩
            · have kk : Q (.int (if (decide (1 < i) && (fairB p q k l n && (fairB p q k (i - n) o && fairB p q k (l + n) (i - n + o)))) = true then 2 else 1)) H := kk
              rw [if_pos (by rw [Bool.and_eq_true]; exact ⟨g, g2⟩)] at kk
              exact kk
            · have kk : Q (.int (if (decide (1 < i) && (fairB p q k l n && (fairB p q k (i - n) o && fairB p q k (l + n) (i - n + o)))) = true then 2 else 1)) H := kk
              rw [if_neg (by rw [Bool.and_eq_true]; exact fun z => g2 z.2)] at kk
              exact kk
        · cases n with
          | none => exact kk
          | some n =>
            have kk : Q (.int (if (decide (1 < i) && (fairB p q k l n && (fairB p q k (i - n) o && fairB p q k (l + n) (i - n + o)))) = true then 2 else 1)) H := kk
            rw [if_neg (by rw [Bool.and_eq_true]; exact fun z => g z.1)] at kk
            exact kk
    · rw [tryT_eq, if_neg (by rw [Bool.and_eq_true]; exact fun z => e z.1)] at kk
      refine ⟨_, rfl, _, _, rfl, rfl, _, rfl, ite2 (fun g => ?_) (fun g => ?_)⟩
      · cases n with
        | none =>
          have := hn rfl
          have g := of_decide_eq_true g
          omega
        | some n =>
          refine ⟨_, rfl, r, dx, fs, rfl, hr0, hno, _, rfl, _, rfl, _, rfl, _, rfl, r, p, q, k, _, _, _, _, rfl, R, _, rfl, ite2 (fun g2 => ?_) (fun g2 => ?_)⟩
          · have kk : Q (.int (if (decide (1 < i) && (fairB p q k l n && (fairB p q k (i - n) o && fairB p q k (l + n) (i - n + o)))) = true then 2 else 1)) H := kk
            rw [if_pos (by rw [Bool.and_eq_true]; exact ⟨g, g2⟩)] at kk
            exact kk
          · have kk : Q (.int (if (decide (1 < i) && (fairB p q k l n && (fairB p q k (i - n) o && fairB p q k (l + n) (i - n + o)))) = true then 2 else 1)) H := kk
            rw [if_neg (by rw [Bool.and_eq_true]; exact fun z => g2 z.2)] at kk
            exact kk
      · cases n with
        | none => exact kk
        | some n =>
          have kk : Q (.int (if (decide (1 < i) && (fairB p q k l n && (fairB p q k (i - n) o && fairB p q k (l + n) (i - n + o)))) = true then 2 else 1)) H := kk
          rw [if_neg (by rw [Bool.and_eq_true]; exact fun z => g z.1)] at kk
          exact kk
end
end Ev
namespace Ev
open PySem L2 PySem.Spec PyProof.Rows
theorem lk_hit {k : Str} {v : V} {l : List (Str × V)} : List.lookup k ((k, v) :: l) = some v := by simp [List.lookup]
theorem lk_miss {k k' : Str} {v : V} {l : List (Str × V)} (h : ¬ k = k') : List.lookup k ((k', v) :: l) = List.lookup k l := by
  have : (k == k') = false := by simpa using h
  simp [List.lookup, this]
theorem try_times (a : Addr) (k : Int) : (tryF a k).lookup ("times" : Str) = some (.ref a) := lk_hit
theorem try_plus (a : Addr) (k : Int) : (tryF a k).lookup ("plus" : Str) = some (.int k) := (lk_miss (by decide +kernel)).trans lk_hit
theorem turn_times (a : Addr) (k : Int) (b : Addr) (c : Int) : (turnF a k b c).lookup ("times" : Str) = some (.ref a) := lk_hit
theorem turn_plus (a : Addr) (k : Int) (b : Addr) (c : Int) : (turnF a k b c).lookup ("plus" : Str) = some (.int k) := (lk_miss (by decide +kernel)).trans lk_hit
theorem turn_turn (a : Addr) (k : Int) (b : Addr) (c : Int) : (turnF a k b c).lookup ("turn" : Str) = some (.ref b) := (lk_miss (by decide +kernel)).trans ((lk_miss (by decide +kernel)).trans lk_hit)
theorem turn_tp (a : Addr) (k : Int) (b : Addr) (c : Int) : (turnF a k b c).lookup ("turn_plus" : Str) = some (.int c) := (lk_miss (by decide +kernel)).trans ((lk_miss (by decide +kernel)).trans ((lk_miss (by decide +kernel)).trans lk_hit))
theorem try_no (a : Addr) (k : Int) {m : Str} (h1 : ¬ m = "times") (h2 : ¬ m = "plus") : (tryF a k).lookup m = none := (lk_miss h1).trans ((lk_miss h2).trans rfl)
theorem turn_no (a : Addr) (k : Int) (b : Addr) (c : Int) {m : Str} (h1 : ¬ m = "times") (h2 : ¬ m = "plus") (h3 : ¬ m = "turn") (h4 : ¬ m = "turn_plus") : (turnF a k b c).lookup m = none := (lk_miss h1).trans ((lk_miss h2).trans ((lk_miss h3).trans ((lk_miss h4).trans rfl)))
theorem put_try (a : Addr) (k : Int) : putF "plus" (.int k) (putF "times" (.ref a) []) = tryF a k := by
  show (if ("times" : Str) = "plus" then _ else _) = _
  rw [if_neg (by decide +kernel)]
  rfl
theorem put_turn1 (a : Addr) (k : Int) (b : Addr) : putF "turn" (V.ref b) (tryF a k) = ([("times", V.ref a), ("plus", V.int k), ("turn", V.ref b)] : List (Str × V)) := by
  show (if ("times" : Str) = "turn" then _ else _ :: (if ("plus" : Str) = "turn" then _ else _)) = _
  rw [if_neg (by decide +kernel), if_neg (by decide +kernel)]
  rfl
theorem put_turn2 (a : Addr) (k : Int) (b : Addr) (c : Int) : putF "turn_plus" (.int c) (putF "turn" (.ref b) (tryF a k)) = turnF a k b c := by
  rw [put_turn1]
  show (if ("times" : Str) = "turn_plus" then _ else _ :: (if ("plus" : Str) = "turn_plus" then _ else _ :: (if ("turn" : Str) = "turn_plus" then _ else _))) = _
  rw [if_neg (by decide +kernel), if_neg (by decide +kernel), if_neg (by decide +kernel)]
  rfl
/-- a class of rules -/
structure RCls (K : PySem.W.Frag) (C : Addr) : Prop where
  cl : Cls K C
  n1 : NoAttr K C "times"
  n2 : NoAttr K C "plus"
  n3 : NoAttr K C "turn"
  n4 : NoAttr K C "turn_plus"
def spTryInit (C : Addr) : Sp := fun vs H Q _ => ∃ (x dx a : Addr) (p q k : Int), vs = [.ref x, .ref a, .int k] ∧ H x = some (.ins C dx []) ∧ H a = some (.tup [.int p, .int q]) ∧ 1 ≤ q ∧ q ≤ p ∧ p ≤ 6 ∧ -6 ≤ k ∧ k ≤ 6 ∧ 2 * q ≤ p + k ∧
  ∀ H', But x H H' → H' x = some (.ins C dx (tryF a k)) → Q .non H'
def spTurnInit (C : Addr) : Sp := fun vs H Q _ => ∃ (x dx a b : Addr) (p q k t s c : Int), vs = [.ref x, .ref a, .int k, .ref b, .int c] ∧ H x = some (.ins C dx []) ∧ H a = some (.tup [.int p, .int q]) ∧ H b = some (.tup [.int t, .int s]) ∧
  1 ≤ q ∧ q ≤ p ∧ p ≤ 6 ∧ -6 ≤ k ∧ k ≤ 6 ∧ 2 * q ≤ p + k ∧ (1 ≤ t ∧ t ≤ 8) ∧ (1 ≤ s ∧ s ≤ 8) ∧ -6 ≤ c ∧ c ≤ 6 ∧ ∀ H', But x H H' → H' x = some (.ins C dx (turnF a k b c)) → Q .non H'
section
variable {P : Program} {w : World} {K : PySem.W.Frag} {mg : Str → Option Value} {base : Heap}
theorem scTurnTurns : FnScope ["self", "light", "inner", "outer", "near", "over", "under"] ["self", "light", "inner", "outer", "near"] (defScope sTurnTurns) := ⟨rfl, rfl, rfl, by decide +kernel, rfl, by decide +kernel, by decide +kernel⟩
theorem ok_turnTurns {f C : Addr} {fd : FuncData} (F : Fun K "turns" "TurnRule.turns" sTurnTurns f fd) (T : RCls K C) : FnOk P w K mg base CX0 1 f fd ["self", "light", "inner", "outer", "near"] (spTurnTurns K C) := by
  refine F.ok scTurnTurns (fun vs H Q E h => ?_) (fun cdv A outer s H vs Q E hr h => ?_)
  · obtain ⟨r, l, i, o, n, dx, a, b, k, t, s, c, rfl, _⟩ := h
    rfl
  · obtain ⟨r, l, i, o, n, dx, a, b, k, t, s, c, rfl, hr0, hb, ht, hs, kk⟩ := h
    refine ⟨_, pss_cons (ps_asg (pe_fld (pv 0) rfl) (pg_tup (by rfl) (pgs_cons (pg_name (i := 5) scTurnTurns.nd rfl (.inl rfl)) (pgs_cons (pg_name (i := 6) scTurnTurns.nd rfl (.inl rfl)) pgs_nil))))
      (pss_cons (ps_if (pt_cmpR op_le (pe_op op_mul (pv 6) (pv 2)) (pe_op op_add (pe_op op_mul (pv 5) (pv 3)) (pe_fld (pv 0) rfl)) (nomark _)) (pss_one (ps_ret pe_int)) pss_nil)
      (pss_one (ps_ret (pe_ifExp (pt_cmpR op_gt (pv 2) pe_int (nomark _)) pe_int pe_int)))), ?_⟩
    refine ⟨_, rfl, r, C, dx, _, _, rfl, hr0, T.cl, T.n3, turn_turn a k b c, b, _, rfl, SqT.of hb, rfl, _, _, rfl, _, _, rfl, rfl, ?_⟩
    refine ⟨_, rfl, _, rfl, _, _, rfl, rfl, .inl (m64 hs.1 hs.2), _, rfl, _, rfl, _, _, rfl, rfl, .inl (m64 ht.1 ht.2), _, rfl, r, C, dx, _, _, rfl, hr0, T.cl, T.n4, turn_tp a k b c, _, _, rfl, rfl, _, _, rfl, rfl, _, rfl, ite2 (fun e => ?_) (fun e => ?_)⟩
    · unfold turnT at kk
      rw [if_pos (of_decide_eq_true e)] at kk
      exact kk
    · unfold turnT at kk
      rw [if_neg (fun z => e (decide_eq_true z))] at kk
      refine ⟨_, rfl, _, _, rfl, rfl, _, rfl, ite2 (fun g => ?_) (fun g => ?_)⟩
      · rw [if_pos (of_decide_eq_true g)] at kk
        exact kk
      · rw [if_neg (fun z => g (decide_eq_true z))] at kk
        exact kk
theorem scTryInit : FnScope ["self", "times", "plus"] ["self", "times", "plus"] (defScope sTryInit) := ⟨rfl, rfl, rfl, by decide +kernel, rfl, by decide +kernel, by decide +kernel⟩
theorem ok_tryInit {f C : Addr} {fd : FuncData} {dvs : List V} {kws : List (Str × V)} (F : FunD K "__init__" "TryRule.__init__" (defArgs sTryInit) (defBody sTryInit) (defScope sTryInit) dvs kws f fd) (T : RCls K C) (D1 : Df P w K mg base 5 "need_times" ["times", "plus"] (spNeedT K))
    (D2 : Df P w K mg base 2 "need_halves" ["times", "plus"] (spNeedH K)) : FnOk P w K mg base CX0 6 f fd ["self", "times", "plus"] (spTryInit C) := by
  obtain ⟨f1, fd1, G1, g1, k1, bb1⟩ := D1.ex
  obtain ⟨f2, fd2, G2, g2, k2, bb2⟩ := D2.ex
  refine F.ok scTryInit (fun vs H Q E h => ?_) (fun cdv A outer s H vs Q E hr h => ?_)
  · obtain ⟨x, dx, a, p, q, k, rfl, _⟩ := h
    rfl
  · obtain ⟨x, dx, a, p, q, k, rfl, hx, ha, h1, h2, h3, h4, h5, h6, kk⟩ := h
    refine ⟨_, PSs.nox (pss_cons (ps_expr (pe_call G1 hr (by rfl) g1 k1 bb1 .nil pass0 (pa_cons (pv 1) (pa_cons (pv 2) pa_nil))))
      (pss_cons (ps_expr (pe_call G2 (hr.mono (by decide)) (by rfl) g2 k2 bb2 .nil pass0 (pa_cons (pv 1) (pa_cons (pv 2) pa_nil))))
      (pss_cons (ps_fld (pv 0) (pv 1) rfl) (pss_one (ps_fld (pv 0) (pv 2) rfl))))), ?_⟩
    refine ⟨_, rfl, _, rfl, a, p, q, k, rfl, ha, h1, h2, h3, h4, h5, fun H1 s1 => ?_⟩
    refine ⟨_, rfl, _, rfl, a, p, q, k, rfl, s1 _ _ ha, by omega, h6, ?_⟩
    refine ⟨_, rfl, _, rfl, x, C, dx, _, rfl, s1 _ _ hx, T.cl, T.n1, (by show 0 < 1000; decide), _, rfl, _, rfl, x, C, dx, _, rfl, upd_same, T.cl, T.n2, (by show 1 < 1000; decide), ?_⟩
    refine kk _ ((Same.but s1).trans (But.upd_at.trans But.upd_at)) ?_
    rw [upd_same, put_try]
theorem scTurnInit : FnScope ["self", "times", "plus", "turn", "turn_plus"] ["self", "times", "plus", "turn", "turn_plus"] (defScope sTurnInit) := ⟨rfl, rfl, rfl, by decide +kernel, rfl, by decide +kernel, by decide +kernel⟩
theorem ok_turnInit {f C : Addr} {fd : FuncData} {dvs : List V} {kws : List (Str × V)} (F : FunD K "__init__" "TurnRule.__init__" (defArgs sTurnInit) (defBody sTurnInit) (defScope sTurnInit) dvs kws f fd) (T : RCls K C) (D1 : Df P w K mg base 5 "need_times" ["times", "plus"] (spNeedT K))
    (D2 : Df P w K mg base 2 "need_halves" ["times", "plus"] (spNeedH K)) (D3 : Df P w K mg base 4 "is_turn" ["value"] (spTurn K)) (D4 : Df P w K mg base 3 "is_plus" ["value"] spPlus) : FnOk P w K mg base CX0 6 f fd ["self", "times", "plus", "turn", "turn_plus"] (spTurnInit C) := by
  obtain ⟨f1, fd1, G1, g1, k1, bb1⟩ := D1.ex
  obtain ⟨f2, fd2, G2, g2, k2, bb2⟩ := D2.ex
  obtain ⟨f3, fd3, G3, g3, k3, bb3⟩ := D3.ex
  obtain ⟨f4, fd4, G4, g4, k4, bb4⟩ := D4.ex
  refine F.ok scTurnInit (fun vs H Q E h => ?_) (fun cdv A outer s H vs Q E hr h => ?_)
  · obtain ⟨x, dx, a, b, p, q, k, t, s, c, rfl, _⟩ := h
    rfl
  · obtain ⟨x, dx, a, b, p, q, k, t, s, c, rfl, hx, ha, hb, h1, h2, h3, h4, h5, h6, h7, h8, h9, h10, kk⟩ := h
    refine ⟨_, PSs.nox (pss_cons (ps_expr (pe_call G1 hr (by rfl) g1 k1 bb1 .nil pass0 (pa_cons (pv 1) (pa_cons (pv 2) pa_nil))))
      (pss_cons (ps_if (pt_not (pt_val (pe_call G3 (hr.mono (by decide)) (by rfl) g3 k3 bb3 .nil pass0 (pa_cons (pv 3) pa_nil)))) (pss_one ps_never) pss_nil)
      (pss_cons (ps_if (pt_not (pt_val (pe_call G4 (hr.mono (by decide)) (by rfl) g4 k4 bb4 .nil pass0 (pa_cons (pv 4) pa_nil)))) (pss_one ps_never) pss_nil)
      (pss_cons (ps_expr (pe_call G2 (hr.mono (by decide)) (by rfl) g2 k2 bb2 .nil pass0 (pa_cons (pv 1) (pa_cons (pv 2) pa_nil))))
      (pss_cons (ps_fld (pv 0) (pv 1) rfl) (pss_cons (ps_fld (pv 0) (pv 2) rfl) (pss_cons (ps_fld (pv 0) (pv 3) rfl) (pss_one (ps_fld (pv 0) (pv 4) rfl))))))))), ?_⟩
    refine ⟨_, rfl, _, rfl, a, p, q, k, rfl, ha, h1, h2, h3, h4, h5, fun H1 s1 => ?_⟩
    refine ⟨_, rfl, b, t, s, rfl, s1 _ _ hb, h7, h8, fun H2 s2 => ⟨true, rfl, iteF ?_⟩⟩
    refine ⟨_, rfl, c, rfl, h9, h10, true, rfl, iteF ?_⟩
    have s3 := s1.trans s2
    refine ⟨_, rfl, _, rfl, a, p, q, k, rfl, s3 _ _ ha, by omega, h6, ?_⟩
    refine ⟨_, rfl, _, rfl, x, C, dx, _, rfl, s3 _ _ hx, T.cl, T.n1, (by show 0 < 1000; decide), _, rfl, _, rfl, x, C, dx, _, rfl, upd_same, T.cl, T.n2, (by show 1 < 1000; decide), ?_⟩
    refine ⟨_, rfl, _, rfl, x, C, dx, _, rfl, upd_same, T.cl, T.n3, (by rw [put_try]; show 2 < 1000; decide), _, rfl, _, rfl, x, C, dx, _, rfl, upd_same, T.cl, T.n4, (by rw [put_try, put_turn1]; show 3 < 1000; decide), ?_⟩
    refine kk _ ((Same.but s3).trans (But.upd_at.trans (But.upd_at.trans (But.upd_at.trans But.upd_at)))) ?_
    rw [upd_same, put_try, put_turn2]
end
end Ev
namespace Ev
open PySem L2 PySem.Spec PyProof.Rows
abbrev sKept : Stmt := top 1
abbrev sParts : Stmt := top 4
theorem same_new {H : Hp} {q : Addr} {o : HO} (n : H q = none) : Same H (upd H q o) := fun b u e => by rw [upd_ne (ne_of_none e n)]; exact e
section
variable {X : Cx}
theorem pe_never {e : Expr} : PE X e (fun _ _ _ => False) := ⟨fun _ _ _ _ _ _ h => h.elim⟩
end
/-- v is a value of the built-in type T, one that holds nothing -/
structure Flat (v : V) (T : String) : Prop where
  ty : ∀ (K : PySem.W.Frag) (H : Hp), TyX K H v (.type T)
  l : kitB T "list" = some false
  t : kitB T "tuple" = some false
  d : kitB T "dict" = some false
theorem flat_int (i : Int) : Flat (.int i) "int" := ⟨fun _ _ => .base (.int i), by decide +kernel, by decide +kernel, by decide +kernel⟩
theorem flat_str (x : Str) : Flat (.str x) "str" := ⟨fun _ _ => .base (.str x), by decide +kernel, by decide +kernel, by decide +kernel⟩
theorem kit2 {K : PySem.W.Frag} {T a b : String} (h1 : kitB T a = some false) (h2 : kitB T b = some false) : PySem.W.kitAny K (.type T) [.type a, .type b] = some false :=
  kitAny_cons (kit_ty h1) (fun _ => kitAny_cons (kit_ty h2) (fun _ => kitAny_nil) (fun z => by cases z)) (fun z => by cases z)
def spParts : Sp := fun vs H Q _ => ∃ (v : V) (T : String), vs = [v] ∧ Flat v T ∧ ∀ (p : Addr) (H' : Hp), H p = none → Same H H' → H' p = some (.lst []) → Q (.ref p) H'
def spKept : Sp := fun vs H Q _ => ∃ (v : V) (T : String), vs = [v] ∧ Flat v T ∧ ∀ (H' : Hp), Same H H' → Q v H'
section
variable {P : Program} {w : World} {K : PySem.W.Frag} {mg : Str → Option Value} {base : Heap}
theorem scParts : FnScope ["value"] ["value"] (defScope sParts) := ⟨rfl, rfl, rfl, by decide +kernel, rfl, by decide +kernel, by decide +kernel⟩
theorem ok_parts {f : Addr} {fd : FuncData} (F : Fun K "parts_of" "parts_of" sParts f fd) (T : Blt mg) (md : mg "dict" = none) : FnOk P w K mg base CX0 1 f fd ["value"] spParts := by
  refine F.ok scParts (fun vs H Q E h => ?_) (fun cdv A outer s H vs Q E hr h => ?_)
  · obtain ⟨v, TT, rfl, _⟩ := h
    rfl
  · obtain ⟨v, TT, rfl, fl, kk⟩ := h
    refine ⟨_, pss_cons (ps_if (pt_val (pe_callB call_isiT (by rfl) T.isi (by decide +kernel) (pa_cons (pv 0) (pa_cons (pe_tup (pa_cons (pe_bltn (v := .ty "list") (by rfl) T.list (by decide +kernel) rfl) (pa_cons (pe_bltn (v := .ty "tuple") (by rfl) T.tuple (by decide +kernel) rfl) pa_nil))) pa_nil)))) (pss_one ps_never) pss_nil)
      (pss_one (ps_ret (pe_ifExp (pt_val (pe_callB call_isi (by rfl) T.isi (by decide +kernel) (pa_cons (pv 0) (pa_cons (pe_bltn (v := .ty "dict") (by rfl) md (by decide +kernel) rfl) pa_nil)))) pe_never (pe_lst pa_nil)))), ?_⟩
    refine ⟨_, rfl, (by show 2 ≤ sizeLine; decide), fun tp ntp => ⟨v, tp, _, _, _, false, rfl, upd_same, .cons (.ty _) (.cons (.ty _) .nil), fl.ty _ _, kit2 fl.l fl.t, _, rfl, iteF ?_⟩⟩
    refine ⟨_, rfl, v, _, _, _, false, rfl, .ty _, fl.ty _ _, kit_ty fl.d, _, rfl, iteF ⟨(by show 0 ≤ sizeLine; decide), fun p np => ?_⟩⟩
    refine kk p _ ?_ (fun b o e => ?_) upd_same
    · cases e : H p with
      | none => rfl
      | some o => rw [upd_ne (ne_of_none e ntp), e] at np; cases np
    · have e1 : upd H tp (.tup [.ty "list", .ty "tuple"]) b = some o := by rw [upd_ne (ne_of_none e ntp)]; exact e
      rw [upd_ne (ne_of_none e1 np)]; exact e1
theorem kit3 {K : PySem.W.Frag} {T a b c : String} (h1 : kitB T a = some false) (h2 : kitB T b = some false) (h3 : kitB T c = some false) : PySem.W.kitAny K (.type T) [.type a, .type b, .type c] = some false :=
  kitAny_cons (kit_ty h1) (fun _ => kitAny_cons (kit_ty h2) (fun _ => kitAny_cons (kit_ty h3) (fun _ => kitAny_nil) (fun z => by cases z)) (fun z => by cases z)) (fun z => by cases z)
theorem scKept : FnScope ["value"] ["value"] (defScope sKept) := ⟨rfl, rfl, rfl, by decide +kernel, rfl, by decide +kernel, by decide +kernel⟩
theorem ok_kept {f : Addr} {fd : FuncData} (F : Fun K "kept" "kept" sKept f fd) (T : Blt mg) (md : mg "dict" = none) (ma : mg "any" = none) (D : Df P w K mg base 1 "parts_of" ["value"] spParts) : FnOk P w K mg base CX0 2 f fd ["value"] spKept := by
  refine F.ok scKept (fun vs H Q E h => ?_) (fun cdv A outer s H vs Q E hr h => ?_)
  · obtain ⟨v, TT, rfl, _⟩ := h
    rfl
  · obtain ⟨v, TT, rfl, fl, kk⟩ := h
    refine ⟨_, pss_cons (ps_if (pt_not (pt_val (pe_callB call_isiT (by rfl) T.isi (by decide +kernel) (pa_cons (pv 0) (pa_cons (pe_tup (pa_cons (pe_bltn (v := .ty "list") (by rfl) T.list (by decide +kernel) rfl) (pa_cons (pe_bltn (v := .ty "tuple") (by rfl) T.tuple (by decide +kernel) rfl) (pa_cons (pe_bltn (v := .ty "dict") (by rfl) md (by decide +kernel) rfl) pa_nil)))) pa_nil))))) (pss_one (ps_ret (pv 0))) pss_nil)
      (pss_cons ps_never (pss_one ps_never)), ?_⟩
    refine ⟨_, rfl, (by show 3 ≤ sizeLine; decide), fun tp ntp => ⟨v, tp, _, _, _, false, rfl, upd_same, .cons (.ty _) (.cons (.ty _) (.cons (.ty _) .nil)), fl.ty _ _, kit3 fl.l fl.t fl.d, _, rfl, iteT ⟨_, rfl, ?_⟩⟩⟩
    exact kk _ (fun b u e => by rw [upd_ne (ne_of_none e ntp)]; exact e)
end
end Ev
namespace Ev
open PySem L2 PySem.Spec PyProof.Rows
/-! Promises of defs that are called while no repr is under way (so what they make can be shown). -/
structure FnG (P : Program) (w : World) (K : PySem.W.Frag) (mg : Str → Option Value) (base : Heap) (k : Nat) (f : Addr)
    (fd : FuncData) (ps : List Str) (sp : Sp) : Prop where
  many : ∀ vs H Q E, sp vs H Q E → vs.length = ps.length
  goes : ∀ (A : Around) (above : List Env) (s : Shared) (H : Hp) (args : Args) (us : List Value) (vs : List V) (Q : VK)
    (E : XK), Room k A → A.guards = some [] → Env0 P w K mg base A above s H → BindsTo s fd args (ps.zip us) → Vals vs us →
    sp vs H Q E → codeAny (model P w) A (.call (.ref f) args) (CR CX0 above P w H s Q E) s
theorem FnG.of {P : Program} {w : World} {K : PySem.W.Frag} {mg : Str → Option Value} {base : Heap} {k : Nat} {f : Addr}
    {fd : FuncData} {ps : List Str} {sp : Sp} (F : FnOk P w K mg base CX0 k f fd ps sp) : FnG P w K mg base k f fd ps sp :=
  ⟨F.len, fun A above s H args us vs Q E hr _ => F.run A above s H args us vs Q E hr⟩
section
variable {P : Program} {w : World} {K : PySem.W.Frag} {mg : Str → Option Value} {base : Heap}
/-- a def by its body, where no repr is under way -/
theorem fng_code {x qual : Str} {st : Stmt} {f : Addr} {fd : FuncData} {N ps : List Str} {k : Nat} {sp : Sp} (F : Fun K x qual st f fd)
    (S : FnScope N ps (defScope st)) (many : ∀ vs H Q E, sp vs H Q E → vs.length = ps.length)
    (body : ∀ (cdv : Value), fd.code = cdv → ∀ (A : Around) (above : List Env) (s : Shared) (H : Hp) (vs : List V) (Q : VK) (E : XK),
      Room k (A.deeper (envOfC qual (defScope st) s.heap.objs.size f cdv)) → A.guards = some [] → sp vs H Q E →
      ∃ t, PSs (cxOf CX0 P w K mg base N qual (defScope st) f cdv A above s H E).nox (defBody st) t ∧
        t { nx := fun _ H' => Q .non H', rt := Q } (start N vs) H) : FnG P w K mg base (k + 1) f fd ps sp := by
  obtain ⟨oc, od, kV, doc, pm, an, cdv, ct, osl, rfl, lk, hcd⟩ := F.ex
  constructor
  · exact many
  · intro A above s H args us vs Q E room gd env bt rv hs
    have inK : K.In s.heap := env.mod.kin.keeps fun b o e => (env.bs b o e).1
    have noLim : s.heap.NoLimit := env.mod.nolimit.keeps fun b o e => (env.bs b o e).1
    have kinds : ∀ y ∈ ps.zip us, (defScope st).names.lookup y.1 = some .local ∨
        ((defScope st).names.lookup y.1 = some .cell ∧ ((cellsFrom (s.heap.objs.size + 1) (defScope st).names []).lookup y.1).isSome = true) := by
      rintro ⟨n, v⟩ hy
      cases S.par n (List.of_mem_zip hy).1 with
      | inl q => exact .inl q
      | inr q => exact .inr ⟨q, PySem.W.cellsFrom_some _ _ _ (.inl q)⟩
    refine codeAny_call_function room.depth (inK _ _ lk) rfl S.co S.gen rfl (PySem.W.codeRec_of inK hcd) (bt _ _ _ _ ?_)
    refine wpAny_newFunctionEnv_cells S.kind kinds fun e2 he s2 x => ?_
    subst he
    refine ⟨noLim.keeps x.toInCall.keep, codeAny_func ?_⟩
    obtain ⟨t, ht, hq⟩ := body cdv rfl A above s H vs Q E (room.deeper _) gd hs
    have inv := inv_start (CX := CX0) (E := E) S room.hd env (many _ _ _ _ hs) rv x
    refine wpAny_mono (ht.nox.run [] s2 (start N vs) H _ inv hq) (fun fl s3 h3 => ?_) fun e s3 h3 => h3
    cases fl with
    | ret u =>
      obtain ⟨v, σ3, H3, J, rr, q⟩ := h3
      exact ⟨v, H3, J.os, J.bare, J.base, J.hok, rr, q⟩
    | next =>
      obtain ⟨σ3, H3, J, q⟩ := h3
      exact ⟨.non, H3, J.os, J.bare, J.base, J.hok, rfl, q⟩
    | brk =>
      obtain ⟨_, _, _, z⟩ := h3
      exact False.elim z
    | cont =>
      obtain ⟨_, _, _, z⟩ := h3
      exact False.elim z
theorem fng_of {x qual : Str} {st : Stmt} {f : Addr} {fd : FuncData} {N ps : List Str} {k : Nat} {sp : Sp} (F : Fun K x qual st f fd)
    (S : FnScope N ps (defScope st)) (many : ∀ vs H Q E, sp vs H Q E → vs.length = ps.length)
    (body : ∀ (cdv : Value) (A : Around) (above : List Env) (s : Shared) (H : Hp) (vs : List V) (Q : VK) (E : XK),
      Room k (A.deeper (envOfC qual (defScope st) s.heap.objs.size f cdv)) → A.guards = some [] → sp vs H Q E →
      ∃ t, PSs (cxOf CX0 P w K mg base N qual (defScope st) f cdv A above s H E).nox (defBody st) t ∧
        t { nx := fun _ H' => Q .non H', rt := Q } (start N vs) H) : FnG P w K mg base (k + 1) f fd ps sp :=
  fng_code F S many fun cdv _ => body cdv
end
section
variable {X : Cx}
/-- f(e, ..) of such a def -/
theorem pe_callG {k : Nat} {f : Addr} {fd : FuncData} {ps : List Str} {sp : Sp} {E : XK} {x : Str} {p pos : Pos} {e : Expr} {es : List Expr} {t : TA}
    (F : FnG X.prog X.w X.K X.mg X.base k f fd ps sp) (room : Room k X.A) (gd : X.A.guards = some []) (hg : Gl X x)
    (hm : X.mg x = some (.ref f)) (kp : PySem.W.keepIn X.K (.ref f) = true) (hb : Binds X.K fd ps []) (ha : PA X (e :: es) t)
    (hdb : (x == ("__debug__" : Str)) = false := by decide)
    (he : starEach (e :: es) X.env = (false, eval e X.env) :: starEach es X.env := by rfl)
    (hpl : (backTo pos (starEach es X.env)).any (·.1) = false := by rfl) :
    PE X (.Call (.Name x p) (e :: es) [] pos) (tCall sp [] E t) := by
  constructor
  intro pins s σ H Q I h
  refine wpAny_Call_Name_kw (ld_glob I hg hm ?_ hdb)
  refine PySem.W.callWith_K (h₀ := X.base) I.ok.mod.kin kp (thn (ha.run pos pins s σ H _ I h) fun us s1 d => ?_) he hpl
  obtain ⟨vs, H1, I1, rv, q⟩ := d
  refine ⟨I1.kIn, ?_⟩
  have q : sp vs H1 Q E := by
    have q' : sp (vs ++ []) H1 Q E := q
    rw [List.append_nil] at q'
    exact q'
  have hl : us.length = ps.length := rv.length.symm.trans (F.many _ _ _ _ q)
  have bt := hb s1 us I1.kIn (by rw [List.append_nil]; exact hl)
  rw [List.append_nil] at bt
  refine wpAny_call (codeAny_mono (F.goes X.A X.stack s1 H1 ⟨us, []⟩ us vs Q E room gd I1.env0 bt rv q) fun r s2 h2 => ?_)
  cases r with
  | error e => exact False.elim h2
  | ok fl =>
    cases fl with
    | ret u => exact I1.after h2
    | next => exact False.elim h2
    | brk => exact False.elim h2
    | cont => exact False.elim h2
/-- repr of data, where none is under way -/
def rRepr (K : PySem.W.Frag) : List V → Hp → VK → Prop := fun xs H Q => ∃ (a : Addr) (d : PyData), xs = [.ref a] ∧ Dp K H (.ref a) d ∧
  d.showable = true ∧ d.hasDict = false ∧ d.depth ≤ 32 ∧ d.shown.length ≤ sizeLine ∧ Q (.str d.shown) H
theorem call_repr (gd : X.A.guards = some []) (hu : X.A.units + 64 < cLine) : CallR X (.builtin "repr") (rRepr X.K) := by
  intro pins s σ H xs us Q I r h
  obtain ⟨a, d, rfl, hd, h1, h2, h3, h4, q⟩ := h
  cases r with
  | cons r1 r2 =>
    cases r2
    cases r1
    obtain ⟨as, rd⟩ := Dp.reads I d (.ref a) (.ref a) hd rfl
    exact repr_of_reads' rd h1 (fun z => by rw [h2] at z; cases z) gd (by omega) (fun _ _ e => e)
      (fun h' u tk hk => ⟨.str d.shown, H, I.kept hk, ⟨u, rfl⟩, q⟩) h4
end
/-! ### the law's own call -/
section
variable {P : Program} {w : World} {K : PySem.W.Frag} {mg mb : Str → Option Value}
theorem law_callG {k : Nat} {fa a : Addr} {fd : FuncData} {x : Str} {sp : Sp} {s : Shared} {vs : List Value} {ns : List Int}
    (inK : K.In s.heap) (ns1 : s.heap.Ns mainGlobals mg) (ns2 : s.heap.Ns builtinsNs mb) (blt : ∀ x : Str, x ≠ "__name__" → mb x = bootBuiltins x)
    (noLim : s.heap.NoLimit) (hg : s.gens = #[]) (ha : s.heap.get? a = some { cls := .type "list", data := .seq vs.toArray })
    (hi : IntsAre vs ns) (hl : ns.length ≤ sizeLine) (hr : Room k callerA)
    (F : ∀ base : Heap, K.In base → base.Ns mainGlobals mg → FnG P w K mg base k fa fd [x] sp)
    (bt : ∀ (s : Shared) (u : Value), BindsTo s fd ⟨[u], []⟩ [(x, u)])
    (hsp : ∀ H : Hp, SqL K H a (ns.map V.int) → sp [.ref a] H (fun v _ => v = .bl true) fun _ _ _ => False) :
    codeAny (model P w) callerA (.call (.ref fa) ⟨[.ref a], []⟩)
      (fun r s' => r = .ok (.ret (.bool true)) ∧ OldK s.heap s'.heap ∧ s'.os = s.os ∧ AllBare s'.gens) s := by
  have rv := vals_ints hi
  have lv := hi.length
  have key : ∀ H : Hp, (∀ b u, H b = some u → b = a ∧ K.lookup a = none ∧ u = .frz { cls := .type "list", data := .seq vs.toArray } (.lst (ns.map V.int))) →
      SqL K H a (ns.map V.int) → codeAny (model P w) callerA (.call (.ref fa) ⟨[.ref a], []⟩)
        (fun r s' => r = .ok (.ret (.bool true)) ∧ OldK s.heap s'.heap ∧ s'.os = s.os ∧ AllBare s'.gens) s := by
    intro H only sq
    have ok : HOk P w H s.heap := by
      intro b u e
      obtain ⟨rfl, _, rfl⟩ := only b u e
      exact ⟨ha, by rw [List.length_map]; exact hl, vs, _, rv, ha⟩
    have plain : ∀ {b : Addr} {o : Obj} {es : Array DictEntry} {n : Nat}, s.heap.get? b = some o → o.data = .dict es n → H b = none := by
      intro b o es n e d
      cases q : H b with
      | none => rfl
      | some u =>
        obtain ⟨rfl, _, _⟩ := only b u q
        rw [ha] at e
        cases e
        exact nomatch d
    have names : ∀ {b : Addr} {m : Str → Option Value}, s.heap.Ns b m → (hidT s.heap H).Ns b m := by
      rintro b m ⟨o, es, n, e, d, r⟩
      exact ⟨o, es, n, hidT_get e (plain e d), d, r⟩
    have inB : K.In (hidT s.heap H) := by
      intro b o e
      refine hidT_get (inK b o e) ?_
      cases q : H b with
      | none => rfl
      | some u =>
        obtain ⟨rfl, n, _⟩ := only b u q
        rw [n] at e
        cases e
    obtain ⟨mc, l1, l2⟩ := noLim
    have md : Mod K mg (hidT s.heap H) := ⟨inB, names ns1, ⟨mb, names ns2, blt⟩, ⟨mc, names l1, l2⟩⟩
    have env : Env0 P w K mg (hidT s.heap H) callerA [] s H :=
      ⟨rfl, md, fun b o e => of_hidT e, Nat.le_of_eq (hidT_size _ _), trivial, (fun b hb => by cases hb), ok, .of_eq hg⟩
    have go := (F _ inB (names ns1)).goes callerA [] s H ⟨[.ref a], []⟩ [.ref a] [.ref a] _ _ hr rfl env (bt s (.ref a)) (.cons rfl .nil) (hsp H sq)
    refine codeAny_mono go fun r s2 h2 => ?_
    cases r with
    | error e => exact False.elim h2
    | ok fl =>
      cases fl with
      | next => exact False.elim h2
      | brk => exact False.elim h2
      | cont => exact False.elim h2
      | ret u =>
        obtain ⟨v, H2, os, bare, un, ok2, rr, q⟩ := h2
        obtain rfl : v = V.bl true := q
        obtain rfl : u = Value.bool true := rr
        refine ⟨rfl, OldK.of_keep fun b o e => ?_, os, bare⟩
        cases q : H b with
        | none => exact un.keep b o e q (by intro z; cases z) (by simp)
        | some u =>
          obtain ⟨rfl, _, rfl⟩ := only b u q
          obtain ⟨e1, _⟩ := ok b _ q
          obtain ⟨e2, _⟩ := ok2 b _ (un.frzs b _ _ q)
          rw [e] at e1
          cases e1
          exact e2
  cases hk : K.lookup a with
  | none =>
    refine key (fun b => if b = a then some (.frz { cls := .type "list", data := .seq vs.toArray } (.lst (ns.map V.int))) else none) (fun b u e => ?_) (.inl (.inr ⟨_, if_pos rfl⟩))
    by_cases z : b = a
    · rw [if_pos z] at e
      cases e
      exact ⟨z, hk, rfl⟩
    · rw [if_neg z] at e
      cases e
  | some o =>
    have e := inK a o hk
    rw [ha] at e
    cases e
    refine key (fun _ => none) (fun b u e => by cases e) (.inr ⟨_, vs.toArray, _, hk, rfl, rfl, rfl, ?_, by simpa using rv⟩)
    rw [List.size_toArray, lv]
    exact hl
end
theorem walk_ofG {l : PySem.W.OpenLaw} {n k : Nat} {q : Program} {loose : List Str} {XP : (Str → Option Value) → Heap → Prop} {YP : World → Heap → Prop}
    {d : DefRec} {K : Params → PySem.W.Frag} {sp : World → Sp} {x : Str} (hn : l.most = some n) (hn2 : n ≤ sizeLine) (hdf : d.params.defaults = [])
    (hr : Room k callerA) (hY : ∀ (w : World) (h : Heap), YP w h → (K w.params).In h)
    (F : ∀ (w : World) (mg : Str → Option Value) (fa : Addr) (h : Heap), (K w.params).In h → h.Ns mainGlobals mg → mg d.name = some (.ref fa) →
      ∃ fd : FuncData, (∀ (s : Shared) (u : Value), BindsTo s fd ⟨[u], []⟩ [(x, u)]) ∧
        ∀ base : Heap, (K w.params).In base → base.Ns mainGlobals mg → FnG l.prog w (K w.params) mg base k fa fd [x] (sp w))
    (hsp : ∀ (w : World) (H : Hp) (a : Addr) (ns : List Int), ns.length ≤ n → SqL (K w.params) H a (ns.map V.int) → sp w [.ref a] H (fun v _ => v = .bl true) fun _ _ _ => False) :
    PySem.W.WalkO q loose XP YP l.row.toRowW d [] (fun f vs => PySem.call f vs) := by
  refine Att.attach_call hn hdf fun w s0 s1 mg mb fa o pm cd doc a vs ns G Y h1 h2 h3 h4 h5 h6 h7 h8 => ?_
  obtain ⟨fd, bt, hF⟩ := F w mg fa _ (hY w _ Y) G.T.g h4
  exact law_callG (hY w _ Y) G.T.g G.T.b G.T.builtins G.T.nolimit h8 h5 h6 (Nat.le_trans h7 hn2) hr hF bt (fun H sq => hsp w H a ns h7 sq)
end Ev
namespace Ev
open PySem L2 PySem.Spec PyProof.Rows
theorem walk_ofGE {l : PySem.W.OpenLaw} {n k : Nat} {q : Program} {loose : List Str} {XP : (Str → Option Value) → Heap → Prop} {YP : World → Heap → Prop}
    {d : DefRec} {x : Str} (hn : l.most = some n) (hn2 : n ≤ sizeLine) (hdf : d.params.defaults = []) (hr : Room k callerA)
    (F : ∀ (w : World) (mg : Str → Option Value) (fa : Addr) (h : Heap), YP w h → h.Ns mainGlobals mg → mg d.name = some (.ref fa) →
      ∃ (K : PySem.W.Frag) (fd : FuncData) (sp : Sp), K.In h ∧ (∀ (s : Shared) (u : Value), BindsTo s fd ⟨[u], []⟩ [(x, u)]) ∧
        (∀ (H : Hp) (a : Addr) (ns : List Int), ns.length ≤ n → SqL K H a (ns.map V.int) → sp [.ref a] H (fun v _ => v = .bl true) fun _ _ _ => False) ∧
        ∀ base : Heap, K.In base → base.Ns mainGlobals mg → FnG l.prog w K mg base k fa fd [x] sp) :
    PySem.W.WalkO q loose XP YP l.row.toRowW d [] (fun f vs => PySem.call f vs) := by
  refine Att.attach_call hn hdf fun w s0 s1 mg mb fa o pm cd doc a vs ns G Y h1 h2 h3 h4 h5 h6 h7 h8 => ?_
  obtain ⟨K, fd, sp, inK, bt, hsp, hF⟩ := F w mg fa _ Y G.T.g h4
  exact law_callG inK G.T.g G.T.b G.T.builtins G.T.nolimit h8 h5 h6 (Nat.le_trans h7 hn2) hr hF bt (fun H sq => hsp H a ns h7 sq)
end Ev
namespace Ev
open PySem L2 PySem.Spec PyProof.Rows
abbrev sPen : Stmt := top 46
abbrev sPick : Stmt := top 48
abbrev sNums : Stmt := top 49
abbrev sRule : Stmt := top 50
abbrev sLFair : Stmt := top 51
abbrev sLaw : Stmt := top 55
theorem Pen.new {L : Addr} {H : Hp} {p q : Addr} {B : Int} {o : HO} (h : Pen L H p B) (n : H q = none) : Pen L (upd H q o) p B := h.keep (fun b u e => by rw [upd_ne (ne_of_none e n)]; exact e)
theorem Pen.some {L : Addr} {H : Hp} {p : Addr} {B : Int} (h : Pen L H p B) : ∃ xs, H p = some (.lst xs) := by
  obtain ⟨ns, t, c, h1, _⟩ := h
  exact ⟨_, h1⟩
theorem Pen.ne {L : Addr} {H : Hp} {p q : Addr} {B : Int} (h : Pen L H p B) (n : H q = none) : q ≠ p := by
  obtain ⟨xs, e⟩ := h.some
  exact (ne_of_none e n).symm
theorem But.free {L p a : Addr} {H H' : Hp} {B : Int} (t : But p H H') (h : Pen L H' p B) (n : H' a = none) : H a = none := by
  cases e : H a with
  | none => rfl
  | some o =>
    have := t a o (h.ne n) e
    rw [n] at this
    cases this
def spPick : Sp := fun vs H Q _ => ∃ (p l L : Addr) (xs : List V) (B : Int), vs = [.ref p, .ref l] ∧ H l = some (.lst xs) ∧ l ≠ p ∧ 1 ≤ xs.length ∧ xs.length ≤ 1000 ∧ B ≤ 1000000 ∧ Pen L H p B ∧
  ∀ (d : V) (H' : Hp), d ∈ xs → But p H H' → Pen L H' p (B + 1) → Q d H'
inductive Row
  | tr (p q k : Int)
  | tn (p q k t s c : Int)
def Row.vs : Row → List V
  | .tr p q k => [.int p, .int q, .int k]
  | .tn p q k t s c => [.int p, .int q, .int k, .int t, .int s, .int c]
def Row.p : Row → Int
  | .tr p _ _ => p
  | .tn p _ _ _ _ _ => p
def Row.q : Row → Int
  | .tr _ q _ => q
  | .tn _ q _ _ _ _ => q
def Row.k : Row → Int
  | .tr _ _ k => k
  | .tn _ _ k _ _ _ => k
def okN (p q k : Int) : Prop := 1 ≤ q ∧ q ≤ p ∧ p ≤ 6 ∧ -6 ≤ k ∧ k ≤ 6 ∧ 2 * q ≤ p + k
def okT (t s c : Int) : Prop := (1 ≤ t ∧ t ≤ 8) ∧ (1 ≤ s ∧ s ≤ 8) ∧ -6 ≤ c ∧ c ≤ 6
def Row.ok : Row → Prop
  | .tr p q k => okN p q k
  | .tn p q k t s c => okN p q k ∧ okT t s c
def spNums : Sp := fun vs H Q _ => ∃ (p L : Addr) (B : Int), vs = [.ref p] ∧ B ≤ 900000 ∧ Pen L H p B ∧
  ∀ (a : Addr) (p' q k t s c : Int) (H' : Hp), okN p' q k → okT t s c → H a = none → H' a = some (.tup (Row.tn p' q k t s c).vs) → But p H H' → Pen L H' p (B + 8) → Q (.ref a) H'
section
variable {P : Program} {w : World} {K : PySem.W.Frag} {mg : Str → Option Value} {base : Heap}
theorem scPick : FnScope ["_law_pen_here", "_law_some"] ["_law_pen_here", "_law_some"] (defScope sPick) := ⟨rfl, rfl, rfl, by decide +kernel, rfl, by decide +kernel, by decide +kernel⟩
theorem ok_pick {f : Addr} {fd : FuncData} (F : Fun K "_law_pick" "_law_pick" sPick f fd) (T : Blt mg) (D : Df P w K mg base 1 "_law_draw" ["_law_pen_here", "_law_many"] spDraw) : FnOk P w K mg base CX0 2 f fd ["_law_pen_here", "_law_some"] spPick := by
  obtain ⟨f1, fd1, G1, g1, k1, b1⟩ := D.ex
  refine F.ok scPick (fun vs H Q E h => ?_) (fun cdv A outer s H vs Q E hr h => ?_)
  · obtain ⟨p, l, L, xs, B, rfl, _⟩ := h
    rfl
  · obtain ⟨p, l, L, xs, B, rfl, hl, hne, x1, x2, hB, hp, kk⟩ := h
    refine ⟨_, pss_one (ps_ret (pe_ix ix_list (pv 1) (pe_call G1 hr (by rfl) g1 k1 b1 .nil pass0 (pa_cons (pv 0) (pa_cons (pe_callB call_len_seq (by rfl) T.len PySem.boot_len (pa_cons (pv 1) pa_nil)) pa_nil))) (fun _ _ => rfl))), ?_⟩
    refine ⟨_, rfl, _, rfl, _, rfl, l, _, rfl, .inl (SqL.of hl), p, L, _, B, rfl, by omega, by omega, hB, hp, fun d H1 bt pn d0 d1 => ?_⟩
    obtain ⟨j, rfl⟩ := Int.eq_ofNat_of_zero_le d0
    have hj : j < xs.length := by omega
    refine ⟨l, xs, _, xs[j], rfl, rfl, SqL.of (bt _ _ hne hl), atI_nat (List.getElem?_eq_getElem hj), ?_⟩
    exact kk _ _ (List.getElem_mem hj) bt pn
theorem scNums : FnScope ["_law_pen_here", "_law_q", "_law_p", "_law_k", "_law_s", "_law_t"] ["_law_pen_here"] (defScope sNums) := ⟨rfl, rfl, rfl, by decide +kernel, rfl, by decide +kernel, by decide +kernel⟩
theorem min2 {i j : Int} : (if j < i then j else i) = min i j := by
  by_cases h : j < i
  · rw [if_pos h]; omega
  · rw [if_neg h]; omega
theorem ok_nums {f : Addr} {fd : FuncData} (F : Fun K "_law_numbers" "_law_numbers" sNums f fd) (T : Blt mg) (D1 : Df P w K mg base 1 "_law_draw" ["_law_pen_here", "_law_many"] spDraw) (D2 : Df P w K mg base 2 "_law_pick" ["_law_pen_here", "_law_some"] spPick) :
    FnOk P w K mg base CX0 3 f fd ["_law_pen_here"] spNums := by
  obtain ⟨f1, fd1, G1, g1, k1, b1⟩ := D1.ex
  obtain ⟨f2, fd2, G2, g2, k2, b2⟩ := D2.ex
  refine F.ok scNums (fun vs H Q E h => ?_) (fun cdv A outer s H vs Q E hr h => ?_)
  · obtain ⟨p, L, B, rfl, _⟩ := h
    rfl
  · obtain ⟨p, L, B, rfl, hB, hp, kk⟩ := h
    have hr1 : Room 1 _ := hr.mono (by decide)
    refine ⟨_, pss_cons (ps_set (i := 1) scNums.nd rfl (.inl rfl) (pe_op op_add pe_int (pe_call G1 hr1 (by rfl) g1 k1 b1 .nil pass0 (pa_cons (pv 0) (pa_cons pe_int pa_nil)))))
      (pss_cons (ps_set (i := 2) scNums.nd rfl (.inl rfl) (pe_callB (call_min2 rfl) (by rfl) T.min (by decide +kernel) (pa_cons pe_int (pa_cons (pe_op op_add (pv 1) (pe_call G1 hr1 (by rfl) g1 k1 b1 .nil pass0 (pa_cons (pv 0) (pa_cons (pe_op op_add pe_int (pe_op op_mul pe_int (pv 1))) pa_nil)))) pa_nil))))
      (pss_cons (ps_set (i := 3) scNums.nd rfl (.inl rfl) (pe_call G2 hr (by rfl) g2 k2 b2 .nil pass0 (pa_cons (pv 0) (pa_cons (pe_lst (pa_cons pe_int (pa_cons pe_int (pa_cons pe_int (pa_cons (pe_op op_sub (pe_call G1 hr1 (by rfl) g1 k1 b1 .nil pass0 (pa_cons (pv 0) (pa_cons pe_int pa_nil))) pe_int) (pa_cons pe_int (pa_cons (pe_un un_neg pe_int) pa_nil))))))) pa_nil))))
      (pss_cons (ps_if (pt_cmpR op_lt (pe_op op_add (pv 2) (pv 3)) (pe_op op_mul pe_int (pv 1)) (nomark _)) (pss_one (ps_set (i := 3) scNums.nd rfl (.inl rfl) (pe_op op_sub (pe_op op_mul pe_int (pv 1)) (pv 2)))) pss_nil)
      (pss_cons (ps_set (i := 4) scNums.nd rfl (.inl rfl) (pe_op op_add pe_int (pe_call G1 hr1 (by rfl) g1 k1 b1 .nil pass0 (pa_cons (pv 0) (pa_cons pe_int pa_nil)))))
      (pss_cons (ps_set (i := 5) scNums.nd rfl (.inl rfl) (pe_callB (call_min2 rfl) (by rfl) T.min (by decide +kernel) (pa_cons pe_int (pa_cons (pe_op op_add (pv 4) (pe_call G1 hr1 (by rfl) g1 k1 b1 .nil pass0 (pa_cons (pv 0) (pa_cons (pe_op op_add (pe_op op_mul pe_int (pv 4)) pe_int) pa_nil)))) pa_nil))))
      (pss_one (ps_ret (pe_tup (pa_cons (pv 2) (pa_cons (pv 1) (pa_cons (pe_callB (call_min2 rfl) (by rfl) T.min (by decide +kernel) (pa_cons pe_int (pa_cons (pv 3) pa_nil))) (pa_cons (pv 5) (pa_cons (pv 4)
        (pa_cons (pe_call G2 hr (by rfl) g2 k2 b2 .nil pass0 (pa_cons (pv 0) (pa_cons (pe_lst (pa_cons pe_int (pa_cons (pe_un un_neg pe_int) (pa_cons (pe_un un_neg (pv 4)) (pa_cons (pe_op op_sub (pe_call G1 hr1 (by rfl) g1 k1 b1 .nil pass0 (pa_cons (pv 0) (pa_cons pe_int pa_nil))) pe_int) pa_nil))))) pa_nil))) pa_nil)))))))))))))), ?_⟩
    -- q, p
    refine ⟨_, rfl, p, L, _, B, rfl, by decide, by decide, by omega, hp, fun d1 H1 t1 p1 a1 c1 => ⟨_, _, rfl, rfl, ?_⟩⟩
    refine ⟨_, rfl, _, rfl, _, rfl, _, _, rfl, rfl, .inl ⟨by decide, by decide⟩, _, _, rfl, rfl, p, L, _, _, rfl, by omega, by omega, by omega, p1, fun d2 H2 t2 p2 a2 c2 => ⟨_, _, rfl, rfl, _, _, rfl, ?_⟩⟩
    rw [min2]
    -- k
    refine ⟨_, rfl, _, rfl, p, L, _, _, rfl, by decide, by decide, by omega, p2, fun d3 H3 t3 p3 a3 c3 => ⟨_, _, rfl, rfl, _, rfl, (by show 6 ≤ sizeLine; decide), fun l hl => ⟨p, l, L, _, _, rfl, upd_same, p3.ne hl, (by show 1 ≤ 6; decide), (by show 6 ≤ 1000; decide), by omega, p3.new hl, fun d4 H4 m4 t4 p4 => ?_⟩⟩⟩
    obtain ⟨k0, rfl, k0lo, k0hi⟩ : ∃ k0 : Int, d4 = .int k0 ∧ -6 ≤ k0 ∧ k0 ≤ 6 := by
      simp only [List.mem_cons, List.not_mem_nil, or_false] at m4
      rcases m4 with e | e | e | e | e | e
      · exact ⟨_, e, by decide, by decide⟩
      · exact ⟨_, e, by decide, by decide⟩
      · exact ⟨_, e, by decide, by decide⟩
      · exact ⟨_, e, by omega, by omega⟩
      · exact ⟨_, e, by decide, by decide⟩
      · exact ⟨_, e, by decide, by decide⟩
    have t04 : But p H H4 := ((t1.trans t2).trans t3).trans ((Same.but (same_new hl)).trans t4)
    refine ⟨_, rfl, _, rfl, _, _, rfl, rfl, _, rfl, _, _, rfl, rfl, .inl ⟨by decide, by decide⟩, _, _, rfl, rfl, _, rfl, ite2 (fun e => ?_) (fun e => ?_)⟩
    · have e := of_decide_eq_true e
      refine ⟨_, rfl, _, _, rfl, rfl, .inl ⟨by decide, by decide⟩, _, rfl, _, _, rfl, rfl, ?_⟩
      refine ⟨_, rfl, p, L, _, _, rfl, by decide, by decide, by omega, p4, fun d5 H5 t5 p5 a5 c5 => ⟨_, _, rfl, rfl, ?_⟩⟩
      refine ⟨_, rfl, _, rfl, _, rfl, _, _, rfl, rfl, .inl ⟨by decide, by decide⟩, _, _, rfl, rfl, p, L, _, _, rfl, by omega, by omega, by omega, p5, fun d6 H6 t6 p6 a6 c6 => ⟨_, _, rfl, rfl, _, _, rfl, ?_⟩⟩
      refine ⟨_, rfl, _, rfl, _, rfl, _, _, rfl, _, rfl, _, rfl, _, rfl, _, rfl, _, rfl, _, rfl, _, rfl, p, L, _, _, rfl, by decide, by decide, by omega, p6, fun d7 H7 t7 p7 a7 c7 => ⟨_, _, rfl, rfl, (by show 4 ≤ sizeLine; decide), fun l2 hl2 => ⟨p, l2, L, _, _, rfl, upd_same, p7.ne hl2, (by show 1 ≤ 4; decide), (by show 4 ≤ 1000; decide), by omega, p7.new hl2, fun d8 H8 m8 t8 p8 => ⟨(by show 6 ≤ sizeLine; decide), fun a na => ?_⟩⟩⟩⟩
      obtain ⟨c0, rfl, c0lo, c0hi⟩ : ∃ c0 : Int, d8 = .int c0 ∧ -6 ≤ c0 ∧ c0 ≤ 6 := by
        simp only [List.mem_cons, List.not_mem_nil, or_false] at m8
        rcases m8 with e | e | e | e
        · exact ⟨_, e, by decide, by decide⟩
        · exact ⟨_, e, by decide, by decide⟩
        · exact ⟨_, e, by omega, by omega⟩
        · exact ⟨_, e, by omega, by omega⟩
      have t08 : But p H H8 := t04.trans (((t5.trans t6).trans t7).trans ((Same.but (same_new hl2)).trans t8))
      refine kk a _ _ _ _ _ _ _ ?_ ?_ (t08.free p8 na) upd_same (t08.trans (Same.but (same_new na))) ((p8.new na).mono (by omega))
      · rw [min2]
        exact ⟨by omega, by omega, by omega, by omega, by omega, by omega⟩
      · rw [min2]
        exact ⟨⟨by omega, by omega⟩, ⟨by omega, by omega⟩, by omega, by omega⟩
    · have e : ¬ (min 6 (1 + d1 + d2) + k0 < 2 * (1 + d1)) := fun z => e (decide_eq_true z)
      refine ⟨_, rfl, p, L, _, _, rfl, by decide, by decide, by omega, p4, fun d5 H5 t5 p5 a5 c5 => ⟨_, _, rfl, rfl, ?_⟩⟩
      refine ⟨_, rfl, _, rfl, _, rfl, _, _, rfl, rfl, .inl ⟨by decide, by decide⟩, _, _, rfl, rfl, p, L, _, _, rfl, by omega, by omega, by omega, p5, fun d6 H6 t6 p6 a6 c6 => ⟨_, _, rfl, rfl, _, _, rfl, ?_⟩⟩
      refine ⟨_, rfl, _, rfl, _, rfl, _, _, rfl, _, rfl, _, rfl, _, rfl, _, rfl, _, rfl, _, rfl, _, rfl, p, L, _, _, rfl, by decide, by decide, by omega, p6, fun d7 H7 t7 p7 a7 c7 => ⟨_, _, rfl, rfl, (by show 4 ≤ sizeLine; decide), fun l2 hl2 => ⟨p, l2, L, _, _, rfl, upd_same, p7.ne hl2, (by show 1 ≤ 4; decide), (by show 4 ≤ 1000; decide), by omega, p7.new hl2, fun d8 H8 m8 t8 p8 => ⟨(by show 6 ≤ sizeLine; decide), fun a na => ?_⟩⟩⟩⟩
      obtain ⟨c0, rfl, c0lo, c0hi⟩ : ∃ c0 : Int, d8 = .int c0 ∧ -6 ≤ c0 ∧ c0 ≤ 6 := by
        simp only [List.mem_cons, List.not_mem_nil, or_false] at m8
        rcases m8 with e | e | e | e
        · exact ⟨_, e, by decide, by decide⟩
        · exact ⟨_, e, by decide, by decide⟩
        · exact ⟨_, e, by omega, by omega⟩
        · exact ⟨_, e, by omega, by omega⟩
      have t08 : But p H H8 := t04.trans (((t5.trans t6).trans t7).trans ((Same.but (same_new hl2)).trans t8))
      refine kk a _ _ _ _ _ _ _ ?_ ?_ (t08.free p8 na) upd_same (t08.trans (Same.but (same_new na))) ((p8.new na).mono (by omega))
      · rw [min2]
        exact ⟨by omega, by omega, by omega, by omega, by omega, by omega⟩
      · rw [min2]
        exact ⟨⟨by omega, by omega⟩, ⟨by omega, by omega⟩, by omega, by omega⟩
end
end Ev
namespace Ev
open PySem L2 PySem.Spec PyProof.Rows
def ObjAt (Ct Cn : Addr) (H : Hp) (r : Addr) : Row → Prop
  | .tr p q k => ∃ dx a : Addr, H r = some (.ins Ct dx (tryF a k)) ∧ H a = some (.tup [.int p, .int q])
  | .tn p q k t s c => ∃ dx a b : Addr, H r = some (.ins Cn dx (turnF a k b c)) ∧ H a = some (.tup [.int p, .int q]) ∧ H b = some (.tup [.int t, .int s])
theorem ObjAt.keep {Ct Cn : Addr} {H H' : Hp} {r : Addr} {row : Row} (h : ObjAt Ct Cn H r row) (k : Same H H') : ObjAt Ct Cn H' r row := by
  cases row with
  | tr p q kk =>
    obtain ⟨dx, a, h1, h2⟩ := h
    exact ⟨dx, a, k _ _ h1, k _ _ h2⟩
  | tn p q kk t s c =>
    obtain ⟨dx, a, b, h1, h2, h3⟩ := h
    exact ⟨dx, a, b, k _ _ h1, k _ _ h2, k _ _ h3⟩
theorem ObjAt.but {Ct Cn p : Addr} {H H' : Hp} {r : Addr} {row : Row} {xs : List V} (h : ObjAt Ct Cn H r row) (hp : H p = some (.lst xs)) (k : But p H H') : ObjAt Ct Cn H' r row := by
  cases row with
  | tr p q kk =>
    obtain ⟨dx, a, h1, h2⟩ := h
    exact ⟨dx, a, k _ _ (ne_of h1 hp (by intro z; cases z)) h1, k _ _ (ne_of h2 hp (by intro z; cases z)) h2⟩
  | tn p q kk t s c =>
    obtain ⟨dx, a, b, h1, h2, h3⟩ := h
    exact ⟨dx, a, b, k _ _ (ne_of h1 hp (by intro z; cases z)) h1, k _ _ (ne_of h2 hp (by intro z; cases z)) h2, k _ _ (ne_of h3 hp (by intro z; cases z)) h3⟩
theorem ObjAt.rb {K : PySem.W.Frag} {Ct Cn : Addr} {H : Hp} {r : Addr} {row : Row} (h : ObjAt Ct Cn H r row) (T : RCls K Ct) (N : RCls K Cn) (o : row.ok) : RB K H r row.p row.q row.k := by
  cases row with
  | tr p q kk =>
    obtain ⟨dx, a, h1, h2⟩ := h
    obtain ⟨o1, o2, o3, o4, o5, o6⟩ := o
    exact ⟨⟨Ct, dx, _, a, h1, T.cl, T.n1, T.n2, try_times a kk, try_plus a kk, h2⟩, o1, o2, o3, o4, o5⟩
  | tn p q kk t s c =>
    obtain ⟨dx, a, b, h1, h2, h3⟩ := h
    obtain ⟨⟨o1, o2, o3, o4, o5, o6⟩, _⟩ := o
    exact ⟨⟨Cn, dx, _, a, h1, N.cl, N.n1, N.n2, turn_times a kk b c, turn_plus a kk b c, h2⟩, o1, o2, o3, o4, o5⟩
def spRule (Ct Cn : Addr) : Sp := fun vs H Q _ => ∃ (l : Addr) (row : Row), vs = [.ref l] ∧ H l = some (.tup row.vs) ∧ row.ok ∧ ∀ (r : Addr) (H' : Hp), Same H H' → ObjAt Ct Cn H' r row → Q (.ref r) H'
def spLFair : Sp := fun vs H Q _ => ∃ (l : Addr) (row : Row) (x y : Int), vs = [.ref l, .int x, .int y] ∧ H l = some (.tup row.vs) ∧ (1 ≤ row.p ∧ row.p ≤ 8 ∧ 1 ≤ row.q ∧ row.q ≤ 8) ∧ ∀ H' : Hp, Same H H' → Q (.bl (fairB row.p row.q row.k x y)) H'
theorem fairB_comm (p q k x y : Int) : fairB p q k x y = fairB p q k y x := Bool.and_comm _ _
theorem slice3 {K : PySem.W.Frag} {l : Addr} {row : Row} {H : Hp} {Q : VK} (h : H l = some (.tup row.vs)) (k : ∀ (a : Addr) (H' : Hp), Same H H' → H' a = some (.tup [.int row.p, .int row.q, .int row.k]) → Q (.ref a) H') :
    rSlA K (.ref l) none (some 3) H Q := by
  refine ⟨l, _, rfl, SqT.of h, fun z => ?_, fun z a na => ?_⟩
  · cases row with
    | tr p q kk => exact k l H (Same.refl H) h
    | tn p q kk t s c => exact absurd z.2 (by show ¬ (HT.sIx 6 6 (some 3) = 6); decide)
  · cases row with
    | tr p q kk => exact absurd (show HT.sIx 3 0 none = 0 ∧ HT.sIx 3 3 (some 3) = 3 by decide) z
    | tn p q kk t s c => exact k a _ (same_new na) upd_same
section
variable {P : Program} {w : World} {K : PySem.W.Frag} {mg : Str → Option Value} {base : Heap}
theorem Row.okN {row : Row} (o : row.ok) : Ev.okN row.p row.q row.k := by
  cases row with
  | tr p q k => exact o
  | tn p q k t s c => exact o.1
theorem scLFair : FnScope ["_law_some", "_law_one", "_law_other", "_law_p", "_law_q", "_law_k"] ["_law_some", "_law_one", "_law_other"] (defScope sLFair) := ⟨rfl, rfl, rfl, by decide +kernel, rfl, by decide +kernel, by decide +kernel⟩
theorem ok_lfair {f : Addr} {fd : FuncData} (F : Fun K "_law_fair" "_law_fair" sLFair f fd) : FnOk P w K mg base CX0 1 f fd ["_law_some", "_law_one", "_law_other"] spLFair := by
  refine F.ok scLFair (fun vs H Q E h => ?_) (fun cdv A outer s H vs Q E hr h => ?_)
  · obtain ⟨l, row, x, y, rfl, _⟩ := h
    rfl
  · obtain ⟨l, row, x, y, rfl, hl, o, kk⟩ := h
    refine ⟨_, pss_cons (ps_asg (pe_slice sl_tupA (pv 0) po_none (po_some pe_int)) (pg_tup (by rfl) (pgs_cons (pg_name (i := 3) scLFair.nd rfl (.inl rfl)) (pgs_cons (pg_name (i := 4) scLFair.nd rfl (.inl rfl)) (pgs_cons (pg_name (i := 5) scLFair.nd rfl (.inl rfl)) pgs_nil)))))
      (pss_one (ps_ret (pe_and (pe_cmpR op_le (pe_op op_mul (pv 4) (pv 1)) (pe_op op_add (pe_op op_mul (pv 3) (pv 2)) (pv 5)) (nomark _))
        (pe_one (pe_cmpR op_le (pe_op op_mul (pv 4) (pv 2)) (pe_op op_add (pe_op op_mul (pv 3) (pv 1)) (pv 5)) (nomark _)))))), ?_⟩
    obtain ⟨o1, o2, o3, o4⟩ := o
    have q6 := m64 o3 o4
    have p6 := m64 o1 o2
    refine ⟨_, rfl, _, rfl, slice3 hl fun a H1 s1 ha => ⟨a, _, rfl, SqT.of ha, rfl, _, _, rfl, _, _, rfl, _, _, rfl, rfl, ?_⟩⟩
    refine ⟨_, rfl, _, rfl, _, _, rfl, rfl, .inl q6, _, rfl, _, rfl, _, _, rfl, rfl, .inl p6, _, rfl, _, _, rfl, rfl, _, _, rfl, rfl, _, rfl, ite2 (fun e => ?_) (fun e => ?_)⟩
    · have kk := kk H1 s1
      rw [fairB_comm, show fairB row.p row.q row.k y x = decide (row.q * y ≤ row.p * x + row.k) by unfold fairB; rw [show decide (row.q * x ≤ row.p * y + row.k) = true from e, Bool.true_and]] at kk
      exact ⟨_, rfl, _, rfl, _, _, rfl, rfl, .inl q6, _, rfl, _, rfl, _, _, rfl, rfl, .inl p6, _, rfl, _, _, rfl, rfl, _, _, rfl, rfl, kk⟩
    · have kk := kk H1 s1
      rw [fairB_comm, show fairB row.p row.q row.k y x = false by unfold fairB; rw [show decide (row.q * x ≤ row.p * y + row.k) = false from Bool.eq_false_iff.mpr e, Bool.false_and]] at kk
      exact kk
theorem scRule : FnScope ["_law_some", "_law_p", "_law_q", "_law_k"] ["_law_some"] (defScope sRule) := ⟨rfl, rfl, rfl, by decide +kernel, rfl, by decide +kernel, by decide +kernel⟩
theorem ok_rule {f Ct Cn fT fN : Addr} {fd fdT fdN : FuncData} {g : List Value → List Value → List Value} (F : Fun K "_law_rule" "_law_rule" sRule f fd) (T : Blt mg) (gT : mg "TryRule" = some (.ref Ct)) (gN : mg "TurnRule" = some (.ref Cn)) (MT : Mk K Ct fT) (MN : Mk K Cn fN)
    (GT : FnOk P w K mg base CX0 6 fT fdT ["self", "times", "plus"] (spTryInit Ct)) (bT : Binds K fdT ["self", "times", "plus"] [])
    (GN : FnOk P w K mg base CX0 6 fN fdN ["self", "times", "plus", "turn", "turn_plus"] (spTurnInit Cn)) (bN : KBn K fdN ["self", "times", "plus", "turn", "turn_plus"] 3 ["turn", "turn_plus"] g (fun vs zs => vs ++ zs)) :
    FnOk P w K mg base CX0 8 f fd ["_law_some"] (spRule Ct Cn) := by
  refine F.ok scRule (fun vs H Q E h => ?_) (fun cdv A outer s H vs Q E hr h => ?_)
  · obtain ⟨l, row, rfl, _⟩ := h
    rfl
  · obtain ⟨l, row, rfl, hl, o, kk⟩ := h
    refine ⟨_, pss_cons (ps_asg (pe_slice sl_tupA (pv 0) po_none (po_some pe_int)) (pg_tup (by rfl) (pgs_cons (pg_name (i := 1) scRule.nd rfl (.inl rfl)) (pgs_cons (pg_name (i := 2) scRule.nd rfl (.inl rfl)) (pgs_cons (pg_name (i := 3) scRule.nd rfl (.inl rfl)) pgs_nil)))))
      (pss_cons (ps_if (pt_cmpR op_eq (pe_callB call_len_seq (by rfl) T.len PySem.boot_len (pa_cons (pv 0) pa_nil)) pe_int (nomark _))
        (pss_one (ps_ret (pe_make MT GT hr (by rfl) gT bT .nil pass0 (pa_cons (pe_tup (pa_cons (pv 1) (pa_cons (pv 2) pa_nil))) (pa_cons (pv 3) pa_nil))))) pss_nil)
      (pss_one (ps_ret (pe_makeN (n := 2) MN GN hr (by rfl) gN bN pass0 (pa_cons (pe_tup (pa_cons (pv 1) (pa_cons (pv 2) pa_nil))) (pa_cons (pv 3) pa_nil))
        (pk_cons (pe_tup (pa_cons (pe_ix ix_tup (pv 0) pe_int (fun _ _ => rfl)) (pa_cons (pe_ix ix_tup (pv 0) pe_int (fun _ _ => rfl)) pa_nil))) (pk_cons (pe_ix ix_tup (pv 0) pe_int (fun _ _ => rfl)) pk_nil)))))), ?_⟩
    have o' := Row.okN o
    refine ⟨_, rfl, _, rfl, slice3 hl fun a H1 s1 ha => ⟨a, _, rfl, SqT.of ha, rfl, _, _, rfl, _, _, rfl, _, _, rfl, rfl, ?_⟩⟩
    have hl1 := s1 _ _ hl
    obtain ⟨o1, o2, o3, o4, o5, o6⟩ := o'
    refine ⟨_, rfl, l, _, rfl, .inr (SqT.of hl1), rfl, _, rfl, ite2 (fun e => ?_) (fun e => ?_)⟩
    · cases row with
      | tn p q k t s c => exact absurd (V.int.inj (of_decide_eq_true e)) (show ¬ (((6 : Nat) : Int) = 3) by decide)
      | tr p q k =>
        refine ⟨_, rfl, _, rfl, (by show 2 ≤ sizeLine; decide), fun tp ntp => ⟨_, rfl, fun x dx nx ndx nex => ?_⟩⟩
        have e1 : ∀ o1 o2 : HO, upd (upd (upd H1 tp (.tup [.int p, .int q])) dx o1) x o2 tp = some (.tup [.int p, .int q]) := fun o1 o2 => by
          rw [upd_ne (ne_of_none (upd_same) nx), upd_ne (ne_of_none (upd_same) ndx)]; exact upd_same
        refine ⟨x, dx, tp, p, q, k, rfl, upd_same, e1 _ _, o1, o2, o3, o4, o5, o6, fun H2 t2 hx2 => ⟨rfl, ?_⟩⟩
        refine kk x H2 (fun b u e => ?_) ⟨dx, tp, hx2, t2 _ _ (ne_of_none upd_same nx) (e1 _ _)⟩
        have e3 : upd H1 tp (.tup [.int p, .int q]) b = some u := same_new ntp _ _ (s1 _ _ e)
        exact t2 _ _ (ne_of_none e3 nx) (by rw [upd_ne (ne_of_none e3 nx), upd_ne (ne_of_none e3 ndx)]; exact e3)
    · cases row with
      | tr p q k => exact absurd (decide_eq_true (show V.int ((3 : Nat) : Int) = V.int 3 from rfl)) e
      | tn p q k t s c =>
        refine ⟨_, rfl, _, rfl, (by show 2 ≤ sizeLine; decide), fun tp ntp => ⟨_, rfl, ?_⟩⟩
        have hl2 : upd H1 tp (.tup [.int p, .int q]) l = some (.tup (Row.tn p q k t s c).vs) := same_new ntp _ _ hl1
        refine ⟨_, rfl, l, _, 3, .int t, rfl, rfl, SqT.of hl2, atI_nat (j := 3) rfl, _, rfl, l, _, 4, .int s, rfl, rfl, SqT.of hl2, atI_nat (j := 4) rfl, (by show 2 ≤ sizeLine; decide), fun tq ntq => ?_⟩
        have hl3 : upd (upd H1 tp (.tup [.int p, .int q])) tq (.tup [.int t, .int s]) l = some (.tup (Row.tn p q k t s c).vs) := same_new ntq _ _ hl2
        refine ⟨_, rfl, l, _, 5, .int c, rfl, rfl, SqT.of hl3, atI_nat (j := 5) rfl, rfl, rfl, fun x dx nx ndx nex => ?_⟩
        have f1 : upd (upd H1 tp (.tup [.int (Row.tn p q k t s c).p, .int (Row.tn p q k t s c).q])) tq (.tup [.int t, .int s]) tp = some (.tup [.int p, .int q]) := same_new ntq _ _ upd_same
        have f2 : upd (upd H1 tp (.tup [.int (Row.tn p q k t s c).p, .int (Row.tn p q k t s c).q])) tq (.tup [.int t, .int s]) tq = some (.tup [.int t, .int s]) := upd_same
        have s2 : Same H (upd (upd H1 tp (.tup [.int (Row.tn p q k t s c).p, .int (Row.tn p q k t s c).q])) tq (.tup [.int t, .int s])) := s1.trans ((same_new ntp).trans (same_new ntq))
        generalize upd (upd H1 tp (.tup [.int (Row.tn p q k t s c).p, .int (Row.tn p q k t s c).q])) tq (.tup [.int t, .int s]) = H2 at f1 f2 s2 nx ndx ⊢
        have keep : ∀ (o1 o2 : HO) (b : Addr) (u : HO), H2 b = some u → upd (upd H2 dx o1) x o2 b = some u := fun o1 o2 b u e => by
          rw [upd_ne (ne_of_none e nx), upd_ne (ne_of_none e ndx)]; exact e
        obtain ⟨_, ot1, ot2, ot3, ot4⟩ := o
        refine ⟨x, dx, tp, tq, p, q, k, t, s, c, rfl, upd_same, keep _ _ _ _ f1, keep _ _ _ _ f2, o1, o2, o3, o4, o5, o6, ot1, ot2, ot3, ot4, fun H3 t3 hx3 => ⟨rfl, ?_⟩⟩
        have s3 : ∀ b u, H2 b = some u → H3 b = some u := fun b u e => t3 _ _ (ne_of_none e nx) (keep _ _ _ _ e)
        exact kk x H3 (fun b u e => s3 _ _ (s2 _ _ e)) ⟨dx, tp, tq, hx3, s3 _ _ f1, s3 _ _ f2⟩
end
end Ev
namespace Ev
open PySem L2 PySem.Spec PyProof.Rows
abbrev sCall : Stmt := inClass (top 28) 1
abbrev sLeast : Stmt := inClass (top 28) 3
def zeros (k : Nat) : Str := ⟨(List.replicate k ("0" : Str).cps).foldl (· ++ ·) #[]⟩
theorem zeros_int : ∀ k : Fin 40, PySem.intText? (("1" : Str) ++ zeros k) = some ((10 : Int) ^ (k : Nat)) := by decide +kernel
theorem zeros_len : ∀ k : Fin 40, (("1" : Str) ++ zeros k).length ≤ 640 := by decide +kernel
theorem zeros_len1 : ∀ k : Fin 40, (zeros k).length ≤ 640 := by decide +kernel
section
variable {X : Cx}
theorem op_zeros : OpR X (binaryOp .Mult) (fun x y H Q => ∃ n : Int, x = .str "0" ∧ y = .int n ∧ 0 ≤ n ∧ n ≤ 39 ∧ Q (.str (zeros n.toNat)) H) := by
  intro pins s σ H x y v u Q I rx ry h
  obtain ⟨n, rfl, rfl, n0, n1, q⟩ := h
  obtain ⟨t, rfl⟩ := rx
  obtain ⟨t', rfl⟩ := ry
  refine PySem.P.mul_str ?_ (fun h1 _ => ?_) (fun h1 _ => ?_) ?_
  · rw [decide_eq_false (by omega), decide_eq_false (by omega)]; rfl
  · have : (1 : Int) ≤ (2 ^ 63 - 1) / n := (Int.le_ediv_iff_mul_le (by omega)).mpr (by omega)
    show ¬ ((1 : Nat) : Int) > (2 ^ 63 - 1) / n
    omega
  · have hk : n.toNat ≤ 39 := by omega
    have h2 : ∀ m, m ≤ 39 → _root_.PySem.Builtin.Str.tooLong (1 * m) = false := by decide +kernel
    exact h2 _ hk
  · by_cases h0 : n < 1
    · have e0 : n = 0 := by omega
      subst e0
      rw [if_pos h0]
      refine ⟨by decide, .str (zeros 0), H, I.tok _, ⟨_, rfl⟩, q⟩
    · by_cases h1 : n = 1
      · subst h1
        rw [if_neg h0, if_pos (by decide)]
        refine ⟨.str "0", H, I, ⟨_, rfl⟩, ?_⟩
        have e : zeros (Int.toNat 1) = ("0" : Str) := by decide +kernel
        rw [e] at q
        exact q
      · rw [if_neg h0, if_neg (by simp [h1]; decide)]
        exact ⟨Nat.le_trans (zeros_len1 ⟨n.toNat, by omega⟩) (by decide), .str (zeros n.toNat), H, I.tok _, ⟨_, rfl⟩, q⟩
end
def leastV (p q k y : Int) : Int := if -((k - q * y).fdiv p) > 1 then -((k - q * y).fdiv p) else 1
theorem least_le {p q k y x : Int} (hp : 1 ≤ p) (hx : 1 ≤ x) : leastV p q k y ≤ x ↔ q * y ≤ p * x + k := by
  unfold leastV
  rw [Int.fdiv_eq_ediv_of_nonneg _ (by omega)]
  have h1 : -x ≤ (k - q * y) / p ↔ -x * p ≤ k - q * y := Int.le_ediv_iff_mul_le (by omega)
  have h2 : -x * p = -(p * x) := by rw [Int.neg_mul, Int.mul_comm]
  rw [h2] at h1
  generalize q * y = a at h1 ⊢
  generalize p * x = b at h1 ⊢
  generalize (k - a) / p = c at h1 ⊢
  by_cases z : -c > 1
  · rw [if_pos z]
    constructor
    · intro h; have := h1.mp (by omega); omega
    · intro h; have := h1.mpr (by omega); omega
  · rw [if_neg z]
    constructor
    · intro h; have := h1.mp (by omega); omega
    · intro h; omega
theorem least_pos (p q k y : Int) : 1 ≤ leastV p q k y := by
  unfold leastV
  by_cases z : -((k - q * y).fdiv p) > 1
  · rw [if_pos z]; omega
  · rw [if_neg z]; omega
def greatV (p q k x : Int) : Int := (p * x + k).fdiv q
theorem le_great {p q k x y : Int} (hq : 1 ≤ q) : y ≤ greatV p q k x ↔ q * y ≤ p * x + k := by
  unfold greatV
  rw [Int.fdiv_eq_ediv_of_nonneg _ (by omega), Int.le_ediv_iff_mul_le (by omega), Int.mul_comm]
theorem great_ge {p q k x : Int} (o : okN p q k) (hx : 1 ≤ x) : x + 1 ≤ greatV p q k x := by
  obtain ⟨o1, o2, o3, o4, o5, o6⟩ := o
  refine (le_great o1).mpr ?_
  have h1 : q * (x - 1) ≤ p * (x - 1) := Int.mul_le_mul_of_nonneg_right o2 (by omega)
  rw [Int.mul_sub, Int.mul_sub, Int.mul_one, Int.mul_one] at h1
  rw [Int.mul_add, Int.mul_one]
  omega
theorem great_step {p q k x : Int} (o : okN p q k) : greatV p q k x + 1 ≤ greatV p q k (x + 1) := by
  obtain ⟨o1, o2, o3, o4, o5, o6⟩ := o
  refine (le_great o1).mpr ?_
  have h := (le_great (p := p) (k := k) (x := x) o1).mp (Int.le_refl _)
  rw [Int.mul_add, Int.mul_add, Int.mul_one, Int.mul_one]
  omega
theorem great_le {p q k x : Int} (o : okN p q k) (hx : 1 ≤ x) : greatV p q k x ≤ 6 * x + 6 := by
  obtain ⟨o1, o2, o3, o4, o5, o6⟩ := o
  have h := (le_great (p := p) (k := k) (x := x) o1).mp (Int.le_refl _)
  have h1 : p * x ≤ 6 * x := Int.mul_le_mul_of_nonneg_right o3 (by omega)
  have g1 : x + 1 ≤ greatV p q k x := great_ge ⟨o1, o2, o3, o4, o5, o6⟩ hx
  have h2 : 1 * greatV p q k x ≤ q * greatV p q k x := Int.mul_le_mul_of_nonneg_right o1 (by omega)
  omega
theorem fair_iff {p q k x y : Int} (o : okN p q k) (hx : 1 ≤ x) (hy : x ≤ y) : fairB p q k x y = decide (q * y ≤ p * x + k) := by
  obtain ⟨o1, o2, o3, o4, o5, o6⟩ := o
  have h1 : q * x ≤ p * y + k := by
    have a1 : q * (x - 1) ≤ p * (x - 1) := Int.mul_le_mul_of_nonneg_right o2 (by omega)
    have a2 : p * x ≤ p * y := Int.mul_le_mul_of_nonneg_left hy (by omega)
    rw [Int.mul_sub, Int.mul_sub, Int.mul_one, Int.mul_one] at a1
    omega
  unfold fairB
  rw [decide_eq_true h1, Bool.and_true]
def spCall (K : PySem.W.Frag) : Sp := fun vs H Q _ => ∃ (r : Addr) (p q k x y : Int), vs = [.ref r, .int x, .int y] ∧ RB K H r p q k ∧ (1 ≤ x ∧ x ≤ 10 ^ 60) ∧ (1 ≤ y ∧ y ≤ 10 ^ 60) ∧ Q (.bl (fairB p q k x y)) H
def spLeast (K : PySem.W.Frag) : Sp := fun vs H Q _ => ∃ (r : Addr) (p q k y : Int), vs = [.ref r, .int y] ∧ RB K H r p q k ∧ 1 ≤ y ∧ y ≤ 10 ^ 60 ∧ Q (.int (leastV p q k y)) H
abbrev sLeastB : Stmt := top 33
def spLeastB (K : PySem.W.Frag) : Sp := fun vs H Q _ => ∃ (r : Addr) (p q k y : Int), vs = [.ref r, .int y] ∧ RB K H r p q k ∧ Q (.int (leastV p q k y)) H
section
variable {P : Program} {w : World} {K : PySem.W.Frag} {mg : Str → Option Value} {base : Heap}
theorem fnr_of {CX : CXT} {k : Nat} {f : Addr} {fd : FuncData} {ps : List Str} {sp : Sp} (F : FnOk P w K mg base CX k f fd ps sp) (b : Binds K fd ps []) : FnR P w K mg base CX k f sp := by
  intro A above s H us vs Q E room env rv hs
  have hl : us.length = ps.length := rv.length.symm.trans (F.len _ _ _ _ hs)
  have bt := b s us (env.mod.kin.keeps fun b o e => (env.bs b o e).1) (by rw [List.append_nil]; exact hl)
  rw [List.append_nil] at bt
  exact F.run A above s H ⟨us, []⟩ us vs Q E room env bt rv hs
theorem scCall : FnScope ["self", "x", "y"] ["self", "x", "y"] (defScope sCall) := ⟨rfl, rfl, rfl, by decide +kernel, rfl, by decide +kernel, by decide +kernel⟩
theorem ok_call {f : Addr} {fd : FuncData} (F : Fun K "__call__" "WeightRule.__call__" sCall f fd) (D : Df P w K mg base 3 "need_weight" ["value"] spNeedW) (D2 : Df P w K mg base 1 "are_fair" ["rule", "x", "y"] (spFair K)) : FnOk P w K mg base CX0 4 f fd ["self", "x", "y"] (spCall K) := by
  obtain ⟨f1, fd1, G1, g1, k1, b1⟩ := D.ex
  obtain ⟨f2, fd2, G2, g2, k2, b2⟩ := D2.ex
  refine F.ok scCall (fun vs H Q E h => ?_) (fun cdv A outer s H vs Q E hr h => ?_)
  · obtain ⟨r, p, q, k, x, y, rfl, _⟩ := h
    rfl
  · obtain ⟨r, p, q, k, x, y, rfl, R, hx, hy, kk⟩ := h
    refine ⟨_, pss_cons (ps_expr (pe_call G1 hr (by rfl) g1 k1 b1 .nil pass0 (pa_cons (pv 1) pa_nil)))
      (pss_cons (ps_expr (pe_call G1 hr (by rfl) g1 k1 b1 .nil pass0 (pa_cons (pv 2) pa_nil)))
      (pss_one (ps_ret (pe_call G2 (hr.mono (by decide)) (by rfl) g2 k2 b2 .nil pass0 (pa_cons (pv 0) (pa_cons (pv 1) (pa_cons (pv 2) pa_nil))))))), ?_⟩
    exact ⟨_, rfl, x, rfl, hx.1, hx.2, _, rfl, y, rfl, hy.1, hy.2, _, rfl, _, rfl, _, rfl, r, p, q, k, x, y, rfl, R, kk⟩
theorem scLeastB : FnScope ["rule", "y", "over", "under"] ["rule", "y"] (defScope sLeastB) := ⟨rfl, rfl, rfl, by decide +kernel, rfl, by decide +kernel, by decide +kernel⟩
theorem ok_leastB {f : Addr} {fd : FuncData} (F : Fun K "least_beside" "least_beside" sLeastB f fd) (T : Blt mg) : FnOk P w K mg base CX0 1 f fd ["rule", "y"] (spLeastB K) := by
  refine F.ok scLeastB (fun vs H Q E h => ?_) (fun cdv A outer s H vs Q E hr h => ?_)
  · obtain ⟨r, p, q, k, x, rfl, _⟩ := h
    rfl
  · obtain ⟨r, p, q, k, x, rfl, ⟨⟨C, dx, fs, a, hr1, cl, n1, n2, l1, l2, ha⟩, b1, b2, b3, b4, b5⟩, kk⟩ := h
    refine ⟨_, pss_cons (ps_asg (pe_fld (pv 0) rfl) (pg_tup (by rfl) (pgs_cons (pg_name (i := 2) scLeastB.nd rfl (.inl rfl)) (pgs_cons (pg_name (i := 3) scLeastB.nd rfl (.inl rfl)) pgs_nil))))
      (pss_one (ps_ret (pe_callB (call_max2 rfl) (by rfl) T.max (by decide +kernel) (pa_cons pe_int (pa_cons (pe_un un_neg (pe_op op_fdivN (pe_op op_sub (pe_fld (pv 0) rfl) (pe_op op_mul (pv 3) (pv 1))) (pv 2))) pa_nil))))), ?_⟩
    have q6 := m64 b1 (show q ≤ 8 by omega)
    refine ⟨_, rfl, r, C, dx, fs, _, rfl, hr1, cl, n1, l1, a, _, rfl, SqT.of ha, rfl, _, _, rfl, _, _, rfl, rfl, ?_⟩
    exact ⟨_, rfl, r, C, dx, fs, _, rfl, hr1, cl, n2, l2, _, rfl, _, rfl, _, _, rfl, rfl, .inl q6, _, _, rfl, rfl, _, rfl, _, _, rfl, rfl, ⟨by omega, by omega⟩, _, rfl, _, _, rfl, kk⟩
theorem scLeast : FnScope ["self", "y"] ["self", "y"] (defScope sLeast) := ⟨rfl, rfl, rfl, by decide +kernel, rfl, by decide +kernel, by decide +kernel⟩
theorem ok_least {f : Addr} {fd : FuncData} (F : Fun K "least" "WeightRule.least" sLeast f fd) (T : Blt mg) (D : Df P w K mg base 3 "need_weight" ["value"] spNeedW) (DB : Df P w K mg base 1 "least_beside" ["rule", "y"] (spLeastB K)) : FnOk P w K mg base CX0 4 f fd ["self", "y"] (spLeast K) := by
  obtain ⟨f1, fd1, G1, g1, k1, bb1⟩ := D.ex
  obtain ⟨f2, fd2, G2, g2, k2, bb2⟩ := DB.ex
  refine F.ok scLeast (fun vs H Q E h => ?_) (fun cdv A outer s H vs Q E hr h => ?_)
  · obtain ⟨r, p, q, k, x, rfl, _⟩ := h
    rfl
  · obtain ⟨r, p, q, k, x, rfl, rb, x1, x2, kk⟩ := h
    refine ⟨_, pss_cons (ps_expr (pe_call G1 hr (by rfl) g1 k1 bb1 .nil pass0 (pa_cons (pv 1) pa_nil)))
      (pss_one (ps_ret (pe_call G2 (hr.mono (by decide)) (by rfl) g2 k2 bb2 .nil pass0 (pa_cons (pv 0) (pa_cons (pv 1) pa_nil))))), ?_⟩
    exact ⟨_, rfl, x, rfl, x1, x2, _, rfl, _, rfl, r, p, q, k, x, rfl, rb, kk⟩
end
end Ev
namespace Ev
open PySem L2 PySem.Spec PyProof.Rows
/-! An error that was caught stays in a local behind its suite: its object is told of from then on. -/
def Held (cls : Value) (d : Option Addr) (a : Addr) : HO := .ext fun h => ∃ oe : Obj, h.get? a = some oe ∧ Zc cls d oe ∧ ∃ vs : Array Value, oe.data = .fields vs
theorem held_ok {P : Program} {w : World} {H : Hp} {h : Heap} {a : Addr} {cls : Value} {d : Option Addr} {oe : Obj}
    (e : h.get? a = some oe) (z : Zc cls d oe) (f : ∃ vs : Array Value, oe.data = .fields vs) : ObjOk P w H h a (Held cls d a) :=
  ⟨⟨oe, e, z, f⟩, ⟨oe, e⟩, fun _ _ t k => by obtain ⟨o, q, r⟩ := t; exact ⟨o, k _ q, r⟩⟩
section
variable {X : Cx} {pins : List (Addr × Obj)} {σ : L2.St} {H : Hp} {s : Shared} {a : Addr} {cls : Value} {d : Option Addr} {oe : Obj}
theorem inv_hold (I : Inv X pins σ H s) (e : s.heap.get? a = some oe) (z : Zc cls d oe) (f : ∃ vs : Array Value, oe.data = .fields vs) (n : H a = none)
    (n0 : X.s_0.heap.get? a = none) (nL : a ≠ X.env.locals) (np : ∀ p ∈ X.pn ++ pins, p.1 ≠ a) : Inv X pins σ (upd H a (Held cls d a)) s := by
  have other : ∀ {b : Addr} {o : HO}, H b = some o → upd H a (Held cls d a) b = some o := fun {b o} q => by rw [upd_ne (ne_of_none q n)]; exact q
  constructor
  · exact I.ok
  · exact I.os
  · exact I.bare
  · constructor
    · exact I.base.keep
    · exact I.base.slot
    · intro b o q1 q2 q3
      have nb : b ≠ a := fun t => by rw [t, n0] at q1; cases q1
      rw [upd_ne nb]; exact I.base.free b o q1 q2 q3
    · exact I.base.there
    · exact fun b xs q => other (I.base.tups b xs q)
    · exact fun b o u q => other (I.base.frzs b o u q)
    · intro b ps q
      obtain ⟨more, t⟩ := I.base.tbls b ps q
      exact ⟨more, other t⟩
  · exact I.loc
  · exact I.cell
  · rw [upd_ne nL.symm]; exact I.free
  · intro x c q
    have nb : c ≠ a := fun t => by
      obtain ⟨v, o, q1, q2⟩ := I.cell x c q
      obtain ⟨vs, q3⟩ := f
      rw [t, e] at q1; cases q1
      rw [q3] at q2; cases q2
    rw [upd_ne nb]; exact I.freeC x c q
  · intro p hp
    obtain ⟨q1, q2, q3⟩ := I.pin p hp
    exact ⟨q1, by rw [upd_ne (np p hp)]; exact q2, q3⟩
  · intro b o q
    by_cases nb : b = a
    · subst nb
      rw [upd_same] at q
      cases q
      exact held_ok e z f
    · rw [upd_ne nb] at q
      exact (I.hok b o q).stay (fun _ _ _ t => t) (fun _ t => other t) (fun _ _ t => other t)
  · exact I.len
end
/-- what the clause wishes: the suite reads the error in slot i; behind it the error is told of, slot i is empty -/
def wHeld (K : PySem.W.Frag) (c : Value) (i : Nat) (ts : Addr → Value → Option Addr → TS) (Wout : WX) (n : Nat) (D : Ends) : WX := fun cls d σ H => σ.length = n →
  ∃ b, PySem.W.exmOne K cls c = some b ∧ (b = false → Wout cls d σ H) ∧ (b = true → ∀ a, H a = none →
    ts a cls d { nx := fun τ G => G a = none → D.nx (τ.set i none) (upd G a (Held cls d a)), rt := fun v G => D.rt v G, bk := fun τ G => D.bk (τ.set i none) G, ct := fun τ G => D.ct (τ.set i none) G } (σ.set i (some (.ref a))) H)
section
variable {X : Cx} {x n : Str} {c : Value} {i : Nat} {body suite : List Stmt} {b₀ : Stmt} {np pos pos' : Pos} {tb : WX → TS} {ts : Addr → Value → Option Addr → TS} {Wout : WX}
theorem ps_try_held (hs : X.stack = X.env :: X.outer) (hf : X.env.frame = some X.env.locals) (hex : X.ex = []) (hN : X.N.Nodup) (hi : X.N[i]? = some n) (hln : X.env.kindOf n = some .local) (hc : Names X x c) (tk : Takes X Wout)
    (hb : ∀ (W : WX) (pn : List (Addr × Obj)) (xe : Value → Shared → Prop), Takes (X.tr pn xe) W → PSs (X.tr pn xe) body (tb W))
    (hsu : ∀ (a : Addr) (oe : Obj) (cls : Value) (d : Option Addr) (pn : List (Addr × Obj)), Zc cls d oe → (∃ vs, oe.data = .fields vs) → PSs (X.suite a ((a, oe) :: pn)) (b₀ :: suite) (ts a cls d)) :
    PS X (.Try body [.ExceptHandler (some (.Name x np)) (some n) (b₀ :: suite) pos'] [] [] pos) (fun D σ H => tb (wHeld X.K c i ts Wout X.N.length D) D σ H) := by
  constructor
  intro pins s σ H D I h
  have ok := I.ok
  have frames : X.A.frames = some (X.env :: X.outer) := by rw [ok.frames, hs]
  have isLoc : Loc X.env.scope n := .inl hln
  let hands : List ExceptHandler := [.ExceptHandler (some (.Name x np)) (some n) (b₀ :: suite) pos']
  let land : Value → Shared → Prop := fun e s1 => wpAny (model X.prog X.w) X.A (noteFrame e X.env) (fun _ s2 => wpAny (model X.prog X.w) X.A (setFlight e none)
    (fun _ s3 => wpAny (model X.prog X.w) X.A (handleBy e X.env hands) (SP X pins D) X.xe s3) X.xe s2) X.xe s1
  have caught : Takes (X.tr (X.pn ++ pins) land) (wHeld X.K c i ts Wout X.N.length D) := by
    rintro u s' ⟨a, B, sI, pins', σ', H', cls, d, rfl, J', nb, up, sky, na, os, ag, wish⟩
    obtain ⟨b, hb1, hno, hyes⟩ := wish J'.len
    have J : Inv X pins σ' H' sI := J'.ofTry ok
    have sky2 : Sky B (X.env :: X.outer) a (Zc cls d) X.env.locals s'.heap := by rw [← hs]; exact sky
    refine Sky.land Zc.steady frames hf sky2 fun h3 fl3 up3 => ?_
    have J3 : Inv X pins σ' H' { s' with heap := h3 } := J.landed nb fl3.1 (up.trans up3) os ag
    obtain ⟨oe3, vs3, he3, hz3, hd3⟩ := fl3.there
    have nfr : a ∉ frs (X.env :: X.outer) := by
      intro hm
      obtain ⟨_, o2, e2, nf⟩ := fl3.2.2.1.mem hm
      rw [he3] at e2; cases e2
      exact nf _ hd3
    have nfr2 : a ∉ frs X.stack := by rw [hs]; exact nfr
    have nL : a ≠ X.env.locals := fun z => nfr (List.mem_filterMap.mpr ⟨_, List.mem_cons_self, by rw [hf, z]⟩)
    have nF : a ∉ X.fs := by
      intro hm
      obtain ⟨e, he, q⟩ := List.mem_filterMap.mp hm
      exact nfr (List.mem_filterMap.mpr ⟨e, List.mem_cons_of_mem _ he, q⟩)
    have nI : sI.heap.get? a = none := by
      cases q : sI.heap.get? a with
      | none => rfl
      | some o =>
        have z := nb a o q nfr2
        rw [fl3.2.1] at z; cases z
    have n0 : X.s_0.heap.get? a = none := by
      cases q : X.s_0.heap.get? a with
      | none => rfl
      | some o =>
        obtain ⟨o2, z⟩ := J.base.there a o q (by rw [hex]; simp)
        rw [nI] at z; cases z
    have npin : ∀ p ∈ X.pn ++ pins, p.1 ≠ a := fun p hp z => by
      have q := (J.pin p hp).1
      rw [z, nI] at q; cases q
    have S3 := J3.suite he3 hd3 na nL nF
    refine wpAny_handleBy_cons (codeAny_handlers_test ?_) (fun q => nomatch q)
    have LT : PySem.W.Looks (model X.prog X.w) h3 (typeOf (.ref a)) cls := by
      intro A Q E s k q
      exact wpAny_typeOf_ref (k _ _ he3) (by rw [hz3.1]; exact q)
    have LM := PySem.W.exm_one (M := model X.prog X.w) J3.kIn LT hb1
    have named : ∀ {Q E : Value → Shared → Prop}, Q c { s' with heap := h3 } → wpAny (model X.prog X.w) (X.A.mark (some (.ref a))) (eval (.Name x np) X.env) Q E { s' with heap := h3 } := by
      intro Q E q
      obtain ⟨g1, g2, g3⟩ := hc
      rcases g3 with m | ⟨m, v, nn⟩
      · exact ld_glob (X := X.suite a ((a, oe3) :: (X.pn ++ pins))) S3 g1 m q g2
      · exact ld_blt (X := X.suite a ((a, oe3) :: (X.pn ++ pins))) S3 g1 m v q nn g2
    refine named (LM.here ?_)
    cases b with
    | false =>
      refine wpAny_handleBy_nil (e := .ref a) (env := X.env) ?_
      obtain ⟨k1, k2, k3, oe, vs, T, oT, ts', he, hz, hd, h1, hr⟩ := id fl3
      unfold PySem.passOn
      refine wpAny_bind (wpAny_field he hd h1 ?_)
      rw [if_neg (by simp : ¬ ((Value.ref T == Value.none) = true))]
      have on : wpAny (model X.prog X.w) X.A (setFlight (.ref a) X.env.frame) (fun _ s4 => wpAny (model X.prog X.w) X.A (throw (.ref a) : Sem Flow) (SP X pins D) X.xe s4) X.xe { s' with heap := h3 } := by
        rw [hf]
        refine HandSPX.setFlight_upZ fl3 fun h4 hh4 up4 => ?_
        refine wpAny_throw (tk _ _ ⟨a, B, sI, pins, σ', H', cls, d, rfl, J, nb, (up.trans up3).trans up4, ?_, na, os, ag, hno rfl⟩)
        rw [hs]; exact .inr (.inr hh4)
      first
        | exact wpAny_bind (wpAny_pure (wpAny_bind on))
        | exact wpAny_bind on
    | true =>
      refine codeAny_handlers_suite_as (HandSPX.lands_againZ fl3 fun h4 fl4 up4 => ?_)
      have J4 : Inv X pins σ' H' { s' with heap := h4 } := J.landed nb fl4.1 ((up.trans up3).trans up4) os ag
      obtain ⟨oe4, vs4, he4, hz4, hd4⟩ := fl4.there
      refine store_ok (X := X.suite a ((a, oe4) :: (X.pn ++ pins))) (v := .ref a) (J4.suite he4 hd4 na nL nF) hN hi isLoc rfl (fun s5 S5 => ?_) (.inr hln)
      have suite := (hsu a oe4 cls d (X.pn ++ pins) hz4 ⟨_, hd4⟩).run [] s5 _ H' _ S5 (hyes rfl a na)
      refine wpAny_mono suite (fun f s6 hsp => ?_) (fun _ _ z => False.elim z)
      have gone : ∀ {τ : L2.St} {G : Hp} {Q : Shared → Prop}, Inv X pins τ G s6 → (∀ s7, Inv X pins (τ.set i none) G s7 → Q s7) →
          wpAny (model X.prog X.w) X.A (do bindName X.env n .none; unbindBehindTheSuite X.env n pos') (fun _ s7 => Q s7) X.xe s6 := by
        intro τ G Q S6 hq
        exact gone_ok S6 hN hi hln hq
      cases f with
      | next =>
        obtain ⟨τ, G, S6, q6⟩ := hsp
        obtain ⟨p1, p2, _⟩ := S6.pin (a, oe4) (List.mem_append_left _ List.mem_cons_self)
        exact gone (inv_hold (S6.unsuite ok) p1 hz4 ⟨_, hd4⟩ p2 n0 nL npin) fun s7 J7 => ⟨_, _, J7, q6 p2⟩
      | brk =>
        obtain ⟨τ, G, S6, q6⟩ := hsp
        exact gone (S6.unsuite ok) fun s7 J7 => ⟨_, _, J7, q6⟩
      | cont =>
        obtain ⟨τ, G, S6, q6⟩ := hsp
        exact gone (S6.unsuite ok) fun s7 J7 => ⟨_, _, J7, q6⟩
      | ret u =>
        obtain ⟨v, τ, G, S6, r6, q6⟩ := hsp
        exact gone (S6.unsuite ok) fun s7 J7 => ⟨_, _, _, J7, r6, q6⟩
  refine wpAny_Try_except (wpAny_mono ((hb _ (X.pn ++ pins) land caught).run [] s σ H D (I.toTry _) h) (fun f s1 hsp => ?_) (fun e s1 he => he))
  cases f with
  | next =>
    obtain ⟨τ, G, J, q⟩ := hsp
    exact wpAny_execs_nil ⟨τ, G, J.ofTry ok, q⟩
  | brk =>
    obtain ⟨τ, G, J, q⟩ := hsp
    exact ⟨τ, G, J.ofTry ok, q⟩
  | cont =>
    obtain ⟨τ, G, J, q⟩ := hsp
    exact ⟨τ, G, J.ofTry ok, q⟩
  | ret u =>
    obtain ⟨v, τ, G, J, r, q⟩ := hsp
    exact ⟨v, τ, G, J.ofTry ok, r, q⟩
end
/-- what the class of such an error says -/
structure HeldC (K : PySem.W.Frag) (C : Addr) : Prop where
  cl : (PySem.W.clsIn K C).isSome = true
  ga : PySem.W.findIn K (.ref C) "__getattribute__" = some (some (.builtin "BaseException.__getattribute__"))
  gg : PySem.W.findIn K (.ref C) "__getattr__" = some none
  ex : PySem.W.subIn K (.ref C) (.type "BaseException") = some true
  hd : PySem.W.hasDictIn K C = true
  ca : PySem.W.findIn K (.ref C) "__class__" = some (some (.builtin "object.__class__"))
  sp : PySem.W.specialIn K (.builtin "object.__class__") "__get__" = some (some (.builtin "getset_descriptor.__get__"))
  tk : PySem.W.takesIn K (.builtin "object.__class__") = some true
  mo : PySem.W.mroIn K C (.type "object") = some true
section
variable {X : Cx}
theorem held_at {pins : List (Addr × Obj)} {σ : L2.St} {H : Hp} {s : Shared} {a : Addr} {cls : Value} {d : Option Addr} (I : Inv X pins σ H s) (e : H a = some (Held cls d a)) :
    ∃ oe : Obj, s.heap.get? a = some oe ∧ Zc cls d oe ∧ ∃ vs : Array Value, oe.data = .fields vs := by
  have x : ObjOk X.prog X.w H s.heap a (.ext fun h => ∃ oe : Obj, h.get? a = some oe ∧ Zc cls d oe ∧ ∃ vs : Array Value, oe.data = .fields vs) := I.hok a _ e
  exact x.1
theorem held_inst {pins : List (Addr × Obj)} {σ : L2.St} {H : Hp} {s : Shared} {a C dd : Addr} {fs : List (Str × V)} (I : Inv X pins σ H s) (e : H a = some (Held (.ref C) (some dd) a)) (ed : H dd = some (.xd fs)) :
    ∃ (oe od : Obj) (mA : Str → Option Value), PySem.W.InstAt s.heap a oe C (some od) ∧ (∀ f, RelO (fs.lookup f) (mA f)) ∧ ∀ n, PySem.W.lookIn n od = some (mA n) := by
  obtain ⟨oe, he, hz, vs, hd⟩ := held_at I e
  obtain ⟨mA, hns, hr⟩ := (show ObjOk X.prog X.w H s.heap dd (.xd fs) from I.hok dd _ ed)
  obtain ⟨od, ho, hl⟩ := lookIn_ns hns
  exact ⟨oe, od, mA, ⟨he, hz.1, by unfold PySem.W.notCls; rw [hd] <;> rfl, by rw [hz.2]; exact ho⟩, hr, hl⟩
/-- isinstance(e, c), e such an error -/
def rIsHeld (K : PySem.W.Frag) : List V → Hp → VK → Prop := fun xs H Q => ∃ (a C dd : Addr) (fs : List (Str × V)) (c : V) (u : Value) (b : Bool),
  xs = [.ref a, c] ∧ H a = some (Held (.ref C) (some dd) a) ∧ H dd = some (.xd fs) ∧ HeldC K C ∧ ClsV c u ∧ PySem.W.kitOne K (.ref C) u = some b ∧ Q (.bl b) H
theorem call_isHeld : CallR X (.builtin "isinstance") (rIsHeld X.K) := by
  intro pins s σ H xs us Q I r h
  obtain ⟨a, C, dd, fs, c, u, b, rfl, ea, ed, T, k, e, q⟩ := h
  obtain ⟨u1, u2, rfl, r1, r2⟩ := vals2 r
  have e2 := k.eq r2
  subst e2
  cases r1
  obtain ⟨oe, od, mA, J, _, _⟩ := held_inst I ea ed
  exact PySem.W.kia_one (PySem.W.kitx_exc T.cl T.ga T.gg T.ex T.ca T.sp T.tk T.mo) I.kIn J e (fun z => nomatch z) fun tk => ⟨.bl b, H, I.tok tk, rfl, q⟩
/-- e.n, e such an error -/
def tHeldFld (K : PySem.W.Frag) (n : Str) (te : TE) : TE := fun σ H Q => te σ H fun x H1 => ∃ (a C dd : Addr) (fs : List (Str × V)) (v : V),
  x = .ref a ∧ H1 a = some (Held (.ref C) (some dd) a) ∧ H1 dd = some (.xd fs) ∧ HeldC K C ∧ PySem.W.findIn K (.ref C) n = some none ∧ fs.lookup n = some v ∧ Q v H1
theorem pe_heldFld {e : Expr} {te : TE} {pos : Pos} {n : Str} (he : PE X e te) (hb : attributeBase e n X.env (eval e X.env) = eval e X.env := by rfl) : PE X (.Attribute e n pos) (tHeldFld X.K n te) := by
  constructor
  intro pins s σ H Q I h
  refine attr_of hb (thn (he.run pins s σ H _ I h) fun u s1 hh => ?_)
  obtain ⟨x, H1, I1, rx, a, C, dd, fs, v, rfl, ea, ed, T, hno, l, q⟩ := hh
  obtain rfl : u = Value.ref a := rx
  obtain ⟨oe, od, mA, J, hr, hl⟩ := held_inst I1 ea ed
  obtain ⟨u, hu, ru⟩ := RelO.some_of (v := v) (o := mA n) (by rw [← l]; exact hr n)
  exact HandSPX.exc_get I1.kIn J T.ga T.gg T.ex (PySem.W.findObj_own T.hd hno rfl (by rw [hl, hu])) (handed_of ru) ⟨v, H1, I1.tok _, ru, q⟩
end
end Ev
namespace Ev
open PySem L2 PySem.Spec PyProof.Rows LamX
/-! The law's own call, where the law makes lambdas: the table of its code object is told of. -/
section
variable {P : Program} {w : World} {K : PySem.W.Frag} {mg mb : Str → Option Value}
theorem law_callT {k : Nat} {fa a c T : Addr} {fd : FuncData} {x : Str} {sp : Sp} {s : Shared} {vs : List Value} {ns : List Int}
    (inK : K.In s.heap) (ns1 : s.heap.Ns mainGlobals mg) (ns2 : s.heap.Ns builtinsNs mb) (blt : ∀ x : Str, x ≠ "__name__" → mb x = bootBuiltins x)
    (noLim : s.heap.NoLimit) (hg : s.gens = #[]) (hT : s.heap.get? T = some { cls := .none, data := .fields #[] }) (nT : K.lookup T = none) (hc : PySem.W.CodeHd s.heap c T)
    (hbm : ∃ (bm : Addr) (ob : Obj), mg "__builtins__" = some (.ref bm) ∧ bm ≠ builtinsNs ∧ s.heap.get? bm = some ob ∧ ob.cls = .type "module" ∧ ob.dict = some builtinsNs ∧ ob.data = .plain)
    (ha : s.heap.get? a = some { cls := .type "list", data := .seq vs.toArray }) (hi : IntsAre vs ns) (hl : ns.length ≤ sizeLine) (hr : Room k callerA)
    (F : ∀ base : Heap, K.In base → base.Ns mainGlobals mg → TabB base mg c T → FnG P w K mg base k fa fd [x] sp)
    (bt : ∀ (s : Shared) (u : Value), BindsTo s fd ⟨[u], []⟩ [(x, u)])
    (hsp : ∀ H : Hp, H T = some (.tbl #[]) → SqL K H a (ns.map V.int) → sp [.ref a] H (fun v _ => v = .bl true) fun _ _ _ => False) :
    codeAny (model P w) callerA (.call (.ref fa) ⟨[.ref a], []⟩)
      (fun r s' => r = .ok (.ret (.bool true)) ∧ OldK s.heap s'.heap ∧ s'.os = s.os ∧ AllBare s'.gens) s := by
  have rv := vals_ints hi
  have lv := hi.length
  have aT : a ≠ T := fun z => by
    rw [z, hT] at ha
    cases ha
  have key : ∀ H : Hp, H T = some (.tbl #[]) → (∀ b u, H b = some u → b ≠ T → b = a ∧ K.lookup a = none ∧ u = .frz { cls := .type "list", data := .seq vs.toArray } (.lst (ns.map V.int))) →
      SqL K H a (ns.map V.int) → codeAny (model P w) callerA (.call (.ref fa) ⟨[.ref a], []⟩)
        (fun r s' => r = .ok (.ret (.bool true)) ∧ OldK s.heap s'.heap ∧ s'.os = s.os ∧ AllBare s'.gens) s := by
    intro H eT only sq
    have ok : HOk P w H s.heap := by
      intro b u e
      by_cases zb : b = T
      · subst zb
        rw [eT] at e
        cases e
        exact hT
      · obtain ⟨rfl, _, rfl⟩ := only b u e zb
        exact ⟨ha, by rw [List.length_map]; exact hl, vs, _, rv, ha⟩
    have plain : ∀ {b : Addr} {o : Obj}, s.heap.get? b = some o → (∀ vs n, o.data ≠ .seq vs n) → o.data ≠ .fields #[] → H b = none := by
      intro b o e d1 d2
      cases q : H b with
      | none => rfl
      | some u =>
        by_cases zb : b = T
        · subst zb
          rw [hT] at e
          cases e
          exact absurd rfl d2
        · obtain ⟨rfl, _, _⟩ := only b u q zb
          rw [ha] at e
          cases e
          exact absurd rfl (d1 _ _)
    have names : ∀ {b : Addr} {m : Str → Option Value}, s.heap.Ns b m → (hidT s.heap H).Ns b m := by
      rintro b m ⟨o, es, n, e, d, r⟩
      exact ⟨o, es, n, hidT_get e (plain e (fun _ _ z => by rw [d] at z; cases z) fun z => by rw [d] at z; cases z), d, r⟩
    have inB : K.In (hidT s.heap H) := by
      intro b o e
      refine hidT_get (inK b o e) ?_
      cases q : H b with
      | none => rfl
      | some u =>
        by_cases zb : b = T
        · rw [zb, nT] at e
          cases e
        · obtain ⟨rfl, n, _⟩ := only b u q zb
          rw [n] at e
          cases e
    have tb : TabB (hidT s.heap H) mg c T := by
      obtain ⟨bm, ob, b1, b2, b3, b4, b5, b6⟩ := hbm
      refine ⟨?_, ⟨bm, ob, b1, b2, fun q => ?_, fun q => ?_, hidT_get b3 (plain b3 (fun _ _ z => by rw [b6] at z; cases z) fun z => by rw [b6] at z; cases z), b4, b5, b6⟩, fun z => ?_⟩
      · obtain ⟨o, us, file, tf, flags, tg, inF, text, tt, e1, r1, r2, r3, rest⟩ := hc
        refine ⟨o, us, file, tf, flags, tg, inF, text, tt, hidT_get e1 (plain e1 (fun _ _ z => by rw [r2] at z; cases z) fun z => ?_), r1, r2, r3, rest⟩
        rw [r2] at z
        cases z
        simp at r3
      · obtain ⟨o, es, n, e, d, _⟩ := ns1
        rw [q, e] at b3
        cases b3
        rw [d] at b6
        cases b6
      · rw [q, hT] at b3
        cases b3
        cases b6
      · obtain ⟨o, es, n, e, d, _⟩ := ns1
        rw [z, hT] at e
        cases e
        cases d
    obtain ⟨mc, l1, l2⟩ := noLim
    have md : Mod K mg (hidT s.heap H) := ⟨inB, names ns1, ⟨mb, names ns2, blt⟩, ⟨mc, names l1, l2⟩⟩
    have env : Env0 P w K mg (hidT s.heap H) callerA [] s H :=
      ⟨rfl, md, fun b o e => of_hidT e, Nat.le_of_eq (hidT_size _ _), trivial, (fun b hb => by cases hb), ok, .of_eq hg⟩
    have go := (F _ inB (names ns1) tb).goes callerA [] s H ⟨[.ref a], []⟩ [.ref a] [.ref a] _ _ hr rfl env (bt s (.ref a)) (.cons rfl .nil) (hsp H eT sq)
    refine codeAny_mono go fun r s2 h2 => ?_
    cases r with
    | error e => exact False.elim h2
    | ok fl =>
      cases fl with
      | next => exact False.elim h2
      | brk => exact False.elim h2
      | cont => exact False.elim h2
      | ret u =>
        obtain ⟨v, H2, os, bare, un, ok2, rr, q⟩ := h2
        obtain rfl : v = V.bl true := q
        obtain rfl : u = Value.bool true := rr
        have others : ∀ b o, b ≠ T → s.heap.get? b = some o → s2.heap.get? b = some o := by
          intro b o nb e
          cases q : H b with
          | none => exact un.keep b o e q (by intro z; cases z) (by simp)
          | some u =>
            obtain ⟨rfl, _, rfl⟩ := only b u q nb
            obtain ⟨e1, _⟩ := ok b _ q
            obtain ⟨e2, _⟩ := ok2 b _ (un.frzs b _ _ q)
            rw [e] at e1
            cases e1
            exact e2
        obtain ⟨more, eM⟩ := un.tbls T #[] eT
        have grown : s2.heap.get? T = some { cls := .none, data := .fields (#[] ++ more) } := ok2 T _ eM
        refine ⟨rfl, ⟨fun b o e => ?_, fun b o e => ?_⟩, os, bare⟩
        · by_cases nb : b = T
          · subst nb
            rw [hT] at e
            cases e
            exact .inr (.inl ⟨(hc.tab hT).isCodeTable, rfl, #[], more, rfl, grown⟩)
          · exact .inl (others b o nb e)
        · by_cases nb : b = T
          · subst nb
            exact ⟨_, grown⟩
          · exact ⟨o, others b o nb e⟩
  cases hk : K.lookup a with
  | none =>
    refine key (fun b => if b = T then some (.tbl #[]) else if b = a then some (.frz { cls := .type "list", data := .seq vs.toArray } (.lst (ns.map V.int))) else none) (if_pos rfl) (fun b u e nb => ?_)
      (.inl (.inr ⟨_, (if_neg aT).trans (if_pos rfl)⟩))
    rw [if_neg nb] at e
    by_cases z : b = a
    · rw [if_pos z] at e
      cases e
      exact ⟨z, hk, rfl⟩
    · rw [if_neg z] at e
      cases e
  | some o =>
    have e := inK a o hk
    rw [ha] at e
    cases e
    refine key (fun b => if b = T then some (.tbl #[]) else none) (if_pos rfl) (fun b u e nb => by rw [if_neg nb] at e; cases e) (.inr ⟨_, vs.toArray, _, hk, rfl, rfl, rfl, ?_, by simpa using rv⟩)
    rw [List.size_toArray, lv]
    exact hl
end
theorem walk_ofGT {l : PySem.W.OpenLaw} {n k : Nat} {q : Program} {loose : List Str} {XP : (Str → Option Value) → Heap → Prop} {YP : World → Heap → Prop}
    {d : DefRec} {x : Str} (hn : l.most = some n) (hn2 : n ≤ sizeLine) (hdf : d.params.defaults = []) (hr : Room k callerA) (hrec : ((recsOf q).any fun e => e.name == d.name) = true)
    (F : ∀ (w : World) (mg : Str → Option Value) (fa : Addr) (h : Heap), YP w h → h.Ns mainGlobals mg → mg d.name = some (.ref fa) →
      ∃ (K : PySem.W.Frag) (fd : FuncData) (sp : Sp) (c T : Addr) (o : Obj), K.In h ∧ (∀ (s : Shared) (u : Value), BindsTo s fd ⟨[u], []⟩ [(x, u)]) ∧
        K.lookup fa = some o ∧ o.data = .func fd ∧ fd.code = .ref c ∧ PySem.W.codeHdIn K c T = true ∧ K.lookup T = none ∧
        (∀ (H : Hp) (a : Addr) (ns : List Int), ns.length ≤ n → H T = some (.tbl #[]) → SqL K H a (ns.map V.int) → sp [.ref a] H (fun v _ => v = .bl true) fun _ _ _ => False) ∧
        ∀ base : Heap, K.In base → base.Ns mainGlobals mg → TabB base mg c T → FnG l.prog w K mg base k fa fd [x] sp) :
    PySem.W.WalkO q loose XP YP l.row.toRowW d [] (fun f vs => PySem.call f vs) := by
  refine Att.attach_callB hn hdf fun w s0 s1 mg mb fa o pm cd doc a vs ns G Y h1 h2 h3 h4 h5 h6 h7 hbits h8 => ?_
  obtain ⟨K, fd, sp, c, T, o1, inK, bt, k1, k2, k3, kc, kT, hsp, hF⟩ := F w mg fa _ Y G.T.g h4
  have hc := PySem.W.codeHd_of_K inK kc
  have hT : s1.heap.get? T = some { cls := .none, data := .fields #[] } := by
    obtain ⟨dL, hm, e1⟩ := List.any_eq_true.mp hrec
    obtain ⟨a2, o2, fd2, c2, P2, g1, g2, g3, g4, g5, g6⟩ := G.T.tab dL hm
    rw [beq_iff_eq.mp e1, h4] at g1
    cases g1
    rw [inK _ _ k1] at g2
    cases g2
    rw [k2] at g3
    cases g3
    rw [k3] at g4
    cases g4
    obtain ⟨⟨oc, vc, e1, _, e3, e4⟩, hP⟩ := g6
    obtain ⟨oc', vs', file, tf, flags, tg, inF, text, tt, f1, f2, f3, f4, _⟩ := id hc
    rw [f1] at e1
    cases e1
    rw [f3] at e3
    cases e3
    rw [f4] at e4
    cases e4
    exact hP
  exact law_callT inK G.T.g G.T.b G.T.builtins G.T.nolimit h8 hT kT hc G.T.bmain h5 h6 (Nat.le_trans h7 hn2) hr hF bt (fun H eT sq => hsp H a ns h7 eT sq)
end Ev
namespace Ev
open PySem L2 PySem.Spec PyProof.Rows
abbrev sRebuilt : Stmt := top 5
/-! ### list(d.values()) -/
def tListVals (te : TE) : TE := fun σ H Q => te σ H fun x H1 => ∃ (d : Addr) (kvs : List (Key × V)), x = .ref d ∧ H1 d = some (.dK kvs) ∧ ∀ p, H1 p = none → Q (.ref p) (upd H1 p (.lst (kvs.map (·.2))))
section
variable {X : Cx} {e : Expr} {te : TE} {p apos cpos pos : Pos}
theorem vals_snd : ∀ {kvs : List (Key × V)} {vs : List (Key × Value)}, KV kvs vs → Vals (kvs.map (·.2)) (vs.map (·.2))
  | _, _, .nil => .nil
  | _, _, .cons h t => .cons h.2 (vals_snd t)
theorem pe_listVals (hc : X.calm = true) (he : PE X e te) (hg : Gl X "list") (hm : X.mg "list" = none) (hv : bootBuiltins "list" = some (.type "list")) (hbase : attributeBase e "values" X.env (eval e X.env) = eval e X.env := by rfl) (hline : (apos.endLine == cpos.line) = true := by rfl)
    (hs : starEach [.Call (.Attribute e "values" apos) [] [] cpos] X.env = (false, eval (.Call (.Attribute e "values" apos) [] [] cpos) X.env) :: starEach [] X.env := by rfl) :
    PE X (.Call (.Name "list" p) [.Call (.Attribute e "values" apos) [] [] cpos] [] pos) (tListVals te) := by
  constructor
  intro pins s σ H Q I hq
  refine wpAny_Call_Name_kw (ld_blt I hg hm hv ?_)
  refine PyProof.Rows.callWith_type1 ?_ hs rfl
  rw [hs]
  show wpAny _ _ (spliced ((false, eval (.Call (.Attribute e "values" apos) [] [] cpos) X.env) :: backTo pos (starEach [] X.env))) _ _ s
  refine Calls.spliced_cons ?_
  refine wpAny_Call_method (T := "dict") (id := "dict.values") hbase rfl hline F.plainAttrs_dict F.slot_dict_values F.type_dict_values (thn (he.run pins s σ H _ I hq) fun u s1 hh => ?_)
  obtain ⟨x, H1, I1, rx, d, kvs, rfl, hd, q⟩ := hh
  obtain rfl : u = Value.ref d := rx
  obtain ⟨hz, hs0, vs, kv, hdo⟩ := I1.hok d _ hd
  obtain ⟨ep, hat⟩ := hdo.dictAt
  have lk : kvs.length = vs.length := Paired.length kv
  refine ⟨hdo.typeIs, hdo.mapOf.noDict, ?_⟩
  show wpAny _ _ (callWith cpos (.builtin "dict.values") [.ref d] [] []) _ X.xe s1
  refine method_meetsIn F.slot_dict_values F.entry_dict_values rfl (PySem.evalArgs_none ⟨rfl, hdo.typeIs, F.args_dict_values_1 _, _, meets_dict_values (mixKind X.prog X.w) d hs0, ⟨vs, hdo⟩, ?_⟩)
  refine Calls.spliced_nil ?_
  have I2 : Inv X pins σ H1 { s1 with heap := s1.heap.push { cls := .type "dict_values", data := .fields #[.ref d] } } := I1.kept (t' := s1.toks) fun b ob q => Heap.get?_push_of_some _ q
  refine PySem.W.kdl_call (PySem.W.kdl_values (knd := mixKind X.prog X.w) (kvs := vs) (ep := ep)) (I1.ok.hd hc) ⟨⟨_, Heap.get?_push_size _ rfl, rfl, rfl⟩, hat.push _⟩ (by omega) fun h' tk acc c' hk hD hacc => ?_
  have e2 : acc.toList = vs.map (·.2) := PySem.W.kdl_vals_eq acc.toList (by rw [Array.length_toList]; exact hacc.1) fun j v e => hacc.2 j v (by rw [← Array.getElem?_toList]; exact e)
  refine ⟨.ref _, upd H1 _ (.lst (kvs.map (·.2))), I2.laid (t' := tk) hk (Nat.le_refl _) (show ObjOk X.prog X.w _ _ _ (.lst (kvs.map (·.2))) from ⟨by rw [List.length_map]; exact hz, acc.toList, c', by rw [e2]; exact vals_snd kv, by rw [Array.toArray_toList]; exact hD⟩), rfl, q _ (I2.hok.fresh (Nat.le_refl _))⟩
end
/-! ### what stands in a value -/
def AllFlat (us : List V) : Prop := ∀ u ∈ us, ∃ T, Flat u T
inductive Hold (H : Hp) : V → List V → Bool → Prop
  | flat {v : V} {T : String} : Flat v T → Hold H v [] false
  | tup {a : Addr} {us : List V} : H a = some (.tup us) → AllFlat us → us.length ≤ 900 → Hold H (.ref a) us false
  | lst {a : Addr} {us : List V} : H a = some (.lst us) → AllFlat us → us.length ≤ 900 → Hold H (.ref a) us true
  | dct {a : Addr} {kvs : List (Key × V)} : H a = some (.dK kvs) → AllFlat (kvs.map (·.2)) → kvs.length ≤ 900 → (kvs.map (·.1)).Nodup → Hold H (.ref a) (kvs.map (·.2)) true
/-- the copy of a value -/
inductive Alike (H : Hp) : V → Hp → V → Prop
  | same {v : V} {H' : Hp} : Alike H v H' v
  | lst {a b : Addr} {us : List V} {H' : Hp} : H a = some (.lst us) → H' b = some (.lst us) → Alike H (.ref a) H' (.ref b)
  | dct {a b : Addr} {kvs : List (Key × V)} {H' : Hp} : H a = some (.dK kvs) → H' b = some (.dK kvs) → Alike H (.ref a) H' (.ref b)
theorem Hold.keep {H H' : Hp} {v : V} {us : List V} {b : Bool} (h : Hold H v us b) (k : Same H H') : Hold H' v us b := by
  cases h with
  | flat f => exact .flat f
  | tup e a l => exact .tup (k _ _ e) a l
  | lst e a l => exact .lst (k _ _ e) a l
  | dct e a l n => exact .dct (k _ _ e) a l n
theorem Hold.len {H : Hp} {v : V} {us : List V} {b : Bool} (h : Hold H v us b) : us.length ≤ 900 := by
  cases h with
  | flat f => exact Nat.zero_le _
  | tup e a l => exact l
  | lst e a l => exact l
  | dct e a l n => rw [List.length_map]; exact l
theorem Hold.items {H : Hp} {v : V} {us : List V} {b : Bool} (h : Hold H v us b) : AllFlat us := by
  cases h with
  | flat f => exact fun u z => by cases z
  | tup e a l => exact a
  | lst e a l => exact a
  | dct e a l n => exact a
theorem Hold.ty {H : Hp} {v : V} {us : List V} {b : Bool} (h : Hold H v us b) : ∃ T : String, (∀ (K : PySem.W.Frag) (H' : Hp), Same H H' → TyX K H' v (.type T)) ∧ ∃ b1 b2 b3, kitB T "list" = some b1 ∧ kitB T "tuple" = some b2 ∧ kitB T "dict" = some b3 ∧ b = (b1 || b3) := by
  cases h with
  | @flat v T f => exact ⟨T, fun K H' _ => f.ty K H', false, false, false, f.l, f.t, f.d, rfl⟩
  | tup e a l => exact ⟨"tuple", fun K H' k => .base (.tup (k _ _ e)), false, true, false, by decide +kernel, by decide +kernel, by decide +kernel, rfl⟩
  | lst e a l => exact ⟨"list", fun K H' k => .base (.lst (k _ _ e)), true, false, false, by decide +kernel, by decide +kernel, by decide +kernel, rfl⟩
  | dct e a l n => exact ⟨"dict", fun K H' k => .base (.dK (k _ _ e)), false, false, true, by decide +kernel, by decide +kernel, by decide +kernel, rfl⟩
theorem kit_any2 {K : PySem.W.Frag} {T a b : String} {r1 r2 : Bool} (h1 : kitB T a = some r1) (h2 : kitB T b = some r2) : PySem.W.kitAny K (.type T) [.type a, .type b] = some (r1 || r2) := by
  refine kitAny_cons (kit_ty h1) (fun e => ?_) (fun e => by rw [e]; rfl)
  refine kitAny_cons (kit_ty h2) (fun e2 => ?_) (fun e2 => by rw [e, e2]; rfl)
  rw [e, e2]
  exact kitAny_nil
def spPartsV : Sp := fun vs H Q _ => ∃ (v : V) (us : List V) (b : Bool), vs = [v] ∧ Hold H v us b ∧ ∀ (p : Addr) (H' : Hp), H p = none → Same H H' → H' p = some (.lst us) → Q (.ref p) H'
def spRebuilt : Sp := fun vs H Q _ => ∃ (v : V) (us : List V) (p : Addr), vs = [v, .ref p] ∧ Hold H v us true ∧ H p = some (.lst us) ∧ ∀ (v' : V) (H' : Hp), Same H H' → Alike H v H' v' → Q v' H'
def spKeptV : Sp := fun vs H Q _ => ∃ (v : V) (us : List V) (b : Bool), vs = [v] ∧ Hold H v us b ∧ ∀ (v' : V) (H' : Hp), Same H H' → Alike H v H' v' → Q v' H'
theorem Same.gone {H H' : Hp} {p : Addr} (k : Same H H') (n : H' p = none) : H p = none := by
  cases e : H p with
  | none => rfl
  | some o => rw [k _ _ e] at n; cases n
section
variable {P : Program} {w : World} {K : PySem.W.Frag} {mg : Str → Option Value} {base : Heap}
theorem ok_partsV {f : Addr} {fd : FuncData} (F : Fun K "parts_of" "parts_of" sParts f fd) (T : Blt mg) (md : mg "dict" = none) : FnOk P w K mg base CX0 1 f fd ["value"] spPartsV := by
  refine F.ok scParts (fun vs H Q E h => ?_) (fun cdv A outer s H vs Q E hr h => ?_)
  · obtain ⟨v, us, b, rfl, _⟩ := h
    rfl
  · obtain ⟨v, us, b, rfl, hh, kk⟩ := h
    refine ⟨_, pss_cons (ps_if (pt_val (pe_callB call_isiT (by rfl) T.isi (by decide +kernel) (pa_cons (pv 0) (pa_cons (pe_tup (pa_cons (pe_bltn (v := .ty "list") (by rfl) T.list (by decide +kernel) rfl) (pa_cons (pe_bltn (v := .ty "tuple") (by rfl) T.tuple (by decide +kernel) rfl) pa_nil))) pa_nil))))
        (pss_one (ps_ret (pe_callTy call_list_of (by rfl) T.list (by decide +kernel) (pa_cons (pv 0) pa_nil)))) pss_nil)
      (pss_one (ps_ret (pe_ifExp (pt_val (pe_callB call_isi (by rfl) T.isi (by decide +kernel) (pa_cons (pv 0) (pa_cons (pe_bltn (v := .ty "dict") (by rfl) md (by decide +kernel) rfl) pa_nil)))) (pe_listVals rfl (pv 0) (by rfl) T.list (by decide +kernel)) (pe_lst pa_nil)))), ?_⟩
    have fin : ∀ (tp p : Addr) (ntp : H tp = none) (np : upd H tp (.tup [.ty "list", .ty "tuple"]) p = none), Q (.ref p) (upd (upd H tp (.tup [.ty "list", .ty "tuple"])) p (.lst us)) := fun tp p ntp np =>
      kk p _ (Same.gone (same_new ntp) np) ((same_new ntp).trans (same_new np)) upd_same
    cases hh with
    | @flat v TT f =>
      refine ⟨_, rfl, (by show 2 ≤ sizeLine; decide), fun tp ntp => ⟨_, tp, _, _, _, false, rfl, upd_same, .cons (.ty _) (.cons (.ty _) .nil), f.ty _ _, kit_any2 f.l f.t, _, rfl, iteF ?_⟩⟩
      exact ⟨_, rfl, _, _, _, _, false, rfl, .ty _, f.ty _ _, kit_ty f.d, _, rfl, iteF ⟨(by show 0 ≤ sizeLine; decide), fun p np => fin tp p ntp np⟩⟩
    | tup e a l =>
      refine ⟨_, rfl, (by show 2 ≤ sizeLine; decide), fun tp ntp => ⟨_, tp, _, _, _, true, rfl, upd_same, .cons (.ty _) (.cons (.ty _) .nil), .base (.tup (same_new ntp _ _ e)), kit_any2 (r1 := false) (r2 := true) (by decide +kernel) (by decide +kernel), _, rfl, iteT ?_⟩⟩
      exact ⟨_, rfl, _, _, rfl, .inr (SqT.of (same_new ntp _ _ e)), fun p np => fin tp p ntp np⟩
    | lst e a l =>
      refine ⟨_, rfl, (by show 2 ≤ sizeLine; decide), fun tp ntp => ⟨_, tp, _, _, _, true, rfl, upd_same, .cons (.ty _) (.cons (.ty _) .nil), .base (.lst (same_new ntp _ _ e)), kit_any2 (r1 := true) (r2 := false) (by decide +kernel) (by decide +kernel), _, rfl, iteT ?_⟩⟩
      exact ⟨_, rfl, _, _, rfl, .inl (SqL.of (same_new ntp _ _ e)), fun p np => fin tp p ntp np⟩
    | dct e a l n =>
      refine ⟨_, rfl, (by show 2 ≤ sizeLine; decide), fun tp ntp => ⟨_, tp, _, _, _, false, rfl, upd_same, .cons (.ty _) (.cons (.ty _) .nil), .base (.dK (same_new ntp _ _ e)), kit_any2 (r1 := false) (r2 := false) (by decide +kernel) (by decide +kernel), _, rfl, iteF ?_⟩⟩
      exact ⟨_, rfl, _, _, _, _, true, rfl, .ty _, .base (.dK (same_new ntp _ _ e)), kit_ty (by decide +kernel), _, rfl, iteT ⟨_, rfl, _, _, rfl, same_new ntp _ _ e, fun p np => fin tp p ntp np⟩⟩
theorem putK_take {kvs : List (Key × V)} (n : (kvs.map (·.1)).Nodup) {i : Nat} {k : Key} {z : V} (e : kvs[i]? = some (k, z)) : putK (kvs.take i) k z = kvs.take (i + 1) := by
  have hi : i < kvs.length := (List.getElem?_eq_some_iff.mp e).1
  have ei : kvs[i] = (k, z) := (List.getElem?_eq_some_iff.mp e).2
  have new : ((kvs.take i).any fun kv => decide (kv.1 = k)) = false := by
    rw [List.any_eq_false]
    intro p hp hq
    obtain ⟨j, hj, ej⟩ := List.mem_take_iff_getElem.mp hp
    have hq : p.1 = k := of_decide_eq_true hq
    have h1 : (kvs.map (·.1))[j]'(by rw [List.length_map]; omega) = k := by rw [List.getElem_map, ej, hq]
    have h2 : (kvs.map (·.1))[i]'(by rw [List.length_map]; omega) = k := by rw [List.getElem_map, ei]
    have h3 := (List.getElem_inj n).mp (h1.trans h2.symm)
    omega
  unfold putK
  rw [new, if_neg (by decide), List.take_add_one, e]
  rfl
theorem scRebuilt : FnScope ["value", "parts", "key", "part"] ["value", "parts"] (defScope sRebuilt) := ⟨rfl, rfl, rfl, by decide +kernel, rfl, by decide +kernel, by decide +kernel⟩
theorem ok_rebuilt {f : Addr} {fd : FuncData} (F : Fun K "rebuilt" "rebuilt" sRebuilt f fd) (T : Blt mg) (md : mg "dict" = none) (mz : mg "zip" = none) : FnOk P w K mg base CX0 1 f fd ["value", "parts"] spRebuilt := by
  refine F.ok scRebuilt (fun vs H Q E h => ?_) (fun cdv A outer s H vs Q E hr h => ?_)
  · obtain ⟨v, us, p, rfl, _⟩ := h
    rfl
  · obtain ⟨v, us, p, rfl, hh, hp, kk⟩ := h
    refine ⟨_, pss_cons (ps_if (pt_val (pe_callB call_isi (by rfl) T.isi (by decide +kernel) (pa_cons (pv 0) (pa_cons (pe_bltn (v := .ty "dict") (by rfl) md (by decide +kernel) rfl) pa_nil))))
        (pss_one (ps_ret (pe_dc (g := gTup K 2 (gCons (gName 2) (gCons (gName 3) gNil))) (tt := tYes) (tk := tVar 2) (tv := tVar 3) (own := [("key", 2), ("part", 3)]) rfl scRebuilt.nd (pi_zip (by rfl) mz (pa_cons (pe_callTy (call_list_dK rfl) (by rfl) T.list (by decide +kernel) (pa_cons (pv 0) pa_nil)) (pa_cons (pv 1) pa_nil)))
          (blkOk_by (own := [("key", 2), ("part", 3)]) (N := ["value", "parts", "key", "part"]) (sc := defScope sRebuilt) (by decide +kernel))
          (fun _ _ _ _ _ => pg_tup (by rfl) (pgs_cons (pg_name (i := 2) scRebuilt.nd rfl (.inl rfl)) (pgs_cons (pg_name (i := 3) scRebuilt.nd rfl (.inl rfl)) pgs_nil))) (fun _ _ _ _ _ => pts_nil) (fun _ _ _ _ _ => pv 2) (fun _ _ _ _ _ => pv 3)))) pss_nil)
      (pss_one (ps_ret (pe_ifExp (pt_val (pe_callB call_isi (by rfl) T.isi (by decide +kernel) (pa_cons (pv 0) (pa_cons (pe_bltn (v := .ty "tuple") (by rfl) T.tuple (by decide +kernel) rfl) pa_nil)))) pe_never (pv 1)))), ?_⟩
    generalize eb : true = bb at hh
    cases hh with
    | flat f => cases eb
    | tup e a l => cases eb
    | lst e a l =>
      refine ⟨_, rfl, _, _, _, _, false, rfl, .ty _, .base (.lst e), kit_ty (by decide +kernel), _, rfl, iteF ?_⟩
      refine ⟨_, rfl, _, _, _, _, false, rfl, .ty _, .base (.lst e), kit_ty (by decide +kernel), _, rfl, iteF ⟨_, rfl, ?_⟩⟩
      exact kk _ H (Same.refl H) (.lst e hp)
    | @dct a kvs e al l n =>
      refine ⟨_, rfl, _, _, _, _, true, rfl, .ty _, .base (.dK e), kit_ty (by decide +kernel), _, rfl, iteT ?_⟩
      refine ⟨_, rfl, a, kvs, rfl, e, fun q nq => ⟨_, rfl, q, p, _, _, rfl, SqL.of upd_same, SqL.of (same_new nq _ _ hp), fun D nD => ?_⟩⟩
      have hq1 := same_new (o := .dK []) nD _ _ (upd_same (H := H) (a := q) (o := .lst (kvs.map fun kv => kV kv.1)))
      have hp1 := same_new (o := .dK []) nD _ _ (same_new (o := .lst (kvs.map fun kv => kV kv.1)) nq _ _ hp)
      have hD1 : upd (upd H q (.lst (kvs.map fun kv => kV kv.1))) D (.dK []) D = some (.dK []) := upd_same
      have nDp : D ≠ p := fun z => by rw [z, same_new nq _ _ hp] at nD; cases nD
      have nDq : D ≠ q := fun z => by rw [z, upd_same] at nD; cases nD
      have s1 : Same H (upd (upd H q (.lst (kvs.map fun kv => kV kv.1))) D (.dK [])) := (same_new nq).trans (same_new nD)
      have nDH : H D = none := Same.gone (same_new nq) nD
      generalize upd (upd H q (.lst (kvs.map fun kv => kV kv.1))) D (.dK []) = H1 at hq1 hp1 hD1 s1
      refine ⟨fun i m G => m = kvs.length - i ∧ i ≤ kvs.length ∧ But D H1 G ∧ G D = some (.dK (kvs.take i)), ⟨_, rfl, Nat.zero_le _, But.refl _ _, hD1⟩, ?_⟩
      rintro i m G ⟨rfl, hi, bt, gD⟩
      have gq := bt _ _ nDq.symm hq1
      have gp := bt _ _ nDp.symm hp1
      by_cases hlt : i < kvs.length
      · right
        have ek : (kvs.map fun kv => kV kv.1)[i]? = some (kV kvs[i].1) := by rw [List.getElem?_map, List.getElem?_eq_getElem hlt]; rfl
        have ev : (kvs.map (·.2))[i]? = some kvs[i].2 := by rw [List.getElem?_map, List.getElem?_eq_getElem hlt]; rfl
        refine ⟨⟨_, _, _, _, SqL.of gq, SqL.of gp, ek, ev⟩, fun G' => But D H1 G' ∧ G' D = some (.dK (kvs.take (i + 1))), fun G' ⟨b2, d2⟩ => ⟨_, by omega, rfl, hlt, b2, d2⟩, fun x G' y => ?_⟩
        obtain ⟨tp, x1, x2, rfl, nt, rfl, h1, h2⟩ := y
        have e1 := h1 _ (SqL.of gq)
        have e2 := h2 _ (SqL.of gp)
        rw [ek] at e1
        rw [ev] at e2
        obtain rfl := Option.some.inj e1
        obtain rfl := Option.some.inj e2
        have gD2 := same_new (o := .tup [kV kvs[i].1, kvs[i].2]) nt _ _ gD
        refine ⟨_, _, rfl, SqT.of upd_same, rfl, _, _, rfl, _, _, rfl, rfl, rfl, ?_⟩
        refine ⟨_, rfl, _, rfl, _, kvs[i].1, rfl, gD2, ?_, ?_, ?_⟩
        · rw [List.length_take]
          exact Nat.lt_of_le_of_lt (show _ ≤ 900 by omega) (by rw [sizeLine_eq]; decide)
        · exact bt.trans ((Same.but (same_new nt)).trans But.upd_at)
        · rw [upd_same, show putK (kvs.take i) kvs[i].1 kvs[i].2 = kvs.take (i + 1) from putK_take n (by rw [List.getElem?_eq_getElem hlt])]
      · left
        have ei : i = kvs.length := by omega
        refine ⟨⟨_, _, SqL.of gq, SqL.of gp, .inl (by rw [List.length_map]; omega)⟩, ?_⟩
        rw [ei, List.take_length] at gD
        exact kk _ G (fun b o z => bt _ _ (ne_of_none z nDH) (s1 _ _ z)) (.dct e gD)
end
end Ev
namespace Ev
open PySem L2 PySem.Spec PyProof.Rows
theorem Alike.from {H H1 H' : Hp} {v v' : V} (k : Same H H1) (us : List V) (h : Hold H v us true) (a : Alike H1 v H' v') : Alike H v H' v' := by
  cases a with
  | same => exact .same
  | lst e1 e2 =>
    generalize eb : true = bb at h
    cases h with
    | flat f => cases eb
    | tup e a l => cases eb
    | lst e a l => rw [k _ _ e] at e1; cases e1; exact .lst e e2
    | dct e a l n => rw [k _ _ e] at e1; cases e1
  | dct e1 e2 =>
    generalize eb : true = bb at h
    cases h with
    | flat f => cases eb
    | tup e a l => cases eb
    | lst e a l => rw [k _ _ e] at e1; cases e1
    | dct e a l n => rw [k _ _ e] at e1; cases e1; exact .dct e e2
theorem flat_hold {H : Hp} {us : List V} (h : AllFlat us) {j : Nat} {u : V} (e : us[j]? = some u) : Hold H u [] false := by
  obtain ⟨T, f⟩ := h u (List.mem_of_getElem? e)
  exact .flat f
/-- the marks of the things -/
def marks (b : Bool) (n : Nat) : List Bool := b :: List.replicate n false
theorem marks_at {b : Bool} {n j : Nat} (h : j < n) : (marks b n)[j + 1]? = some false := by
  show (List.replicate n false)[j]? = some false
  rw [List.getElem?_replicate, if_pos h]
theorem ends_at {m n j : Nat} (h : j < m) : (List.replicate m (V.int (1 + (n : Int))))[j]? = some (V.int (1 + (n : Int))) := by
  rw [List.getElem?_replicate, if_pos h]
theorem cut_tail {x : V} {ys : List V} : cutV (x :: ys) (some 1) (some (1 + (ys.length : Int))) = ys := by
  unfold cutV
  have h1 : HT.sIx (x :: ys).length 0 (some 1) = 1 := by
    have := HT.sIx_nat (x :: ys).length 0 1
    rw [List.length_cons] at this ⊢
    rw [show ((1 : Nat) : Int) = 1 from rfl] at this
    rw [this]; omega
  have h2 : HT.sIx (x :: ys).length (x :: ys).length (some (1 + (ys.length : Int))) = ys.length + 1 := by
    have := HT.sIx_nat (x :: ys).length (x :: ys).length (ys.length + 1)
    rw [show ((ys.length + 1 : Nat) : Int) = 1 + (ys.length : Int) by omega] at this
    rw [this, List.length_cons]; omega
  rw [h1, h2, show (x :: ys).drop 1 = ys from rfl, show ys.length + 1 - 1 = ys.length by omega, List.take_length]
theorem cut_none {xs : List V} {h : Option Int} : cutV xs h h = [] ∨ h = none := by
  cases h with
  | none => exact .inr rfl
  | some k =>
    left
    unfold cutV
    have e : HT.sIx xs.length xs.length (some k) = HT.sIx xs.length 0 (some k) := rfl
    rw [e, Nat.sub_self, List.take_zero]
theorem cut_void {xs : List V} {k : Int} : cutV xs (some k) (some k) = [] := by
  rcases cut_none (xs := xs) (h := some k) with e | e
  · exact e
  · cases e
theorem ix_first {x : V} {ys : List V} : ixN (x :: ys).length 0 = some 0 := by
  unfold ixN
  rw [List.length_cons]
  simp
theorem any_none (n : Nat) : (List.replicate n false).any id = false := by
  rw [List.any_eq_false]
  intro x hx
  rw [List.eq_of_mem_replicate hx]
  decide
theorem Alike.put {H G : Hp} {v v' : V} {m : Addr} {xs : List V} {us : List V} (h : Alike H v G v') (hv : Hold H v us true) (hm : G m = some (.lst xs)) (nl : xs.length = us.length + 1) {o : HO} : Alike H v (upd G m o) v' := by
  cases h with
  | same => exact .same
  | lst e1 e2 =>
    refine .lst e1 ?_
    rw [upd_ne]
    · exact e2
    · intro z
      rw [z, hm] at e2
      cases e2
      generalize eb : true = bb at hv
      cases hv with
      | flat f => cases eb
      | tup e a l => cases eb
      | lst e a l => rw [e] at e1; cases e1; omega
      | dct e a l n => rw [e] at e1; cases e1
  | dct e1 e2 =>
    refine .dct e1 ?_
    rw [upd_ne]
    · exact e2
    · intro z
      rw [z, hm] at e2
      cases e2
abbrev sFlat : Stmt := top 2
abbrev sCopied : Stmt := top 3
theorem scCopied : FnScope ["value", "things", "ends", "at", "made", "loose", "place", "first", "end", "thing"] ["value"] (defScope sCopied) := ⟨rfl, rfl, rfl, by decide +kernel, rfl, by decide +kernel, by decide +kernel⟩
theorem scFlat : FnScope ["value", "part"] ["value"] (defScope sFlat) := ⟨rfl, rfl, rfl, by decide +kernel, rfl, by decide +kernel, by decide +kernel⟩
theorem kit_any3 {K : PySem.W.Frag} {T a b c : String} {r1 r2 r3 : Bool} (h1 : kitB T a = some r1) (h2 : kitB T b = some r2) (h3 : kitB T c = some r3) : PySem.W.kitAny K (.type T) [.type a, .type b, .type c] = some (r1 || (r2 || r3)) := by
  refine kitAny_cons (kit_ty h1) (fun e => ?_) (fun e => by rw [e]; rfl)
  rw [e]
  exact (kit_any2 h2 h3).trans rfl
def spFlat : Sp := fun vs H Q _ => ∃ (a : Addr) (us : List V), vs = [.ref a] ∧ H a = some (.tup us) ∧ AllFlat us ∧ us.length ≤ 900 ∧ ∀ H', Same H H' → Q (.bl true) H'
section
variable {P : Program} {w : World} {K : PySem.W.Frag} {mg : Str → Option Value} {base : Heap}
theorem ok_copied {f : Addr} {fd : FuncData} (F : Fun K "copied_deep" "copied_deep" sCopied f fd) (T : Blt mg) (md : mg "dict" = none) (ma : mg "any" = none) (D : Df P w K mg base 1 "parts_of" ["value"] spPartsV) (D2 : Df P w K mg base 1 "rebuilt" ["value", "parts"] spRebuilt) : FnOk P w K mg base CX0 2 f fd ["value"] spKeptV := by
  obtain ⟨f1, fd1, G1, g1, k1, b1⟩ := D.ex
  obtain ⟨f2, fd2, G2, g2, k2, b2⟩ := D2.ex
  refine F.ok scCopied (fun vs H Q E h => ?_) (fun cdv A outer s H vs Q E hr h => ?_)
  · obtain ⟨v, us, b, rfl, _⟩ := h
    rfl
  · obtain ⟨v, us, b, rfl, hh, kk⟩ := h
    refine ⟨_, pss_cons (ps_set (i := 1) scCopied.nd rfl (.inl rfl) (pe_lst (pa_cons (pv 0) pa_nil)))
      (pss_cons (ps_set (i := 2) scCopied.nd rfl (.inl rfl) (pe_lst pa_nil))
      (pss_cons (ps_set (i := 3) scCopied.nd rfl (.inl rfl) pe_int)
      (pss_cons (ps_while PassesOwn.never (pt_cmpR op_lt (pv 3) (pe_callB call_len_seq (by rfl) T.len PySem.boot_len (pa_cons (pv 1) pa_nil)) (nomark _))
        (pss_cons (ps_expr (pe_bm PySem.F.plainAttrs_list PySem.F.slot_list_extend PySem.F.type_list_extend mt_extend (pv 1) (pa_cons (pe_callTy call_list_of (by rfl) T.list (by decide +kernel) (pa_cons (pe_call G1 hr (by rfl) g1 k1 b1 .nil pass0 (pa_cons (pe_ix ix_list (pv 1) (pv 3) (fun _ _ => rfl)) pa_nil)) pa_nil)) pa_nil)))
        (pss_cons (ps_expr (pe_bm PySem.F.plainAttrs_list PySem.F.slot_list_append PySem.F.type_list_append mt_append (pv 2) (pa_cons (pe_callB call_len_seq (by rfl) T.len PySem.boot_len (pa_cons (pv 1) pa_nil)) pa_nil)))
        (pss_one (ps_aug (i := 3) scCopied.nd rfl (.inl rfl) pe_int ip_add)))))
      (pss_cons (ps_set (i := 4) scCopied.nd rfl (.inl rfl) (pe_callTy call_list_of (by rfl) T.list (by decide +kernel) (pa_cons (pv 1) pa_nil)))
      (pss_cons (ps_setLc (i := 5) (te := tCB (rIsiT K) (tCons (tVar 9) (tCons (tTup (tCons (tC (.ty "list")) (tCons (tC (.ty "dict")) tNil))) tNil))) (own := [("thing", 9)]) (g := gName 9) (by rfl) scCopied.nd rfl rfl (sw_true rfl rfl rfl (by decide +kernel)) (pi_list (pv 1))
          (blkOk_by (own := [("thing", 9)]) (N := ["value", "things", "ends", "at", "made", "loose", "place", "first", "end", "thing"]) (sc := defScope sCopied) (by decide +kernel))
          (fun _ _ _ _ _ => pg_name (i := 9) scCopied.nd rfl (.inl rfl)) (fun _ _ _ _ _ => pts_nil)
          (fun _ _ _ _ _ => pe_callB (id := "isinstance") call_isiT (by rfl) T.isi (by decide +kernel) (pa_cons (pv 9) (pa_cons (pe_tup (pa_cons (pe_bltn (v := .ty "list") (by rfl) T.list (by decide +kernel) rfl) (pa_cons (pe_bltn (v := .ty "dict") (by rfl) md (by decide +kernel) rfl) pa_nil))) pa_nil))))
      (pss_cons (ps_for PassesOwn.never rfl (pi_range3 rfl T.range (pa_cons (pe_op op_sub (pe_callB call_len_seq (by rfl) T.len PySem.boot_len (pa_cons (pv 1) pa_nil)) pe_int) (pa_cons (pe_un un_neg pe_int) (pa_cons (pe_un un_neg pe_int) pa_nil)))) (pg_name (i := 6) scCopied.nd rfl (.inl rfl))
        (pss_cons (ps_par (i := 7) (j := 8) rfl scCopied.nd rfl rfl (by decide) rfl rfl (pa_cons (pe_ifExp (pt_cmpR op_gt (pv 6) pe_int (nomark _)) (pe_ix ix_list (pv 2) (pe_op op_sub (pv 6) pe_int) (fun _ _ => rfl)) pe_int) (pa_cons (pe_ix ix_list (pv 2) (pv 6) (fun _ _ => rfl)) pa_nil)) (by rfl))
        (pss_cons (ps_if (pt_val (pe_callB (cr_any rfl) (by rfl) ma (by decide +kernel) (pa_cons (pe_slice sl_list (pv 5) (po_some (pv 7)) (po_some (pv 8))) pa_nil))) (pss_one ps_never) pss_nil)
        (pss_one (ps_if (pt_val (pe_ix ix_list (pv 5) (pv 6) (fun _ _ => rfl)))
          (pss_one (ps_asg (pe_call G2 hr (by rfl) g2 k2 b2 .nil pass0 (pa_cons (pe_ix ix_list (pv 1) (pv 6) (fun _ _ => rfl)) (pa_cons (pe_slice sl_list (pv 4) (po_some (pv 7)) (po_some (pv 8))) pa_nil))) (pg_sub (pv 4) (pv 6) set_list))) pss_nil)))))
      (pss_one (ps_ret (pe_ix ix_list (pv 4) pe_int (fun _ _ => rfl)))))))))), ?_⟩
    have hlen := hh.len
    have hit := hh.items
    have z1000 : ∀ {n : Nat}, n ≤ 902 → n ≤ sizeLine := fun h => Nat.le_trans h (by rw [sizeLine_eq]; decide)
    refine ⟨_, rfl, (by show 1 ≤ sizeLine; decide), fun t nt => ⟨(by show 0 ≤ sizeLine; decide), fun e ne => ?_⟩⟩
    have te : e ≠ t := fun z => by rw [z, upd_same] at ne; cases ne
    have s2 : Same H (upd (upd H t (.lst [v])) e (.lst [])) := (same_new nt).trans (same_new ne)
    have ht2 : upd (upd H t (.lst [v])) e (.lst []) t = some (.lst [v]) := same_new ne _ _ upd_same
    have he2 : upd (upd H t (.lst [v])) e (.lst []) e = some (.lst []) := upd_same
    have nte : H e = none := Same.gone (same_new nt) ne
    generalize upd (upd H t (.lst [v])) e (.lst []) = H2 at s2 ht2 he2 ⊢
    -- the walk over the things
    refine ⟨fun m σ H' => (m = us.length + 1 ∧ σ = [some v, some (.ref t), some (.ref e), some (.int 0), none, none, none, none, none, none] ∧ H' = H2) ∨
      (∃ k, k ≤ us.length ∧ m = us.length - k ∧ σ = [some v, some (.ref t), some (.ref e), some (.int (1 + (k : Int))), none, none, none, none, none, none] ∧ H' t = some (.lst (v :: us)) ∧ H' e = some (.lst (List.replicate (1 + k) (V.int (1 + (us.length : Int))))) ∧ Same H H'), ⟨_, .inl ⟨rfl, rfl, rfl⟩⟩, fun m σ H' h => ?_⟩
    rcases h with ⟨rfl, rfl, rfl⟩ | ⟨k, hk, rfl, rfl, ht, he, sm⟩
    · refine ⟨_, rfl, _, rfl, t, _, rfl, .inl (SqL.of ht2), _, _, rfl, rfl, _, rfl, ite2 (fun _ => ?_) (fun z => absurd (decide_eq_true (show (0 : Int) < ((1 : Nat) : Int) by decide)) z)⟩
      refine ⟨fun σ H' => σ = [some v, some (.ref t), some (.ref e), some (.int (1 + ((0 : Nat) : Int))), none, none, none, none, none, none] ∧ H' t = some (.lst (v :: us)) ∧ H' e = some (.lst (List.replicate (1 + 0) (V.int (1 + (us.length : Int))))) ∧ Same H H', fun σ' H' q => ⟨us.length, by omega, .inr ⟨0, Nat.zero_le _, rfl, q⟩⟩, ?_⟩
      refine ⟨_, rfl, .inl ⟨rfl, _, SqL.of ht2⟩, _, rfl, _, rfl, t, _, 0, v, rfl, rfl, SqL.of ht2, atI_nat (j := 0) rfl, v, us, b, rfl, hh.keep s2, fun p0 H30 np0 s30 hp0 => ⟨p0, _, rfl, .inl (SqL.of hp0), fun p np => ?_⟩⟩
      have s3 : Same H' (upd H30 p (.lst us)) := s30.trans (same_new np)
      have hp : upd H30 p (.lst us) p = some (.lst us) := upd_same
      generalize upd H30 p (.lst us) = H3 at s3 hp ⊢
      refine ⟨t, p, _, _, rfl, rfl, s3 _ _ ht2, hp, z1000 (by show 1 + us.length ≤ 902; omega), ?_⟩
      have he3 : upd H3 t (.lst ([v] ++ us)) e = some (.lst []) := by rw [upd_ne te]; exact s3 _ _ he2
      refine ⟨_, rfl, .inl ⟨rfl, _, SqL.of he3⟩, _, rfl, t, [v] ++ us, rfl, .inl (SqL.of upd_same), e, _, _, rfl, rfl, he3, (by show 0 < sizeLine; decide), ?_⟩
      refine ⟨_, rfl, _, _, rfl, rfl, rfl, ?_, ?_, fun b o q => ?_⟩
      · rw [upd_ne te.symm]; exact upd_same
      · have e1 : ((([v] ++ us).length : Nat) : Int) = 1 + (us.length : Int) := by rw [List.length_append, List.length_singleton]; omega
        rw [upd_same, e1]; rfl
      · rw [upd_ne (ne_of_none q nte), upd_ne (ne_of_none q nt)]
        exact s3 _ _ (s2 _ _ q)
    · by_cases hlt : k < us.length
      · have hge : (v :: us)[1 + k]? = some us[k] := by rw [Nat.add_comm]; exact List.getElem?_eq_getElem hlt
        have hix : atI (v :: us) (1 + (k : Int)) = some us[k] := by
          have := atI_nat (xs := v :: us) (j := 1 + k) hge
          rw [show ((1 + k : Nat) : Int) = 1 + (k : Int) by omega] at this
          exact this
        refine ⟨_, rfl, _, rfl, t, _, rfl, .inl (SqL.of ht), _, _, rfl, rfl, _, rfl, ite2 (fun _ => ?_) (fun z => absurd (decide_eq_true (show (1 + (k : Int)) < (((v :: us).length : Nat) : Int) by rw [List.length_cons]; omega)) z)⟩
        refine ⟨fun σ H' => σ = [some v, some (.ref t), some (.ref e), some (.int (1 + ((k + 1 : Nat) : Int))), none, none, none, none, none, none] ∧ H' t = some (.lst (v :: us)) ∧ H' e = some (.lst (List.replicate (1 + (k + 1)) (V.int (1 + (us.length : Int))))) ∧ Same H H', fun σ' H' q => ⟨us.length - (k + 1), by omega, .inr ⟨k + 1, hlt, rfl, q⟩⟩, ?_⟩
        refine ⟨_, rfl, .inl ⟨rfl, _, SqL.of ht⟩, _, rfl, _, rfl, t, _, _, us[k], rfl, rfl, SqL.of ht, hix, us[k], [], false, rfl, flat_hold hit (List.getElem?_eq_getElem hlt), fun p0 H30 np0 s30 hp0 => ⟨p0, _, rfl, .inl (SqL.of hp0), fun p np => ?_⟩⟩
        have s3 : Same H' (upd H30 p (.lst [])) := s30.trans (same_new np)
        have hp : upd H30 p (.lst []) p = some (.lst []) := upd_same
        generalize upd H30 p (.lst []) = H3 at s3 hp ⊢
        refine ⟨t, p, _, _, rfl, rfl, s3 _ _ ht, hp, z1000 (by show (v :: us).length + 0 ≤ 902; rw [List.length_cons]; omega), ?_⟩
        have he3 : upd H3 t (.lst ((v :: us) ++ [])) e = some (.lst (List.replicate (1 + k) (V.int (1 + (us.length : Int))))) := by rw [upd_ne te]; exact s3 _ _ he
        refine ⟨_, rfl, .inl ⟨rfl, _, SqL.of he3⟩, _, rfl, t, (v :: us) ++ [], rfl, .inl (SqL.of upd_same), e, _, _, rfl, rfl, he3, Nat.lt_of_lt_of_le (show (List.replicate (1 + k) (V.int (1 + (us.length : Int)))).length < 902 by rw [List.length_replicate]; omega) (z1000 (Nat.le_refl _)), ?_⟩
        refine ⟨_, rfl, _, _, rfl, rfl, ?_, ?_, ?_, fun b o q => ?_⟩
        · have e5 : (1 + (k : Int)) + 1 = 1 + ((k + 1 : Nat) : Int) := by omega
          show List.set _ 3 (some (V.int ((1 + (k : Int)) + 1))) = _
          rw [e5]; rfl
        · rw [upd_ne te.symm, upd_same, List.append_nil]
        · have e1 : ((((v :: us) ++ []).length : Nat) : Int) = 1 + (us.length : Int) := by rw [List.append_nil, List.length_cons]; omega
          rw [upd_same, e1, show 1 + (k + 1) = (1 + k) + 1 by omega, List.replicate_succ' (n := 1 + k)]
        · have e3 := s3 _ _ (sm _ _ q)
          rw [upd_ne (ne_of_none q nte), upd_ne (ne_of_none q nt)]
          exact e3
      · obtain rfl : k = us.length := by omega
        refine ⟨_, rfl, _, rfl, t, _, rfl, .inl (SqL.of ht), _, _, rfl, rfl, _, rfl, ite2 (fun z => absurd (of_decide_eq_true z) (show ¬ ((1 + (us.length : Int)) < (((v :: us).length : Nat) : Int)) by rw [List.length_cons]; omega)) (fun _ => ?_)⟩
        refine ⟨_, rfl, t, _, rfl, .inl (SqL.of ht), fun md nmd => ?_⟩
        have ht3 := same_new (o := .lst (v :: us)) nmd _ _ ht
        have he3 := same_new (o := .lst (v :: us)) nmd _ _ he
        have hm3 : upd H' md (.lst (v :: us)) md = some (.lst (v :: us)) := upd_same
        have sm3 := sm.trans (same_new (o := .lst (v :: us)) nmd)
        have nmH : H md = none := Same.gone sm nmd
        generalize upd H' md (.lst (v :: us)) = H3 at ht3 he3 hm3 sm3 ⊢
        refine ⟨_, rfl, t, rfl, ⟨_, SqL.of ht3⟩, fun D nD => ?_⟩
        refine lc_list (K := K) (a := t) (xs := v :: us) (fun i H' => H' D = some (.lst (((marks b us.length).take i).map V.bl)) ∧ But D H3 H') ⟨upd_same, But.upd_at⟩ (fun i H' _ q => SqL.of (q.2 _ _ (ne_of_none ht3 nD) ht3)) (fun i y H' hi ⟨e1, e2⟩ => ?_) (fun H' ⟨e1, e2⟩ => ?_)
        · have hil : i < us.length + 1 := (List.getElem?_eq_some_iff.mp hi).1
          obtain ⟨TT, r, hr1, ty, kit⟩ : ∃ (TT : String) (r : Bool), (marks b us.length)[i]? = some r ∧ (∀ (K : PySem.W.Frag) (G : Hp), Same H' G → TyX K G y (.type TT)) ∧ PySem.W.kitAny K (.type TT) [.type "list", .type "dict"] = some r := by
            cases i with
            | zero =>
              obtain rfl : v = y := Option.some.inj hi
              obtain ⟨TT, ty, b1, b2, b3, f1, f2, f3, eb⟩ := hh.ty
              refine ⟨TT, b, rfl, fun K G k => ty K G fun c o q => k _ _ (e2 _ _ (ne_of_none (sm3 _ _ q) nD) (sm3 _ _ q)), ?_⟩
              rw [eb]; exact kit_any2 f1 f3
            | succ j =>
              obtain ⟨TT, f⟩ := hit y (List.mem_of_getElem? (show us[j]? = some y from hi))
              exact ⟨TT, false, marks_at (by omega), fun K G _ => f.ty K G, kit_any2 f.l f.d⟩
          refine ⟨rfl, _, rfl, (by show 2 ≤ sizeLine; decide), fun tp ntp => ⟨y, tp, _, _, _, r, rfl, upd_same, .cons (.ty _) (.cons (.ty _) .nil), ty _ _ (same_new ntp), kit, _, same_new ntp _ _ e1, ?_, ?_, ?_⟩⟩
          · refine Nat.lt_of_lt_of_le (show _ < 902 from ?_) (z1000 (Nat.le_refl _))
            rw [List.length_map, List.length_take]; omega
          · rw [upd_same, List.take_add_one, hr1, List.map_append]; rfl
          · exact (e2.trans (Same.but (same_new ntp))).trans But.upd_at
        · have eM : (marks b us.length).take (v :: us).length = marks b us.length := by
            rw [List.take_of_length_le]
            show (List.replicate us.length false).length + 1 ≤ us.length + 1
            rw [List.length_replicate]; exact Nat.le_refl _
          rw [eM] at e1
          have s4 : Same H3 H' := fun b o q => e2 b o (ne_of_none q nD) q
          have ht4 := s4 _ _ ht3
          have he4 := s4 _ _ he3
          have hm4 := s4 _ _ hm3
          have s04 := sm3.trans s4
          have nDH : H D = none := Same.gone sm3 nD
          have lenI : ((((v :: us).length : Nat) : Int)) - 1 = (us.length : Int) := by rw [List.length_cons]; omega
          refine ⟨_, rfl, t, _, rfl, .inl (SqL.of ht4), _, _, rfl, rfl, _, rfl, _, rfl, (us.length : Int), -1, -1, us.length + 1, ?_, ?_, ?_⟩
          · show [V.int (((((v :: us).length : Nat) : Int)) - 1), V.int (-1), V.int (-1)] = _
            rw [lenI]
          · have h := RgC.neg (i := (us.length : Int)) (j := -1) (by omega) (by omega) (by decide) (by decide)
            rw [show ((us.length : Int) - -1).toNat = us.length + 1 by omega] at h
            exact h
          refine for_rangeC (lo := (us.length : Int)) (c := -1) (n := us.length + 1) (fun i σ H5 => (∃ v6 v7 v8 v9 : Option V, σ = [some v, some (.ref t), some (.ref e), some (.int (1 + (us.length : Int))), some (.ref md), some (.ref D), v6, v7, v8, v9]) ∧
            (i ≤ us.length → Same H' H5) ∧ (i = us.length + 1 → Same H H5 ∧ ∃ v', H5 md = some (.lst (v' :: us)) ∧ Alike H v H5 v')) ⟨⟨none, none, none, none, rfl⟩, fun _ => Same.refl _, fun z => by omega⟩ ?_ ?_
          · rintro i σ H5 hi ⟨⟨v6, v7, v8, v9, rfl⟩, u5, _⟩
            have s5 := u5 (by omega)
            clear u5
            have he5 := s5 _ _ he4
            have hD5 := s5 _ _ e1
            by_cases hlast : i = us.length
            · subst hlast
              have e0 : (us.length : Int) + ((us.length : Nat) : Int) * -1 = 0 := by omega
              rw [e0]
              refine ⟨_, rfl, _, _, rfl, rfl, _, rfl, ite2 (fun z => absurd (of_decide_eq_true z) (show ¬ ((0 : Int) < 0) by decide)) (fun _ => ?_)⟩
              refine ⟨_, rfl, _, rfl, e, _, _, _, rfl, rfl, SqL.of he5, atI_nat (j := 0) (ends_at (m := 1 + us.length) (by omega)), _, _, rfl, ?_⟩
              refine ⟨_, rfl, _, rfl, _, rfl, _, rfl, _, rfl, D, _, rfl, SqL.of hD5, fun sl nsl => ?_⟩
              have ecut : cutV ((marks b us.length).map V.bl) (some 1) (some (1 + (us.length : Int))) = (List.replicate us.length false).map V.bl := by
                have := cut_tail (x := V.bl b) (ys := (List.replicate us.length false).map V.bl)
                rw [List.length_map, List.length_replicate] at this
                exact this
              rw [ecut]
              refine ⟨sl, List.replicate us.length false, rfl, SqL.of upd_same, _, rfl, ?_⟩
              rw [any_none]
              refine iteF ?_
              have s6 := s5.trans (same_new (o := .lst ((List.replicate us.length false).map V.bl)) nsl)
              generalize upd H5 sl (.lst ((List.replicate us.length false).map V.bl)) = H6 at s6
              refine ⟨_, rfl, _, rfl, D, _, _, _, rfl, rfl, SqL.of (s6 _ _ e1), atI_nat (j := 0) rfl, _, rfl, ?_⟩
              cases b with
              | false => exact iteF ⟨⟨_, _, _, _, rfl⟩, fun z => by omega, fun _ => ⟨s04.trans s6, v, s6 _ _ hm4, .same⟩⟩
              | true =>
                refine iteT ⟨_, rfl, _, rfl, t, _, _, _, rfl, rfl, SqL.of (s6 _ _ ht4), atI_nat (j := 0) rfl, _, rfl, _, rfl, _, rfl, _, rfl, _, rfl, md, _, rfl, SqL.of (s6 _ _ hm4), fun q nq => ?_⟩
                rw [cut_tail]
                have s7 := s6.trans (same_new (o := .lst us) nq)
                have hq : upd H6 q (.lst us) q = some (.lst us) := upd_same
                generalize upd H6 q (.lst us) = H7 at s7 hq
                refine ⟨v, us, q, rfl, hh.keep (s04.trans s7), hq, fun v' H8 s8 al => ?_⟩
                have hm8 := s8 _ _ (s7 _ _ hm4)
                refine ⟨_, rfl, _, rfl, md, _, _, 0, rfl, rfl, hm8, ix_first, ?_⟩
                refine ⟨⟨_, _, _, _, rfl⟩, fun z => by omega, fun _ => ⟨fun c o z => ?_, v', upd_same, (al.from (s04.trans s7) us hh).put hh hm8 rfl⟩⟩
                rw [upd_ne (ne_of_none z nmH)]
                exact s8 _ _ (s7 _ _ (s04 _ _ z))
            · have hi2 : i < us.length := by omega
              obtain ⟨j, ej⟩ : ∃ j : Nat, us.length = i + j + 1 := ⟨us.length - i - 1, by omega⟩
              have e0 : (us.length : Int) + ((i : Nat) : Int) * -1 = ((j + 1 : Nat) : Int) := by omega
              rw [e0]
              have e9 : ((j + 1 : Nat) : Int) - 1 = ((j : Nat) : Int) := by omega
              refine ⟨_, rfl, _, _, rfl, rfl, _, rfl, ite2 (fun _ => ?_) (fun z => absurd (decide_eq_true (show (0 : Int) < ((j + 1 : Nat) : Int) by omega)) z)⟩
              have hfst : atI (List.replicate (1 + us.length) (V.int (1 + (us.length : Int)))) (((j + 1 : Nat) : Int) - 1) = some (V.int (1 + (us.length : Int))) := by
                rw [e9]
                exact atI_nat (ends_at (m := 1 + us.length) (by omega))
              refine ⟨_, rfl, _, rfl, _, _, rfl, rfl, e, _, _, V.int (1 + (us.length : Int)), rfl, rfl, SqL.of he5, hfst, ?_⟩
              refine ⟨_, rfl, _, rfl, e, _, _, _, rfl, rfl, SqL.of he5, atI_nat (j := j + 1) (ends_at (m := 1 + us.length) (by omega)), _, _, rfl, ?_⟩
              refine ⟨_, rfl, _, rfl, _, rfl, _, rfl, _, rfl, D, _, rfl, SqL.of hD5, fun sl nsl => ?_⟩
              rw [cut_void]
              refine ⟨sl, [], rfl, SqL.of upd_same, _, rfl, iteF ?_⟩
              refine ⟨_, rfl, _, rfl, D, _, _, _, rfl, rfl, SqL.of (same_new nsl _ _ hD5), atI_nat (j := j + 1) (show ((marks b us.length).map V.bl)[j + 1]? = some (V.bl false) by rw [List.getElem?_map, marks_at (by omega)]; rfl), _, rfl, iteF ?_⟩
              exact ⟨⟨_, _, _, _, rfl⟩, fun _ => s5.trans (same_new nsl), fun z => by omega⟩
          · rintro σ H5 ⟨⟨v6, v7, v8, v9, rfl⟩, _, s5⟩
            obtain ⟨s5, v', hm5, al⟩ := s5 rfl
            exact ⟨_, rfl, md, _, 0, v', rfl, rfl, SqL.of hm5, atI_nat (j := 0) rfl, kk _ H5 s5 al⟩
theorem ok_flat {f : Addr} {fd : FuncData} (F : Fun K "is_flat" "is_flat" sFlat f fd) (T : Blt mg) (md : mg "dict" = none) : FnOk P w K mg base CX0 2 f fd ["value"] spFlat := by
  refine F.ok scFlat (fun vs H Q E h => ?_) (fun cdv A outer s H vs Q E hr h => ?_)
  · obtain ⟨a, us, rfl, _⟩ := h
    rfl
  · obtain ⟨a, us, rfl, ha, af, hn, k⟩ := h
    refine ⟨_, pss_cons (ps_for PassesOwn.never rfl (pi_tup (pv 0)) (pg_name (i := 1) scFlat.nd rfl (.inl rfl))
        (pss_one (ps_if (pt_val (pe_callB call_isiT (by rfl) T.isi (by decide +kernel) (pa_cons (pv 1) (pa_cons (pe_tup (pa_cons (pe_bltn (v := .ty "list") (by rfl) T.list (by decide +kernel) rfl) (pa_cons (pe_bltn (v := .ty "tuple") (by rfl) T.tuple (by decide +kernel) rfl) (pa_cons (pe_bltn (v := .ty "dict") (by rfl) md (by decide +kernel) rfl) pa_nil)))) pa_nil)))) (pss_one ps_never) pss_nil)))
      (pss_one (ps_ret pe_bl)), ?_⟩
    refine ⟨_, rfl, a, rfl, ⟨_, SqT.of ha⟩, ?_⟩
    refine for_it (walk_tup (K := K) (a := a) (xs := us)) (fun i σ G => Same H G ∧ ∃ z, σ = [some (.ref a), z]) ⟨Same.refl _, _, rfl⟩ (fun i σ G _ h => SqT.of (h.1 _ _ ha)) (fun i v σ G2 G3 hi h y => ?_) (fun σ G h => ?_)
    · obtain ⟨s2, z, rfl⟩ := h
      obtain ⟨rfl, hx⟩ := y
      obtain ⟨TT, fl⟩ := af v (List.mem_of_getElem? hx)
      exact ⟨_, rfl, (by show 3 ≤ sizeLine; decide), fun tp ntp => ⟨v, tp, _, _, _, false, rfl, upd_same, .cons (.ty _) (.cons (.ty _) (.cons (.ty _) .nil)), fl.ty _ _, kit3 fl.l fl.t fl.d, _, rfl, iteF ⟨s2.trans (same_new ntp), _, rfl⟩⟩⟩
    · obtain ⟨s2, z, rfl⟩ := h
      exact k G s2
theorem ok_keptV {f : Addr} {fd : FuncData} (F : Fun K "kept" "kept" sKept f fd) (T : Blt mg) (md : mg "dict" = none) (D : Df P w K mg base 2 "is_flat" ["value"] spFlat) (D2 : Df P w K mg base 2 "copied_deep" ["value"] spKeptV) : FnOk P w K mg base CX0 3 f fd ["value"] spKeptV := by
  obtain ⟨f1, fd1, G1, g1, k1, b1⟩ := D.ex
  obtain ⟨f2, fd2, G2, g2, k2, b2⟩ := D2.ex
  refine F.ok scKept (fun vs H Q E h => ?_) (fun cdv A outer s H vs Q E hr h => ?_)
  · obtain ⟨v, us, b, rfl, _⟩ := h
    rfl
  · obtain ⟨v, us, b, rfl, hh, kk⟩ := h
    refine ⟨_, pss_cons (ps_if (pt_not (pt_val (pe_callB call_isiT (by rfl) T.isi (by decide +kernel) (pa_cons (pv 0) (pa_cons (pe_tup (pa_cons (pe_bltn (v := .ty "list") (by rfl) T.list (by decide +kernel) rfl) (pa_cons (pe_bltn (v := .ty "tuple") (by rfl) T.tuple (by decide +kernel) rfl) (pa_cons (pe_bltn (v := .ty "dict") (by rfl) md (by decide +kernel) rfl) pa_nil)))) pa_nil))))) (pss_one (ps_ret (pv 0))) pss_nil)
      (pss_cons (ps_if (PW.pt (pw_and (pt_val (pe_callB call_isi (by rfl) T.isi (by decide +kernel) (pa_cons (pv 0) (pa_cons (pe_bltn (v := .ty "tuple") (by rfl) T.tuple (by decide +kernel) rfl) pa_nil)))) (pw_and1 (pt_val (pe_call G1 hr (by rfl) g1 k1 b1 .nil pass0 (pa_cons (pv 0) pa_nil)))))) (pss_one (ps_ret (pv 0))) pss_nil)
      (pss_one (ps_ret (pe_call G2 hr (by rfl) g2 k2 b2 .nil pass0 (pa_cons (pv 0) pa_nil))))), ?_⟩
    cases hh with
    | @flat v TT fl =>
      refine ⟨_, rfl, (by show 3 ≤ sizeLine; decide), fun tp ntp => ⟨v, tp, _, _, _, false, rfl, upd_same, .cons (.ty _) (.cons (.ty _) (.cons (.ty _) .nil)), fl.ty _ _, kit3 fl.l fl.t fl.d, _, rfl, iteT ⟨_, rfl, ?_⟩⟩⟩
      exact kk _ _ (same_new ntp) .same
    | @tup a us e al l =>
      refine ⟨_, rfl, (by show 3 ≤ sizeLine; decide), fun tp ntp => ⟨_, tp, _, _, _, true, rfl, upd_same, .cons (.ty _) (.cons (.ty _) (.cons (.ty _) .nil)), .base (.tup (same_new ntp _ _ e)), kit_any3 (r1 := false) (r2 := true) (r3 := false) (by decide +kernel) (by decide +kernel) (by decide +kernel), _, rfl, iteF ?_⟩⟩
      have e1 := same_new (o := .tup [.ty "list", .ty "tuple", .ty "dict"]) ntp _ _ e
      refine ⟨_, rfl, _, _, _, _, true, rfl, .ty _, .base (.tup e1), kit_ty (by decide +kernel), _, rfl, iteT ?_⟩
      refine ⟨_, rfl, a, us, rfl, e1, al, l, fun H' s' => ⟨_, rfl, iteT ⟨_, rfl, ?_⟩⟩⟩
      exact kk _ _ ((same_new ntp).trans s') .same
    | @lst a us e al l =>
      refine ⟨_, rfl, (by show 3 ≤ sizeLine; decide), fun tp ntp => ⟨_, tp, _, _, _, true, rfl, upd_same, .cons (.ty _) (.cons (.ty _) (.cons (.ty _) .nil)), .base (.lst (same_new ntp _ _ e)), kit_any3 (r1 := true) (r2 := false) (r3 := false) (by decide +kernel) (by decide +kernel) (by decide +kernel), _, rfl, iteF ?_⟩⟩
      have s1 := same_new (H := H) (o := .tup [.ty "list", .ty "tuple", .ty "dict"]) ntp
      have e1 := s1 _ _ e
      refine ⟨_, rfl, _, _, _, _, false, rfl, .ty _, .base (.lst e1), kit_ty (by decide +kernel), _, rfl, iteF ?_⟩
      refine ⟨_, rfl, _, us, true, rfl, (Hold.lst e1 al l), fun v' H' s' al' => ?_⟩
      exact kk _ _ (s1.trans s') (al'.from s1 us (.lst e al l))
    | @dct a kvs e al l nd =>
      refine ⟨_, rfl, (by show 3 ≤ sizeLine; decide), fun tp ntp => ⟨_, tp, _, _, _, true, rfl, upd_same, .cons (.ty _) (.cons (.ty _) (.cons (.ty _) .nil)), .base (.dK (same_new ntp _ _ e)), kit_any3 (r1 := false) (r2 := false) (r3 := true) (by decide +kernel) (by decide +kernel) (by decide +kernel), _, rfl, iteF ?_⟩⟩
      have s1 := same_new (H := H) (o := .tup [.ty "list", .ty "tuple", .ty "dict"]) ntp
      have e1 := s1 _ _ e
      refine ⟨_, rfl, _, _, _, _, false, rfl, .ty _, .base (.dK e1), kit_ty (by decide +kernel), _, rfl, iteF ?_⟩
      refine ⟨_, rfl, _, _, true, rfl, (Hold.dct e1 al l nd), fun v' H' s' al' => ?_⟩
      exact kk _ _ (s1.trans s') (al'.from s1 _ (.dct e al l nd))
end
end Ev
namespace Ev
open PySem L2 PySem.Spec PyProof.Rows
abbrev sBNInit : Stmt := inClass (top 10) 0
/-- a contract with a lesser promise -/
theorem FnOk.less {P : Program} {w : World} {K : PySem.W.Frag} {mg : Str → Option Value} {base : Heap} {CX : CXT} {k : Nat} {f : Addr} {fd : FuncData} {ps : List Str} {sp sp' : Sp}
    (F : FnOk P w K mg base CX k f fd ps sp) (h : ∀ vs H Q E, sp' vs H Q E → sp vs H Q E) : FnOk P w K mg base CX k f fd ps sp' :=
  ⟨fun vs H Q E t => F.len vs H Q E (h _ _ _ _ t), fun A above s H args us vs Q E hr env bt rv t => F.run A above s H args us vs Q E hr env bt rv (h _ _ _ _ t)⟩
/-- .. of a call that raises nothing -/
theorem FnOk.calm {P : Program} {w : World} {K : PySem.W.Frag} {mg : Str → Option Value} {base : Heap} {k : Nat} {f : Addr} {fd : FuncData} {ps : List Str} {sp sp' : Sp}
    (F : FnOk P w K mg base (L2.CX P w) k f fd ps sp) (h : ∀ vs H Q E, sp' vs H Q E → sp vs H Q fun _ _ _ => False) : FnOk P w K mg base CX0 k f fd ps sp' := by
  constructor
  · exact fun vs H Q E t => F.len vs H Q _ (h _ _ _ _ t)
  · intro A above s H args us vs Q E hr env bt rv t
    refine codeAny_mono (F.run A above s H args us vs Q _ hr env bt rv (h _ _ _ _ t)) fun r s2 q => ?_
    cases r with
    | error e =>
      obtain ⟨_, _, _, _, _, _, _, _, _, _, _, _, z⟩ := q
      exact z.elim
    | ok fl =>
      cases fl with
      | ret u => exact q
      | next => exact q
      | brk => exact q
      | cont => exact q
/-- no integer -/
def NoInt (H : Hp) (v : V) : Prop := ∃ (T : String) (b : Bool), (∀ (K : PySem.W.Frag) (H' : Hp), Same H H' → TyX K H' v (.type T)) ∧ kitB T "int" = some b ∧ (b = true → kitB T "bool" = some true)
theorem NoInt.keep {H H' : Hp} {v : V} (h : NoInt H v) (k : Same H H') : NoInt H' v := by
  obtain ⟨T, b, t, e⟩ := h
  exact ⟨T, b, fun K G q => t K G (k.trans q), e⟩
def spIsIntA : Sp := fun vs H Q _ => ∃ v : V, vs = [v] ∧ ((∃ i : Int, v = .int i ∧ Q (.bl true) H) ∨ (NoInt H v ∧ Q (.bl false) H))
def spWithinA : Sp := fun vs H Q _ => ∃ (v : V) (l m : Int), vs = [v, .int l, .int m] ∧ ((∃ i : Int, v = .int i ∧ Q (.bl (decide (l ≤ i) && decide (i ≤ m))) H) ∨ (NoInt H v ∧ Q (.bl false) H))
/-- an error's field -/
def Told (C : Addr) (n : Str) (H : Hp) (v : V) (E : XK) : Prop := ∀ (d : Addr) (v' : V) (H' : Hp), Same H H' → H d = none → H' d = some (.xd [(n, v')]) → Alike H v H' v' → E (.ref C) (some d) H'
def BadW (H : Hp) (v : V) : Prop := (∃ i : Int, v = .int i ∧ ¬ (1 ≤ i ∧ i ≤ 10 ^ 60)) ∨ NoInt H v
def spNeedWA (C : Addr) : Sp := fun vs H Q E => ∃ v : V, vs = [v] ∧ ((∃ i : Int, v = .int i ∧ 1 ≤ i ∧ i ≤ 10 ^ 60 ∧ Q .non H) ∨ (BadW H v ∧ (∃ us b, Hold H v us b) ∧ Told C "value" H v E))
def spExInit (C : Addr) (n : Str) : Sp := fun vs H Q _ => ∃ (a : Addr) (v : V) (us : List V) (b : Bool), vs = [.ref a, v] ∧ H a = some (exo a C none) ∧ Hold H v us b ∧
  ∀ (d : Addr) (v' : V) (H' : Hp), H d = none → H' a = some (exo a C (some d)) → H' d = some (exd d [(n, v')]) → (∀ b o, b ≠ a → H b = some o → H' b = some o) → Alike H v H' v' → Q .non H'
theorem Alike.on {H G G' : Hp} {v v' : V} (h : Alike H v G v') (k1 : ∀ b xs, G b = some (.lst xs) → G' b = some (.lst xs)) (k2 : ∀ b kvs, G b = some (.dK kvs) → G' b = some (.dK kvs)) : Alike H v G' v' := by
  cases h with
  | same => exact .same
  | lst e1 e2 => exact .lst e1 (k1 _ _ e2)
  | dct e1 e2 => exact .dct e1 (k2 _ _ e2)
theorem exo_lst {a C : Addr} {d : Option Addr} {xs : List V} : exo a C d ≠ .lst xs := fun z => by
  have z : HO.ext _ = HO.lst xs := z
  cases z
theorem exo_dK {a C : Addr} {d : Option Addr} {xs : List (Key × V)} : exo a C d ≠ .dK xs := fun z => by
  have z : HO.ext _ = HO.dK xs := z
  cases z
theorem exd_lst {a : Addr} {d : List (Str × V)} {xs : List V} : exd a d ≠ .lst xs := fun z => by
  have z : HO.ext _ = HO.lst xs := z
  cases z
theorem exd_dK {a : Addr} {d : List (Str × V)} {xs : List (Key × V)} : exd a d ≠ .dK xs := fun z => by
  have z : HO.ext _ = HO.dK xs := z
  cases z
/-- an error class of the package with one field n -/
structure ErrC (P : Program) (w : World) (K : PySem.W.Frag) (mg : Str → Option Value) (base : Heap) (x n : Str) (C : Addr) : Prop where
  cl : OexC K C
  g : mg x = some (.ref C)
  ex : ∃ (f : Addr) (fd : FuncData), PySem.W.findIn K (.ref C) "__init__" = some (some (.ref f)) ∧ PySem.W.typeIn K (.ref f) = some (.type "function") ∧ FnOk P w K mg base CX0 4 f fd ["self", n] (spExInit C n) ∧ Binds K fd ["self", n] []
section
variable {P : Program} {w : World} {K : PySem.W.Frag} {mg : Str → Option Value} {base : Heap}
theorem ok_isIntA {f : Addr} {fd : FuncData} (F : Fun K "is_integer" "is_integer" sIsInt f fd) (T : Blt mg) : FnOk P w K mg base CX0 1 f fd ["value"] spIsIntA := by
  refine F.ok scIsInt (fun vs H Q E h => ?_) (fun cdv A outer s H vs Q E hr h => ?_)
  · obtain ⟨v, rfl, _⟩ := h
    rfl
  · obtain ⟨v, rfl, h⟩ := h
    refine ⟨_, pss_one (ps_ret (pe_and (pe_callB call_isi (by rfl) T.isi (by decide +kernel) (pa_cons (pv 0) (pa_cons (pe_bltn (v := .ty "int") (by rfl) T.int (by decide +kernel) rfl) pa_nil)))
      (pe_one (pe_not (pe_callB call_isi (by rfl) T.isi (by decide +kernel) (pa_cons (pv 0) (pa_cons (pe_bltn (v := .ty "bool") (by rfl) T.bool (by decide +kernel) rfl) pa_nil))))))), ?_⟩
    rcases h with ⟨i, rfl, k⟩ | ⟨⟨TT, b, ty, e1, e2⟩, k⟩
    · exact ⟨_, rfl, _, _, _, _, true, rfl, .ty _, .base (.int i), kit_ty (by decide +kernel), true, rfl, iteT ⟨_, rfl, _, _, _, _, false, rfl, .ty _, .base (.int i), kit_ty (by decide +kernel), _, rfl, k⟩⟩
    · refine ⟨_, rfl, _, _, _, _, b, rfl, .ty _, ty _ _ (Same.refl H), kit_ty e1, b, rfl, ?_⟩
      cases b with
      | false => exact iteF k
      | true => exact iteT ⟨_, rfl, _, _, _, _, true, rfl, .ty _, ty _ _ (Same.refl H), kit_ty (e2 rfl), _, rfl, k⟩
theorem ok_withinA {f : Addr} {fd : FuncData} (F : Fun K "is_within" "is_within" sWithin f fd) (D : Df P w K mg base 1 "is_integer" ["value"] spIsIntA) : FnOk P w K mg base CX0 2 f fd ["value", "least", "most"] spWithinA := by
  obtain ⟨fI, fdI, GI, gI, kI, bI⟩ := D.ex
  refine F.ok scWithin (fun vs H Q E h => ?_) (fun cdv A outer s H vs Q E hr h => ?_)
  · obtain ⟨v, l, m, rfl, _⟩ := h
    rfl
  · obtain ⟨v, l, m, rfl, h⟩ := h
    refine ⟨_, pss_one (ps_ret (pe_and (pe_call GI hr (by rfl) gI kI bI .nil pass0 (pa_cons (pv 0) pa_nil)) (pe_one (pe_chain op_le op_le (pv 1) (pv 0) (pv 2))))), ?_⟩
    rcases h with ⟨i, rfl, k⟩ | ⟨no, k⟩
    · refine ⟨_, rfl, _, rfl, .inl ⟨i, rfl, true, rfl, iteT ⟨_, rfl, _, rfl, _, _, rfl, rfl, _, rfl, ?_⟩⟩⟩
      by_cases z : l ≤ i
      · rw [decide_eq_true z] at k ⊢
        refine iteT ⟨_, rfl, _, _, rfl, rfl, ?_⟩
        exact k
      · rw [decide_eq_false z] at k ⊢
        exact iteF k
    · exact ⟨_, rfl, _, rfl, .inr ⟨no, false, rfl, iteF k⟩⟩
theorem scBN : FnScope ["self", "value"] ["self", "value"] (defScope sBNInit) := ⟨rfl, rfl, rfl, by decide +kernel, rfl, by decide +kernel, by decide +kernel⟩
theorem ok_bn {f C : Addr} {fd : FuncData} (F : Fun K "__init__" "BadNumber.__init__" sBNInit f fd) (T : OexC K C) (no : PySem.W.findIn K (.ref C) "value" = some none) (D : Df P w K mg base 3 "kept" ["value"] spKeptV) : FnOk P w K mg base CX0 4 f fd ["self", "value"] (spExInit C "value") := by
  obtain ⟨f1, fd1, G1, g1, k1, b1⟩ := D.ex
  refine F.ok scBN (fun vs H Q E h => ?_) (fun cdv A outer s H vs Q E hr h => ?_)
  · obtain ⟨a, v, us, b, rfl, _⟩ := h
    rfl
  · obtain ⟨a, v, us, b, rfl, ha, hv, kk⟩ := h
    refine ⟨_, pss_one (ps_ost (pv 0) (pe_call G1 hr (by rfl) g1 k1 b1 .nil pass0 (pa_cons (pv 1) pa_nil))), ?_⟩
    refine ⟨_, rfl, v, us, b, rfl, hv, fun v' H1 s1 al => ⟨_, rfl, a, C, rfl, T, no, .inl ⟨s1 _ _ ha, fun dx nd dne => ?_⟩⟩⟩
    refine kk dx v' _ (s1.free nd) upd_same (by rw [upd_ne dne]; exact upd_same) (fun b o nb e => ?_) (al.on (fun b xs e => ?_) (fun b xs e => ?_))
    · rw [upd_ne nb, upd_ne (ne_of_none (s1 _ _ e) nd)]
      exact s1 _ _ e
    · have nb : b ≠ a := fun z => by rw [z, s1 _ _ ha] at e; exact exo_lst (Option.some.inj e)
      rw [upd_ne nb, upd_ne (ne_of_none e nd)]; exact e
    · have nb : b ≠ a := fun z => by rw [z, s1 _ _ ha] at e; exact exo_dK (Option.some.inj e)
      rw [upd_ne nb, upd_ne (ne_of_none e nd)]; exact e
/-- what the raising of such an error comes to -/
theorem raised {C : Addr} {n : Str} {H : Hp} {v : V} {E : XK} (hv : ∃ us b, Hold H v us b) (k : Told C n H v E) (a' : Addr) (na : H a' = none) :
    spExInit C n [.ref a', v] (upd H a' (exo a' C none)) (fun v' H2 => v' = .non ∧ ∃ (d : Addr) (fs : List (Str × V)), H2 a' = some (exo a' C (some d)) ∧ H2 d = some (exd d fs) ∧ H d = none ∧ E (.ref C) (some d) (upd (del H2 a') d (.xd fs))) (fun _ _ _ => False) := by
  obtain ⟨us, b, hv⟩ := hv
  refine ⟨a', v, us, b, rfl, upd_same, hv.keep (same_new na), fun d v' H' nd ha' hd bt al => ⟨rfl, d, _, ha', hd, ?_, ?_⟩⟩
  · have dne : d ≠ a' := fun z => by rw [z, upd_same] at nd; cases nd
    rw [upd_ne dne] at nd
    exact nd
  · have dne : d ≠ a' := fun z => by rw [z, upd_same] at nd; cases nd
    rw [upd_ne dne] at nd
    have hkeep : ∀ b o, H b = some o → upd (del H' a') d (.xd [(n, v')]) b = some o := fun b o e => by
      rw [upd_ne (ne_of_none e nd), del_ne (ne_of_none e na)]
      exact bt b o (ne_of_none e na) (by rw [upd_ne (ne_of_none e na)]; exact e)
    refine k d v' _ hkeep nd upd_same ?_
    have al2 : Alike H v H' v' := by
      cases al with
      | same => exact .same
      | lst e1 e2 =>
        rename_i a b us
        refine .lst ?_ e2
        have nb : a ≠ a' := fun z => by rw [z, upd_same] at e1; exact exo_lst (Option.some.inj e1)
        rw [upd_ne nb] at e1; exact e1
      | dct e1 e2 =>
        rename_i a b us
        refine .dct ?_ e2
        have nb : a ≠ a' := fun z => by rw [z, upd_same] at e1; exact exo_dK (Option.some.inj e1)
        rw [upd_ne nb] at e1; exact e1
    refine al2.on (fun b xs e => ?_) (fun b xs e => ?_)
    · have n1 : b ≠ a' := fun z => by rw [z, ha'] at e; exact exo_lst (Option.some.inj e)
      have n2 : b ≠ d := fun z => by rw [z, hd] at e; exact exd_lst (Option.some.inj e)
      rw [upd_ne n2, del_ne n1]; exact e
    · have n1 : b ≠ a' := fun z => by rw [z, ha'] at e; exact exo_dK (Option.some.inj e)
      have n2 : b ≠ d := fun z => by rw [z, hd] at e; exact exd_dK (Option.some.inj e)
      rw [upd_ne n2, del_ne n1]; exact e
theorem ok_needWA {f C : Addr} {fd : FuncData} (F : Fun K "need_weight" "need_weight" sNeedW f fd) (D : Df P w K mg base 2 "is_within" ["value", "least", "most"] spWithinA) {t : Tok} (gM : mg "MOST_WEIGHT" = some (.int (10 ^ 60) t)) (B : ErrC P w K mg base "BadNumber" "value" C) :
    FnOk P w K mg base (L2.CX P w) 6 f fd ["value"] (spNeedWA C) := by
  obtain ⟨fW, fdW, GW, gW, kW, bW⟩ := D.ex
  obtain ⟨TC, gC, fi, fdi, iC, tI, GI, bI⟩ := id B
  refine F.okX scNeedW (fun vs H Q E h => ?_) (fun cdv A outer s H vs Q E hr h => ?_)
  · obtain ⟨v, rfl, _⟩ := h
    rfl
  · obtain ⟨v, rfl, h⟩ := h
    refine ⟨_, pss_one (ps_if (pt_not (pt_val (pe_call GW (hr.mono (by decide)) (by rfl) gW kW bW .nil pass0 (pa_cons (pv 0) (pa_cons pe_int (pa_cons (pe_glob (v := .int (10 ^ 60)) rfl gM ⟨_, rfl⟩) pa_nil))))))
      (pss_one (ps_raise rfl (takes_of rfl rfl rfl rfl) (pmk_oex TC iC tI GI hr bI .nil pass0 (by rfl) gC (pa_cons (pv 0) pa_nil)))) pss_nil), ?_⟩
    rcases h with ⟨i, rfl, h1, h2, k⟩ | ⟨bad, hv, k⟩
    · refine ⟨_, rfl, _, _, _, rfl, .inl ⟨i, rfl, _, rfl, ?_⟩⟩
      rw [decide_eq_true h1, decide_eq_true h2]
      exact iteF k
    · have out : tMkO C (spExInit C "value") [] (tCons (tVar 0) tNil) [some v] H E := ⟨_, rfl, (by show 1 ≤ 1000; decide), fun a' na => raised hv k a' na⟩
      rcases bad with ⟨i, rfl, hi⟩ | no
      · refine ⟨_, rfl, _, _, _, rfl, .inl ⟨i, rfl, _, rfl, ?_⟩⟩
        rw [show (decide ((1 : Int) ≤ i) && decide (i ≤ 10 ^ 60)) = false by
          rw [Bool.and_eq_false_iff]
          by_cases z : 1 ≤ i
          · exact .inr (decide_eq_false fun z2 => hi ⟨z, z2⟩)
          · exact .inl (decide_eq_false z)]
        exact iteT out
      · exact ⟨_, rfl, _, _, _, rfl, .inr ⟨no, false, rfl, iteT out⟩⟩
end
end Ev
namespace Ev
open PySem L2 PySem.Spec PyProof.Rows
def GoodW (v : V) (x : Int) : Prop := v = .int x ∧ 1 ≤ x ∧ x ≤ 10 ^ 60
/-- a weight that is refused -/
def Refused (C : Addr) (H : Hp) (v : V) (E : XK) : Prop := BadW H v ∧ (∃ us b, Hold H v us b) ∧ Told C "value" H v E
def spCallA (K : PySem.W.Frag) (C : Addr) : Sp := fun vs H Q E => ∃ (r : Addr) (p q k : Int) (v1 v2 : V), vs = [.ref r, v1, v2] ∧ RB K H r p q k ∧
  (Refused C H v1 E ∨ ∃ x, GoodW v1 x ∧ (Refused C H v2 E ∨ ∃ y, GoodW v2 y ∧ Q (.bl (fairB p q k x y)) H))
def spGreatA (K : PySem.W.Frag) (C : Addr) : Sp := fun vs H Q E => ∃ (r : Addr) (p q k : Int) (v : V), vs = [.ref r, v] ∧ RB K H r p q k ∧ (Refused C H v E ∨ ∃ x, GoodW v x ∧ Q (.int (greatV p q k x)) H)
def spLeastA (K : PySem.W.Frag) (C : Addr) : Sp := fun vs H Q E => ∃ (r : Addr) (p q k : Int) (v : V), vs = [.ref r, v] ∧ RB K H r p q k ∧ (Refused C H v E ∨ ∃ x, GoodW v x ∧ Q (.int (leastV p q k x)) H)
/-- a def that may raise, under its name -/
structure DfX (P : Program) (w : World) (K : PySem.W.Frag) (mg : Str → Option Value) (base : Heap) (k : Nat) (x : Str) (ps : List Str) (sp : Sp) : Prop where
  ex : ∃ (f : Addr) (fd : FuncData), FnOk P w K mg base (L2.CX P w) k f fd ps sp ∧ mg x = some (.ref f) ∧ PySem.W.keepIn K (.ref f) = true ∧ Binds K fd ps []
section
variable {P : Program} {w : World} {K : PySem.W.Frag} {mg : Str → Option Value} {base : Heap}
theorem ok_callA {f C : Addr} {fd : FuncData} (F : Fun K "__call__" "WeightRule.__call__" sCall f fd) (D : DfX P w K mg base 6 "need_weight" ["value"] (spNeedWA C)) (D2 : Df P w K mg base 1 "are_fair" ["rule", "x", "y"] (spFair K)) : FnOk P w K mg base (L2.CX P w) 7 f fd ["self", "x", "y"] (spCallA K C) := by
  obtain ⟨f1, fd1, G1, g1, k1, b1⟩ := D.ex
  obtain ⟨f2, fd2, G2, g2, k2, b2⟩ := D2.ex
  refine F.okX scCall (fun vs H Q E h => ?_) (fun cdv A outer s H vs Q E hr h => ?_)
  · obtain ⟨r, p, q, k, x, y, rfl, _⟩ := h
    rfl
  · obtain ⟨r, p, q, k, x, y, rfl, R, h⟩ := h
    refine ⟨_, pss_cons (ps_expr (pe_callS G1 hr (by rfl) g1 k1 b1 (fun σ => passAt (takes_of rfl rfl rfl rfl) σ) (pa_cons (pv 1) pa_nil)))
      (pss_cons (ps_expr (pe_callS G1 hr (by rfl) g1 k1 b1 (fun σ => passAt (takes_of rfl rfl rfl rfl) σ) (pa_cons (pv 2) pa_nil)))
      (pss_one (ps_ret (pe_call G2 (hr.mono (by decide)) (by rfl) g2 k2 b2 .nil pass0 (pa_cons (pv 0) (pa_cons (pv 1) (pa_cons (pv 2) pa_nil))))))), ?_⟩
    rcases h with ⟨b1, b2, b3⟩ | ⟨x, ⟨rfl, x1, x2⟩, h⟩
    · exact ⟨_, rfl, _, rfl, .inr ⟨b1, b2, b3⟩⟩
    · rcases h with ⟨b1, b2, b3⟩ | ⟨y, ⟨rfl, y1, y2⟩, kk⟩
      · exact ⟨_, rfl, _, rfl, .inl ⟨x, rfl, x1, x2, _, rfl, _, rfl, .inr ⟨b1, b2, b3⟩⟩⟩
      · exact ⟨_, rfl, _, rfl, .inl ⟨x, rfl, x1, x2, _, rfl, _, rfl, .inl ⟨y, rfl, y1, y2, _, rfl, _, rfl, _, rfl, r, p, q, k, x, y, rfl, R, kk⟩⟩⟩
theorem ok_greatA {f C : Addr} {fd : FuncData} (F : Fun K "greatest" "WeightRule.greatest" sGreatest f fd) (D : DfX P w K mg base 6 "need_weight" ["value"] (spNeedWA C)) (DB : Df P w K mg base 1 "greatest_beside" ["rule", "x"] (spGreatB K)) : FnOk P w K mg base (L2.CX P w) 7 f fd ["self", "x"] (spGreatA K C) := by
  obtain ⟨f1, fd1, G1, g1, k1, bb1⟩ := D.ex
  obtain ⟨f2, fd2, G2, g2, k2, bb2⟩ := DB.ex
  refine F.okX scGreatest (fun vs H Q E h => ?_) (fun cdv A outer s H vs Q E hr h => ?_)
  · obtain ⟨r, p, q, k, x, rfl, _⟩ := h
    rfl
  · obtain ⟨r, p, q, k, x, rfl, rb, h⟩ := h
    refine ⟨_, pss_cons (ps_expr (pe_callS G1 hr (by rfl) g1 k1 bb1 (fun σ => passAt (takes_of rfl rfl rfl rfl) σ) (pa_cons (pv 1) pa_nil)))
      (pss_one (ps_ret (pe_call G2 (hr.mono (by decide)) (by rfl) g2 k2 bb2 .nil pass0 (pa_cons (pv 0) (pa_cons (pv 1) pa_nil))))), ?_⟩
    rcases h with ⟨c1, c2, c3⟩ | ⟨x, ⟨rfl, x1, x2⟩, kk⟩
    · exact ⟨_, rfl, _, rfl, .inr ⟨c1, c2, c3⟩⟩
    exact ⟨_, rfl, _, rfl, .inl ⟨x, rfl, x1, x2, _, rfl, _, rfl, r, p, q, k, x, rfl, rb, kk⟩⟩
theorem ok_leastA {f C : Addr} {fd : FuncData} (F : Fun K "least" "WeightRule.least" sLeast f fd) (T : Blt mg) (D : DfX P w K mg base 6 "need_weight" ["value"] (spNeedWA C)) (DB : Df P w K mg base 1 "least_beside" ["rule", "y"] (spLeastB K)) : FnOk P w K mg base (L2.CX P w) 7 f fd ["self", "y"] (spLeastA K C) := by
  obtain ⟨f1, fd1, G1, g1, k1, bb1⟩ := D.ex
  obtain ⟨f2, fd2, G2, g2, k2, bb2⟩ := DB.ex
  refine F.okX scLeast (fun vs H Q E h => ?_) (fun cdv A outer s H vs Q E hr h => ?_)
  · obtain ⟨r, p, q, k, x, rfl, _⟩ := h
    rfl
  · obtain ⟨r, p, q, k, x, rfl, rb, h⟩ := h
    refine ⟨_, pss_cons (ps_expr (pe_callS G1 hr (by rfl) g1 k1 bb1 (fun σ => passAt (takes_of rfl rfl rfl rfl) σ) (pa_cons (pv 1) pa_nil)))
      (pss_one (ps_ret (pe_call G2 (hr.mono (by decide)) (by rfl) g2 k2 bb2 .nil pass0 (pa_cons (pv 0) (pa_cons (pv 1) pa_nil))))), ?_⟩
    rcases h with ⟨c1, c2, c3⟩ | ⟨x, ⟨rfl, x1, x2⟩, kk⟩
    · exact ⟨_, rfl, _, rfl, .inr ⟨c1, c2, c3⟩⟩
    exact ⟨_, rfl, _, rfl, .inl ⟨x, rfl, x1, x2, _, rfl, _, rfl, r, p, q, k, x, rfl, rb, kk⟩⟩
end
/-! ### an instance called by keywords alone -/
section
variable {X : Cx}
def tCallOK (X : Cx) (C : Addr) (sp : Sp) (gV : List V → List V → List V) (E : XK) (tf : TE) (tk : TA) : TE := fun σ H Q => tf σ H fun y H1 => ∃ a, y = V.ref a ∧ tk σ H1 fun vs H2 => StX.InsC X H2 a C ∧ sp (gV [V.ref a] vs) H2 Q E
end
/-! ### repr of a value that holds nothing but scalars -/
def sclr : V → PyData → Bool
  | .non, .none => true
  | .bl a, .bool b => a == b
  | .int a, .int b => decide (a = b)
  | .str a, .str b => a == b
  | _, _ => false
def keyD : Key → PyData
  | .inl i => .int i
  | .inr x => .str x
inductive Vd (K : PySem.W.Frag) (H : Hp) : V → PyData → Prop
  | plain {v : V} {d : PyData} : Dp K H v d → d.hasDict = false → Vd K H v d
  | dct {a : Addr} {kvs : List (Key × V)} {ds : List (PyData × PyData)} : H a = some (.dK kvs) → ds.map (·.1) = kvs.map (fun p => keyD p.1) → Paired (fun v d => sclr v d = true) (kvs.map (·.2)) (ds.map (·.2)) → Vd K H (.ref a) (.dict ds)
theorem reads_sc {h : Heap} {v : V} {d : PyData} {u : Value} (e : sclr v d = true) (r : RelV v u) : Reads h u d [] := by
  cases v <;> cases d <;> first | cases e | skip
  · cases (show u = Value.none from r); exact .none
  · obtain rfl := beq_iff_eq.mp e
    cases (show u = Value.bool _ from r); exact .bool _
  · obtain rfl := of_decide_eq_true e
    obtain ⟨t, q⟩ := (show ∃ t, u = Value.int _ t from r); cases q; exact .int _ _
  · obtain rfl := beq_iff_eq.mp e
    obtain ⟨t, q⟩ := (show ∃ t, u = Value.str _ t from r); cases q; exact .str _ _
theorem reads_scs {h : Heap} : ∀ {vs : List V} {ds : List PyData} {us : List Value}, Paired (fun v d => sclr v d = true) vs ds → Vals vs us → ReadsAll h us ds []
  | _, _, _, .nil, .nil => .nil
  | _, _, _, .cons e t, .cons r q => .cons (as := []) (bs := []) (reads_sc e r) (reads_scs t q)
theorem pair_vals {P : Program} {w : World} : ∀ {es : List DictEntry} {vs : List (Key × Value)}, Pairs (mixKind P w) es vs → es.map (·.val) = vs.map (·.2)
  | _, _, .nil => rfl
  | _, _, .cons h1 h2 t => by
    rw [List.map_cons, List.map_cons, h2, pair_vals t]
theorem reads_keys {P : Program} {w : World} {h : Heap} : ∀ {es : List DictEntry} {kvs : List (Key × V)} {vs : List (Key × Value)}, Pairs (mixKind P w) es vs → KV kvs vs → ReadsAll h (es.map (·.key)) (kvs.map fun p => keyD p.1) []
  | _, _, _, .nil, .nil => .nil
  | _, _, _, .cons h1 h2 t, .cons r q => by
    refine .cons (as := []) (bs := []) ?_ (reads_keys t q)
    dsimp only
    rw [r.1]
    rcases keyIs_shape (show keyIs _ _ = true from h1) with ⟨i, tk, e1, e2⟩ | ⟨x, tk, e1, e2⟩
    · rw [e1, e2]; exact .int _ _
    · rw [e1, e2]; exact .str _ _
section
variable {X : Cx}
/-- repr of such a value, where none is under way -/
def rReprV (K : PySem.W.Frag) : List V → Hp → VK → Prop := fun xs H Q => ∃ (v : V) (d : PyData), xs = [v] ∧ Vd K H v d ∧
  d.showable = true ∧ d.depth ≤ 32 ∧ d.shown.length ≤ sizeLine ∧ Q (.str d.shown) H
theorem call_reprV (gd : X.A.guards = some []) (hu : X.A.units + 64 < cLine) : CallR X (.builtin "repr") (rReprV X.K) := by
  intro pins s σ H xs us Q I r h
  obtain ⟨v, d, rfl, hd, h1, h3, h4, q⟩ := h
  obtain ⟨u, rfl, ru⟩ := vals1 r
  have fin : ∀ (h' : Heap) (t : Tok) (tk : Nat), (∀ b o, s.heap.get? b = some o → h'.get? b = some o) → EP X pins σ Q (.str d.shown t) { s with heap := h', toks := tk } := fun h' t tk hk => ⟨.str d.shown, H, I.kept hk, ⟨t, rfl⟩, q⟩
  have byRef : ∀ (a : Addr) (as : List Addr), u = .ref a → Reads s.heap (.ref a) d as → (d.hasDict = true → sysModules ∉ as) → wpAny (model X.prog X.w) X.A (call (.builtin "repr") [u]) (EP X pins σ Q) X.xe s := by
    intro a as eu rd hm
    subst eu
    exact repr_of_reads' rd h1 hm gd (by omega) (fun _ _ e => e) (fun h' t tk hk => fin h' t tk hk) h4
  cases hd with
  | plain dp nd =>
    cases dp with
    | non => cases ru; exact PySem.P.repr_of_none (fin s.heap _ _ fun _ _ e => e)
    | bl b => cases ru; exact PySem.P.repr_of_bool (fin s.heap _ _ fun _ _ e => e)
    | int i => obtain ⟨t, rfl⟩ := ru; exact PySem.P.repr_of_int (of_decide_eq_true h1) (fin s.heap _ _ fun _ _ e => e)
    | str x => obtain ⟨t, rfl⟩ := ru; exact PySem.P.repr_of_str (fin s.heap _ _ fun _ _ e => e) h4
    | lst sq al =>
      cases ru
      obtain ⟨as, rd⟩ := Dp.reads I _ _ _ (.lst sq al) rfl
      exact byRef _ as rfl rd fun z => by rw [nd] at z; cases z
    | tup sq al =>
      cases ru
      obtain ⟨as, rd⟩ := Dp.reads I _ _ _ (.tup sq al) rfl
      exact byRef _ as rfl rd fun z => by rw [nd] at z; cases z
  | @dct a kvs ds e ek ev =>
    cases ru
    obtain ⟨hz, hs0, vs, kv, hdo⟩ := (show ObjOk X.prog X.w H s.heap a (.dK kvs) from I.hok a _ e)
    obtain ⟨ep, ob, es, ho, ex, hdat, hko, hpr, hnd⟩ := hdo.dictAt
    have e1 : ReadsAll s.heap (es.toList.map (·.key)) (ds.map (·.1)) [] := by
      rw [ek]; exact reads_keys hpr kv
    have e2 : ReadsAll s.heap (es.toList.map (·.val)) (ds.map (·.2)) [] := by
      refine reads_scs ev ?_
      have e3 : es.toList.map (·.val) = vs.map (·.2) := pair_vals hpr
      rw [e3]; exact vals_snd kv
    refine byRef a (a :: [] ++ []) rfl (.dict ho ex.1 hdat e1 e2) fun _ z => ?_
    simp at z
    rw [← z] at hs0
    simp at hs0
end
end Ev
namespace Ev
open PySem L2 PySem.Spec PyProof.Rows LamX
abbrev sHeard : Stmt := top 52
/-- v shows as x -/
def Shows (K : PySem.W.Frag) (H : Hp) (v : V) (x : Str) : Prop := ∃ d : PyData, Vd K H v d ∧ d.showable = true ∧ d.depth ≤ 32 ∧ d.shown.length ≤ sizeLine ∧ d.shown = x
/-- what is heard of a call that is refused -/
def THeard (K : PySem.W.Frag) (C : Addr) : (XK → Hp → VK → Prop) → Hp → VK → Prop := fun tl H Q => ∀ G0 Qn, Same H G0 →
  tl (fun cls d H' => ∃ (dd : Addr) (v : V) (x : Str), cls = .ref C ∧ d = some dd ∧ H' dd = some (.xd [("value", v)]) ∧ Shows K H' v x ∧
    ∀ (r : Addr) (G : Hp), Same H' G → H' r = none → G r = some (.tup [.str "number", .str x]) → Q (.ref r) G) G0 Qn
theorem held_lst {cls : Value} {d : Option Addr} {a : Addr} {xs : List V} : HO.lst xs ≠ Held cls d a := fun z => by
  have z : HO.lst xs = HO.ext _ := z
  cases z
theorem five {σ : L2.St} (h : σ.length = 5) : ∃ x0 x1 x2 x3 x4, σ = [x0, x1, x2, x3, x4] := by
  match σ, h with
  | [x0, x1, x2, x3, x4], _ => exact ⟨x0, x1, x2, x3, x4, rfl⟩
theorem scHeard : FnScope ["_law_ask", "_law_caught", "_law_found", "error", "_law_some"] ["_law_ask"] (defScope sHeard) := ⟨rfl, rfl, rfl, by decide +kernel, rfl, by decide +kernel, by decide +kernel⟩
theorem sqL_keep {K : PySem.W.Frag} {H H' : Hp} {a : Addr} {xs : List V} (k : Same H H') (h : SqL K H a xs) : SqL K H' a xs := by
  rcases h with (e | ⟨o, e⟩) | e
  · exact .inl (.inl (k _ _ e))
  · exact .inl (.inr ⟨o, k _ _ e⟩)
  · exact .inr e
theorem sqT_keep {K : PySem.W.Frag} {H H' : Hp} {a : Addr} {xs : List V} (k : Same H H') (h : SqT K H a xs) : SqT K H' a xs := by
  rcases h with (e | ⟨o, e⟩) | e
  · exact .inl (.inl (k _ _ e))
  · exact .inl (.inr ⟨o, k _ _ e⟩)
  · exact .inr e
mutual
theorem dp_keep {K : PySem.W.Frag} {H H' : Hp} (k : Same H H') : ∀ (v : V) (d : PyData), Dp K H v d → Dp K H' v d
  | _, _, .non => .non
  | _, _, .bl b => .bl b
  | _, _, .int i => .int i
  | _, _, .str x => .str x
  | _, _, .lst s a => .lst (sqL_keep k s) (dps_keep k _ _ a)
  | _, _, .tup s a => .tup (sqT_keep k s) (dps_keep k _ _ a)
theorem dps_keep {K : PySem.W.Frag} {H H' : Hp} (k : Same H H') : ∀ (vs : List V) (ds : List PyData), DpAll K H vs ds → DpAll K H' vs ds
  | _, _, .nil => .nil
  | _, _, .cons h t => .cons (dp_keep k _ _ h) (dps_keep k _ _ t)
end
theorem Shows.keep {K : PySem.W.Frag} {H H' : Hp} {v : V} {x : Str} (h : Shows K H v x) (k : Same H H') : Shows K H' v x := by
  obtain ⟨d, hd, sh⟩ := h
  refine ⟨d, ?_, sh⟩
  cases hd with
  | plain dp nd => exact .plain (dp_keep k _ _ dp) nd
  | dct e ek ev => exact .dct (k _ _ e) ek ev
section
variable {X : Cx}
theorem heard_gives {C FE : Addr} {q : Str} {g : Addr} {cdg : Value} (gd : X.A.guards = some []) {k : Nat} (hr : Room (k + 1) X.A) (T : Blt X.mg) (mv : X.mg "ValueError" = none) (mr : X.mg "repr" = none) (gF : X.mg "FairError" = some (.ref FE)) (gB : X.mg "BadNumber" = some (.ref C)) (HC : HeldC X.K C)
    (no : PySem.W.findIn X.K (.ref C) "value" = some none) (te : PySem.W.exmOne X.K (.ref C) (.ref FE) = some true) (i1 : PySem.W.kitOne X.K (.ref C) (.ref C) = some true) (i2 : PySem.W.kitOne X.K (.ref C) (.type "ValueError") = some true) :
    GivesTo X ["_law_ask", "_law_caught", "_law_found", "error", "_law_some"] "_law_heard" (defScope sHeard) g cdg (defBody sHeard) "_law_ask" q (THeard X.K C) := by
  intro f c' s H Q tl act hc h
  refine ⟨_, pss_cons (ps_asg (pe_tup (pa_cons pe_non (pa_cons pe_non pa_nil))) (pg_tup (by rfl) (pgs_cons (pg_name (i := 1) scHeard.nd rfl (.inl rfl)) (pgs_cons (pg_name (i := 2) scHeard.nd rfl (.inl rfl)) pgs_nil))))
    (pss_cons (ps_try_held (X := (cxOf C8.CX0 X.prog X.w X.K X.mg X.base ["_law_ask", "_law_caught", "_law_found", "error", "_law_some"] "_law_heard" (defScope sHeard) g cdg X.A X.stack s H C8.E0).nox) (c := .ref FE) (i := 3) (Wout := fun _ _ _ _ => False)
      (tb := fun W D σ H => ∃ Ech : XK, (∀ cls d σ' H', Ech cls d H' → W cls d σ' H') ∧ σ[0]? = some (some (.ref f)) ∧ H c' = some (CodeO c' q) ∧ tl Ech H fun v H' => D.nx (σ.set 2 (some v)) H')
      (ts := fun a cls d => tAsg (tVar 3) (gName 1)) rfl rfl rfl scHeard.nd rfl rfl ⟨rfl, by decide, .inl gF⟩ L2.takes0 (fun W pn xe tk => ?_) (fun a oe cls d pn _ _ => pss_one (ps_set (i := 1) scHeard.nd rfl (.inl rfl) (pv 3))))
    (pss_cons (ps_if (pt_cmpR op_isN (pv 1) pe_non (nomark _)) (pss_one (ps_ret (pe_lst (pa_cons (pv 2) pa_nil)))) pss_nil)
    (pss_cons (ps_set (i := 4) scHeard.nd rfl (.inl rfl) (pe_lst pa_nil))
    (pss_cons (ps_if (pt_val (pe_callB call_isHeld (by rfl) T.isi (by decide +kernel) (pa_cons (pv 1) (pa_cons (pe_glob (v := .ref C) rfl gB rfl) pa_nil))))
      (pss_one (ps_expr (pe_bm PySem.F.plainAttrs_list PySem.F.slot_list_append PySem.F.type_list_append mt_append (pv 4) (pa_cons (pe_tup (pa_cons pe_str (pa_cons (pe_callB (call_reprV gd (Room.units (hr.deeper _))) (by rfl) mr (by decide +kernel) (pa_cons (pe_heldFld (pv 1)) pa_nil)) pa_nil))) pa_nil)))) pss_nil)
    (pss_one (ps_ret (pe_ifExp (PW.pt (pw_and (pt_cmpR op_eq (pe_callB call_len_seq (by rfl) T.len PySem.boot_len (pa_cons (pv 4) pa_nil)) pe_int (nomark _))
      (pw_and1 (pt_val (pe_callB call_isHeld (by rfl) T.isi (by decide +kernel) (pa_cons (pv 1) (pa_cons (pe_bltn (v := .ty "ValueError") (by rfl) mv (by decide +kernel) rfl) pa_nil)))))))
      (pe_ix ix_list (pv 4) pe_int (fun _ _ => rfl)) pe_never))))))), ?_⟩
  · refine ⟨fun pins s' σ H' D I h' => ?_⟩
    obtain ⟨Ech, hW, h1, h2, h3⟩ := h'
    exact (pss_one (ps_set (i := 2) scHeard.nd rfl (.inl rfl) (act W pn xe Ech _ _ tk hW))).run pins s' σ H' D I ⟨h1, h2, h3⟩
  · refine ⟨(by show 2 ≤ sizeLine; decide), fun tp ntp => ⟨tp, _, rfl, SqT.of upd_same, rfl, _, _, rfl, _, _, rfl, rfl, ?_⟩⟩
    refine ⟨_, fun cls d σ' H' z hlen => ?_, rfl, same_new ntp _ _ hc, h _ _ (same_new ntp)⟩
    obtain ⟨dd, v, x, rfl, rfl, ed, sh, fin⟩ := z
    obtain ⟨x0, x1, x2, x3, x4, rfl⟩ := five hlen
    refine ⟨true, te, (fun z => by cases z), fun _ a na => ⟨_, rfl, fun _ => ?_⟩⟩
    have sA : Same H' (upd H' a (Held (.ref C) (some dd) a)) := same_new na
    have hA : upd H' a (Held (.ref C) (some dd) a) a = some (Held (.ref C) (some dd) a) := upd_same
    have hD := sA _ _ ed
    have shA := sh.keep sA
    generalize upd H' a (Held (.ref C) (some dd) a) = HA at sA hA hD shA
    refine ⟨_, rfl, rfl, _, rfl, iteF ?_⟩
    refine ⟨(by show 0 ≤ sizeLine; decide), fun l nl => ?_⟩
    have hA1 := same_new (o := .lst []) nl _ _ hA
    have hD1 := same_new (o := .lst []) nl _ _ hD
    have shB := shA.keep (same_new (o := .lst []) nl)
    have sB := sA.trans (same_new (o := .lst []) nl)
    have hl : upd HA l (.lst []) l = some (.lst []) := upd_same
    generalize upd HA l (.lst []) = HB at hA1 hD1 shB sB hl
    refine ⟨_, rfl, a, C, dd, _, _, _, true, rfl, hA1, hD1, HC, .own C, i1, _, rfl, iteT ?_⟩
    obtain ⟨d, vd, v1, v2, v3, v4⟩ := shB
    refine ⟨_, rfl, .inl ⟨rfl, _, SqL.of hl⟩, _, rfl, a, C, dd, _, v, rfl, hA1, hD1, HC, no, rfl, v, d, rfl, vd, v1, v2, v3, (by show 2 ≤ sizeLine; decide), fun tq ntq => ?_⟩
    rw [v4]
    have hl2 := same_new (o := .tup [.str "number", .str x]) ntq _ _ hl
    have ltq : l ≠ tq := ne_of_none hl ntq
    refine ⟨l, _, _, rfl, rfl, hl2, (by show 0 < sizeLine; decide), ?_⟩
    have hq : upd (upd HB tq (.tup [.str "number", .str x])) l (.lst [.ref tq]) tq = some (.tup [.str "number", .str x]) := by rw [upd_ne ltq.symm]; exact upd_same
    have hl3 : upd (upd HB tq (.tup [.str "number", .str x])) l (.lst [.ref tq]) l = some (.lst [.ref tq]) := upd_same
    have hA3 : upd (upd HB tq (.tup [.str "number", .str x])) l (.lst [.ref tq]) a = some (Held (.ref C) (some dd) a) := by
      rw [upd_ne (fun z => by rw [z, hl] at hA1; exact held_lst (Option.some.inj hA1)), upd_ne (ne_of_none hA1 ntq)]; exact hA1
    have hD3 : upd (upd HB tq (.tup [.str "number", .str x])) l (.lst [.ref tq]) dd = some (.xd [("value", v)]) := by
      rw [upd_ne (fun z => by rw [z, hl] at hD1; cases hD1), upd_ne (ne_of_none hD1 ntq)]; exact hD1
    have nlH : H' l = none := Same.gone sA nl
    have sC : Same H' (upd (upd HB tq (.tup [.str "number", .str x])) l (.lst [.ref tq])) := fun b o e => by
      rw [upd_ne (ne_of_none e nlH), upd_ne (ne_of_none (sB _ _ e) ntq)]; exact sB _ _ e
    refine ⟨_, rfl, l, _, rfl, .inl (SqL.of hl3), rfl, _, rfl, iteT ?_⟩
    refine ⟨_, rfl, a, C, dd, _, _, _, true, rfl, hA3, hD3, HC, .ty _, i2, _, rfl, iteT ?_⟩
    refine ⟨_, rfl, l, _, 0, _, rfl, rfl, SqL.of hl3, atI_nat (j := 0) rfl, ?_⟩
    exact fin tq _ sC (Same.gone sB ntq) hq
end
end Ev
namespace Ev
open PySem L2 PySem.Spec PyProof.Rows
abbrev sWeight : Stmt := top 53
abbrev sBeside : Stmt := top 54
/-! ### an instance called by keywords -/
theorem callOK_of {M : Model} {A : Around} {E : Value → Shared → Prop} {s : Shared} {a : Addr} {pos : Pos} {Q : Value → Shared → Prop} {args : List (Bool × Sem Value)} {kws : List (Option Str × Sem Value)} (hplain : (args.any (·.1) || kws.any (·.1.isNone)) = false)
    (h : wpAny M A (evalArgs (.ref a) true args kws) (fun z s₁ => (∃ C ox od, PySem.W.InstAt s₁.heap a ox C od ∧ ox.data = .plain) ∧ wpAny M A (call (.ref a) z.pos z.kw) Q E s₁) E s) : wpAny M A (callWith pos (.ref a) [] args kws) Q E s := by
  unfold callWith
  refine wpAny_bind (wpAny_holding (wpAny_mono h (fun z s1 h1 => ?_) fun _ _ y => y))
  obtain ⟨⟨C, ox, od, J, hd⟩, h1⟩ := h1
  refine wpAny_bind (wpAny_standAt ?_)
  have keep := PySem.W.kco_keeper (M := M) J hd
  simp only [hplain]
  refine wpAny_bind (keep.here ?_)
  have ends : ∀ {t : Sem Value}, wpAny M A t Q E s1 → wpAny M A (t >>= fun r => holding [r] point >>= fun _ => pure r) Q E s1 := by
    intro t ht
    refine wpAny_bind (wpAny_mono ht (fun r s2 hr => ?_) fun _ _ y => y)
    exact wpAny_bind (wpAny_holding (wpAny_point (wpAny_pure hr)))
  exact ends (wpAny_operateT h1)
section
variable {X : Cx} {CX : CXT} {k : Nat} {g C : Addr} {fd : FuncData} {ps ks : List Str} {sp : Sp} {E : XK} {fe : Expr} {kws : List Keyword} {pos : Pos} {tf : TE} {tk : TA} {gg : List Value → List Value → List Value} {gV : List V → List V → List V}
theorem pe_callOK (hf : PE X fe tf) (c : StX.CallO X.K C g) (F : FnOk X.prog X.w X.K X.mg X.base CX k g fd ps sp) (hr : Room k X.A) (hb : KBinds X.K fd ps ks gg gV) (hx : Passes CX X E) (hkw : PK X kws tk)
    (hall : (backToKw pos (keywordEach kws X.env)).all (·.1.isSome) = true := by rfl) (hks : (backToKw pos (keywordEach kws X.env)).filterMap (·.1) = ks := by rfl)
    (hpl : ((backTo pos (starEach [] X.env)).any (·.1) || (backToKw pos (keywordEach kws X.env)).any (·.1.isNone)) = false := by rfl)
    (ht : eval (.Call fe [] kws pos) X.env = (do callWith pos (← eval fe X.env) [] (backTo pos (starEach [] X.env)) (backToKw pos (keywordEach kws X.env))) := by rfl) :
    PE X (.Call fe [] kws pos) (tCallOK X C sp gV E tf tk) := by
  constructor
  intro pins s σ H Q I h
  rw [ht]
  refine wpAny_bind (thn (hf.run pins s σ H _ I h) fun u s1 hh => ?_)
  obtain ⟨y, H1, I1, ry, a, rfl, q⟩ := hh
  obtain rfl : u = Value.ref a := ry
  refine callOK_of hpl (PyProof.Rows.evalArgs_kw2_nil hall (thn (hkw.run pos pins s1 σ H1 _ I1 q) fun ws s2 hh => ?_))
  obtain ⟨zs, H2, I2, rz, hi, q2⟩ := hh
  obtain ⟨ox, od, J, hd⟩ := StX.insC_at I2 hi
  refine ⟨⟨C, ox, od, J, hd⟩, ?_⟩
  rw [hks]
  have r2 := hb.rel (vs := [V.ref a]) (us := [.ref a]) (.cons rfl .nil) rz
  have hl : (gg [.ref a] ws).length = ps.length := by rw [← r2.length]; exact F.len _ _ _ _ q2
  refine wpAny_call (PySem.W.kco_code I2.kIn J hd c.at_ c.fn c.fi (codeAny_mono (F.run X.A X.stack s2 H2 ⟨[.ref a], ks.zip ws⟩ (gg [.ref a] ws) (gV [.ref a] zs) Q E hr I2.env0 (hb.to s2 [.ref a] ws I2.kIn hl) r2 q2) fun r s' hq => ?_))
  cases r with
  | error e => exact hx pins σ H2 s2 e s' I2 hq
  | ok fl =>
    cases fl with
    | ret u => exact I2.after hq
    | next => exact False.elim hq
    | brk => exact False.elim hq
    | cont => exact False.elim hq
end
/-! ### the draw of a weight -/
def spWeight : Sp := fun vs H Q _ => ∃ (p L : Addr) (B : Int), vs = [.ref p] ∧ B ≤ 800000 ∧ Pen L H p B ∧ ∀ (x : Int) (H' : Hp), 1 ≤ x → x ≤ 10 ^ 50 → But p H H' → Pen L H' p (B + 5) → Q (.int x) H'
theorem ten_pow39 (k : Fin 40) : 1 ≤ (10 : Int) ^ (k : Nat) ∧ (10 : Int) ^ (k : Nat) ≤ 10 ^ 39 := by
  revert k
  decide +kernel
theorem far39 {d n : Int} (h0 : 0 ≤ d) (h1 : d < 10 ^ 9) (n1 : 1 ≤ n ∧ n ≤ 10 ^ 39) : 1 ≤ 1 + d * n ∧ 1 + d * n ≤ 10 ^ 50 := by
  have h2 := Int.mul_nonneg h0 (show 0 ≤ n by omega)
  have h3 : d * n ≤ 10 ^ 9 * 10 ^ 39 := Int.mul_le_mul (by omega) n1.2 (by omega) (by decide)
  have h4 : (10 : Int) ^ 9 * 10 ^ 39 + 1 ≤ 10 ^ 50 := by decide
  omega
theorem lt_9 {d : Int} (h : d < 10 ^ Int.toNat 9) : d < 2 ^ 64 := Int.lt_trans h (by decide)
theorem le_50 {x : Int} (h : x ≤ 200) : x ≤ 10 ^ 50 := Int.le_trans h (by decide)
section
variable {P : Program} {w : World} {K : PySem.W.Frag} {mg : Str → Option Value} {base : Heap}
theorem scWeight : FnScope ["_law_pen_here", "_law_great"] ["_law_pen_here"] (defScope sWeight) := ⟨rfl, rfl, rfl, by decide +kernel, rfl, by decide +kernel, by decide +kernel⟩
theorem ok_weight {f : Addr} {fd : FuncData} (F : Fun K "_law_weight" "_law_weight" sWeight f fd) (T : Blt mg) (D1 : Df P w K mg base 1 "_law_draw" ["_law_pen_here", "_law_many"] spDraw) (D2 : Df P w K mg base 2 "_law_pick" ["_law_pen_here", "_law_some"] spPick) :
    FnOk P w K mg base CX0 3 f fd ["_law_pen_here"] spWeight := by
  obtain ⟨f1, fd1, G1, g1, k1, b1⟩ := D1.ex
  obtain ⟨f2, fd2, G2, g2, k2, b2⟩ := D2.ex
  refine F.ok scWeight (fun vs H Q E h => ?_) (fun cdv A outer s H vs Q E hr h => ?_)
  · obtain ⟨p, L, B, rfl, _⟩ := h
    rfl
  · obtain ⟨p, L, B, rfl, hB, hp, kk⟩ := h
    have hr1 : Room 1 _ := hr.mono (by decide)
    refine ⟨_, pss_cons (ps_set (i := 1) scWeight.nd rfl (.inl rfl) (pe_op op_add pe_int (pe_op op_mul (pe_call G1 hr1 (by rfl) g1 k1 b1 .nil pass0 (pa_cons (pv 0) (pa_cons (pe_op op_pow pe_int pe_int) pa_nil)))
        (pe_callTy call_int_str (by rfl) T.int (by decide +kernel) (pa_cons (pe_op op_add_str pe_str (pe_op op_zeros pe_str (pe_call G1 hr1 (by rfl) g1 k1 b1 .nil pass0 (pa_cons (pv 0) (pa_cons pe_int pa_nil))))) pa_nil)))))
      (pss_one (ps_ret (pe_call G2 hr (by rfl) g2 k2 b2 .nil pass0 (pa_cons (pv 0) (pa_cons (pe_lst (pa_cons pe_int (pa_cons (pe_op op_add pe_int (pe_call G1 hr1 (by rfl) g1 k1 b1 .nil pass0 (pa_cons (pv 0) (pa_cons pe_int pa_nil))))
        (pa_cons (pe_op op_add pe_int (pe_call G1 hr1 (by rfl) g1 k1 b1 .nil pass0 (pa_cons (pv 0) (pa_cons pe_int pa_nil)))) (pa_cons (pv 1) pa_nil))))) pa_nil))))), ?_⟩
    refine ⟨_, rfl, _, _, rfl, rfl, ⟨by decide, by decide, by decide⟩, p, L, _, _, rfl, by decide, by decide, by omega, hp, fun d1 H8 t8 p8 lo1 hi1 => ?_⟩
    refine ⟨_, rfl, p, L, _, _, rfl, by decide, by decide, by omega, p8, fun d2 H9 t9 p9 lo2 hi2 => ?_⟩
    have hd2 : d2.toNat < 40 := by omega
    refine ⟨d2, rfl, rfl, lo2, by omega, _, _, rfl, rfl, (Nat.le_trans (Nat.add_le_add_left (zeros_len1 ⟨d2.toNat, hd2⟩) _) (by decide)), _, _, rfl, zeros_int ⟨d2.toNat, hd2⟩, zeros_len ⟨d2.toNat, hd2⟩, _, _, rfl, rfl, .inl ⟨by omega, lt_9 hi1⟩, _, _, rfl, rfl, ?_⟩
    have hfar := far39 lo1 hi1 (ten_pow39 ⟨d2.toNat, hd2⟩)
    generalize (10 : Int) ^ ((⟨d2.toNat, hd2⟩ : Fin 40) : Nat) = N at hfar ⊢
    refine ⟨_, rfl, _, rfl, p, L, _, _, rfl, by decide, by decide, by omega, p9, fun d3 H10 t10 p10 lo3 hi3 => ⟨_, _, rfl, rfl, _, rfl, p, L, _, _, rfl, by decide, by decide, by omega, p10, fun d4 H11 t11 p11 lo4 hi4 => ⟨_, _, rfl, rfl, _, rfl, (by show 4 ≤ sizeLine; decide), fun l nl => ?_⟩⟩⟩
    refine ⟨p, l, L, _, _, rfl, upd_same, p11.ne nl, (by show 1 ≤ 4; decide), (by show 4 ≤ 1000; decide), by omega, p11.new nl, fun dv H12 mem t12 p12 => ?_⟩
    have bt : But p H H12 := (((t8.trans t9).trans t10).trans t11).trans ((Same.but (same_new nl)).trans t12)
    simp only [List.mem_cons, List.not_mem_nil, or_false] at mem
    rcases mem with rfl | rfl | rfl | rfl
    · exact kk _ _ (by decide) (by decide) bt (p12.mono (by omega))
    · exact kk _ _ (by omega) (le_50 (by omega)) bt (p12.mono (by omega))
    · exact kk _ _ (by omega) (le_50 (by omega)) bt (p12.mono (by omega))
    · exact kk _ _ hfar.1 hfar.2 bt (p12.mono (by omega))
end
end Ev
namespace Ev
open PySem L2 PySem.Spec PyProof.Rows
theorem or_of {F : Addr → Prop} {C A B : Addr} (h : C = A ∨ C = B) (f : F C) : F A ∨ F B := by
  rcases h with rfl | rfl
  · exact .inl f
  · exact .inr f
theorem ObjAt.cls {Ct Cn : Addr} {H : Hp} {r : Addr} {row : Row} (h : ObjAt Ct Cn H r row) :
    ∃ C, (C = Ct ∨ C = Cn) ∧ ∃ (dx : Addr) (fs : List (Str × V)), H r = some (.ins C dx fs) ∧ ∀ m : Str, ¬ m = "times" → ¬ m = "plus" → ¬ m = "turn" → ¬ m = "turn_plus" → fs.lookup m = none := by
  cases row with
  | tr p q k =>
    obtain ⟨dx, a, e1, e2⟩ := h
    exact ⟨Ct, .inl rfl, dx, _, e1, fun m h1 h2 h3 h4 => try_no a k h1 h2⟩
  | tn p q k t s c =>
    obtain ⟨dx, a, b, e1, e2, e3⟩ := h
    exact ⟨Cn, .inr rfl, dx, _, e1, fun m h1 h2 h3 h4 => turn_no a k b c h1 h2 h3 h4⟩
/-- what the kind of an instance asks -/
structure InsK (K : PySem.W.Frag) : Prop where
  hn : PySem.W.specialIn K (.builtin "object.__class__") "__get__" = some (some (.builtin "getset_descriptor.__get__"))
  htk : PySem.W.takesIn K (.builtin "object.__class__") = some true
theorem ng1 : ¬ (("greatest" : Str) = "times") := by decide +kernel
theorem ng2 : ¬ (("greatest" : Str) = "plus") := by decide +kernel
theorem ng3 : ¬ (("greatest" : Str) = "turn") := by decide +kernel
theorem ng4 : ¬ (("greatest" : Str) = "turn_plus") := by decide +kernel
theorem nl1 : ¬ (("least" : Str) = "times") := by decide +kernel
theorem nl2 : ¬ (("least" : Str) = "plus") := by decide +kernel
theorem nl3 : ¬ (("least" : Str) = "turn") := by decide +kernel
theorem nl4 : ¬ (("least" : Str) = "turn_plus") := by decide +kernel
theorem le60' {x : Int} (h : x ≤ 100 * 10 ^ 50) : x ≤ 10 ^ 60 := Int.le_trans h (by decide)

def gP {α : Type} : List α → List α → List α
  | [a], [x] => [a, x]
  | _, _ => []
def gYX {α : Type} : List α → List α → List α
  | [a], [y, x] => [a, x, y]
  | _, _ => []
theorem gP_rel {vs zs : List V} {us ws : List Value} (r1 : Vals vs us) (r2 : Vals zs ws) : Vals (gP vs zs) (gP us ws) := by
  rcases r1 with _ | ⟨a, _ | ⟨_, _⟩⟩ <;> rcases r2 with _ | ⟨b, _ | ⟨_, _⟩⟩ <;> first | exact .nil | exact .cons a (.cons b .nil)
theorem gYX_rel {vs zs : List V} {us ws : List Value} (r1 : Vals vs us) (r2 : Vals zs ws) : Vals (gYX vs zs) (gYX us ws) := by
  rcases r1 with _ | ⟨a, _ | ⟨_, _⟩⟩ <;> rcases r2 with _ | ⟨b, _ | ⟨c, _ | ⟨_, _⟩⟩⟩ <;> first | exact .nil | exact .cons a (.cons c (.cons b .nil))
theorem gP_len {α : Type} {us ws : List α} (h : (gP us ws).length = 2) : ∃ a x, us = [a] ∧ ws = [x] := by
  match us, ws, h with
  | [a], [x], _ => exact ⟨a, x, rfl, rfl⟩
theorem gYX_len {α : Type} {us ws : List α} (h : (gYX us ws).length = 3) : ∃ a y x, us = [a] ∧ ws = [y, x] := by
  match us, ws, h with
  | [a], [y, x], _ => exact ⟨a, y, x, rfl, rfl⟩
/-- a class of rules, its methods told of any values -/
structure RMethA (P : Program) (w : World) (K : PySem.W.Frag) (mg : Str → Option Value) (base : Heap) (C CW CB : Addr) : Prop where
  cl : RCls K C
  g : ∃ (f : Addr) (fd : FuncData), FnOk P w K mg base (L2.CX P w) 7 f fd ["self", "x"] (spGreatA K CB) ∧ Binds K fd ["self", "x"] [] ∧ Meth K C "greatest" f ∧ KBinds K fd ["self", "x"] ["x"] gP gP
  l : ∃ (f : Addr) (fd : FuncData), FnOk P w K mg base (L2.CX P w) 7 f fd ["self", "y"] (spLeastA K CB) ∧ Binds K fd ["self", "y"] [] ∧ Meth K C "least" f ∧ KBinds K fd ["self", "y"] ["y"] gP gP
  c : ∃ (f : Addr) (fd : FuncData), FnOk P w K mg base (L2.CX P w) 7 f fd ["self", "x", "y"] (spCallA K CB) ∧ Binds K fd ["self", "x", "y"] [] ∧ StX.CallO K C f ∧ KBinds K fd ["self", "x", "y"] ["y", "x"] gYX gYX
  ha : PySem.W.findIn K (.ref C) "__class__" = some (some (.builtin "object.__class__"))
  hm : PySem.W.mroIn K C (.type "object") = some true
  is : PySem.W.kitOne K (.ref C) (.ref CW) = some true
section
variable {P : Program} {w : World} {K : PySem.W.Frag} {mg : Str → Option Value} {base : Heap}
theorem calmG {f CB : Addr} {fd : FuncData} (F : FnOk P w K mg base (L2.CX P w) 7 f fd ["self", "x"] (spGreatA K CB)) : FnOk P w K mg base CX0 7 f fd ["self", "x"] (spGreatest K) :=
  FnOk.calm F fun vs H Q E h => by
    obtain ⟨r, p, q, k, x, rfl, R, x1, x2, kk⟩ := h
    exact ⟨r, p, q, k, .int x, rfl, R, .inr ⟨x, ⟨rfl, x1, x2⟩, kk⟩⟩
theorem calmL {f CB : Addr} {fd : FuncData} (F : FnOk P w K mg base (L2.CX P w) 7 f fd ["self", "y"] (spLeastA K CB)) : FnOk P w K mg base CX0 7 f fd ["self", "y"] (spLeast K) :=
  FnOk.calm F fun vs H Q E h => by
    obtain ⟨r, p, q, k, x, rfl, R, x1, x2, kk⟩ := h
    exact ⟨r, p, q, k, .int x, rfl, R, .inr ⟨x, ⟨rfl, x1, x2⟩, kk⟩⟩
theorem calmC {f CB : Addr} {fd : FuncData} (F : FnOk P w K mg base (L2.CX P w) 7 f fd ["self", "x", "y"] (spCallA K CB)) : FnOk P w K mg base CX0 7 f fd ["self", "x", "y"] (spCall K) :=
  FnOk.calm F fun vs H Q E h => by
    obtain ⟨r, p, q, k, x, y, rfl, R, x1, y1, kk⟩ := h
    exact ⟨r, p, q, k, .int x, .int y, rfl, R, .inr ⟨x, ⟨rfl, x1⟩, .inr ⟨y, ⟨rfl, y1⟩, kk⟩⟩⟩
def spBeside (Ct Cn : Addr) : Sp := fun vs H Q _ => ∃ (r l : Addr) (row : Row) (x : Int), vs = [.ref r, .ref l, .int x] ∧ ObjAt Ct Cn H r row ∧ H l = some (.tup row.vs) ∧ row.ok ∧ 1 ≤ x ∧ x ≤ 10 ^ 50 ∧ ∀ H', Same H H' → Q (.bl true) H'
theorem scBeside : FnScope ["_law_rule_so", "_law_some", "_law_weight_so", "_law_most", "_law_least", "_law_near", "_law_one", "_law_due"] ["_law_rule_so", "_law_some", "_law_weight_so"] (defScope sBeside) := ⟨rfl, rfl, rfl, by decide +kernel, rfl, by decide +kernel, by decide +kernel⟩
theorem bools_len (b : Bool) : (PyData.list [.bool b, .bool b, .bool b]).shown.length ≤ sizeLine := by cases b <;> decide +kernel
theorem le60b {x : Int} (h : x ≤ 1000 * 10 ^ 50) : x ≤ 10 ^ 60 := Int.le_trans h (by decide)
theorem ok_beside {f Ct Cn CW CB : Addr} {fd : FuncData} (F : Fun K "_law_beside_right" "_law_beside_right" sBeside f fd) (T : Blt mg) (mr : mg "repr" = none) (gW : mg "WeightRule" = some (.ref CW)) (MT : RMethA P w K mg base Ct CW CB) (MN : RMethA P w K mg base Cn CW CB) (ik : InsK K)
    (D5 : Df P w K mg base 1 "_law_fair" ["_law_some", "_law_one", "_law_other"] spLFair) : FnG P w K mg base 8 f fd ["_law_rule_so", "_law_some", "_law_weight_so"] (spBeside Ct Cn) := by
  obtain ⟨f5, fd5, G5, g5, k5, b5⟩ := D5.ex
  obtain ⟨cT, ⟨fg, fdg, GGx, bG, mG, kG⟩, ⟨fl, fdl, GLx, bL, mL, kL⟩, ⟨fc, fdc, GCx, bC, mC, kC⟩, haT, hmT, isT⟩ := id MT
  obtain ⟨cN, ⟨fg', fdg', GGx', bG', mG', kG'⟩, ⟨fl', fdl', GLx', bL', mL', kL'⟩, ⟨fc', fdc', GCx', bC', mC', kC'⟩, haN, hmN, isN⟩ := id MN
  have GG := calmG GGx
  have GL := calmL GLx
  have GC := calmC GCx
  have GG' := calmG GGx'
  have GL' := calmL GLx'
  have GC' := calmC GCx'
  have RC := fnr_of GC bC
  have RC' := fnr_of GC' bC'
  refine fng_of F scBeside (fun vs H Q E h => ?_) (fun cdv A outer s H vs Q E hr gd h => ?_)
  · obtain ⟨r, l, row, x, rfl, _⟩ := h
    rfl
  · obtain ⟨r, l, row, x, rfl, ob, hl, ok, x1, x2, kk⟩ := h
    have hr1 : Room 1 _ := hr.mono (by decide)
    have R := ob.rb cT cN ok
    have o := Row.okN ok
    have o' := o
    obtain ⟨o1, o2, o3, o4, o5, o6⟩ := o'
    obtain ⟨C, hC, dx, fs, hr0, no⟩ := ob.cls
    have hP : 1 ≤ row.p := Int.le_trans o1 o2
    have g1 := great_ge o x1
    have g3 := great_le o x1
    have l1 := least_pos row.p row.q row.k x
    have l2 : leastV row.p row.q row.k x ≤ x := (least_le hP x1).mpr ((le_great (p := row.p) (q := row.q) (k := row.k) (x := x) (y := x) o1).mp (by omega))
    have f1 : fairB row.p row.q row.k x (greatV row.p row.q row.k x) = true := by
      rw [fair_iff o x1 (by omega)]
      exact decide_eq_true ((le_great o1).mp (Int.le_refl _))
    have f2 : fairB row.p row.q row.k x (greatV row.p row.q row.k x + 1) = false := by
      rw [fair_iff o x1 (by omega)]
      exact decide_eq_false fun z => by
        have := (le_great (y := greatV row.p row.q row.k x + 1) o1).mpr z
        omega
    have f3 : fairB row.p row.q row.k (leastV row.p row.q row.k x) x = true := by
      rw [fair_iff o l1 l2]
      exact decide_eq_true ((least_le hP l1).mp (Int.le_refl _))
    have f4 : 1 < leastV row.p row.q row.k x → fairB row.p row.q row.k (leastV row.p row.q row.k x - 1) x = false := fun z => by
      rw [fair_iff o (by omega) (by omega)]
      exact decide_eq_false fun z2 => by
        have := (least_le (y := x) (q := row.q) (k := row.k) hP (show 1 ≤ leastV row.p row.q row.k x - 1 by omega)).mpr z2
        omega
    have i1 : ∀ C, (C = Ct ∨ C = Cn) → H r = some (.ins C dx fs) → TyX K H (.ref r) (.ref C) ∧ PySem.W.kitOne K (.ref C) (.ref CW) = some true := fun C hC hr0 => by
      rcases hC with rfl | rfl
      · exact ⟨.base (.ins hr0 cT.cl haT ik.hn ik.htk hmT), isT⟩
      · exact ⟨.base (.ins hr0 cN.cl haN ik.hn ik.htk hmN), isN⟩
    obtain ⟨i2, i3⟩ := i1 C hC hr0
    have okf : 1 ≤ row.p ∧ row.p ≤ 8 ∧ 1 ≤ row.q ∧ row.q ≤ 8 := ⟨hP, by omega, o1, by omega⟩
    obtain ⟨tR, hR, qR⟩ : ∃ t, PSs (cxOf CX0 P w K mg base ["_law_rule_so", "_law_some", "_law_weight_so", "_law_most", "_law_least", "_law_near", "_law_one", "_law_due"] "_law_beside_right" (defScope sBeside) f cdv A outer s H E).nox ((defBody sBeside).drop 4) t ∧
        ∀ H5, Same H H5 → t { nx := fun _ H' => Q .non H', rt := Q } [some (.ref r), some (.ref l), some (.int x), some (.int (greatV row.p row.q row.k x)), some (.int (leastV row.p row.q row.k x)), none, none, none] H5 := by
      refine ⟨_, pss_cons (ps_setLc (i := 5) (te := tVar 6) (tt := tTest (tOp (rI0 fun i j => .bl (decide (j < i))) (tVar 6) (tC (.int 0)))) (own := [("_law_one", 6)]) (g := gName 6) (by rfl) scBeside.nd rfl rfl (sw_true rfl rfl rfl (by decide +kernel))
          (pi_tup (pe_tup (pa_cons (pv 3) (pa_cons (pe_op op_add (pv 3) pe_int) (pa_cons (pv 4) (pa_cons (pe_op op_sub (pv 4) pe_int) (pa_cons (pv 2) (pa_cons (pe_op op_add (pv 2) pe_int) pa_nil))))))))
          (blkOk_by (own := [("_law_one", 6)]) (N := ["_law_rule_so", "_law_some", "_law_weight_so", "_law_most", "_law_least", "_law_near", "_law_one", "_law_due"]) (sc := defScope sBeside) (by decide +kernel))
          (fun _ _ _ _ _ => pg_name (i := 6) scBeside.nd rfl (.inl rfl)) (fun _ _ _ _ _ => pts_one (pt_cmpR op_gt (pv 6) pe_int (nomark _))) (fun _ _ _ _ _ => pv 6))
      (pss_cons (ps_for PassesOwn.never rfl (pi_list (pv 5)) (pg_name (i := 6) scBeside.nd rfl (.inl rfl))
        (pss_cons (ps_set (i := 7) scBeside.nd rfl (.inl rfl) (pe_call G5 hr1 (by rfl) g5 k5 b5 .nil pass0 (pa_cons (pv 1) (pa_cons (pv 2) (pa_cons (pv 6) pa_nil)))))
        (pss_one (ps_if (pt_cmpR op_ne (pe_callB (call_reprV gd (Room.units hr)) (by rfl) mr (by decide +kernel) (pa_cons (pe_lst
            (pa_cons (pe_or (StX.pe_callO (pv 0) mC RC hr (E := E0) pass0 (pa_cons (pv 2) (pa_cons (pv 6) pa_nil))) (StX.pe_callO (pv 0) mC' RC' hr (E := E0) pass0 (pa_cons (pv 2) (pa_cons (pv 6) pa_nil))))
            (pa_cons (pe_or (StX.pe_callO (pv 0) mC RC hr (E := E0) pass0 (pa_cons (pv 6) (pa_cons (pv 2) pa_nil))) (StX.pe_callO (pv 0) mC' RC' hr (E := E0) pass0 (pa_cons (pv 6) (pa_cons (pv 2) pa_nil))))
            (pa_cons (pe_or (pe_callOK (pv 0) mC GC hr kC (E := E0) pass0 (pk_cons (pv 6) (pk_cons (pv 2) pk_nil))) (pe_callOK (pv 0) mC' GC' hr kC' (E := E0) pass0 (pk_cons (pv 6) (pk_cons (pv 2) pk_nil)))) pa_nil)))) pa_nil))
          (pe_callB (call_reprV gd (Room.units hr)) (by rfl) mr (by decide +kernel) (pa_cons (pe_op op_rep (pe_lst (pa_cons (pv 7) pa_nil)) pe_int) pa_nil)) (nomark _)) (pss_one (ps_ret pe_bl)) pss_nil))))
      (pss_one (ps_ret (pe_and (pe_cmpR op_eq (pe_or (pe_methK0 (pv 0) cT.cl mG GG hr kG pass0 (pk_cons (pv 2) pk_nil)) (pe_methK0 (pv 0) cN.cl mG' GG' hr kG' pass0 (pk_cons (pv 2) pk_nil))) (pv 3) (nomark _))
        (pe_one (pe_cmpR op_eq (pe_or (pe_methK0 (pv 0) cT.cl mL GL hr kL pass0 (pk_cons (pv 2) pk_nil)) (pe_methK0 (pv 0) cN.cl mL' GL' hr kL' pass0 (pk_cons (pv 2) pk_nil))) (pv 4) (nomark _))))))), fun H5 s5 => ?_⟩
      refine ⟨_, rfl, _, rfl, _, _, rfl, rfl, _, rfl, _, rfl, _, _, rfl, rfl, _, rfl, _, rfl, _, _, rfl, rfl, (by show 6 ≤ sizeLine; decide), fun tp ntp => ⟨tp, rfl, ⟨_, SqT.of upd_same⟩, fun D nD => ?_⟩⟩
      have ht : upd H5 tp (.tup [.int (greatV row.p row.q row.k x), .int (greatV row.p row.q row.k x + 1), .int (leastV row.p row.q row.k x), .int (leastV row.p row.q row.k x - 1), .int x, .int (x + 1)]) tp = some (.tup [.int (greatV row.p row.q row.k x), .int (greatV row.p row.q row.k x + 1), .int (leastV row.p row.q row.k x), .int (leastV row.p row.q row.k x - 1), .int x, .int (x + 1)]) := upd_same
      have s6 := s5.trans (same_new (o := .tup [.int (greatV row.p row.q row.k x), .int (greatV row.p row.q row.k x + 1), .int (leastV row.p row.q row.k x), .int (leastV row.p row.q row.k x - 1), .int x, .int (x + 1)]) ntp)
      change upd H5 tp (.tup [.int (greatV row.p row.q row.k x), .int (greatV row.p row.q row.k x + 1), .int (leastV row.p row.q row.k x), .int (leastV row.p row.q row.k x - 1), .int x, .int (x + 1)]) D = none at nD
      generalize hH6 : upd H5 tp (.tup [.int (greatV row.p row.q row.k x), .int (greatV row.p row.q row.k x + 1), .int (leastV row.p row.q row.k x), .int (leastV row.p row.q row.k x - 1), .int x, .int (x + 1)]) = H6 at ht s6 nD
      have tD : tp ≠ D := ne_of_none ht nD
      have nDH : H D = none := Same.gone s6 nD
      refine lc_tup (K := K) (a := tp) (xs := [.int (greatV row.p row.q row.k x), .int (greatV row.p row.q row.k x + 1), .int (leastV row.p row.q row.k x), .int (leastV row.p row.q row.k x - 1), .int x, .int (x + 1)]) (fun i G => (∃ ys : List Int, G D = some (.lst (ys.map V.int)) ∧ (∀ y ∈ ys, 1 ≤ y ∧ y ≤ 1000 * 10 ^ 50) ∧ ys.length ≤ i) ∧ But D H6 G)
        ⟨⟨[], by rw [← hH6]; exact upd_same, (fun _ z => nomatch z), Nat.zero_le _⟩, by rw [← hH6]; exact But.upd_at⟩ (fun i G _ q => SqT.of (q.2 _ _ tD ht)) (fun i v G hi q => ?_) (fun G q => ?_)
      · obtain ⟨⟨ys, e1, e2, e3⟩, bt⟩ := q
        have hil : i < 6 := (List.getElem?_eq_some_iff.mp hi).1
        obtain ⟨y, rfl, hy⟩ : ∃ y : Int, v = .int y ∧ y ≤ 1000 * 10 ^ 50 := by
          have mem := List.mem_of_getElem? hi
          simp only [List.mem_cons, List.not_mem_nil, or_false] at mem
          rcases mem with e | e | e | e | e | e
          · exact ⟨_, e, by omega⟩
          · exact ⟨_, e, by omega⟩
          · exact ⟨_, e, by omega⟩
          · exact ⟨_, e, by omega⟩
          · exact ⟨_, e, by omega⟩
          · exact ⟨_, e, by omega⟩
        refine ⟨rfl, _, rfl, _, _, rfl, rfl, _, rfl, ite2 (fun z => ⟨_, rfl, _, e1, ?_, ⟨ys ++ [y], ?_, ?_, ?_⟩, bt.trans But.upd_at⟩) (fun _ => ⟨⟨ys, e1, e2, by omega⟩, bt⟩)⟩
        · rw [List.length_map]; exact small1000 (by omega)
        · rw [List.map_append]; exact upd_same
        · intro y' hy'
          rcases List.mem_append.mp hy' with z1 | z1
          · exact e2 y' z1
          · obtain rfl := List.mem_singleton.mp z1
            have z := of_decide_eq_true z
            exact ⟨by omega, hy⟩
        · rw [List.length_append, List.length_singleton]; omega
      · obtain ⟨⟨ys, e1, e2, e3⟩, bt⟩ := q
        have s7 : Same H G := fun b u e => bt b u (ne_of_none e nDH) (s6 _ _ e)
        refine ⟨_, rfl, D, rfl, ⟨_, SqL.of e1⟩, for_list (K := K) (a := D) (xs := ys.map V.int) (fun j σ H2 => ∃ v6 v7 : Option V, σ = [some (.ref r), some (.ref l), some (.int x), some (.int (greatV row.p row.q row.k x)), some (.int (leastV row.p row.q row.k x)), some (.ref D), v6, v7] ∧ Same G H2)
          ⟨none, none, rfl, Same.refl _⟩ (fun j σ H2 _ ⟨_, _, _, s8⟩ => SqL.of (s8 _ _ e1)) ?_ ?_⟩
        · rintro j v σ H2 hj ⟨v6, v7, rfl, s8⟩
          obtain ⟨y, hy, rfl⟩ : ∃ y : Int, y ∈ ys ∧ v = .int y := by
            have mem := List.mem_of_getElem? hj
            obtain ⟨y, h1, h2⟩ := List.mem_map.mp mem
            exact ⟨y, h1, h2.symm⟩
          obtain ⟨y1, y2⟩ := e2 y hy
          have s9 := s7.trans s8
          refine ⟨_, rfl, _, rfl, _, rfl, l, row, x, y, rfl, s9 _ _ hl, okf, fun H3 s10 => ?_⟩
          have s11 := s9.trans s10
          have hr3 := s11 _ _ hr0
          have R3 := (ob.keep s11).rb cT cN ok
          have x60 : 1 ≤ x ∧ x ≤ 10 ^ 60 := ⟨x1, le60b (by omega)⟩
          have y60 : 1 ≤ y ∧ y ≤ 10 ^ 60 := ⟨y1, le60b y2⟩
          refine or_of (F := fun C => StX.tCallO _ C _ _ _ _ _ _ _) hC ⟨_, rfl, r, rfl, _, rfl, _, rfl, .inr ⟨dx, fs, hr3⟩, r, row.p, row.q, row.k, x, y, rfl, R3, x60, y60, ?_⟩
          refine or_of (F := fun C => StX.tCallO _ C _ _ _ _ _ _ _) hC ⟨_, rfl, r, rfl, _, rfl, _, rfl, .inr ⟨dx, fs, hr3⟩, r, row.p, row.q, row.k, y, x, rfl, R3, y60, x60, ?_⟩
          refine or_of (F := fun C => tCallOK _ C _ _ _ _ _ _ _ _) hC ⟨_, rfl, r, rfl, _, rfl, _, rfl, .inr ⟨dx, fs, hr3⟩, r, row.p, row.q, row.k, x, y, rfl, R3, x60, y60, ?_⟩
          rw [fairB_comm row.p row.q row.k y x]
          generalize fairB row.p row.q row.k x y = b
          refine ⟨(by show 3 ≤ sizeLine; decide), fun la nla => ⟨.ref la, .list [.bool b, .bool b, .bool b], rfl, .plain (.lst (SqL.of upd_same) (.cons (.bl b) (.cons (.bl b) (.cons (.bl b) .nil)))) rfl, rfl, (by show 1 ≤ 32; decide), bools_len b, ?_⟩⟩
          refine ⟨_, rfl, (by show 1 ≤ sizeLine; decide), fun lb nlb => ⟨lb, 3, _, rfl, rfl, upd_same, by decide, by decide, (by show 1 * 3 ≤ sizeLine; decide), fun lc nlc => ⟨.ref lc, .list [.bool b, .bool b, .bool b], rfl, .plain (.lst (SqL.of upd_same) (.cons (.bl b) (.cons (.bl b) (.cons (.bl b) .nil)))) rfl, rfl, (by show 1 ≤ 32; decide), bools_len b, ?_⟩⟩⟩
          refine ⟨rfl, _, rfl, iteNS rfl ?_⟩
          exact ⟨_, _, rfl, s8.trans (s10.trans ((same_new nla).trans ((same_new nlb).trans (same_new nlc))))⟩
        · rintro σ H2 ⟨v6, v7, rfl, s8⟩
          have s9 := s7.trans s8
          have hr3 := s9 _ _ hr0
          have R3 := (ob.keep s9).rb cT cN ok
          have x60 : 1 ≤ x ∧ x ≤ 10 ^ 60 := ⟨x1, le60b (by omega)⟩
          refine or_of (F := fun C => tMethK C _ _ _ _ _ _ _ _ _) hC ⟨_, rfl, r, dx, fs, rfl, hr3, no _ ng1 ng2 ng3 ng4, _, rfl, r, row.p, row.q, row.k, x, rfl, R3, x60.1, x60.2, _, rfl, rfl, true, congrArg V.bl (decide_eq_true rfl), iteT ?_⟩
          refine or_of (F := fun C => tMethK C _ _ _ _ _ _ _ _ _) hC ⟨_, rfl, r, dx, fs, rfl, hr3, no _ nl1 nl2 nl3 nl4, _, rfl, r, row.p, row.q, row.k, x, rfl, R3, x60.1, x60.2, _, rfl, rfl, ?_⟩
          rw [decide_eq_true rfl]
          exact kk H2 s9
    refine ⟨_, pss_cons (ps_par (i := 3) (j := 4) rfl scBeside.nd rfl rfl (by decide) rfl rfl
        (pa_cons (pe_or (pe_meth (pv 0) cT.cl mG GG hr bG .nil pass0 (pa_cons (pv 2) pa_nil)) (pe_meth (pv 0) cN.cl mG' GG' hr bG' .nil pass0 (pa_cons (pv 2) pa_nil)))
        (pa_cons (pe_or (pe_meth (pv 0) cT.cl mL GL hr bL .nil pass0 (pa_cons (pv 2) pa_nil)) (pe_meth (pv 0) cN.cl mL' GL' hr bL' .nil pass0 (pa_cons (pv 2) pa_nil))) pa_nil)) (by rfl))
      (pss_cons (ps_if (PW.pt (pw_or (pt_not (pt_val (pe_callB call_isi (by rfl) T.isi (by decide +kernel) (pa_cons (pv 0) (pa_cons (pe_glob (v := .ref CW) rfl gW rfl) pa_nil)))))
          (pw_or (pt_not (pt_val (pe_callB call_isi (by rfl) T.isi (by decide +kernel) (pa_cons (pv 3) (pa_cons (pe_bltn (v := .ty "int") (by rfl) T.int (by decide +kernel) rfl) pa_nil)))))
          (pw_or (pt_not (pt_val (pe_callB call_isi (by rfl) T.isi (by decide +kernel) (pa_cons (pv 4) (pa_cons (pe_bltn (v := .ty "int") (by rfl) T.int (by decide +kernel) rfl) pa_nil)))))
          (pw_or1 (pt_cmpR op_lt (pv 4) pe_int (nomark _))))))) (pss_one (ps_ret pe_bl)) pss_nil)
      (pss_cons (ps_if (PW.pt (pw_or (pt_not (pt_val (pe_call G5 hr1 (by rfl) g5 k5 b5 .nil pass0 (pa_cons (pv 1) (pa_cons (pv 2) (pa_cons (pv 3) pa_nil))))))
          (pw_or1 (pt_val (pe_call G5 hr1 (by rfl) g5 k5 b5 .nil pass0 (pa_cons (pv 1) (pa_cons (pv 2) (pa_cons (pe_op op_add (pv 3) pe_int) pa_nil)))))))) (pss_one (ps_ret pe_bl)) pss_nil)
      (pss_cons (ps_if (PW.pt (pw_or (pt_not (pt_val (pe_call G5 hr1 (by rfl) g5 k5 b5 .nil pass0 (pa_cons (pv 1) (pa_cons (pv 4) (pa_cons (pv 2) pa_nil))))))
          (pw_or1 (PW.pt (pw_and (pt_cmpR op_gt (pv 4) pe_int (nomark _)) (pw_and1 (pt_val (pe_call G5 hr1 (by rfl) g5 k5 b5 .nil pass0 (pa_cons (pv 1) (pa_cons (pe_op op_sub (pv 4) pe_int) (pa_cons (pv 2) pa_nil))))))))))) (pss_one (ps_ret pe_bl)) pss_nil) hR))), ?_⟩
    refine or_of (F := fun C => tMeth C _ _ _ _ _ _ _ _ _) hC ⟨_, rfl, r, dx, fs, rfl, hr0, no _ ng1 ng2 ng3 ng4, _, rfl, r, row.p, row.q, row.k, x, rfl, R, x1, le60b (by omega), ?_⟩
    refine or_of (F := fun C => tMeth C _ _ _ _ _ _ _ _ _) hC ⟨_, rfl, r, dx, fs, rfl, hr0, no _ nl1 nl2 nl3 nl4, _, rfl, r, row.p, row.q, row.k, x, rfl, R, x1, le60b (by omega), _, _, rfl, ?_⟩
    refine ⟨_, rfl, _, _, _, _, true, rfl, .own CW, i2, i3, true, rfl, iteF ⟨_, rfl, _, _, _, _, true, rfl, .ty _, .base (.int _), kit_ty (by decide +kernel), true, rfl, iteF ⟨_, rfl, _, _, _, _, true, rfl, .ty _, .base (.int _), kit_ty (by decide +kernel), true, rfl, iteF
      ⟨_, rfl, _, _, rfl, rfl, _, rfl, ite2 (fun e => absurd (of_decide_eq_true e) (show ¬ (leastV row.p row.q row.k x < 1) by omega)) (fun _ => ?_)⟩⟩⟩⟩
    refine ⟨_, rfl, _, rfl, _, rfl, l, row, x, _, rfl, hl, okf, fun H2 s2 => ⟨_, rfl, ?_⟩⟩
    rw [show fairB row.p row.q row.k x ((row.p * x + row.k).fdiv row.q) = true from f1]
    refine iteF ⟨_, rfl, _, rfl, _, rfl, _, _, rfl, rfl, l, row, x, _, rfl, s2 _ _ hl, okf, fun H3 s3 => ⟨_, rfl, ?_⟩⟩
    rw [show fairB row.p row.q row.k x ((row.p * x + row.k).fdiv row.q + 1) = false from f2]
    refine iteF ⟨_, rfl, _, rfl, _, rfl, l, row, _, x, rfl, s3 _ _ (s2 _ _ hl), okf, fun H4 s4 => ⟨_, rfl, ?_⟩⟩
    rw [f3]
    have s24 := s2.trans (s3.trans s4)
    refine iteF ⟨_, rfl, _, _, rfl, rfl, _, rfl, ite2 (fun e => ?_) (fun _ => qR H4 s24)⟩
    refine ⟨_, rfl, _, rfl, _, _, rfl, rfl, _, rfl, l, row, _, x, rfl, s24 _ _ hl, okf, fun H5 s5 => ⟨_, rfl, ?_⟩⟩
    rw [show fairB row.p row.q row.k (leastV row.p row.q row.k x - 1) x = false from f4 (of_decide_eq_true e)]
    exact iteF (qR H5 (s24.trans s5))
end
end Ev
namespace Ev
open PySem L2 PySem.Spec PyProof.Rows LamX
theorem Same.extN {H H' : Hp} (k : Same H H') : ExtN H H' := fun b o e _ => k b o e
theorem ExtN.one {H H' : Hp} (k : ExtN H H') {b : Addr} {o : HO} (e : H b = some o) (n : ∀ ps, o ≠ .tbl ps) : H' b = some o := k b o e n
theorem Pen.ext {L p : Addr} {H H' : Hp} {B : Int} (h : Pen L H p B) (k : ExtN H H') : Pen L H' p B := by
  obtain ⟨ns, t, c, h1, h2, h3⟩ := h
  exact ⟨ns, t, c, k _ _ h1 (fun _ z => by cases z), k _ _ h2 (fun _ z => by cases z), h3⟩
theorem ObjAt.ext {Ct Cn : Addr} {H H' : Hp} {r : Addr} {row : Row} (h : ObjAt Ct Cn H r row) (k : ExtN H H') : ObjAt Ct Cn H' r row := by
  cases row with
  | tr p q kk =>
    obtain ⟨dx, a, h1, h2⟩ := h
    exact ⟨dx, a, k _ _ h1 (fun _ z => by cases z), k _ _ h2 (fun _ z => by cases z)⟩
  | tn p q kk t s c =>
    obtain ⟨dx, a, b, h1, h2, h3⟩ := h
    exact ⟨dx, a, b, k _ _ h1 (fun _ z => by cases z), k _ _ h2 (fun _ z => by cases z), k _ _ h3 (fun _ z => by cases z)⟩
theorem Tabs.but {T : List (Addr × Str)} {p : Addr} {H H' : Hp} {xs : List V} (t : Tabs T H) (hp : H p = some (.lst xs)) (k : But p H H') : Tabs T H' := by
  intro q hq
  obtain ⟨ps, h1, h2, h3⟩ := t q hq
  refine ⟨ps, k _ _ (fun z => by rw [z, hp] at h1; cases h1) h1, h2, fun pos cv hc => ?_⟩
  obtain ⟨c, e1, e2⟩ := h3 pos cv hc
  refine ⟨c, e1, k _ _ (fun z => ?_) e2⟩
  rw [z, hp] at e2
  have e3 : HO.lst xs = HO.ext _ := Option.some.inj e2
  cases e3
/-- a value that is no weight, and how it shows -/
inductive OddV (H : Hp) : V → PyData → Prop
  | non : OddV H .non .none
  | int (i : Int) : ¬ (1 ≤ i ∧ i ≤ 10 ^ 60) → i.natAbs.log2 < 1920 → (PyData.int i).shown.length ≤ sizeLine → (PyData.str (PyData.int i).shown).canLay0 = true → OddV H (.int i) (.int i)
  | bl (b : Bool) : OddV H (.bl b) (.bool b)
  | str (x : Str) : (PyData.str x).shown.length ≤ sizeLine → (PyData.str (PyData.str x).shown).canLay0 = true → OddV H (.str x) (.str x)
  | tup {a : Addr} : H a = some (.tup [.int 3]) → OddV H (.ref a) (.tuple [.int 3])
  | lst {a : Addr} : H a = some (.lst []) → OddV H (.ref a) (.list [])
  | dct {a : Addr} : H a = some (.dK []) → OddV H (.ref a) (.dict [])
theorem OddV.ext {H H' : Hp} {v : V} {d : PyData} (h : OddV H v d) (k : ExtN H H') : OddV H' v d := by
  cases h with
  | non => exact .non
  | int i a b c e => exact .int i a b c e
  | bl b => exact .bl b
  | str x a e => exact .str x a e
  | tup e => exact .tup (k _ _ e (fun _ z => by cases z))
  | lst e => exact .lst (k _ _ e (fun _ z => by cases z))
  | dct e => exact .dct (k _ _ e (fun _ z => by cases z))
theorem flat_non : Flat .non "NoneType" := ⟨fun _ _ => .base .non, by decide +kernel, by decide +kernel, by decide +kernel⟩
theorem flat_bl (b : Bool) : Flat (.bl b) "bool" := ⟨fun _ _ => .base (.bl b), by decide +kernel, by decide +kernel, by decide +kernel⟩
theorem OddV.hold {H : Hp} {v : V} {d : PyData} (h : OddV H v d) : ∃ us b, Hold H v us b := by
  cases h with
  | non => exact ⟨_, _, .flat flat_non⟩
  | int i a b c _ => exact ⟨_, _, .flat (flat_int i)⟩
  | bl b => exact ⟨_, _, .flat (flat_bl b)⟩
  | str x a _ => exact ⟨_, _, .flat (flat_str x)⟩
  | tup e => exact ⟨_, _, .tup e (fun u z => by obtain rfl := List.mem_singleton.mp z; exact ⟨_, flat_int 3⟩) (by decide)⟩
  | lst e => exact ⟨_, _, .lst e (fun u z => nomatch z) (by decide)⟩
  | dct e => exact ⟨_, _, .dct e (fun u z => nomatch z) (by decide) (by simp)⟩
theorem OddV.bad {H : Hp} {v : V} {d : PyData} (h : OddV H v d) : BadW H v := by
  cases h with
  | non => exact .inr ⟨"NoneType", false, fun _ _ _ => .base .non, by decide +kernel, fun z => by cases z⟩
  | int i a b c _ => exact .inl ⟨i, rfl, a⟩
  | bl b => exact .inr ⟨"bool", true, fun _ _ _ => .base (.bl b), by decide +kernel, fun _ => by decide +kernel⟩
  | str x a _ => exact .inr ⟨"str", false, fun _ _ _ => .base (.str x), by decide +kernel, fun z => by cases z⟩
  | tup e => exact .inr ⟨"tuple", false, fun _ _ k => .base (.tup (k _ _ e)), by decide +kernel, fun z => by cases z⟩
  | lst e => exact .inr ⟨"list", false, fun _ _ k => .base (.lst (k _ _ e)), by decide +kernel, fun z => by cases z⟩
  | dct e => exact .inr ⟨"dict", false, fun _ _ k => .base (.dK (k _ _ e)), by decide +kernel, fun z => by cases z⟩
theorem OddV.alike {H H' : Hp} {v v' : V} {d : PyData} (h : OddV H v d) (k : Same H H') (a : Alike H v H' v') : OddV H' v' d := by
  cases a with
  | same => exact h.ext (Same.extN k)
  | lst e1 e2 =>
    cases h with
    | tup e => rw [e] at e1; cases e1
    | lst e => rw [e] at e1; cases e1; exact .lst e2
    | dct e => rw [e] at e1; cases e1
  | dct e1 e2 =>
    cases h with
    | tup e => rw [e] at e1; cases e1
    | lst e => rw [e] at e1; cases e1
    | dct e => rw [e] at e1; cases e1; exact .dct e2
theorem OddV.vd {K : PySem.W.Frag} {H : Hp} {v : V} {d : PyData} (h : OddV H v d) : Vd K H v d ∧ d.showable = true ∧ d.depth ≤ 32 ∧ d.shown.length ≤ sizeLine := by
  cases h with
  | non => exact ⟨.plain .non rfl, rfl, by decide, by decide +kernel⟩
  | int i a b c _ => exact ⟨.plain (.int i) rfl, decide_eq_true b, by show 0 ≤ 32; decide, c⟩
  | bl b => exact ⟨.plain (.bl b) rfl, rfl, by show 0 ≤ 32; decide, by cases b <;> decide +kernel⟩
  | str x a _ => exact ⟨.plain (.str x) rfl, rfl, by show 0 ≤ 32; decide, a⟩
  | tup e => exact ⟨.plain (.tup (SqT.of e) (.cons (.int 3) .nil)) rfl, by decide +kernel, by decide, by decide +kernel⟩
  | lst e => exact ⟨.plain (.lst (SqL.of e) .nil) rfl, rfl, by decide, by decide +kernel⟩
  | dct e => exact ⟨.dct e rfl .nil, rfl, by decide, by decide +kernel⟩
theorem OddV.lay {H : Hp} {v : V} {d : PyData} (h : OddV H v d) : (PyData.str d.shown).canLay0 = true := by
  cases h with
  | non => decide +kernel
  | int i a b c e => exact e
  | bl b => cases b <;> decide +kernel
  | str x a e => exact e
  | tup e => decide +kernel
  | lst e => decide +kernel
  | dct e => decide +kernel
/-- what is heard, as data -/
def heardD (x : Str) : PyData := .tuple [.str "number", .str x]
theorem heard_lay {x : Str} (h : (PyData.str x).canLay0 = true) : (heardD x).canLay0 = true := by
  have e : (PyData.str ("number" : Str)).canLay0 = true := by decide +kernel
  simp only [heardD, PyData.canLay0, PyData.canLayAll0, Bool.and_true, Bool.and_eq_true] at h e ⊢
  exact ⟨e, h⟩
theorem heard_shaped {x y : Str} (h1 : (PyData.str x).canLay0 = true) (h2 : (PyData.str y).canLay0 = true) : SeqAt.shaped (.list [heardD x, heardD y, heardD x, heardD x, heardD x]) = true := by
  unfold SeqAt.shaped
  rw [Bool.and_eq_true]
  refine ⟨?_, by simp [PyData.depth, PyData.depthAll, heardD]⟩
  have a1 := heard_lay h1
  have a2 := heard_lay h2
  simp only [PyData.canLay0, PyData.canLayAll0, a1, a2, Bool.and_true]
theorem heard_eqv {x y : Str} : PyData.eqv (.list [heardD x, heardD y, heardD x, heardD x, heardD x]) (.list [heardD x, heardD y, heardD x, heardD x, heardD x]) = true :=
  SeqAt.eqv_refl_plain _ rfl
/-- what the error that is heard tells -/
theorem OddV.told {K : PySem.W.Frag} {CB : Addr} {H : Hp} {v : V} {d : PyData} (h : OddV H v d) {QQ : Addr → Hp → Prop}
    (fin : ∀ (r : Addr) (G : Hp), Same H G → H r = none → G r = some (.tup [.str "number", .str d.shown]) → QQ r G) :
    Refused CB H v fun cls dx H' => ∃ (dd : Addr) (v : V) (x : Str), cls = .ref CB ∧ dx = some dd ∧ H' dd = some (.xd [("value", v)]) ∧ Shows K H' v x ∧
      ∀ (r : Addr) (G : Hp), Same H' G → H' r = none → G r = some (.tup [.str "number", .str x]) → QQ r G := by
  refine ⟨h.bad, h.hold, fun dd v' H' s nd e al => ⟨dd, v', d.shown, rfl, rfl, e, ⟨d, ?_⟩, fun r G sG nr hr => fin r G (s.trans sG) (Same.gone s nr) hr⟩⟩
  obtain ⟨h1, h2, h3, h4⟩ := (h.alike s al).vd (K := K)
  exact ⟨h1, h2, h3, h4, rfl⟩
theorem OddV.but {L p : Addr} {H H' : Hp} {B : Int} {v : V} {d : PyData} (h : OddV H v d) (pn : Pen L H p B) (t : But p H H') : OddV H' v d := by
  obtain ⟨ns, tn, c, hp, _⟩ := pn
  cases h with
  | non => exact .non
  | int i a b c e => exact .int i a b c e
  | bl b => exact .bl b
  | str x a e => exact .str x a e
  | tup e => exact .tup (t _ _ (fun z => by rw [z, hp] at e; cases e) e)
  | lst e => exact .lst (t _ _ (fun z => by rw [z, hp] at e; cases e) e)
  | dct e => exact .dct (t _ _ (fun z => by rw [z, hp] at e; cases e) e)
/-- the list of what was heard -/
def Lst (l : Addr) (G : Hp) (rs : List (Addr × Str)) : Prop := G l = some (.lst (rs.map fun p => V.ref p.1)) ∧ ∀ p ∈ rs, G p.1 = some (.tup [.str "number", .str p.2]) ∧ p.1 ≠ l
theorem stage {H G G1 G0 G2 : Hp} {l r : Addr} {x : Str} {rs : List (Addr × Str)} {T : List (Addr × Str)} (kb : ExtN H G) (nb : ∀ b u, H b = some u → (∀ ps, u ≠ .tbl ps) → b ≠ l) (ls : Lst l G rs)
    (e1 : ExtN G G1) (t1 : Tabs T G1) (s0 : Same G1 G0) (s2 : Same G0 G2) (n : G0 r = none) (h : G2 r = some (.tup [.str "number", .str x])) :
    G2 l = some (.lst (rs.map fun p => V.ref p.1)) ∧ ExtN H (upd G2 l (.lst (rs.map (fun p => V.ref p.1) ++ [.ref r]))) ∧ Tabs T (upd G2 l (.lst (rs.map (fun p => V.ref p.1) ++ [.ref r]))) ∧ Lst l (upd G2 l (.lst (rs.map (fun p => V.ref p.1) ++ [.ref r]))) (rs ++ [(r, x)]) := by
  obtain ⟨hl, hs⟩ := ls
  have k2 : ExtN G G2 := e1.trans ((Same.extN s0).trans (Same.extN s2))
  have hl0 : G0 l = some (.lst (rs.map fun p => V.ref p.1)) := s0 _ _ (e1 _ _ hl (fun _ z => by cases z))
  have hl2 := s2 _ _ hl0
  have nrl : r ≠ l := fun z => by rw [z, hl0] at n; cases n
  refine ⟨hl2, fun b u e nt => ?_, Tabs.but ((t1.ext s0).ext s2) hl2 But.upd_at, ?_, fun p hp => ?_⟩
  · rw [upd_ne (nb b u e nt)]
    exact k2 _ _ (kb _ _ e nt) nt
  · rw [upd_same, List.map_append]; rfl
  · rcases List.mem_append.mp hp with z | z
    · obtain ⟨h1, h2⟩ := hs p z
      exact ⟨by rw [upd_ne h2]; exact k2 _ _ h1 (fun _ z => by cases z), h2⟩
    · obtain rfl := List.mem_singleton.mp z
      exact ⟨by rw [upd_ne nrl]; exact h, nrl⟩
theorem stage1 {H G1 G0 G2 : Hp} {l r : Addr} {x : Str} {T : List (Addr × Str)} (e1 : ExtN H G1) (t1 : Tabs T G1) (s0 : Same G1 G0) (s2 : Same G0 G2) (h : G2 r = some (.tup [.str "number", .str x])) (nl : G2 l = none) :
    ExtN H (upd G2 l (.lst [.ref r])) ∧ Tabs T (upd G2 l (.lst [.ref r])) ∧ Lst l (upd G2 l (.lst [.ref r])) [(r, x)] ∧ ∀ b u, H b = some u → (∀ ps, u ≠ .tbl ps) → b ≠ l := by
  have k2 : ExtN H G2 := e1.trans ((Same.extN s0).trans (Same.extN s2))
  have nrl : r ≠ l := fun z => by rw [z, nl] at h; cases h
  refine ⟨k2.trans (Same.extN (same_new nl)), ((t1.ext s0).ext s2).ext (same_new nl), ⟨upd_same, fun p hp => ?_⟩, fun b u e nt z => ?_⟩
  · obtain rfl := List.mem_singleton.mp hp
    exact ⟨by rw [upd_ne nrl]; exact h, nrl⟩
  · have := k2 b u e nt
    rw [z, nl] at this
    cases this
end Ev
namespace Ev
open PySem L2 PySem.Spec PyProof.Rows LamX
def spPen (K : PySem.W.Frag) : Sp := fun vs H Q _ => ∃ (a : Addr) (ns : List Int), vs = [.ref a] ∧ SqL K H a (ns.map V.int) ∧ ns.length ≤ 63 ∧
  ∀ (p L : Addr) (H' : Hp), H p = none → Same H H' → Pen L H' p 0 → Q (.ref p) H'
def spLawT (K : PySem.W.Frag) (T : Addr) : Sp := fun vs H Q _ => ∃ (a : Addr) (ns : List Int), vs = [.ref a] ∧ SqL K H a (ns.map V.int) ∧ ns.length ≤ 63 ∧ H T = some (.tbl #[]) ∧ ∀ H', Q (.bl true) H'
theorem But.tup {L p a : Addr} {H H' : Hp} {B : Int} {xs : List V} (h : H a = some (.tup xs)) (pn : Pen L H p B) (t : But p H H') : H' a = some (.tup xs) := by
  obtain ⟨ys, e⟩ := pn.some
  exact t _ _ (ne_of h e (by intro z; cases z)) h
theorem cut_ints (ns : List Int) (h : Int) : ∃ ms : List Int, cutV (ns.map V.int) none (some h) = ms.map V.int ∧ ms.length ≤ ns.length := by
  unfold cutV
  generalize HT.sIx (ns.map V.int).length 0 none = x
  generalize HT.sIx (ns.map V.int).length (ns.map V.int).length (some h) - x = y
  refine ⟨(ns.drop x).take y, ?_, ?_⟩
  · rw [List.map_take, List.map_drop]
  · rw [List.length_take, List.length_drop]; omega
/-- an instance called, the reading without a context -/
def tCallI (C : Addr) (sp : Sp) (E : XK) (tf : TE) (t : TA) : TE := fun σ H Q => tf σ H fun y H1 => ∃ a, y = V.ref a ∧ t σ H1 fun vs H2 => ((∃ dx vs, SlX.Slt H2 a C dx vs) ∨ ∃ dx fs, H2 a = some (.ins C dx fs)) ∧ sp (V.ref a :: vs) H2 Q E
theorem pe_callI {X : Cx} {CX : CXT} {k : Nat} {C g : Addr} {sp : Sp} {E : XK} {e fe : Expr} {es : List Expr} {tf : TE} {t : TA} {pos : Pos} (hf : PE X fe tf) (c : StX.CallO X.K C g) (F : FnR X.prog X.w X.K X.mg X.base CX k g sp) (hr : Room k X.A) (hx : Passes CX X E) (ha : PA X (e :: es) t)
    (ht : eval (.Call fe (e :: es) [] pos) X.env = (do callWith pos (← eval fe X.env) [] (backTo pos (starEach (e :: es) X.env)) (backToKw pos (keywordEach [] X.env))) := by rfl)
    (he : starEach (e :: es) X.env = (false, eval e X.env) :: starEach es X.env := by rfl) (hpl : (backTo pos (starEach es X.env)).any (·.1) = false := by rfl) : PE X (.Call fe (e :: es) [] pos) (tCallI C sp E tf t) :=
  StX.pe_callO hf c F hr hx ha ht he hpl
/-- either of two readings -/
def tEither (t1 t2 : TE) : TE := fun σ H Q => t1 σ H Q ∨ t2 σ H Q
theorem pe_either {X : Cx} {e : Expr} {t1 t2 : TE} (h1 : PE X e t1) (h2 : PE X e t2) : PE X e (tEither t1 t2) := pe_or h1 h2
def forBody : Stmt → List Stmt
  | .For (body := b) .. => b
  | _ => []
/-- the body of the law's loop -/
abbrev loopLaw : List Stmt := forBody ((defBody sLaw).getD 3 (.Pass ⟨0, 0, 0, 0⟩))
abbrev nLaw : List Str := ["_law_script", "_law_pen_here", "_law_top", "_law_lap", "_law_some", "_law_again", "_law_other", "_law_heard_here", "_law_due", "_law_bad", "_law_odd", "_law_one", "_law_rule_so"]
theorem scLaw : FnScope nLaw ["_law_script"] (defScope sLaw) := ⟨rfl, rfl, rfl, by decide +kernel, rfl, by decide +kernel, by decide +kernel⟩
section
variable {P : Program} {w : World} {K : PySem.W.Frag} {mg : Str → Option Value} {base : Heap}
theorem scPen : FnScope ["_law_script"] ["_law_script"] (defScope sPen) := ⟨rfl, rfl, rfl, by decide +kernel, rfl, by decide +kernel, by decide +kernel⟩
theorem ok_pen {f : Addr} {fd : FuncData} (F : Fun K "_law_pen" "_law_pen" sPen f fd) (T : Blt mg) : FnOk P w K mg base CX0 1 f fd ["_law_script"] (spPen K) := by
  refine F.ok scPen (fun vs H Q E h => ?_) (fun cdv A outer s H vs Q E hr h => ?_)
  · obtain ⟨a, ns, rfl, _⟩ := h
    rfl
  · obtain ⟨a, ns, rfl, hS, hlen, kk⟩ := h
    refine ⟨_, pss_one (ps_ret (pe_lst (pa_cons (pe_callTy call_list_of (by rfl) T.list (by decide +kernel) (pa_cons (pe_slice sl_list (pv 0) po_none (po_some pe_int)) pa_nil)) (pa_cons pe_int (pa_cons pe_int pa_nil))))), ?_⟩
    refine ⟨_, rfl, _, rfl, a, _, rfl, hS, fun l1 nl1 => ⟨l1, _, rfl, .inl (SqL.of upd_same), fun l2 nl2 => ⟨(by show 3 ≤ sizeLine; decide), fun p np => ?_⟩⟩⟩
    obtain ⟨ms, e1, e2⟩ := cut_ints ns 63
    rw [e1] at nl2 np ⊢
    have s1 : Same H (upd (upd H l1 (.lst (ms.map V.int))) l2 (.lst (ms.map V.int))) := (same_new nl1).trans (same_new nl2)
    have s2 := s1.trans (same_new (o := .lst [.ref l2, .int 0, .int 0]) np)
    refine kk p l2 _ ?_ s2 ⟨ms, 0, 0, upd_same, by rw [upd_ne (ne_of_none upd_same np)]; exact upd_same, ne_of_none upd_same np, by omega, by decide, by decide, by decide⟩
    cases z : H p with
    | none => rfl
    | some o => rw [s1 _ _ z] at np; cases np
theorem ok_law {f Ct Cn CW CB FE cc TT fT : Addr} {fd fdT : FuncData} {ds : List Value} (F : Fun K "law" "law" sLaw f fd) (T : Blt mg) (hc : fd.code = .ref cc) (TB : TabB base mg cc TT) (mr : mg "repr" = none) (mv : mg "ValueError" = none)
    (MT : RMethA P w K mg base Ct CW CB) (MN : RMethA P w K mg base Cn CW CB) (MTT : Mk K Ct fT) (GT : FnOk P w K mg base CX0 6 fT fdT ["self", "times", "plus"] (spTryInit Ct)) (gT : mg "TryRule" = some (.ref Ct)) (vd : Vals [V.int 0] ds) (bT0 : Binds K fdT ["self", "times", "plus"] ds)
    (D1 : Df P w K mg base 1 "_law_draw" ["_law_pen_here", "_law_many"] spDraw) (D2 : Df P w K mg base 2 "_law_pick" ["_law_pen_here", "_law_some"] spPick) (D3 : Df P w K mg base 3 "_law_numbers" ["_law_pen_here"] spNums)
    (D4 : Df P w K mg base 8 "_law_rule" ["_law_some"] (spRule Ct Cn)) (D5 : Df P w K mg base 1 "_law_fair" ["_law_some", "_law_one", "_law_other"] spLFair) (D6 : Df P w K mg base 1 "_law_pen" ["_law_script"] (spPen K)) (D7 : Df P w K mg base 3 "_law_weight" ["_law_pen_here"] spWeight)
    {f8 : Addr} {fd8 : FuncData} (G8 : FnG P w K mg base 8 f8 fd8 ["_law_rule_so", "_law_some", "_law_weight_so"] (spBeside Ct Cn)) (g8 : mg "_law_beside_right" = some (.ref f8)) (k8 : PySem.W.keepIn K (.ref f8) = true) (b8 : Binds K fd8 ["_law_rule_so", "_law_some", "_law_weight_so"] [])
    {fh : Addr} {fdh : FuncData} (FH : Fun K "_law_heard" "_law_heard" sHeard fh fdh) (gh : mg "_law_heard" = some (.ref fh)) (bh : Binds K fdh ["_law_ask"] [])
    (gF : mg "FairError" = some (.ref FE)) (gB : mg "BadNumber" = some (.ref CB)) (HC : HeldC K CB) (no : PySem.W.findIn K (.ref CB) "value" = some none) (te : PySem.W.exmOne K (.ref CB) (.ref FE) = some true) (i1 : PySem.W.kitOne K (.ref CB) (.ref CB) = some true) (i2 : PySem.W.kitOne K (.ref CB) (.type "ValueError") = some true) :
    FnG P w K mg base 10 f fd ["_law_script"] (spLawT K TT) := by
  obtain ⟨f1, fd1, G1, g1, k1, b1⟩ := D1.ex
  obtain ⟨f2, fd2, G2, g2, k2, b2⟩ := D2.ex
  obtain ⟨f3, fd3, G3, g3, k3, b3⟩ := D3.ex
  obtain ⟨f4, fd4, G4, g4, k4, b4⟩ := D4.ex
  obtain ⟨f5, fd5, G5, g5, k5, b5⟩ := D5.ex
  obtain ⟨f6, fd6, G6, g6, k6, b6⟩ := D6.ex
  obtain ⟨f7, fd7, G7, g7, k7, b7⟩ := D7.ex
  have kh := FH.kp
  obtain ⟨och, odh, kVh, doch, pmh, anh, cdvh, cth, oslh, rfl, lkh, hcdh⟩ := FH.ex
  obtain ⟨cT, ⟨fg, fdg, GGx, bG, mG, kG⟩, ⟨fl, fdl, GLx, bL, mL, kL⟩, ⟨fc, fdc, GCx, bC, mC, kC⟩, haT, hmT, isT⟩ := id MT
  obtain ⟨cN, ⟨fg', fdg', GGx', bG', mG', kG'⟩, ⟨fl', fdl', GLx', bL', mL', kL'⟩, ⟨fc', fdc', GCx', bC', mC', kC'⟩, haN, hmN, isN⟩ := id MN
  have GG := calmG GGx
  have GC := calmC GCx
  have GC' := calmC GCx'
  have RC := fnr_of GC bC
  have RC' := fnr_of GC' bC'
  have RX := fnr_of GCx bC
  have RX' := fnr_of GCx' bC'
  refine fng_code F scLaw (fun vs H Q E h => ?_) (fun cdv ecd A outer s H vs Q E hr gd h => ?_)
  · obtain ⟨a, ns, rfl, _⟩ := h
    rfl
  · obtain ⟨a, ns, rfl, hS, hlen, hT, kk⟩ := h
    obtain rfl : cdv = .ref cc := ecd.symm.trans hc
    have hr1 : Room 1 _ := hr.mono (by decide)
    have hr2 : Room 2 _ := hr.mono (by decide)
    have hr3 : Room 3 _ := hr.mono (by decide)
    have hr6 : Room 7 _ := hr.mono (by decide)
    have hr7 : Room 8 _ := hr.mono (by decide)
    have hr8 : Room 8 _ := hr.mono (by decide)
    obtain ⟨q, hq⟩ : ∃ q : Str, q = (cxOf CX0 P w K mg base nLaw "law" (defScope sLaw) f (.ref cc) A outer s H E).nox.env.qual ++ ("<lambda>" : Str) := ⟨_, rfl⟩
    have lam : ∀ {params : Arguments} {body : Expr} {scope : Scope} {lpos pos p : Pos} {t : XK → TE}, LamS (defScope sLaw) scope → defaultsOf params (cxOf CX0 P w K mg base nLaw "law" (defScope sLaw) f (.ref cc) A outer s H E).env = ([], []) →
        (∀ (q : Str) (cl : List (Str × Addr)) (pm cv ctv : Value), bindArgs (PySem.W.kla_fn "<lambda>" q params body scope cl pm cv ctv) ⟨[], []⟩ = pure []) →
        (∀ (A' : Around) (outer' : List Env) (s' : Shared) (H' : Hp) (E' : XK) (f' c' : Addr), Room 7 (A'.deeper (lamEnv (cxOf CX0 P w K mg base nLaw "law" (defScope sLaw) f (.ref cc) A outer s H E).nox scope s'.heap.objs.size f' c')) →
          PE (lamCx (cxOf CX0 P w K mg base nLaw "law" (defScope sLaw) f (.ref cc) A outer s H E).nox A' outer' s' H' E' scope f' c') body (t E')) →
        PE (cxOf CX0 P w K mg base nLaw "law" (defScope sLaw) f (.ref cc) A outer s H E).nox (.Call (.Name "_law_heard" p) [.Lambda params body scope lpos] [] pos) (tLam [(TT, q)] (THeard K CB) t) := by
      intro params body scope lpos pos p t LS hdef hbind hbody
      subst hq
      have h4 : Gl (cxOf CX0 P w K mg base nLaw "law" (defScope sLaw) f (.ref cc) A outer s H E).nox "_law_heard" := by rfl
      refine pe_lamcall (X := (cxOf CX0 P w K mg base nLaw "law" (defScope sLaw) f (.ref cc) A outer s H E).nox) (k := 7) (T := [(TT, _)]) (TT := THeard K CB) (x := "_law_heard") (a := "_law_ask") (g := fh) (c := cc) (P := TT) (pg := defArgs sHeard) (bg := defBody sHeard) (sg := defScope sHeard)
        (Ng := ["_law_ask", "_law_caught", "_law_found", "error", "_law_some"]) h4 gh kh lkh hcdh bh scHeard ?_ ?_ ?_ ?_ ?_ ?_ ?_ ?_ ?_ ?_ ?_ ?_ ?_ ?_ ?_
      · rfl
      · exact .inl rfl
      · exact heard_gives gd hr T mv mr gF gB HC no te i1 i2
      · exact TB
      · rfl
      · exact List.mem_singleton.mpr rfl
      · exact fun p hp _ => by rw [List.mem_singleton.mp hp]
      · exact (hr.mono (by decide))
      · exact LS
      · exact hdef
      · exact hbind
      · exact hbody
      · decide
      · decide
      · decide
    obtain ⟨tR, hR, qR⟩ : ∃ t : TS, PSs (cxOf CX0 P w K mg base nLaw "law" (defScope sLaw) f (.ref cc) A outer s H E).nox (loopLaw.drop 3) t ∧ ∀ (D : Ends) (G : Hp) (p L l4 : Addr) (row : Row) (B : Int) (v3 v5 v6 v7 v8 v9 v10 v11 v12 : Option V), G l4 = some (.tup row.vs) → row.ok → Pen L G p B → 0 ≤ B → B ≤ 8000 → Tabs [(TT, q)] G →
          (∀ (σ' : L2.St) (G' : Hp), (∃ v4 v5 v6 v7 v8 v9 v10 v11 v12 : Option V, σ' = [some (.ref a), some (.ref p), some (.int (10 ^ Int.toNat 60)), v3, v4, v5, v6, v7, v8, v9, v10, v11, v12]) → Pen L G' p (B + 100) → Tabs [(TT, q)] G' → D.nx σ' G') →
          t D [some (.ref a), some (.ref p), some (.int (10 ^ Int.toNat 60)), v3, some (.ref l4), v5, v6, v7, v8, v9, v10, v11, v12] G := by
      refine ⟨_, pss_cons (ps_set (i := 12) scLaw.nd rfl (.inr rfl) (pe_call G4 hr8 (by rfl) g4 k4 b4 .nil pass0 (pa_cons (pv 4) pa_nil)))
        (pss_cons (ps_for PassesOwn.never rfl (pi_range1 rfl T.range (pa_cons pe_int pa_nil)) (pg_name (i := 5) scLaw.nd rfl (.inl rfl)) (pss_cons (ps_asg (pe_tup (pa_cons (pe_call G7 hr3 (by rfl) g7 k7 b7 .nil pass0 (pa_cons (pv 1) pa_nil)) (pa_cons (pe_call G7 hr3 (by rfl) g7 k7 b7 .nil pass0 (pa_cons (pv 1) pa_nil)) pa_nil))) (pg_tup (by rfl) (pgs_cons (pg_name (i := 11) scLaw.nd rfl (.inr rfl)) (pgs_cons (pg_name (i := 6) scLaw.nd rfl (.inl rfl)) pgs_nil))))
        (pss_cons (ps_if (pt_not (pt_val (pe_callG (E := E0) G8 hr7 gd (by rfl) g8 k8 b8 (pa_cons (pv 12) (pa_cons (pv 4) (pa_cons (pv 11) pa_nil)))))) (pss_one (ps_ret pe_bl)) pss_nil)
        (pss_one (ps_if (pt_cmpR op_ne (pe_callB (call_reprV gd (Room.units hr)) (by rfl) mr (by decide +kernel) (pa_cons (pe_either (pe_callI (pv 12) mC RC hr6 (E := E0) pass0 (pa_cons (pv 11) (pa_cons (pv 6) pa_nil))) (pe_callI (pv 12) mC' RC' hr6 (E := E0) pass0 (pa_cons (pv 11) (pa_cons (pv 6) pa_nil)))) pa_nil)) (pe_callB (call_reprV gd (Room.units hr)) (by rfl) mr (by decide +kernel) (pa_cons (pe_call G5 hr1 (by rfl) g5 k5 b5 .nil pass0 (pa_cons (pv 4) (pa_cons (pv 11) (pa_cons (pv 6) pa_nil)))) pa_nil)) (nomark _)) (pss_one (ps_ret pe_bl)) pss_nil)))))
        (pss_cons (ps_set (i := 10) scLaw.nd rfl (.inr rfl) (pe_call G2 hr2 (by rfl) g2 k2 b2 .nil pass0 (pa_cons (pv 1) (pa_cons (pe_lst (pa_cons pe_non (pa_cons pe_int (pa_cons (pe_un un_neg pe_int) (pa_cons pe_bl (pa_cons pe_str (pa_cons (pe_tup (pa_cons pe_int pa_nil)) (pa_cons (pe_lst pa_nil) (pa_cons pe_dnewK (pa_cons (pe_op op_add (pe_op op_pow pe_int pe_int) pe_int) pa_nil)))))))))) pa_nil))))
        (pss_cons (ps_set (i := 9) scLaw.nd rfl (.inr rfl) (pe_call G2 hr2 (by rfl) g2 k2 b2 .nil pass0 (pa_cons (pv 1) (pa_cons (pe_lst (pa_cons pe_non (pa_cons pe_int (pa_cons pe_bl (pa_cons pe_str (pa_cons pe_dnewK pa_nil)))))) pa_nil))))
        (pss_cons (ps_set (i := 7) scLaw.nd rfl (.inl rfl) (pe_lst (pa_cons (lam (t := fun E' => tEither (tCallI Ct (spCallA K CB) E' (tVar 12) (tCons (tVar 10) (tCons (tVar 9) tNil))) (tCallI Cn (spCallA K CB) E' (tVar 12) (tCons (tVar 10) (tCons (tVar 9) tNil)))) (lamS_by (by decide +kernel)) rfl (fun _ _ _ _ _ => rfl) (fun _ _ _ _ E' _ _ hrL => pe_either (pe_callI (pv 12) mC RX hrL (E := E') (passes_call (takes_of rfl rfl rfl rfl) (fun _ _ _ _ h => h)) (pa_cons (pv 10) (pa_cons (pv 9) pa_nil))) (pe_callI (pv 12) mC' RX' hrL (E := E') (passes_call (takes_of rfl rfl rfl rfl) (fun _ _ _ _ h => h)) (pa_cons (pv 10) (pa_cons (pv 9) pa_nil))))) pa_nil)))
        (pss_cons (ps_expr (pe_bm PySem.F.plainAttrs_list PySem.F.slot_list_append PySem.F.type_list_append mt_append (pv 7) (pa_cons (lam (t := fun E' => tEither (tCallI Ct (spCallA K CB) E' (tVar 12) (tCons (tVar 11) (tCons (tVar 9) tNil))) (tCallI Cn (spCallA K CB) E' (tVar 12) (tCons (tVar 11) (tCons (tVar 9) tNil)))) (lamS_by (by decide +kernel)) rfl (fun _ _ _ _ _ => rfl) (fun _ _ _ _ E' _ _ hrL => pe_either (pe_callI (pv 12) mC RX hrL (E := E') (passes_call (takes_of rfl rfl rfl rfl) (fun _ _ _ _ h => h)) (pa_cons (pv 11) (pa_cons (pv 9) pa_nil))) (pe_callI (pv 12) mC' RX' hrL (E := E') (passes_call (takes_of rfl rfl rfl rfl) (fun _ _ _ _ h => h)) (pa_cons (pv 11) (pa_cons (pv 9) pa_nil))))) pa_nil)))
        (pss_cons (ps_expr (pe_bm PySem.F.plainAttrs_list PySem.F.slot_list_append PySem.F.type_list_append mt_append (pv 7) (pa_cons (lam (t := fun E' => tEither (tCallI Ct (spCallA K CB) E' (tVar 12) (tCons (tVar 10) (tCons (tVar 11) tNil))) (tCallI Cn (spCallA K CB) E' (tVar 12) (tCons (tVar 10) (tCons (tVar 11) tNil)))) (lamS_by (by decide +kernel)) rfl (fun _ _ _ _ _ => rfl) (fun _ _ _ _ E' _ _ hrL => pe_either (pe_callI (pv 12) mC RX hrL (E := E') (passes_call (takes_of rfl rfl rfl rfl) (fun _ _ _ _ h => h)) (pa_cons (pv 10) (pa_cons (pv 11) pa_nil))) (pe_callI (pv 12) mC' RX' hrL (E := E') (passes_call (takes_of rfl rfl rfl rfl) (fun _ _ _ _ h => h)) (pa_cons (pv 10) (pa_cons (pv 11) pa_nil))))) pa_nil)))
        (pss_cons (ps_expr (pe_bm PySem.F.plainAttrs_list PySem.F.slot_list_append PySem.F.type_list_append mt_append (pv 7) (pa_cons (lam (t := fun E' => tEither (tMeth Ct "greatest" (spGreatA K CB) [] E' (tVar 12) (tCons (tVar 10) tNil)) (tMeth Cn "greatest" (spGreatA K CB) [] E' (tVar 12) (tCons (tVar 10) tNil))) (lamS_by (by decide +kernel)) rfl (fun _ _ _ _ _ => rfl) (fun _ _ _ _ E' _ _ hrL => pe_either (pe_meth (pv 12) cT.cl mG GGx hrL bG .nil (E := E') (passes_call (takes_of rfl rfl rfl rfl) (fun _ _ _ _ h => h)) (pa_cons (pv 10) pa_nil)) (pe_meth (pv 12) cN.cl mG' GGx' hrL bG' .nil (E := E') (passes_call (takes_of rfl rfl rfl rfl) (fun _ _ _ _ h => h)) (pa_cons (pv 10) pa_nil)))) pa_nil)))
        (pss_cons (ps_expr (pe_bm PySem.F.plainAttrs_list PySem.F.slot_list_append PySem.F.type_list_append mt_append (pv 7) (pa_cons (lam (t := fun E' => tEither (tMeth Ct "least" (spLeastA K CB) [] E' (tVar 12) (tCons (tVar 10) tNil)) (tMeth Cn "least" (spLeastA K CB) [] E' (tVar 12) (tCons (tVar 10) tNil))) (lamS_by (by decide +kernel)) rfl (fun _ _ _ _ _ => rfl) (fun _ _ _ _ E' _ _ hrL => pe_either (pe_meth (pv 12) cT.cl mL GLx hrL bL .nil (E := E') (passes_call (takes_of rfl rfl rfl rfl) (fun _ _ _ _ h => h)) (pa_cons (pv 10) pa_nil)) (pe_meth (pv 12) cN.cl mL' GLx' hrL bL' .nil (E := E') (passes_call (takes_of rfl rfl rfl rfl) (fun _ _ _ _ h => h)) (pa_cons (pv 10) pa_nil)))) pa_nil)))
        (pss_cons (ps_set (i := 8) scLaw.nd rfl (.inl rfl) (pe_op op_cat (pe_lst (pa_cons (pe_tup (pa_cons pe_str (pa_cons (pe_callB (call_reprV gd (Room.units hr)) (by rfl) mr (by decide +kernel) (pa_cons (pv 10) pa_nil)) pa_nil))) (pa_cons (pe_tup (pa_cons pe_str (pa_cons (pe_callB (call_reprV gd (Room.units hr)) (by rfl) mr (by decide +kernel) (pa_cons (pv 9) pa_nil)) pa_nil))) pa_nil))) (pe_op op_rep (pe_lst (pa_cons (pe_tup (pa_cons pe_str (pa_cons (pe_callB (call_reprV gd (Room.units hr)) (by rfl) mr (by decide +kernel) (pa_cons (pv 10) pa_nil)) pa_nil))) pa_nil)) pe_int)))
        (pss_one (ps_if (pt_cmpR (op_neD (Room.units hr)) (pv 7) (pv 8) (nomark _)) (pss_one (ps_ret pe_bl)) pss_nil))))))))))), ?_⟩
      intro D G p L l4 row B v3 v5 v6 v7 v8 v9 v10 v11 v12 hl4 ok pn B0 B1 tb fin
      refine ⟨_, rfl, l4, row, rfl, hl4, ok, fun r H1 s1 ob => ?_⟩
      have o := Row.okN ok
      have okf : 1 ≤ row.p ∧ row.p ≤ 8 ∧ 1 ≤ row.q ∧ row.q ≤ 8 := by obtain ⟨o1, o2, o3, o4, o5, o6⟩ := o; exact ⟨by omega, by omega, by omega, by omega⟩
      have pn1 := pn.keep s1
      have tb1 := tb.ext s1
      have hl1 := s1 _ _ hl4
      refine ⟨4, rfl, by decide, by decide, for_range (n := 4) (fun j σ H => (∃ v5 v6 v11 : Option V, σ = [some (.ref a), some (.ref p), some (.int (10 ^ Int.toNat 60)), v3, some (.ref l4), v5, v6, v7, v8, v9, v10, v11, some (.ref r)] ∧ (j = 0 ∨ ∃ x, v11 = some (.int x) ∧ 1 ≤ x ∧ x ≤ 10 ^ 50)) ∧
        Pen L H p (B + 10 * (j : Int)) ∧ Tabs [(TT, q)] H ∧ ObjAt Ct Cn H r row ∧ H l4 = some (.tup row.vs)) ⟨⟨_, _, _, rfl, .inl rfl⟩, pn1.mono (by omega), tb1, ob, hl1⟩ ?_ ?_⟩
      · rintro j σ H2 hj ⟨⟨v5, v6, v11, rfl, _⟩, pn2, tb2, ob2, hl2⟩
        obtain ⟨ys, hys⟩ := pn2.some
        refine ⟨_, rfl, p, L, _, rfl, by omega, pn2, fun x1 H3 x11 x12 t3 p3 => ⟨_, rfl, p, L, _, rfl, by omega, p3, fun x2 H4 x21 x22 t4 p4 => ⟨(by show 2 ≤ sizeLine; decide), fun tp ntp => ⟨tp, _, rfl, SqT.of upd_same, rfl, _, _, rfl, _, _, rfl, rfl, ?_⟩⟩⟩⟩
        obtain ⟨ys3, hys3⟩ := p3.some
        have tb4 := Tabs.but (Tabs.but tb2 hys t3) hys3 t4
        have ob4 := (ob2.but hys t3).but hys3 t4
        have hl4' := But.tup (But.tup hl2 pn2 t3) p3 t4
        have s5 := same_new (o := .tup [.int x1, .int x2]) ntp
        have tb5 := tb4.ext s5
        have ob5 := ob4.keep s5
        have hl5 := s5 _ _ hl4'
        have p5 := p4.keep s5
        generalize upd H4 tp (.tup [.int x1, .int x2]) = H5 at tb5 ob5 hl5 p5
        refine ⟨_, rfl, _, rfl, _, rfl, r, l4, row, x1, rfl, ob5, hl5, ok, x11, x12, fun H6 s6 => ⟨true, rfl, iteF ?_⟩⟩
        have ob6 := ob5.keep s6
        have R := ob6.rb cT cN ok
        obtain ⟨C, hC, dx, fs, hr0, no'⟩ := ob6.cls
        refine or_of (F := fun C => tCallI C _ _ _ _ _ _ _) hC ⟨_, rfl, r, rfl, _, rfl, _, rfl, .inr ⟨dx, fs, hr0⟩, r, row.p, row.q, row.k, x1, x2, rfl, R, ⟨x11, le60b (by omega)⟩, ⟨x21, le60b (by omega)⟩, ?_⟩
        refine ⟨.bl (fairB row.p row.q row.k x1 x2), .bool (fairB row.p row.q row.k x1 x2), rfl, .plain (.bl _) rfl, rfl, (by show 0 ≤ 32; decide), (by cases fairB row.p row.q row.k x1 x2 <;> decide +kernel), ?_⟩
        refine ⟨_, rfl, _, rfl, _, rfl, l4, row, x1, x2, rfl, s6 _ _ hl5, okf, fun H7 s7 => ⟨.bl (fairB row.p row.q row.k x1 x2), .bool (fairB row.p row.q row.k x1 x2), rfl, .plain (.bl _) rfl, rfl, (by show 0 ≤ 32; decide), (by cases fairB row.p row.q row.k x1 x2 <;> decide +kernel), ?_⟩⟩
        refine ⟨rfl, _, rfl, iteNS rfl ?_⟩
        exact ⟨⟨_, _, _, rfl, .inr ⟨x1, rfl, x11, x12⟩⟩, ((p5.keep s6).keep s7).mono (by omega), (tb5.ext s6).ext s7, ob6.keep s7, s7 _ _ (s6 _ _ hl5)⟩
      · rintro σ H2 ⟨⟨v5, v6, v11, rfl, hv⟩, pn2, tb2, ob2, hl2⟩
        obtain ⟨x, rfl, x1, x2⟩ : ∃ x, v11 = some (.int x) ∧ 1 ≤ x ∧ x ≤ 10 ^ 50 := by
          rcases hv with z | z
          · cases z
          · exact z
        -- what is no weight
        refine ⟨_, rfl, _, rfl, (by show 1 ≤ sizeLine; decide), fun q1 nq1 => ⟨(by show 0 ≤ sizeLine; decide), fun q2 nq2 => fun q3 nq3 => ⟨_, _, rfl, rfl, ⟨by decide, by decide, by decide⟩, _, _, rfl, rfl, (by show 9 ≤ sizeLine; decide), fun lo nlo => ?_⟩⟩⟩
        have n2 := (pn2.new (o := .tup [.int 3]) nq1).ne nq2
        have n3 := ((pn2.new (o := .tup [.int 3]) nq1).new (o := .lst []) nq2).ne nq3
        have s3 := (same_new (o := .tup [.int 3]) nq1).trans ((same_new (o := .lst []) nq2).trans (same_new (o := .dK []) nq3))
        have f1 : upd (upd (upd H2 q1 (.tup [.int 3])) q2 (.lst [])) q3 (.dK []) q1 = some (.tup [.int 3]) := same_new nq3 _ _ (same_new nq2 _ _ upd_same)
        have f2 : upd (upd (upd H2 q1 (.tup [.int 3])) q2 (.lst [])) q3 (.dK []) q2 = some (.lst []) := same_new nq3 _ _ upd_same
        have f3 : upd (upd (upd H2 q1 (.tup [.int 3])) q2 (.lst [])) q3 (.dK []) q3 = some (.dK []) := upd_same
        have pn3 := pn2.keep s3
        have tb3 := tb2.ext s3
        have ob3 := ob2.keep s3
        generalize upd (upd (upd H2 q1 (.tup [.int 3])) q2 (.lst [])) q3 (.dK []) = H3 at f1 f2 f3 pn3 tb3 ob3 nlo ⊢
        refine ⟨p, lo, L, _, _, rfl, upd_same, pn3.ne nlo, (by show 1 ≤ 9; decide), (by show 9 ≤ 1000; decide), by omega, pn3.new nlo, fun dv H4 mem t4 p4 => ?_⟩
        obtain ⟨ys, hys⟩ := (pn3.new nlo).some
        have tb4 := Tabs.but (tb3.ext (same_new nlo)) hys t4
        have ob4 := (ob3.keep (same_new nlo)).but hys t4
        obtain ⟨dd, od⟩ : ∃ d, OddV H4 dv d := by
          have g1 := But.tup (same_new nlo _ _ f1) (pn3.new nlo) t4
          have g2 := t4 _ _ n2 (same_new nlo _ _ f2)
          have g3 := t4 _ _ n3 (same_new nlo _ _ f3)
          simp only [List.mem_cons, List.not_mem_nil, or_false] at mem
          rcases mem with rfl | rfl | rfl | rfl | rfl | rfl | rfl | rfl | rfl
          · exact ⟨_, .non⟩
          · exact ⟨_, .int 0 (by decide) (by decide +kernel) (by decide +kernel) (by decide +kernel)⟩
          · exact ⟨_, .int (-1) (by decide) (by decide +kernel) (by decide +kernel) (by decide +kernel)⟩
          · exact ⟨_, .bl true⟩
          · exact ⟨_, .str "3" (by decide +kernel) (by decide +kernel)⟩
          · exact ⟨_, .tup g1⟩
          · exact ⟨_, .lst g2⟩
          · exact ⟨_, .dct g3⟩
          · exact ⟨_, .int (10 ^ Int.toNat 60 + 1) (by decide +kernel) (by decide +kernel) (by decide +kernel) (by decide +kernel)⟩
        clear mem
        refine ⟨_, rfl, fun q4 nq4 => ⟨(by show 5 ≤ sizeLine; decide), fun lo2 nlo2 => ?_⟩⟩
        have n4 := p4.ne nq4
        have f4 : upd H4 q4 (.dK []) q4 = some (.dK []) := upd_same
        have pn5 := p4.new (o := .dK []) nq4
        have tb5 := tb4.ext (same_new (o := .dK []) nq4)
        have ob5 := ob4.keep (same_new (o := .dK []) nq4)
        have od5 := od.ext (Same.extN (same_new (o := .dK []) nq4))
        generalize upd H4 q4 (.dK []) = H5 at f4 pn5 tb5 ob5 od5 nlo2 ⊢
        refine ⟨p, lo2, L, _, _, rfl, upd_same, pn5.ne nlo2, (by show 1 ≤ 5; decide), (by show 5 ≤ 1000; decide), by omega, pn5.new nlo2, fun bv H6 mem t6 p6 => ?_⟩
        obtain ⟨ys5, hys5⟩ := (pn5.new nlo2).some
        have tb6 := Tabs.but (tb5.ext (same_new nlo2)) hys5 t6
        have ob6 := (ob5.keep (same_new nlo2)).but hys5 t6
        have od6 := (od5.ext (Same.extN (same_new nlo2))).but (pn5.new nlo2) t6
        obtain ⟨bd, bo6⟩ : ∃ d, OddV H6 bv d := by
          have g4 := t6 _ _ n4 (same_new nlo2 _ _ f4)
          simp only [List.mem_cons, List.not_mem_nil, or_false] at mem
          rcases mem with rfl | rfl | rfl | rfl | rfl
          · exact ⟨_, .non⟩
          · exact ⟨_, .int 0 (by decide) (by decide +kernel) (by decide +kernel) (by decide +kernel)⟩
          · exact ⟨_, .bl false⟩
          · exact ⟨_, .str "" (by decide +kernel) (by decide +kernel)⟩
          · exact ⟨_, .dct g4⟩
        clear mem
        -- what is heard
        obtain ⟨C, hC, dx, fs, hr0, no'⟩ := ob6.cls
        have inst : ∀ G, ExtN H6 G → G r = some (.ins C dx fs) := fun G k => k _ _ hr0 (by intro ps z; cases z)
        have rb : ∀ G, ExtN H6 G → RB K G r row.p row.q row.k := fun G k => (ob6.ext k).rb cT cN ok
        have good : GoodW (.int x) x := ⟨rfl, x1, le60b (by omega)⟩
        refine ⟨tb6, fun G1 e1 T1 => fun G0 Qn s0 => ?_⟩
        have k0 := e1.trans (Same.extN s0)
        refine or_of (F := fun C => tCallI C _ _ _ _ _ _ _) hC ⟨_, rfl, r, rfl, _, rfl, _, rfl, .inr ⟨dx, fs, inst _ k0⟩, r, row.p, row.q, row.k, dv, bv, rfl, rb _ k0, .inl (OddV.told (od6.ext k0) fun r1 G2 sG n1 h1 => ?_)⟩
        refine ⟨(by show 1 ≤ sizeLine; decide), fun lh nlh => ?_⟩
        obtain ⟨kb, tbB, ls, nb⟩ := stage1 e1 T1 s0 sG h1 nlh
        generalize upd G2 lh (.lst [.ref r1]) = G3 at kb tbB ls
        clear e1 T1 s0 sG h1 nlh k0 n1
        refine ⟨_, rfl, .inl ⟨rfl, _, SqL.of ls.1⟩, tbB, fun G1 e1 T1 => fun G0 Qn s0 => ?_⟩
        have k0 := kb.trans (e1.trans (Same.extN s0))
        refine or_of (F := fun C => tCallI C _ _ _ _ _ _ _) hC ⟨_, rfl, r, rfl, _, rfl, _, rfl, .inr ⟨dx, fs, inst _ k0⟩, r, row.p, row.q, row.k, _, bv, rfl, rb _ k0, .inr ⟨x, good, .inl (OddV.told (bo6.ext k0) fun r2 G4 sG n2' h2 => ?_)⟩⟩
        obtain ⟨hl4', kb', tb', ls'⟩ := stage kb nb ls e1 T1 s0 sG n2' h2
        refine ⟨lh, _, _, rfl, rfl, hl4', (by show 1 < sizeLine; decide), ?_⟩
        generalize upd G4 lh _ = G5 at kb' tb' ls' ⊢
        clear e1 T1 s0 sG h2 n2' k0 kb tbB ls hl4'
        refine ⟨_, rfl, .inl ⟨rfl, _, SqL.of ls'.1⟩, tb', fun G1 e1 T1 => fun G0 Qn s0 => ?_⟩
        have k0 := kb'.trans (e1.trans (Same.extN s0))
        refine or_of (F := fun C => tCallI C _ _ _ _ _ _ _) hC ⟨_, rfl, r, rfl, _, rfl, _, rfl, .inr ⟨dx, fs, inst _ k0⟩, r, row.p, row.q, row.k, dv, _, rfl, rb _ k0, .inl (OddV.told (od6.ext k0) fun r3 G6 sG n3' h3 => ?_)⟩
        obtain ⟨hl6, kb2, tb2', ls2⟩ := stage kb' nb ls' e1 T1 s0 sG n3' h3
        refine ⟨lh, _, _, rfl, rfl, hl6, (by show 2 < sizeLine; decide), ?_⟩
        generalize upd G6 lh _ = G7 at kb2 tb2' ls2 ⊢
        clear e1 T1 s0 sG h3 n3' k0 kb' tb' ls' hl6
        refine ⟨_, rfl, .inl ⟨rfl, _, SqL.of ls2.1⟩, tb2', fun G1 e1 T1 => fun G0 Qn s0 => ?_⟩
        have k0 := kb2.trans (e1.trans (Same.extN s0))
        refine or_of (F := fun C => tMeth C _ _ _ _ _ _ _ _ _) hC ⟨_, rfl, r, dx, fs, rfl, inst _ k0, no' _ ng1 ng2 ng3 ng4, _, rfl, r, row.p, row.q, row.k, dv, rfl, rb _ k0, .inl (OddV.told (od6.ext k0) fun r4 G8 sG n4' h4 => ?_)⟩
        obtain ⟨hl8, kb3, tb3', ls3⟩ := stage kb2 nb ls2 e1 T1 s0 sG n4' h4
        refine ⟨lh, _, _, rfl, rfl, hl8, (by show 3 < sizeLine; decide), ?_⟩
        generalize upd G8 lh _ = G9 at kb3 tb3' ls3 ⊢
        clear e1 T1 s0 sG h4 n4' k0 kb2 tb2' ls2 hl8
        refine ⟨_, rfl, .inl ⟨rfl, _, SqL.of ls3.1⟩, tb3', fun G1 e1 T1 => fun G0 Qn s0 => ?_⟩
        have k0 := kb3.trans (e1.trans (Same.extN s0))
        refine or_of (F := fun C => tMeth C _ _ _ _ _ _ _ _ _) hC ⟨_, rfl, r, dx, fs, rfl, inst _ k0, no' _ nl1 nl2 nl3 nl4, _, rfl, r, row.p, row.q, row.k, dv, rfl, rb _ k0, .inl (OddV.told (od6.ext k0) fun r5 G10 sG n5' h5 => ?_)⟩
        obtain ⟨hl10, kb4, tb4', ls4⟩ := stage kb3 nb ls3 e1 T1 s0 sG n5' h5
        refine ⟨lh, _, _, rfl, rfl, hl10, (by show 4 < sizeLine; decide), ?_⟩
        generalize upd G10 lh _ = G11 at kb4 tb4' ls4 ⊢
        clear e1 T1 s0 sG h5 n5' k0 kb3 tb3' ls3 hl10
        have odG := od6.ext kb4
        have boG := bo6.ext kb4
        obtain ⟨w1, w2, w3, w4⟩ := odG.vd (K := K)
        refine ⟨_, rfl, dv, dd, rfl, w1, w2, w3, w4, (by show 2 ≤ sizeLine; decide), fun a1 na1 => ?_⟩
        have sa1 := same_new (o := .tup [.str "number", .str dd.shown]) na1
        have ha1 : upd G11 a1 (.tup [.str "number", .str dd.shown]) a1 = some (.tup [.str "number", .str dd.shown]) := upd_same
        generalize upd G11 a1 (.tup [.str "number", .str dd.shown]) = GA at sa1 ha1 ⊢
        obtain ⟨u1, u2, u3, u4⟩ := (boG.ext (Same.extN sa1)).vd (K := K)
        refine ⟨_, rfl, bv, bd, rfl, u1, u2, u3, u4, (by show 2 ≤ sizeLine; decide), fun a2 na2 => ?_⟩
        have sa2 := same_new (o := .tup [.str "number", .str bd.shown]) na2
        have ha2 : upd GA a2 (.tup [.str "number", .str bd.shown]) a2 = some (.tup [.str "number", .str bd.shown]) := upd_same
        generalize upd GA a2 (.tup [.str "number", .str bd.shown]) = GB at sa2 ha2 ⊢
        refine ⟨(by show 2 ≤ sizeLine; decide), fun a3 na3 => ?_⟩
        have sa3 := same_new (o := .lst [.ref a1, .ref a2]) na3
        have ha3 : upd GB a3 (.lst [.ref a1, .ref a2]) a3 = some (.lst [.ref a1, .ref a2]) := upd_same
        generalize upd GB a3 (.lst [.ref a1, .ref a2]) = GC at sa3 ha3 ⊢
        have s0C := sa1.trans (sa2.trans sa3)
        obtain ⟨w1, w2, w3, w4⟩ := (odG.ext (Same.extN s0C)).vd (K := K)
        refine ⟨_, rfl, dv, dd, rfl, w1, w2, w3, w4, (by show 2 ≤ sizeLine; decide), fun a4 na4 => ?_⟩
        have sa4 := same_new (o := .tup [.str "number", .str dd.shown]) na4
        have ha4 : upd GC a4 (.tup [.str "number", .str dd.shown]) a4 = some (.tup [.str "number", .str dd.shown]) := upd_same
        generalize upd GC a4 (.tup [.str "number", .str dd.shown]) = GD at sa4 ha4 ⊢
        refine ⟨(by show 1 ≤ sizeLine; decide), fun a5 na5 => ⟨a5, 3, _, rfl, rfl, upd_same, by decide, by decide, (by show 1 * 3 ≤ sizeLine; decide), fun a6 na6 => ?_⟩⟩
        have sa6 := (same_new (o := .lst [.ref a4]) na5).trans (same_new (o := .lst [.ref a4, .ref a4, .ref a4]) na6)
        have ha6 : upd (upd GD a5 (.lst [.ref a4])) a6 (.lst [.ref a4, .ref a4, .ref a4]) a6 = some (.lst [.ref a4, .ref a4, .ref a4]) := upd_same
        generalize hGE : upd (upd GD a5 (.lst [.ref a4])) a6 (.lst [.ref a4, .ref a4, .ref a4]) = GE at sa6 ha6
        refine ⟨a3, a6, [.ref a1, .ref a2], [.ref a4, .ref a4, .ref a4], rfl, rfl, ?_, ?_, (by show 2 + 3 ≤ sizeLine; decide), fun a7 na7 => ?_⟩
        · show upd (upd GD a5 (.lst [.ref a4])) a6 (.lst [.ref a4, .ref a4, .ref a4]) a3 = _
          rw [hGE]; exact sa6 _ _ (sa4 _ _ ha3)
        · show upd (upd GD a5 (.lst [.ref a4])) a6 (.lst [.ref a4, .ref a4, .ref a4]) a6 = _
          rw [hGE]; exact ha6
        change upd (upd GD a5 (.lst [.ref a4])) a6 (.lst [.ref a4, .ref a4, .ref a4]) a7 = none at na7
        show gName 8 _ _ (upd (upd (upd GD a5 (.lst [.ref a4])) a6 (.lst [.ref a4, .ref a4, .ref a4])) a7 (.lst [.ref a1, .ref a2, .ref a4, .ref a4, .ref a4])) _
        rw [hGE] at na7 ⊢
        have sE : Same G11 GE := s0C.trans (sa4.trans sa6)
        have sF := same_new (o := .lst [.ref a1, .ref a2, .ref a4, .ref a4, .ref a4]) na7
        have ha7 : upd GE a7 (.lst [.ref a1, .ref a2, .ref a4, .ref a4, .ref a4]) a7 = some (.lst [.ref a1, .ref a2, .ref a4, .ref a4, .ref a4]) := upd_same
        have b1' := sF _ _ (sa6 _ _ (sa4 _ _ (sa3 _ _ (sa2 _ _ ha1))))
        have b2' := sF _ _ (sa6 _ _ (sa4 _ _ (sa3 _ _ ha2)))
        have b4' := sF _ _ (sa6 _ _ ha4)
        have sG := sE.trans sF
        generalize upd GE a7 (.lst [.ref a1, .ref a2, .ref a4, .ref a4, .ref a4]) = GG' at ha7 b1' b2' b4' sG
        have ent : ∀ (b : Addr) (z : Str), GG' b = some (.tup [.str "number", .str z]) → Dp K GG' (.ref b) (heardD z) := fun b z e => .tup (SqT.of e) (.cons (.str _) (.cons (.str _) .nil))
        obtain ⟨hl, hs⟩ := ls4
        have hr : ∀ (b : Addr) (z : Str), (b, z) ∈ _ → Dp K GG' (.ref b) (heardD z) := fun b z m => ent b z (sG _ _ (hs (b, z) m).1)
        have sh := heard_shaped od6.lay bo6.lay
        refine ⟨_, rfl, _, rfl, .list [heardD dd.shown, heardD bd.shown, heardD dd.shown, heardD dd.shown, heardD dd.shown], .list [heardD dd.shown, heardD bd.shown, heardD dd.shown, heardD dd.shown, heardD dd.shown],
          .lst (SqL.of (sG _ _ hl)) (.cons (hr _ _ (by simp)) (.cons (hr _ _ (by simp)) (.cons (hr _ _ (by simp)) (.cons (hr _ _ (by simp)) (.cons (hr _ _ (by simp)) .nil))))),
          .lst (SqL.of ha7) (.cons (ent _ _ b1') (.cons (ent _ _ b2') (.cons (ent _ _ b4') (.cons (ent _ _ b4') (.cons (ent _ _ b4') .nil))))), sh, sh, _, rfl, ?_⟩
        rw [heard_eqv]
        refine iteF ?_
        have kG := kb4.trans (Same.extN sG)
        exact fin _ GG' ⟨_, _, _, _, _, _, _, _, _, rfl⟩ ((p6.ext kG).mono (by omega)) (tb4'.ext sG)
    obtain ⟨tC, hC2, qC⟩ : ∃ t : TS, PSs (cxOf CX0 P w K mg base nLaw "law" (defScope sLaw) f (.ref cc) A outer s H E).nox (loopLaw.drop 2) t ∧ ∀ (i : Int) (D : Ends) (G : Hp) (p L l4 : Addr) (row : Row) (B : Int) (v5 v6 v7 v8 v9 v10 v11 v12 : Option V), G l4 = some (.tup row.vs) → row.ok → Pen L G p B → 0 ≤ B → B ≤ 7950 → Tabs [(TT, q)] G →
          (∀ (σ' : L2.St) (G' : Hp), (∃ v4 v5 v6 v7 v8 v9 v10 v11 v12 : Option V, σ' = [some (.ref a), some (.ref p), some (.int (10 ^ Int.toNat 60)), some (.int i), v4, v5, v6, v7, v8, v9, v10, v11, v12]) → Pen L G' p (B + 150) → Tabs [(TT, q)] G' → D.nx σ' G') →
          t D [some (.ref a), some (.ref p), some (.int (10 ^ Int.toNat 60)), some (.int i), some (.ref l4), v5, v6, v7, v8, v9, v10, v11, v12] G := by
      refine ⟨_, pss_cons (ps_set (i := 4) scLaw.nd rfl (.inl rfl) (pe_ifExp (pt_cmpR op_eq (pv 3) pe_int (nomark _)) (pe_call G2 hr2 (by rfl) g2 k2 b2 .nil pass0 (pa_cons (pv 1) (pa_cons (pe_lst (pa_cons (pe_tup (pa_cons pe_int (pa_cons pe_int (pa_cons pe_int pa_nil)))) (pa_cons (pe_tup (pa_cons pe_int (pa_cons pe_int (pa_cons pe_int pa_nil)))) (pa_cons (pe_tup (pa_cons pe_int (pa_cons pe_int (pa_cons pe_int pa_nil)))) pa_nil)))) pa_nil))) (pv 4))) hR, ?_⟩
      intro i D G p L l4 row B v5 v6 v7 v8 v9 v10 v11 v12 hl4 ok pn B0 B1 tb fin
      refine ⟨_, rfl, rfl, _, rfl, ite2 (fun _ => ?_) (fun _ => ⟨_, rfl, ?_⟩)⟩
      · refine ⟨_, rfl, (by show 3 ≤ sizeLine; decide), fun t1 nt1 => ⟨(by show 3 ≤ sizeLine; decide), fun t2 nt2 => ⟨(by show 3 ≤ sizeLine; decide), fun t3 nt3 => ⟨(by show 3 ≤ sizeLine; decide), fun lo nlo => ?_⟩⟩⟩⟩
        have pn1 := ((pn.new (o := .tup [.int 6, .int 5, .int 4]) nt1).new (o := .tup [.int 5, .int 4, .int 3]) nt2).new (o := .tup [.int 6, .int 6, .int 6]) nt3
        refine ⟨p, lo, L, _, _, rfl, upd_same, pn1.ne nlo, (by show 1 ≤ 3; decide), (by show 3 ≤ 1000; decide), by omega, pn1.new nlo, fun dv H6 mem t6 p6 => ?_⟩
        have sx := (same_new (o := .tup [.int 6, .int 5, .int 4]) nt1).trans ((same_new (o := .tup [.int 5, .int 4, .int 3]) nt2).trans ((same_new (o := .tup [.int 6, .int 6, .int 6]) nt3).trans (same_new (o := .lst [.ref t1, .ref t2, .ref t3]) nlo)))
        have pn2 := pn1.new (o := .lst [.ref t1, .ref t2, .ref t3]) nlo
        obtain ⟨ys, hys⟩ := pn2.some
        have tb6 := Tabs.but (tb.ext sx) hys t6
        have f1 := same_new (o := .lst [.ref t1, .ref t2, .ref t3]) nlo _ _ (same_new (o := .tup [.int 6, .int 6, .int 6]) nt3 _ _ (same_new (o := .tup [.int 5, .int 4, .int 3]) nt2 _ _ (upd_same (H := G) (a := t1) (o := .tup [.int 6, .int 5, .int 4]))))
        have f2 := same_new (o := .lst [.ref t1, .ref t2, .ref t3]) nlo _ _ (same_new (o := .tup [.int 6, .int 6, .int 6]) nt3 _ _ (upd_same (H := upd G t1 (.tup [.int 6, .int 5, .int 4])) (a := t2) (o := .tup [.int 5, .int 4, .int 3])))
        have f3 := same_new (o := .lst [.ref t1, .ref t2, .ref t3]) nlo _ _ (upd_same (H := upd (upd G t1 (.tup [.int 6, .int 5, .int 4])) t2 (.tup [.int 5, .int 4, .int 3])) (a := t3) (o := .tup [.int 6, .int 6, .int 6]))
        have go : ∀ (lx : Addr) (p' q' k : Int), okN p' q' k → H6 lx = some (.tup [.int p', .int q', .int k]) → tR D [some (.ref a), some (.ref p), some (.int (10 ^ Int.toNat 60)), some (.int i), some (.ref lx), v5, v6, v7, v8, v9, v10, v11, v12] H6 := fun lx p' q' k okk hlx =>
          qR _ _ p L lx (.tr p' q' k) (B + 50) _ _ _ _ _ _ _ _ _ hlx okk (p6.mono (by omega)) (by omega) (by omega) tb6 (fun σ' G' h1 h2 h3 => fin σ' G' h1 (h2.mono (by omega)) h3)
        simp only [List.mem_cons, List.not_mem_nil, or_false] at mem
        rcases mem with rfl | rfl | rfl
        · exact go t1 6 5 4 ⟨by decide, by decide, by decide, by decide, by decide, by decide⟩ (But.tup f1 pn2 t6)
        · exact go t2 5 4 3 ⟨by decide, by decide, by decide, by decide, by decide, by decide⟩ (But.tup f2 pn2 t6)
        · exact go t3 6 6 6 ⟨by decide, by decide, by decide, by decide, by decide, by decide⟩ (But.tup f3 pn2 t6)
      · exact qR _ _ p L l4 row B _ _ _ _ _ _ _ _ _ hl4 ok pn B0 (by omega) tb (fun σ' G' h1 h2 h3 => fin σ' G' h1 (h2.mono (by omega)) h3)
    obtain ⟨tB, hB2, qB⟩ : ∃ t : TS, PSs (cxOf CX0 P w K mg base nLaw "law" (defScope sLaw) f (.ref cc) A outer s H E).nox loopLaw t ∧ ∀ (i : Int) (D : Ends) (G : Hp) (p L : Addr) (B : Int) (v4 v5 v6 v7 v8 v9 v10 v11 v12 : Option V), Pen L G p B → 0 ≤ B → B ≤ 7900 → Tabs [(TT, q)] G →
          (∀ (σ' : L2.St) (G' : Hp), (∃ v4 v5 v6 v7 v8 v9 v10 v11 v12 : Option V, σ' = [some (.ref a), some (.ref p), some (.int (10 ^ Int.toNat 60)), some (.int i), v4, v5, v6, v7, v8, v9, v10, v11, v12]) → Pen L G' p (B + 200) → Tabs [(TT, q)] G' → D.nx σ' G') →
          t D [some (.ref a), some (.ref p), some (.int (10 ^ Int.toNat 60)), some (.int i), v4, v5, v6, v7, v8, v9, v10, v11, v12] G := by
      refine ⟨_, pss_cons (ps_set (i := 4) scLaw.nd rfl (.inl rfl) (pe_call G3 hr3 (by rfl) g3 k3 b3 .nil pass0 (pa_cons (pv 1) pa_nil))) (pss_cons (ps_set (i := 4) scLaw.nd rfl (.inl rfl) (pe_ifExp (pt_cmpR op_eq (pe_call G1 hr1 (by rfl) g1 k1 b1 .nil pass0 (pa_cons (pv 1) (pa_cons pe_int pa_nil))) pe_int (nomark _)) (pv 4) (pe_slice sl_tupA (pv 4) po_none (po_some pe_int)))) hC2), ?_⟩
      intro i D G p L B v4 v5 v6 v7 v8 v9 v10 v11 v12 pn B0 B1 tb fin
      refine ⟨_, rfl, p, L, _, rfl, by omega, pn, fun ra p' q' k t s c H3 okn okt nra hra bt3 pn3 => ?_⟩
      obtain ⟨ys, hys⟩ := pn.some
      have tb3 := Tabs.but tb hys bt3
      obtain ⟨ys3, hys3⟩ := pn3.some
      refine ⟨_, rfl, p, L, _, _, rfl, by decide, by decide, by omega, pn3, fun d H4 t4 p4 lo4 hi4 => ⟨rfl, _, rfl, ?_⟩⟩
      have tb4 := Tabs.but tb3 hys3 t4
      have hra4 := But.tup hra pn3 t4
      refine ite2 (fun _ => ⟨_, rfl, ?_⟩) (fun _ => ⟨_, rfl, _, rfl, slice3 (row := .tn p' q' k t s c) hra4 fun a3 H5 s5 ha3 => ?_⟩)
      · exact qC _ _ _ p L _ (.tn p' q' k t s c) (B + 50) _ _ _ _ _ _ _ _ hra4 ⟨okn, okt⟩ (p4.mono (by omega)) (by omega) (by omega) tb4 (fun σ' G' h1 h2 h3 => fin σ' G' h1 (h2.mono (by omega)) h3)
      · exact qC _ _ _ p L _ (.tr p' q' k) (B + 50) _ _ _ _ _ _ _ _ ha3 okn ((p4.keep s5).mono (by omega)) (by omega) (by omega) (tb4.ext s5) (fun σ' G' h1 h2 h3 => fin σ' G' h1 (h2.mono (by omega)) h3)
    refine ⟨_, pss_cons (ps_set (i := 1) scLaw.nd rfl (.inl rfl) (pe_call G6 hr1 (by rfl) g6 k6 b6 .nil pass0 (pa_cons (pv 0) pa_nil)))
      (pss_cons (ps_set (i := 2) scLaw.nd rfl (.inl rfl) (pe_op op_pow pe_int pe_int))
      (pss_cons (ps_if (PW.pt (pw_or (pt_cmpR op_isnot_bl (pe_callI (pe_make MTT GT hr6 (by rfl) gT bT0 vd pass0 (pa_cons (pe_tup (pa_cons pe_int (pa_cons pe_int pa_nil))) pa_nil)) mC RC hr6 (E := E0) pass0 (pa_cons (pv 2) (pa_cons (pv 2) pa_nil))) pe_bl (nomark _)) (pw_or1 (pt_cmpR op_ne (pe_meth (pe_make MTT GT hr6 (by rfl) gT bT0 vd pass0 (pa_cons (pe_tup (pa_cons pe_int (pa_cons pe_int pa_nil))) pa_nil)) cT.cl mG GG hr6 bG .nil pass0 (pa_cons (pv 2) pa_nil)) (pe_op op_mul pe_int (pv 2)) (nomark _))))) (pss_one (ps_ret pe_bl)) pss_nil)
      (pss_cons (ps_for PassesOwn.never rfl (pi_range1 rfl T.range (pa_cons pe_int pa_nil)) (pg_name (i := 3) scLaw.nd rfl (.inl rfl)) hB2)
      (pss_one (ps_ret pe_bl))))), ?_⟩
    refine ⟨_, rfl, a, ns, rfl, hS, hlen, fun p L H1 np s1 pn0 => ?_⟩
    have tb1 : Tabs [(TT, q)] H1 := fun x hx => by
      obtain rfl := List.mem_singleton.mp hx
      exact TabS.nil (s1 _ _ hT)
    refine ⟨_, _, rfl, rfl, ⟨by decide, by decide, by decide⟩, ?_⟩
    have e1 : ∀ (H0 : Hp) (tp x dx : Addr) (o1 o2 : HO), upd H0 tp (.tup [.int 3, .int 1]) x = none → upd H0 tp (.tup [.int 3, .int 1]) dx = none → upd (upd (upd H0 tp (.tup [.int 3, .int 1])) dx o1) x o2 tp = some (.tup [.int 3, .int 1]) := fun H0 tp x dx o1 o2 nx ndx => by
      rw [upd_ne (ne_of_none (upd_same) nx), upd_ne (ne_of_none (upd_same) ndx)]; exact upd_same
    have sm : ∀ (H0 H2 : Hp) (tp x dx : Addr) (o1 o2 : HO), H0 tp = none → upd H0 tp (.tup [.int 3, .int 1]) x = none → upd H0 tp (.tup [.int 3, .int 1]) dx = none → But x (upd (upd (upd H0 tp (.tup [.int 3, .int 1])) dx o1) x o2) H2 → Same H0 H2 := fun H0 H2 tp x dx o1 o2 ntp nx ndx t2 b u e => by
      have e3 : upd H0 tp (.tup [.int 3, .int 1]) b = some u := same_new ntp _ _ e
      exact t2 _ _ (ne_of_none e3 nx) (by rw [upd_ne (ne_of_none e3 nx), upd_ne (ne_of_none e3 ndx)]; exact e3)
    have o31 : okN 3 1 0 := ⟨by decide, by decide, by decide, by decide, by decide, by decide⟩
    refine ⟨(by show 2 ≤ sizeLine; decide), fun tp ntp => fun x dx nx ndx nex => ⟨x, dx, tp, 3, 1, 0, rfl, upd_same, e1 _ _ _ _ _ _ nx ndx, by decide, by decide, by decide, by decide, by decide, by decide, fun H2 t2 hx2 => ⟨rfl, ?_⟩⟩⟩
    have s2 := sm _ _ _ _ _ _ _ ntp nx ndx t2
    have ob2 : ObjAt Ct Cn H2 x (.tr 3 1 0) := ⟨dx, tp, hx2, t2 _ _ (ne_of_none upd_same nx) (e1 _ _ _ _ _ _ nx ndx)⟩
    refine ⟨x, rfl, _, rfl, _, rfl, .inr ⟨dx, _, hx2⟩, x, 3, 1, 0, _, _, rfl, ob2.rb cT cN o31, ⟨by decide +kernel, by decide +kernel⟩, ⟨by decide +kernel, by decide +kernel⟩, _, true, rfl, rfl, _, rfl, ?_⟩
    rw [show (!decide (fairB 3 1 0 (10 ^ Int.toNat 60) (10 ^ Int.toNat 60) = true)) = false by decide +kernel]
    refine iteF ⟨(by show 2 ≤ sizeLine; decide), fun tp' ntp' => fun x' dx' nx' ndx' nex' => ⟨x', dx', tp', 3, 1, 0, rfl, upd_same, e1 _ _ _ _ _ _ nx' ndx', by decide, by decide, by decide, by decide, by decide, by decide, fun H3 t3 hx3 => ⟨rfl, ?_⟩⟩⟩
    have s3 := sm _ _ _ _ _ _ _ ntp' nx' ndx' t3
    have ob3 : ObjAt Ct Cn H3 x' (.tr 3 1 0) := ⟨dx', tp', hx3, t3 _ _ (ne_of_none upd_same nx') (e1 _ _ _ _ _ _ nx' ndx')⟩
    refine ⟨x', dx', _, rfl, hx3, try_no _ _ ng1 ng2, _, rfl, x', 3, 1, 0, _, rfl, ob3.rb cT cN o31, by decide +kernel, by decide +kernel, _, rfl, _, _, rfl, rfl, .inl ⟨by decide, by decide⟩, rfl, _, rfl, ?_⟩
    rw [show (!decide (V.int ((3 * 10 ^ Int.toNat 60 + 0 : Int).fdiv 1) = V.int (3 * 10 ^ Int.toNat 60))) = false by decide +kernel]
    refine iteF ?_
    have s13 := s2.trans s3
    refine ⟨8, rfl, by decide, by decide, for_range (n := 8) (fun i σ H2 => (∃ v3 v4 v5 v6 v7 v8 v9 v10 v11 v12 : Option V, σ = [some (.ref a), some (.ref p), some (.int (10 ^ Int.toNat 60)), v3, v4, v5, v6, v7, v8, v9, v10, v11, v12]) ∧ Pen L H2 p (200 * (i : Int)) ∧ Tabs [(TT, q)] H2)
      ⟨⟨none, none, none, none, none, none, none, none, none, none, rfl⟩, (pn0.keep s13).mono (by decide), tb1.ext s13⟩ ?_ ?_⟩
    · rintro i σ H4 hi ⟨⟨v3, v4, v5, v6, v7, v8, v9, v10, v11, v12, rfl⟩, pn, tb⟩
      refine qB _ _ _ p L (200 * (i : Int)) _ _ _ _ _ _ _ _ _ pn (by omega) (by omega) tb (fun σ' G' h1 h2 h3 => ?_)
      obtain ⟨v4, v5, v6, v7, v8, v9, v10, v11, v12, rfl⟩ := h1
      exact ⟨⟨_, _, _, _, _, _, _, _, _, _, rfl⟩, h2.mono (by omega), h3⟩
    · rintro σ H4 ⟨⟨v3, v4, v5, v6, v7, v8, v9, v10, v11, v12, rfl⟩, pn, tb⟩
      exact kk _
end
end Ev
namespace Ev
open PySem L2 PySem.Spec PyProof.Rows LamX
/-- the table of a code object -/
def tabAt (K : PySem.W.Frag) (c : Addr) : Addr := match K.lookup c with
  | some ⟨_, _, .fields vs, _⟩ => (match (vs[11]? : Option Value) with | some (.ref T) => T | _ => 0)
  | _ => 0
theorem kit_bty {K : PySem.W.Frag} {t : Value} (h : PySem.W.subIn K t (.type "ValueError") = some true) : PySem.W.kitOne K t (.type "ValueError") = some true := by
  unfold PySem.W.kitOne
  split
  · rfl
  · unfold PySem.W.kitCls
    simp only
    rw [if_pos (by decide +kernel)]
    exact h
theorem kb_gP {K : PySem.W.Frag} {x qual y : Str} {st : Stmt} {f : Addr} {fd : FuncData} (F : Fun K x qual st f fd)
    (h : ∀ (kV doc pm : Value) (an : Option Addr) (cdv ct a b : Value), bindArgs (PySem.W.fnOf x qual (defArgs st) (defBody st) (defScope st) .none kV doc pm an cdv ct) ⟨[a], [(y, b)]⟩ = pure [(("self" : Str), a), (y, b)]) : KBinds K fd ["self", y] [y] gP gP := by
  obtain ⟨oc, od, kV, doc, pm, an, cdv, ct, osl, rfl, lk, hcd⟩ := F.ex
  refine ⟨fun s us ws _ hl => ?_, gP_rel⟩
  obtain ⟨a, b, rfl, rfl⟩ := gP_len hl
  exact .of_eq (h _ _ _ _ _ _ _ _)
theorem kb_gYX {K : PySem.W.Frag} {x qual : Str} {st : Stmt} {f : Addr} {fd : FuncData} (F : Fun K x qual st f fd)
    (h : ∀ (kV doc pm : Value) (an : Option Addr) (cdv ct a b c : Value), bindArgs (PySem.W.fnOf x qual (defArgs st) (defBody st) (defScope st) .none kV doc pm an cdv ct) ⟨[a], (["y", "x"] : List Str).zip [b, c]⟩ = pure ((["self", "x", "y"] : List Str).zip [a, c, b])) : KBinds K fd ["self", "x", "y"] ["y", "x"] gYX gYX := by
  obtain ⟨oc, od, kV, doc, pm, an, cdv, ct, osl, rfl, lk, hcd⟩ := F.ex
  refine ⟨fun s us ws _ hl => ?_, gYX_rel⟩
  obtain ⟨a, b, c, rfl, rfl⟩ := gYX_len hl
  exact .of_eq (h _ _ _ _ _ _ _ _ _)
theorem walk_ofGTK {l : PySem.W.OpenLaw} {n k : Nat} {q : Program} {loose : List Str} {XP : (Str → Option Value) → Heap → Prop} {YP : World → Heap → Prop}
    {d : DefRec} {K : Params → PySem.W.Frag} {x : Str} (hn : l.most = some n) (hn2 : n ≤ sizeLine) (hdf : d.params.defaults = []) (hr : Room k callerA) (hrec : ((recsOf q).any fun e => e.name == d.name) = true)
    (hY : ∀ (w : World) (h : Heap), YP w h → (K w.params).In h)
    (F : ∀ (w : World) (mg : Str → Option Value) (fa : Addr) (h : Heap), (K w.params).In h → h.Ns mainGlobals mg → mg d.name = some (.ref fa) →
      ∃ (fd : FuncData) (sp : Sp) (c T : Addr) (o : Obj), (∀ (s : Shared) (u : Value), BindsTo s fd ⟨[u], []⟩ [(x, u)]) ∧
        (K w.params).lookup fa = some o ∧ o.data = .func fd ∧ fd.code = .ref c ∧ PySem.W.codeHdIn (K w.params) c T = true ∧ (K w.params).lookup T = none ∧
        (∀ (H : Hp) (a : Addr) (ns : List Int), ns.length ≤ n → H T = some (.tbl #[]) → SqL (K w.params) H a (ns.map V.int) → sp [.ref a] H (fun v _ => v = .bl true) fun _ _ _ => False) ∧
        ∀ base : Heap, (K w.params).In base → base.Ns mainGlobals mg → TabB base mg c T → FnG l.prog w (K w.params) mg base k fa fd [x] sp) :
    PySem.W.WalkO q loose XP YP l.row.toRowW d [] (fun f vs => PySem.call f vs) :=
  walk_ofGT hn hn2 hdf hr hrec fun w mg fa h Y ns hm => by
    obtain ⟨fd, sp, c, T, o, r⟩ := F w mg fa h (hY w h Y) ns hm
    exact ⟨K w.params, fd, sp, c, T, o, hY w h Y, r⟩
theorem kit_cls' {K : PySem.W.Frag} {t : Value} {C : Addr} (h1 : PySem.W.isClsIn K C = true) (h2 : PySem.W.typeIn K (.ref C) = some (.type "type")) (h3 : PySem.W.subIn K t (.ref C) = some true) : PySem.W.kitCls K t (.ref C) = some true := by
  have h1 : (PySem.W.clsIn K C).isSome = true := h1
  unfold PySem.W.kitCls
  simp only [h1, h2, h3]
  decide
theorem kit_own {K : PySem.W.Frag} {t : Value} {C : Addr} (h1 : PySem.W.isClsIn K C = true) (h2 : PySem.W.typeIn K (.ref C) = some (.type "type")) (h3 : PySem.W.subIn K t (.ref C) = some true) : PySem.W.kitOne K t (.ref C) = some true := by
  unfold PySem.W.kitOne
  split
  · rfl
  · exact kit_cls' h1 h2 h3
theorem exm_own {K : PySem.W.Frag} {t : Value} {C : Addr} (h1 : PySem.W.isClsIn K C = true) (h2 : PySem.W.typeIn K (.ref C) = some (.type "type")) (h3 : PySem.W.subIn K t (.ref C) = some true) (h4 : PySem.W.subIn K (.ref C) (.type "BaseException") = some true) : PySem.W.exmOne K t (.ref C) = some true := by
  unfold PySem.W.exmOne
  rw [h4, if_pos (by decide)]
  exact kit_cls' h1 h2 h3
set_option maxHeartbeats 4000000 in
theorem all_mk {l : PySem.W.OpenLaw} {w : World} {K : PySem.W.Frag} {h : Heap} {mg : Str → Option Value} {f0 f1 f2 f3 f4 f5 f6 f7 f8 f9 f10 f11 f12 f13 f14 f15 f16 f17 f18 f19 cL f20 f21 f22 f95 f96 f23 Ct Cn CW CB FE T30 f30 T33 f33 f35 f37 f38 f39 fa : Addr} {od0 an0 od1 an1 od2 an2 od3 an3 od4 an4 od5 an5 od6 an6 od7 an7 od8 an8 od9 an9 od10 an10 od11 an11 od12 an12 od13 an13 od14 an14 od15 an15 od16 an16 od17 an17 od18 an18 od19 an19 od20 an20 od21 an21 od22 od95 od96 an22 an95 an96 od23 an23 td30 od30 an30 td33 od33 an33 od35 an35 od37 an37 od38 an38 od39 an39 : Option Addr} {sl0 sl1 sl2 sl3 sl4 sl5 sl6 sl7 sl8 sl9 sl10 sl11 sl12 sl13 sl14 sl15 sl16 sl17 sl18 sl19 sl20 sl21 sl22 sl95 sl96 sl23 ts30 sl30 ts33 sl33 sl35 sl37 sl38 sl39 : Array (Option Value)} {oc0 kV0 dc0 pm0 cd0 ct0 oc1 kV1 dc1 pm1 cd1 ct1 oc2 kV2 dc2 pm2 cd2 ct2 oc3 kV3 dc3 pm3 cd3 ct3 oc4 kV4 dc4 pm4 cd4 ct4 oc5 kV5 dc5 pm5 cd5 ct5 oc6 kV6 dc6 pm6 cd6 ct6 oc7 kV7 dc7 pm7 cd7 ct7 oc8 kV8 dc8 pm8 cd8 ct8 oc9 kV9 dc9 pm9 cd9 ct9 oc10 kV10 dc10 pm10 cd10 ct10 oc11 kV11 dc11 pm11 cd11 ct11 oc12 kV12 dc12 pm12 cd12 ct12 oc13 kV13 dc13 pm13 cd13 ct13 oc14 kV14 dc14 pm14 cd14 ct14 oc15 kV15 dc15 pm15 cd15 ct15 oc16 kV16 dc16 pm16 cd16 ct16 oc17 kV17 dc17 pm17 cd17 ct17 oc18 kV18 dc18 pm18 cd18 ct18 oc19 kV19 dc19 pm19 ct19 oc20 kV20 dc20 pm20 cd20 ct20 oc21 kV21 dc21 pm21 cd21 ct21 oc22 oc95 oc96 kV22 kV95 kV96 dc22 dc95 dc96 pm22 pm95 pm96 cd22 cd95 cd96 ct22 ct95 ct96 oc23 kV23 dc23 pm23 cd23 ct23 tc30 oc30 kV30 dc30 pm30 cd30 ct30 tc33 oc33 kV33 dc33 pm33 cd33 ct33 oc35 kV35 dc35 pm35 cd35 ct35 oc37 kV37 dc37 pm37 cd37 ct37 oc38 kV38 dc38 pm38 cd38 ct38 oc39 kV39 dc39 pm39 cd39 ct39 : Value} {tt30 tt33 tW tP tT tM : Tok} {tn30 tn33 : Nat} {nmN qN nsN bsN bmN snN subN abN colN ddN k0N k1N k2N k3N k5N : _} {f90 : Addr} {od90 an90 : Option Addr} {sl90 : Array (Option Value)} {oc90 kV90 dc90 pm90 cd90 ct90 : Value} {f91 : Addr} {od91 an91 : Option Addr} {sl91 : Array (Option Value)} {oc91 kV91 dc91 pm91 cd91 ct91 : Value} (X : K.In h) (G : h.Ns mainGlobals mg) (hfa : mg "law" = some (.ref fa))
    (a0 : PySem.W.nsIn K mainGlobals "is_integer" = some (some (.ref f0)))
    (l0 : K.lookup f0 = some ⟨oc0, od0, .func (PySem.W.fnOf "is_integer" "is_integer" (defArgs sIsInt) (defBody sIsInt) (defScope sIsInt) .none kV0 dc0 pm0 an0 cd0 ct0), sl0⟩)
    (c0 : PySem.W.codeIn K cd0 "is_integer" = true)
    (k0 : PySem.W.keepIn K (.ref f0) = true)
    (a1 : PySem.W.nsIn K mainGlobals "is_within" = some (some (.ref f1)))
    (l1 : K.lookup f1 = some ⟨oc1, od1, .func (PySem.W.fnOf "is_within" "is_within" (defArgs sWithin) (defBody sWithin) (defScope sWithin) .none kV1 dc1 pm1 an1 cd1 ct1), sl1⟩)
    (c1 : PySem.W.codeIn K cd1 "is_within" = true)
    (k1 : PySem.W.keepIn K (.ref f1) = true)
    (a2 : PySem.W.nsIn K mainGlobals "are_fair" = some (some (.ref f2)))
    (l2 : K.lookup f2 = some ⟨oc2, od2, .func (PySem.W.fnOf "are_fair" "are_fair" (defArgs sFair) (defBody sFair) (defScope sFair) .none kV2 dc2 pm2 an2 cd2 ct2), sl2⟩)
    (c2 : PySem.W.codeIn K cd2 "are_fair" = true)
    (k2 : PySem.W.keepIn K (.ref f2) = true)
    (a3 : PySem.W.nsIn K mainGlobals "need_weight" = some (some (.ref f3)))
    (l3 : K.lookup f3 = some ⟨oc3, od3, .func (PySem.W.fnOf "need_weight" "need_weight" (defArgs sNeedW) (defBody sNeedW) (defScope sNeedW) .none kV3 dc3 pm3 an3 cd3 ct3), sl3⟩)
    (c3 : PySem.W.codeIn K cd3 "need_weight" = true)
    (k3 : PySem.W.keepIn K (.ref f3) = true)
    (a4 : PySem.W.nsIn K mainGlobals "is_pair" = some (some (.ref f4)))
    (l4 : K.lookup f4 = some ⟨oc4, od4, .func (PySem.W.fnOf "is_pair" "is_pair" (defArgs sPair) (defBody sPair) (defScope sPair) .none kV4 dc4 pm4 an4 cd4 ct4), sl4⟩)
    (c4 : PySem.W.codeIn K cd4 "is_pair" = true)
    (k4 : PySem.W.keepIn K (.ref f4) = true)
    (a5 : PySem.W.nsIn K mainGlobals "is_times" = some (some (.ref f5)))
    (l5 : K.lookup f5 = some ⟨oc5, od5, .func (PySem.W.fnOf "is_times" "is_times" (defArgs sTimes) (defBody sTimes) (defScope sTimes) .none kV5 dc5 pm5 an5 cd5 ct5), sl5⟩)
    (c5 : PySem.W.codeIn K cd5 "is_times" = true)
    (k5 : PySem.W.keepIn K (.ref f5) = true)
    (a6 : PySem.W.nsIn K mainGlobals "is_plus" = some (some (.ref f6)))
    (l6 : K.lookup f6 = some ⟨oc6, od6, .func (PySem.W.fnOf "is_plus" "is_plus" (defArgs sPlus) (defBody sPlus) (defScope sPlus) .none kV6 dc6 pm6 an6 cd6 ct6), sl6⟩)
    (c6 : PySem.W.codeIn K cd6 "is_plus" = true)
    (k6 : PySem.W.keepIn K (.ref f6) = true)
    (a7 : PySem.W.nsIn K mainGlobals "is_turn" = some (some (.ref f7)))
    (l7 : K.lookup f7 = some ⟨oc7, od7, .func (PySem.W.fnOf "is_turn" "is_turn" (defArgs sTurn) (defBody sTurn) (defScope sTurn) .none kV7 dc7 pm7 an7 cd7 ct7), sl7⟩)
    (c7 : PySem.W.codeIn K cd7 "is_turn" = true)
    (k7 : PySem.W.keepIn K (.ref f7) = true)
    (a8 : PySem.W.nsIn K mainGlobals "need_times" = some (some (.ref f8)))
    (l8 : K.lookup f8 = some ⟨oc8, od8, .func (PySem.W.fnOf "need_times" "need_times" (defArgs sNeedT) (defBody sNeedT) (defScope sNeedT) .none kV8 dc8 pm8 an8 cd8 ct8), sl8⟩)
    (c8 : PySem.W.codeIn K cd8 "need_times" = true)
    (k8 : PySem.W.keepIn K (.ref f8) = true)
    (a9 : PySem.W.nsIn K mainGlobals "has_halves" = some (some (.ref f9)))
    (l9 : K.lookup f9 = some ⟨oc9, od9, .func (PySem.W.fnOf "has_halves" "has_halves" (defArgs sHalves) (defBody sHalves) (defScope sHalves) .none kV9 dc9 pm9 an9 cd9 ct9), sl9⟩)
    (c9 : PySem.W.codeIn K cd9 "has_halves" = true)
    (k9 : PySem.W.keepIn K (.ref f9) = true)
    (a10 : PySem.W.nsIn K mainGlobals "need_halves" = some (some (.ref f10)))
    (l10 : K.lookup f10 = some ⟨oc10, od10, .func (PySem.W.fnOf "need_halves" "need_halves" (defArgs sNeedH) (defBody sNeedH) (defScope sNeedH) .none kV10 dc10 pm10 an10 cd10 ct10), sl10⟩)
    (c10 : PySem.W.codeIn K cd10 "need_halves" = true)
    (k10 : PySem.W.keepIn K (.ref f10) = true)
    (a11 : PySem.W.nsIn K mainGlobals "_law_pen" = some (some (.ref f11)))
    (l11 : K.lookup f11 = some ⟨oc11, od11, .func (PySem.W.fnOf "_law_pen" "_law_pen" (defArgs sPen) (defBody sPen) (defScope sPen) .none kV11 dc11 pm11 an11 cd11 ct11), sl11⟩)
    (c11 : PySem.W.codeIn K cd11 "_law_pen" = true)
    (k11 : PySem.W.keepIn K (.ref f11) = true)
    (a12 : PySem.W.nsIn K mainGlobals "_law_draw" = some (some (.ref f12)))
    (l12 : K.lookup f12 = some ⟨oc12, od12, .func (PySem.W.fnOf "_law_draw" "_law_draw" (defArgs sDraw) (defBody sDraw) (defScope sDraw) .none kV12 dc12 pm12 an12 cd12 ct12), sl12⟩)
    (c12 : PySem.W.codeIn K cd12 "_law_draw" = true)
    (k12 : PySem.W.keepIn K (.ref f12) = true)
    (a13 : PySem.W.nsIn K mainGlobals "_law_pick" = some (some (.ref f13)))
    (l13 : K.lookup f13 = some ⟨oc13, od13, .func (PySem.W.fnOf "_law_pick" "_law_pick" (defArgs sPick) (defBody sPick) (defScope sPick) .none kV13 dc13 pm13 an13 cd13 ct13), sl13⟩)
    (c13 : PySem.W.codeIn K cd13 "_law_pick" = true)
    (k13 : PySem.W.keepIn K (.ref f13) = true)
    (a14 : PySem.W.nsIn K mainGlobals "_law_numbers" = some (some (.ref f14)))
    (l14 : K.lookup f14 = some ⟨oc14, od14, .func (PySem.W.fnOf "_law_numbers" "_law_numbers" (defArgs sNums) (defBody sNums) (defScope sNums) .none kV14 dc14 pm14 an14 cd14 ct14), sl14⟩)
    (c14 : PySem.W.codeIn K cd14 "_law_numbers" = true)
    (k14 : PySem.W.keepIn K (.ref f14) = true)
    (a15 : PySem.W.nsIn K mainGlobals "_law_rule" = some (some (.ref f15)))
    (l15 : K.lookup f15 = some ⟨oc15, od15, .func (PySem.W.fnOf "_law_rule" "_law_rule" (defArgs sRule) (defBody sRule) (defScope sRule) .none kV15 dc15 pm15 an15 cd15 ct15), sl15⟩)
    (c15 : PySem.W.codeIn K cd15 "_law_rule" = true)
    (k15 : PySem.W.keepIn K (.ref f15) = true)
    (a16 : PySem.W.nsIn K mainGlobals "_law_fair" = some (some (.ref f16)))
    (l16 : K.lookup f16 = some ⟨oc16, od16, .func (PySem.W.fnOf "_law_fair" "_law_fair" (defArgs sLFair) (defBody sLFair) (defScope sLFair) .none kV16 dc16 pm16 an16 cd16 ct16), sl16⟩)
    (c16 : PySem.W.codeIn K cd16 "_law_fair" = true)
    (k16 : PySem.W.keepIn K (.ref f16) = true)
    (a17 : PySem.W.nsIn K mainGlobals "_law_heard" = some (some (.ref f17)))
    (l17 : K.lookup f17 = some ⟨oc17, od17, .func (PySem.W.fnOf "_law_heard" "_law_heard" (defArgs sHeard) (defBody sHeard) (defScope sHeard) .none kV17 dc17 pm17 an17 cd17 ct17), sl17⟩)
    (c17 : PySem.W.codeIn K cd17 "_law_heard" = true)
    (k17 : PySem.W.keepIn K (.ref f17) = true)
    (a18 : PySem.W.nsIn K mainGlobals "_law_weight" = some (some (.ref f18)))
    (l18 : K.lookup f18 = some ⟨oc18, od18, .func (PySem.W.fnOf "_law_weight" "_law_weight" (defArgs sWeight) (defBody sWeight) (defScope sWeight) .none kV18 dc18 pm18 an18 cd18 ct18), sl18⟩)
    (c18 : PySem.W.codeIn K cd18 "_law_weight" = true)
    (k18 : PySem.W.keepIn K (.ref f18) = true)
    (a19 : PySem.W.nsIn K mainGlobals "law" = some (some (.ref f19)))
    (l19 : K.lookup f19 = some ⟨oc19, od19, .func (PySem.W.fnOf "law" "law" (defArgs sLaw) (defBody sLaw) (defScope sLaw) .none kV19 dc19 pm19 an19 (.ref cL) ct19), sl19⟩)
    (c19 : PySem.W.codeIn K (.ref cL) "law" = true)
    (k19 : PySem.W.keepIn K (.ref f19) = true)
    (a20 : PySem.W.nsIn K mainGlobals "_law_beside_right" = some (some (.ref f20)))
    (l20 : K.lookup f20 = some ⟨oc20, od20, .func (PySem.W.fnOf "_law_beside_right" "_law_beside_right" (defArgs sBeside) (defBody sBeside) (defScope sBeside) .none kV20 dc20 pm20 an20 cd20 ct20), sl20⟩)
    (c20 : PySem.W.codeIn K cd20 "_law_beside_right" = true)
    (k20 : PySem.W.keepIn K (.ref f20) = true)
    (a21 : PySem.W.nsIn K mainGlobals "kept" = some (some (.ref f21)))
    (l21 : K.lookup f21 = some ⟨oc21, od21, .func (PySem.W.fnOf "kept" "kept" (defArgs sKept) (defBody sKept) (defScope sKept) .none kV21 dc21 pm21 an21 cd21 ct21), sl21⟩)
    (c21 : PySem.W.codeIn K cd21 "kept" = true)
    (k21 : PySem.W.keepIn K (.ref f21) = true)
    (a22 : PySem.W.nsIn K mainGlobals "parts_of" = some (some (.ref f22)))
    (l22 : K.lookup f22 = some ⟨oc22, od22, .func (PySem.W.fnOf "parts_of" "parts_of" (defArgs sParts) (defBody sParts) (defScope sParts) .none kV22 dc22 pm22 an22 cd22 ct22), sl22⟩)
    (c22 : PySem.W.codeIn K cd22 "parts_of" = true)
    (k22 : PySem.W.keepIn K (.ref f22) = true)
    (a95 : PySem.W.nsIn K mainGlobals "is_flat" = some (some (.ref f95)))
    (l95 : K.lookup f95 = some ⟨oc95, od95, .func (PySem.W.fnOf "is_flat" "is_flat" (defArgs sFlat) (defBody sFlat) (defScope sFlat) .none kV95 dc95 pm95 an95 cd95 ct95), sl95⟩)
    (c95 : PySem.W.codeIn K cd95 "is_flat" = true)
    (k95 : PySem.W.keepIn K (.ref f95) = true)
    (a96 : PySem.W.nsIn K mainGlobals "copied_deep" = some (some (.ref f96)))
    (l96 : K.lookup f96 = some ⟨oc96, od96, .func (PySem.W.fnOf "copied_deep" "copied_deep" (defArgs sCopied) (defBody sCopied) (defScope sCopied) .none kV96 dc96 pm96 an96 cd96 ct96), sl96⟩)
    (c96 : PySem.W.codeIn K cd96 "copied_deep" = true)
    (k96 : PySem.W.keepIn K (.ref f96) = true)
    (a23 : PySem.W.nsIn K mainGlobals "rebuilt" = some (some (.ref f23)))
    (l23 : K.lookup f23 = some ⟨oc23, od23, .func (PySem.W.fnOf "rebuilt" "rebuilt" (defArgs sRebuilt) (defBody sRebuilt) (defScope sRebuilt) .none kV23 dc23 pm23 an23 cd23 ct23), sl23⟩)
    (c23 : PySem.W.codeIn K cd23 "rebuilt" = true)
    (k23 : PySem.W.keepIn K (.ref f23) = true)
    (aCt : PySem.W.nsIn K mainGlobals "TryRule" = some (some (.ref Ct)))
    (aCn : PySem.W.nsIn K mainGlobals "TurnRule" = some (some (.ref Cn)))
    (aCW : PySem.W.nsIn K mainGlobals "WeightRule" = some (some (.ref CW)))
    (aCB : PySem.W.nsIn K mainGlobals "BadNumber" = some (some (.ref CB)))
    (aFE : PySem.W.nsIn K mainGlobals "FairError" = some (some (.ref FE)))
    (pgCt : PySem.W.plainGet K Ct Str.empty = true)
    (hdCt : PySem.W.hasDictIn K Ct = true)
    (poCt : PySem.W.plainOver K Ct = true)
    (saCt : PySem.W.findIn K (.ref Ct) "__setattr__" = some (some (.builtin "object.__setattr__")))
    (mkCt : PySem.W.makesIn K Ct = true)
    (kcCt : PySem.W.keepIn K (.ref Ct) = true)
    (n0Ct : PySem.W.findIn K (.ref Ct) "times" = some none)
    (n1Ct : PySem.W.findIn K (.ref Ct) "plus" = some none)
    (n2Ct : PySem.W.findIn K (.ref Ct) "turn" = some none)
    (n3Ct : PySem.W.findIn K (.ref Ct) "turn_plus" = some none)
    (hcCt : PySem.W.findIn K (.ref Ct) "__class__" = some (some (.builtin "object.__class__")))
    (moCt : PySem.W.mroIn K Ct (.type "object") = some true)
    (suCt : PySem.W.subIn K (.ref Ct) (.ref CW) = some true)
    (pgCn : PySem.W.plainGet K Cn Str.empty = true)
    (hdCn : PySem.W.hasDictIn K Cn = true)
    (poCn : PySem.W.plainOver K Cn = true)
    (saCn : PySem.W.findIn K (.ref Cn) "__setattr__" = some (some (.builtin "object.__setattr__")))
    (mkCn : PySem.W.makesIn K Cn = true)
    (kcCn : PySem.W.keepIn K (.ref Cn) = true)
    (n0Cn : PySem.W.findIn K (.ref Cn) "times" = some none)
    (n1Cn : PySem.W.findIn K (.ref Cn) "plus" = some none)
    (n2Cn : PySem.W.findIn K (.ref Cn) "turn" = some none)
    (n3Cn : PySem.W.findIn K (.ref Cn) "turn_plus" = some none)
    (hcCn : PySem.W.findIn K (.ref Cn) "__class__" = some (some (.builtin "object.__class__")))
    (moCn : PySem.W.mroIn K Cn (.type "object") = some true)
    (suCn : PySem.W.subIn K (.ref Cn) (.ref CW) = some true)
    (suTT : PySem.W.subIn K (.ref Ct) (.ref Ct) = some true)
    (icCW : PySem.W.isClsIn K CW = true)
    (icCt : PySem.W.isClsIn K Ct = true)
    (icCB : PySem.W.isClsIn K CB = true)
    (icFE : PySem.W.isClsIn K FE = true)
    (ttCW : PySem.W.typeIn K (.ref CW) = some (.type "type"))
    (ttCt : PySem.W.typeIn K (.ref Ct) = some (.type "type"))
    (ttFE : PySem.W.typeIn K (.ref FE) = some (.type "type"))
    (suBB : PySem.W.subIn K (.ref CB) (.ref CB) = some true)
    (suBF : PySem.W.subIn K (.ref CB) (.ref FE) = some true)
    (suFX : PySem.W.subIn K (.ref FE) (.type "BaseException") = some true)
    (suBV : PySem.W.subIn K (.ref CB) (.type "ValueError") = some true)
    (gaB : PySem.W.findIn K (.ref CB) "__getattribute__" = some (some (.builtin "BaseException.__getattribute__")))
    (ggB : PySem.W.findIn K (.ref CB) "__getattr__" = some none)
    (hdB : PySem.W.hasDictIn K CB = true)
    (hcB : PySem.W.findIn K (.ref CB) "__class__" = some (some (.builtin "object.__class__")))
    (moB : PySem.W.mroIn K CB (.type "object") = some true)
    (hdL : PySem.W.codeHdIn K cL (tabAt K cL) = true)
    (noT : K.lookup (tabAt K cL) = none)
    (ikn : PySem.W.specialIn K (.builtin "object.__class__") "__get__" = some (some (.builtin "getset_descriptor.__get__")))
    (ikt : PySem.W.takesIn K (.builtin "object.__class__") = some true)
    (m30 : PySem.W.findIn K (.ref Ct) "__init__" = some (some (.ref f30)))
    (i30 : PySem.W.isFn K (.ref f30) = true)
    (l30 : K.lookup f30 = some ⟨oc30, od30, .func (PySem.W.fnOf "__init__" "TryRule.__init__" (defArgs sTryInit) (defBody sTryInit) (defScope sTryInit) (.ref T30) kV30 dc30 pm30 an30 cd30 ct30), sl30⟩)
    (c30 : PySem.W.codeIn K cd30 "TryRule.__init__" = true)
    (k30 : PySem.W.keepIn K (.ref f30) = true)
    (t30 : K.lookup T30 = some ⟨tc30, td30, .seq #[Value.int 0 tt30] tn30, ts30⟩)
    (m33 : PySem.W.findIn K (.ref Cn) "__init__" = some (some (.ref f33)))
    (i33 : PySem.W.isFn K (.ref f33) = true)
    (l33 : K.lookup f33 = some ⟨oc33, od33, .func (PySem.W.fnOf "__init__" "TurnRule.__init__" (defArgs sTurnInit) (defBody sTurnInit) (defScope sTurnInit) (.ref T33) kV33 dc33 pm33 an33 cd33 ct33), sl33⟩)
    (c33 : PySem.W.codeIn K cd33 "TurnRule.__init__" = true)
    (k33 : PySem.W.keepIn K (.ref f33) = true)
    (t33 : K.lookup T33 = some ⟨tc33, td33, .seq #[Value.int 0 tt33] tn33, ts33⟩)
    (m35 : PySem.W.findIn K (.ref Ct) "greatest" = some (some (.ref f35)))
    (i35 : PySem.W.isFn K (.ref f35) = true)
    (l35 : K.lookup f35 = some ⟨oc35, od35, .func (PySem.W.fnOf "greatest" "WeightRule.greatest" (defArgs sGreatest) (defBody sGreatest) (defScope sGreatest) .none kV35 dc35 pm35 an35 cd35 ct35), sl35⟩)
    (c35 : PySem.W.codeIn K cd35 "WeightRule.greatest" = true)
    (k35 : PySem.W.keepIn K (.ref f35) = true)
    (m37 : PySem.W.findIn K (.ref Ct) "least" = some (some (.ref f37)))
    (i37 : PySem.W.isFn K (.ref f37) = true)
    (l37 : K.lookup f37 = some ⟨oc37, od37, .func (PySem.W.fnOf "least" "WeightRule.least" (defArgs sLeast) (defBody sLeast) (defScope sLeast) .none kV37 dc37 pm37 an37 cd37 ct37), sl37⟩)
    (c37 : PySem.W.codeIn K cd37 "WeightRule.least" = true)
    (k37 : PySem.W.keepIn K (.ref f37) = true)
    (m38 : PySem.W.findIn K (.ref Ct) "__call__" = some (some (.ref f38)))
    (i38 : PySem.W.isFn K (.ref f38) = true)
    (l38 : K.lookup f38 = some ⟨oc38, od38, .func (PySem.W.fnOf "__call__" "WeightRule.__call__" (defArgs sCall) (defBody sCall) (defScope sCall) .none kV38 dc38 pm38 an38 cd38 ct38), sl38⟩)
    (c38 : PySem.W.codeIn K cd38 "WeightRule.__call__" = true)
    (k38 : PySem.W.keepIn K (.ref f38) = true)
    (m39 : PySem.W.findIn K (.ref CB) "__init__" = some (some (.ref f39)))
    (i39 : PySem.W.isFn K (.ref f39) = true)
    (l39 : K.lookup f39 = some ⟨oc39, od39, .func (PySem.W.fnOf "__init__" "BadNumber.__init__" (defArgs sBNInit) (defBody sBNInit) (defScope sBNInit) .none kV39 dc39 pm39 an39 cd39 ct39), sl39⟩)
    (c39 : PySem.W.codeIn K cd39 "BadNumber.__init__" = true)
    (k39 : PySem.W.keepIn K (.ref f39) = true)
    (m36 : PySem.W.findIn K (.ref Cn) "greatest" = some (some (.ref f35)))
    (m47 : PySem.W.findIn K (.ref Cn) "least" = some (some (.ref f37)))
    (m48 : PySem.W.findIn K (.ref Cn) "__call__" = some (some (.ref f38)))
    (fi38 : PySem.W.fnIn K f38 = true)
    (ty39 : PySem.W.typeIn K (.ref f39) = some (.type "function"))
    (lN : K.lookup CB = some (excClassObj nmN qN CB nsN bsN bmN true snN subN abN colN ddN k0N k1N k2N k3N k5N "ValueError.__new__"))
    (rN : PySem.HandSPX.refsVE bmN = true)
    (saN : PySem.W.findIn K (.ref CB) "__setattr__" = some (some (.builtin "object.__setattr__")))
    (exN : PySem.W.subIn K (.ref CB) (.type "BaseException") = some true)
    (tyN : PySem.W.typeIn K (.ref CB) = some (.type "type"))
    (kN : PySem.W.keepIn K (.ref CB) = true)
    (noN : PySem.W.findIn K (.ref CB) "value" = some none)
    (rdW : PySem.W.readsIn K CW (.type "type") = true)
    (gaW : PySem.W.specialIn K (.ref CW) "__getattribute__" = some (some (.builtin "type.__getattribute__")))
    (cvW : PySem.W.findCls K (.ref CW) (.type "type") "MOST" = some (.val (.int 6 tW)))
    (hgP : PySem.W.nsIn K mainGlobals "MOST_PLUS" = some (some (.int 6 tP)))
    (hgT : PySem.W.nsIn K mainGlobals "MOST_TURN" = some (some (.int 8 tT)))
    (hgM : PySem.W.nsIn K mainGlobals "MOST_WEIGHT" = some (some (.int (10 ^ 60) tM)))
    (zint : PySem.W.nsIn K mainGlobals "int" = some none)
    (zlen : PySem.W.nsIn K mainGlobals "len" = some none)
    (zabs : PySem.W.nsIn K mainGlobals "abs" = some none)
    (zlist : PySem.W.nsIn K mainGlobals "list" = some none)
    (zmin : PySem.W.nsIn K mainGlobals "min" = some none)
    (zmax : PySem.W.nsIn K mainGlobals "max" = some none)
    (zisinstance : PySem.W.nsIn K mainGlobals "isinstance" = some none)
    (zbool : PySem.W.nsIn K mainGlobals "bool" = some none)
    (ztuple : PySem.W.nsIn K mainGlobals "tuple" = some none)
    (zall : PySem.W.nsIn K mainGlobals "all" = some none)
    (zrange : PySem.W.nsIn K mainGlobals "range" = some none)
    (zrepr : PySem.W.nsIn K mainGlobals "repr" = some none)
    (zany : PySem.W.nsIn K mainGlobals "any" = some none)
    (zdict : PySem.W.nsIn K mainGlobals "dict" = some none)
    (zzip : PySem.W.nsIn K mainGlobals "zip" = some none)
    (zValueError : PySem.W.nsIn K mainGlobals "ValueError" = some none)
    (a90 : PySem.W.nsIn K mainGlobals "greatest_beside" = some (some (.ref f90)))
    (l90 : K.lookup f90 = some ⟨oc90, od90, .func (PySem.W.fnOf "greatest_beside" "greatest_beside" (defArgs sGreatB) (defBody sGreatB) (defScope sGreatB) .none kV90 dc90 pm90 an90 cd90 ct90), sl90⟩)
    (c90 : PySem.W.codeIn K cd90 "greatest_beside" = true)
    (k90 : PySem.W.keepIn K (.ref f90) = true)
    (a91 : PySem.W.nsIn K mainGlobals "least_beside" = some (some (.ref f91)))
    (l91 : K.lookup f91 = some ⟨oc91, od91, .func (PySem.W.fnOf "least_beside" "least_beside" (defArgs sLeastB) (defBody sLeastB) (defScope sLeastB) .none kV91 dc91 pm91 an91 cd91 ct91), sl91⟩)
    (c91 : PySem.W.codeIn K cd91 "least_beside" = true)
    (k91 : PySem.W.keepIn K (.ref f91) = true) :
    ∃ (fd : FuncData) (sp : Sp) (c T : Addr) (o : Obj), (∀ (s : Shared) (u : Value), BindsTo s fd ⟨[u], []⟩ [("_law_script", u)]) ∧ K.lookup fa = some o ∧ o.data = .func fd ∧ fd.code = .ref c ∧ PySem.W.codeHdIn K c T = true ∧ K.lookup T = none ∧
      (∀ (H : Hp) (a : Addr) (ns : List Int), ns.length ≤ 63 → H T = some (.tbl #[]) → SqL K H a (ns.map V.int) → sp [.ref a] H (fun v _ => v = .bl true) fun _ _ _ => False) ∧
      ∀ base : Heap, K.In base → base.Ns mainGlobals mg → TabB base mg c T → FnG l.prog w K mg base 10 fa fd ["_law_script"] sp := by
  have e := hfa.symm.trans (PySem.W.mg_of X G a19)
  cases e
  have F0 := fun_mk (st := sIsInt) l0 c0 k0
  have b0 := F0.binds (ps := ["value"]) fun _ _ _ _ _ _ us hl => match us, hl with | [_], _ => rfl
  have F1 := fun_mk (st := sWithin) l1 c1 k1
  have b1 := F1.binds (ps := ["value", "least", "most"]) fun _ _ _ _ _ _ us hl => match us, hl with | [_, _, _], _ => rfl
  have F2 := fun_mk (st := sFair) l2 c2 k2
  have b2 := F2.binds (ps := ["rule", "x", "y"]) fun _ _ _ _ _ _ us hl => match us, hl with | [_, _, _], _ => rfl
  have F3 := fun_mk (st := sNeedW) l3 c3 k3
  have b3 := F3.binds (ps := ["value"]) fun _ _ _ _ _ _ us hl => match us, hl with | [_], _ => rfl
  have F4 := fun_mk (st := sPair) l4 c4 k4
  have b4 := F4.binds (ps := ["value", "most"]) fun _ _ _ _ _ _ us hl => match us, hl with | [_, _], _ => rfl
  have F5 := fun_mk (st := sTimes) l5 c5 k5
  have b5 := F5.binds (ps := ["value"]) fun _ _ _ _ _ _ us hl => match us, hl with | [_], _ => rfl
  have F6 := fun_mk (st := sPlus) l6 c6 k6
  have b6 := F6.binds (ps := ["value"]) fun _ _ _ _ _ _ us hl => match us, hl with | [_], _ => rfl
  have F7 := fun_mk (st := sTurn) l7 c7 k7
  have b7 := F7.binds (ps := ["value"]) fun _ _ _ _ _ _ us hl => match us, hl with | [_], _ => rfl
  have F8 := fun_mk (st := sNeedT) l8 c8 k8
  have b8 := F8.binds (ps := ["times", "plus"]) fun _ _ _ _ _ _ us hl => match us, hl with | [_, _], _ => rfl
  have F9 := fun_mk (st := sHalves) l9 c9 k9
  have b9 := F9.binds (ps := ["times", "plus"]) fun _ _ _ _ _ _ us hl => match us, hl with | [_, _], _ => rfl
  have F10 := fun_mk (st := sNeedH) l10 c10 k10
  have b10 := F10.binds (ps := ["times", "plus"]) fun _ _ _ _ _ _ us hl => match us, hl with | [_, _], _ => rfl
  have F11 := fun_mk (st := sPen) l11 c11 k11
  have b11 := F11.binds (ps := ["_law_script"]) fun _ _ _ _ _ _ us hl => match us, hl with | [_], _ => rfl
  have F12 := fun_mk (st := sDraw) l12 c12 k12
  have b12 := F12.binds (ps := ["_law_pen_here", "_law_many"]) fun _ _ _ _ _ _ us hl => match us, hl with | [_, _], _ => rfl
  have F13 := fun_mk (st := sPick) l13 c13 k13
  have b13 := F13.binds (ps := ["_law_pen_here", "_law_some"]) fun _ _ _ _ _ _ us hl => match us, hl with | [_, _], _ => rfl
  have F14 := fun_mk (st := sNums) l14 c14 k14
  have b14 := F14.binds (ps := ["_law_pen_here"]) fun _ _ _ _ _ _ us hl => match us, hl with | [_], _ => rfl
  have F15 := fun_mk (st := sRule) l15 c15 k15
  have b15 := F15.binds (ps := ["_law_some"]) fun _ _ _ _ _ _ us hl => match us, hl with | [_], _ => rfl
  have F16 := fun_mk (st := sLFair) l16 c16 k16
  have b16 := F16.binds (ps := ["_law_some", "_law_one", "_law_other"]) fun _ _ _ _ _ _ us hl => match us, hl with | [_, _, _], _ => rfl
  have F17 := fun_mk (st := sHeard) l17 c17 k17
  have b17 := F17.binds (ps := ["_law_ask"]) fun _ _ _ _ _ _ us hl => match us, hl with | [_], _ => rfl
  have F18 := fun_mk (st := sWeight) l18 c18 k18
  have b18 := F18.binds (ps := ["_law_pen_here"]) fun _ _ _ _ _ _ us hl => match us, hl with | [_], _ => rfl
  have F19 := fun_mk (st := sLaw) l19 c19 k19
  have b19 := F19.binds (ps := ["_law_script"]) fun _ _ _ _ _ _ us hl => match us, hl with | [_], _ => rfl
  have F20 := fun_mk (st := sBeside) l20 c20 k20
  have b20 := F20.binds (ps := ["_law_rule_so", "_law_some", "_law_weight_so"]) fun _ _ _ _ _ _ us hl => match us, hl with | [_, _, _], _ => rfl
  have F21 := fun_mk (st := sKept) l21 c21 k21
  have b21 := F21.binds (ps := ["value"]) fun _ _ _ _ _ _ us hl => match us, hl with | [_], _ => rfl
  have F22 := fun_mk (st := sParts) l22 c22 k22
  have b22 := F22.binds (ps := ["value"]) fun _ _ _ _ _ _ us hl => match us, hl with | [_], _ => rfl
  have F95 := fun_mk (st := sFlat) l95 c95 k95
  have b95 := F95.binds (ps := ["value"]) fun _ _ _ _ _ _ us hl => match us, hl with | [_], _ => rfl
  have F96 := fun_mk (st := sCopied) l96 c96 k96
  have b96 := F96.binds (ps := ["value"]) fun _ _ _ _ _ _ us hl => match us, hl with | [_], _ => rfl
  have F23 := fun_mk (st := sRebuilt) l23 c23 k23
  have b23 := F23.binds (ps := ["value", "parts"]) fun _ _ _ _ _ _ us hl => match us, hl with | [_, _], _ => rfl
  have F35 := fun_mk (st := sGreatest) l35 c35 k35
  have b35 := F35.binds (ps := ["self", "x"]) fun _ _ _ _ _ _ us hl => match us, hl with | [_, _], _ => rfl
  have F37 := fun_mk (st := sLeast) l37 c37 k37
  have b37 := F37.binds (ps := ["self", "y"]) fun _ _ _ _ _ _ us hl => match us, hl with | [_, _], _ => rfl
  have F38 := fun_mk (st := sCall) l38 c38 k38
  have b38 := F38.binds (ps := ["self", "x", "y"]) fun _ _ _ _ _ _ us hl => match us, hl with | [_, _, _], _ => rfl
  have F39 := fun_mk (st := sBNInit) l39 c39 k39
  have b39 := F39.binds (ps := ["self", "value"]) fun _ _ _ _ _ _ us hl => match us, hl with | [_, _], _ => rfl
  have T : Blt mg := ⟨PySem.W.mg_none_of X G zint, PySem.W.mg_none_of X G zlen, PySem.W.mg_none_of X G zabs, PySem.W.mg_none_of X G zlist, PySem.W.mg_none_of X G zmin, PySem.W.mg_none_of X G zmax, PySem.W.mg_none_of X G zisinstance, PySem.W.mg_none_of X G zbool, PySem.W.mg_none_of X G ztuple, PySem.W.mg_none_of X G zall, PySem.W.mg_none_of X G zrange, PySem.W.mg_none_of X G zrepr⟩
  have RT : RCls K Ct := ⟨⟨pgCt, hdCt, poCt, saCt⟩, n0Ct, n1Ct, n2Ct, n3Ct⟩
  have RN : RCls K Cn := ⟨⟨pgCn, hdCn, poCn, saCn⟩, n0Cn, n1Cn, n2Cn, n3Cn⟩
  have ik : InsK K := ⟨ikn, ikt⟩
  have D30 : FunD K "__init__" "TryRule.__init__" (defArgs sTryInit) (defBody sTryInit) (defScope sTryInit) [.int 0] [] f30 _ := ⟨⟨_, _, _, _, _, _, _, _, _, _, rfl, l30, c30, .inr ⟨by simp, T30, _, [Value.int 0 tt30], tn30, rfl, t30, rfl, .cons ⟨_, rfl⟩ .nil⟩, .inl rfl⟩, k30⟩
  have D33 : FunD K "__init__" "TurnRule.__init__" (defArgs sTurnInit) (defBody sTurnInit) (defScope sTurnInit) [.int 0] [] f33 _ := ⟨⟨_, _, _, _, _, _, _, _, _, _, rfl, l33, c33, .inr ⟨by simp, T33, _, [Value.int 0 tt33], tn33, rfl, t33, rfl, .cons ⟨_, rfl⟩ .nil⟩, .inl rfl⟩, k33⟩
  obtain ⟨ds30, v30, b30⟩ := FunD.binds1 (ps := ["self", "times", "plus"]) D30 3 1 (by simp) rfl (fun _ _ _ _ _ _ _ us its h1 h2 => match us, its, h1, h2 with | [_, _, _], [_], _, _ => ⟨_, rfl, rfl⟩)
  cases v30
  obtain ⟨its33, b33⟩ := FunD.kbindsD (ps := ["self", "times", "plus", "turn", "turn_plus"]) D33 3 ["turn", "turn_plus"] (fun us _ ws => us ++ ws) (by simp) (fun r1 _ r2 => r1.append r2)
    (fun _ _ _ _ _ _ _ us its ws h1 h2 h3 => match us, its, ws, h1, h2, h3 with | [_, _, _], [_], [_, _], _, _, _ => ⟨_, rfl, rfl⟩)
  obtain ⟨dsT, vT, bT0⟩ := FunD.binds1 (ps := ["self", "times", "plus"]) D30 2 0 (by simp) rfl (fun _ _ _ _ _ _ _ us its h1 h2 => match us, its, h1, h2 with | [_, _], [_], _, _ => ⟨_, rfl, rfl⟩)
  refine ⟨PySem.W.fnOf "law" "law" (defArgs sLaw) (defBody sLaw) (defScope sLaw) .none kV19 dc19 pm19 an19 (.ref cL) ct19, spLawT K (tabAt K cL), cL, tabAt K cL, _, fun s v => .of_eq rfl, l19, rfl, rfl, hdL, noT, fun H a ns hl hT hS => ⟨a, ns, rfl, hS, hl, hT, fun _ => rfl⟩, fun base _ _ TB => ?_⟩
  have d0 : Df l.prog w K mg base 1 "is_integer" ["value"] _ := ⟨f0, _, ok_isInt F0 T, PySem.W.mg_of X G a0, F0.kp, b0⟩
  obtain ⟨_, _, GI, gI, kI, bI⟩ := d0.ex
  have d1 : Df l.prog w K mg base 2 "is_within" ["value", "least", "most"] _ := ⟨f1, _, ok_within F1 T GI gI kI bI, PySem.W.mg_of X G a1, F1.kp, b1⟩
  have d0a : Df l.prog w K mg base 1 "is_integer" ["value"] _ := ⟨f0, _, ok_isIntA F0 T, PySem.W.mg_of X G a0, F0.kp, b0⟩
  have d1a : Df l.prog w K mg base 2 "is_within" ["value", "least", "most"] _ := ⟨f1, _, ok_withinA F1 d0a, PySem.W.mg_of X G a1, F1.kp, b1⟩
  have d2 : Df l.prog w K mg base 1 "are_fair" ["rule", "x", "y"] _ := ⟨f2, _, ok_fair F2, PySem.W.mg_of X G a2, F2.kp, b2⟩
  have d22 : Df l.prog w K mg base 1 "parts_of" ["value"] _ := ⟨f22, _, ok_partsV F22 T (PySem.W.mg_none_of X G zdict), PySem.W.mg_of X G a22, F22.kp, b22⟩
  have d23 : Df l.prog w K mg base 1 "rebuilt" ["value", "parts"] _ := ⟨f23, _, ok_rebuilt F23 T (PySem.W.mg_none_of X G zdict) (PySem.W.mg_none_of X G zzip), PySem.W.mg_of X G a23, F23.kp, b23⟩
  have d95 : Df l.prog w K mg base 2 "is_flat" ["value"] _ := ⟨f95, _, ok_flat F95 T (PySem.W.mg_none_of X G zdict), PySem.W.mg_of X G a95, F95.kp, b95⟩
  have d96 : Df l.prog w K mg base 2 "copied_deep" ["value"] _ := ⟨f96, _, ok_copied F96 T (PySem.W.mg_none_of X G zdict) (PySem.W.mg_none_of X G zany) d22 d23, PySem.W.mg_of X G a96, F96.kp, b96⟩
  have d21 : Df l.prog w K mg base 3 "kept" ["value"] _ := ⟨f21, _, ok_keptV F21 T (PySem.W.mg_none_of X G zdict) d95 d96, PySem.W.mg_of X G a21, F21.kp, b21⟩
  have oB : OexC K CB := ⟨⟨_, _, _, _, _, _, _, _, _, _, _, _, _, _, _, lN, rN⟩, saN, exN, tyN, kN⟩
  have G39 := ok_bn (P := l.prog) (w := w) (mg := mg) (base := base) F39 oB noN d21
  have EB : ErrC l.prog w K mg base "BadNumber" "value" CB := ⟨oB, PySem.W.mg_of X G aCB, _, _, m39, ty39, G39, b39⟩
  have d3x : DfX l.prog w K mg base 6 "need_weight" ["value"] _ := ⟨f3, _, ok_needWA F3 d1a (PySem.W.mg_of X G hgM) EB, PySem.W.mg_of X G a3, F3.kp, b3⟩
  have d4 : Df l.prog w K mg base 3 "is_pair" ["value", "most"] _ := ⟨f4, _, ok_pair F4 T d1, PySem.W.mg_of X G a4, F4.kp, b4⟩
  have d5 : Df l.prog w K mg base 4 "is_times" ["value"] _ := ⟨f5, _, ok_times F5 d4 (PySem.W.mg_of X G aCW) ⟨rdW, gaW⟩ ⟨cvW, ⟨_, rfl⟩⟩, PySem.W.mg_of X G a5, F5.kp, b5⟩
  have d6 : Df l.prog w K mg base 3 "is_plus" ["value"] _ := ⟨f6, _, ok_plus F6 d1 (PySem.W.mg_of X G hgP), PySem.W.mg_of X G a6, F6.kp, b6⟩
  have d7 : Df l.prog w K mg base 4 "is_turn" ["value"] _ := ⟨f7, _, ok_turn F7 d4 (PySem.W.mg_of X G hgT), PySem.W.mg_of X G a7, F7.kp, b7⟩
  have d8 : Df l.prog w K mg base 5 "need_times" ["times", "plus"] _ := ⟨f8, _, ok_needT F8 d5 d6, PySem.W.mg_of X G a8, F8.kp, b8⟩
  have d9 : Df l.prog w K mg base 1 "has_halves" ["times", "plus"] _ := ⟨f9, _, ok_halves F9, PySem.W.mg_of X G a9, F9.kp, b9⟩
  have d10 : Df l.prog w K mg base 2 "need_halves" ["times", "plus"] _ := ⟨f10, _, ok_needH F10 d9, PySem.W.mg_of X G a10, F10.kp, b10⟩
  have d11 : Df l.prog w K mg base 1 "_law_pen" ["_law_script"] _ := ⟨f11, _, ok_pen F11 T, PySem.W.mg_of X G a11, F11.kp, b11⟩
  have d12 : Df l.prog w K mg base 1 "_law_draw" ["_law_pen_here", "_law_many"] _ := ⟨f12, _, ok_draw F12 T, PySem.W.mg_of X G a12, F12.kp, b12⟩
  have d13 : Df l.prog w K mg base 2 "_law_pick" ["_law_pen_here", "_law_some"] _ := ⟨f13, _, ok_pick F13 T d12, PySem.W.mg_of X G a13, F13.kp, b13⟩
  have d14 : Df l.prog w K mg base 3 "_law_numbers" ["_law_pen_here"] _ := ⟨f14, _, ok_nums F14 T d12 d13, PySem.W.mg_of X G a14, F14.kp, b14⟩
  have GT0 := ok_tryInit (P := l.prog) (w := w) (mg := mg) (base := base) D30 RT d8 d10
  have GN0 := ok_turnInit (P := l.prog) (w := w) (mg := mg) (base := base) D33 RN d8 d10 d7 d6
  have MTT : Mk K Ct f30 := ⟨mkCt, m30, i30, kcCt⟩
  have d15 : Df l.prog w K mg base 8 "_law_rule" ["_law_some"] _ := ⟨f15, _, ok_rule F15 T (PySem.W.mg_of X G aCt) (PySem.W.mg_of X G aCn) MTT ⟨mkCn, m33, i33, kcCn⟩ GT0 b30 GN0 b33, PySem.W.mg_of X G a15, F15.kp, b15⟩
  have d16 : Df l.prog w K mg base 1 "_law_fair" ["_law_some", "_law_one", "_law_other"] _ := ⟨f16, _, ok_lfair F16, PySem.W.mg_of X G a16, F16.kp, b16⟩
  have d18 : Df l.prog w K mg base 3 "_law_weight" ["_law_pen_here"] _ := ⟨f18, _, ok_weight F18 T d12 d13, PySem.W.mg_of X G a18, F18.kp, b18⟩
  have F90 := fun_mk (st := sGreatB) l90 c90 k90
  have b90 := F90.binds (ps := ["rule", "x"]) fun _ _ _ _ _ _ us hl => match us, hl with | [_, _], _ => rfl
  have d90 : Df l.prog w K mg base 1 "greatest_beside" ["rule", "x"] _ := ⟨f90, _, ok_greatB F90, PySem.W.mg_of X G a90, F90.kp, b90⟩
  have G35 := ok_greatA F35 d3x d90
  have F91 := fun_mk (st := sLeastB) l91 c91 k91
  have b91 := F91.binds (ps := ["rule", "y"]) fun _ _ _ _ _ _ us hl => match us, hl with | [_, _], _ => rfl
  have d91 : Df l.prog w K mg base 1 "least_beside" ["rule", "y"] _ := ⟨f91, _, ok_leastB F91 T, PySem.W.mg_of X G a91, F91.kp, b91⟩
  have G37 := ok_leastA F37 T d3x d91
  have G38 := ok_callA F38 d3x d2
  have kb35 := kb_gP (y := "x") F35 (fun _ _ _ _ _ _ _ _ => rfl)
  have kb37 := kb_gP (y := "y") F37 (fun _ _ _ _ _ _ _ _ => rfl)
  have kb38 := kb_gYX F38 (fun _ _ _ _ _ _ _ _ _ => rfl)
  have MT : RMethA l.prog w K mg base Ct CW CB := ⟨RT, ⟨_, _, G35, b35, ⟨m35, i35, k35⟩, kb35⟩, ⟨_, _, G37, b37, ⟨m37, i37, k37⟩, kb37⟩, ⟨_, _, G38, b38, ⟨m38, i38, fi38⟩, kb38⟩, hcCt, moCt, kit_own icCW ttCW suCt⟩
  have MN : RMethA l.prog w K mg base Cn CW CB := ⟨RN, ⟨_, _, G35, b35, ⟨m36, i35, k35⟩, kb35⟩, ⟨_, _, G37, b37, ⟨m47, i37, k37⟩, kb37⟩, ⟨_, _, G38, b38, ⟨m48, i38, fi38⟩, kb38⟩, hcCn, moCn, kit_own icCW ttCW suCn⟩
  have G20 := ok_beside F20 T (PySem.W.mg_none_of X G zrepr) (PySem.W.mg_of X G aCW) MT MN ik d16
  have HB : HeldC K CB := ⟨icCB, gaB, ggB, exN, hdB, hcB, ikn, ikt, moB⟩
  exact ok_law F19 T rfl TB (PySem.W.mg_none_of X G zrepr) (PySem.W.mg_none_of X G zValueError) MT MN MTT GT0 (PySem.W.mg_of X G aCt) vT bT0 d12 d13 d14 d15 d16 d11 d18 G20 (PySem.W.mg_of X G a20) k20 b20 F17 (PySem.W.mg_of X G a17) b17 (PySem.W.mg_of X G aFE) (PySem.W.mg_of X G aCB) HB noN (exm_own icFE ttFE suBF suFX) (kit_own icCB tyN suBB) (kit_bty suBV)
end Ev
open PySem PySem.W PyProof.Rows
set_option maxRecDepth 100000 in
set_option maxHeartbeats 0 in
theorem PySem.Challenge.cw_evenrules_k16_weights_that_are_fair_holds : PySem.Challenge.rw_evenrules_k16_weights_that_are_fair.Holds := by
  exact hd (by
    k_fill
    refine Ev.walk_ofGTK (l := PySem.Challenge.rw_evenrules_k16_weights_that_are_fair) (n := 63) (k := 10) (x := "_law_script") rfl (by decide) rfl ⟨rfl, by decide, by decide⟩ (by kernel_rfl) (fun w h Y => PySem.W.km_in_of Y) ?F
    case F =>
      intro w mg fa h KX G hmg
      refine' Ev.all_mk KX G hmg ?a0 ?l0 ?c0 ?k0 ?a1 ?l1 ?c1 ?k1 ?a2 ?l2 ?c2 ?k2 ?a3 ?l3 ?c3 ?k3 ?a4 ?l4 ?c4 ?k4 ?a5 ?l5 ?c5 ?k5 ?a6 ?l6 ?c6 ?k6 ?a7 ?l7 ?c7 ?k7 ?a8 ?l8 ?c8 ?k8 ?a9 ?l9 ?c9 ?k9 ?a10 ?l10 ?c10 ?k10 ?a11 ?l11 ?c11 ?k11 ?a12 ?l12 ?c12 ?k12 ?a13 ?l13 ?c13 ?k13 ?a14 ?l14 ?c14 ?k14 ?a15 ?l15 ?c15 ?k15 ?a16 ?l16 ?c16 ?k16 ?a17 ?l17 ?c17 ?k17 ?a18 ?l18 ?c18 ?k18 ?a19 ?l19 ?c19 ?k19 ?a20 ?l20 ?c20 ?k20 ?a21 ?l21 ?c21 ?k21 ?a22 ?l22 ?c22 ?k22 ?a95 ?l95 ?c95 ?k95 ?a96 ?l96 ?c96 ?k96 ?a23 ?l23 ?c23 ?k23 ?aCt ?aCn ?aCW ?aCB ?aFE ?pgCt ?hdCt ?poCt ?saCt ?mkCt ?kcCt ?n0Ct ?n1Ct ?n2Ct ?n3Ct ?hcCt ?moCt ?suCt ?pgCn ?hdCn ?poCn ?saCn ?mkCn ?kcCn ?n0Cn ?n1Cn ?n2Cn ?n3Cn ?hcCn ?moCn ?suCn ?suTT ?icCW ?icCt ?icCB ?icFE ?ttCW ?ttCt ?ttFE ?suBB ?suBF ?suFX ?suBV ?gaB ?ggB ?hdB ?hcB ?moB ?hdL ?noT ?ikn ?ikt ?m30 ?i30 ?l30 ?c30 ?k30 ?t30 ?m33 ?i33 ?l33 ?c33 ?k33 ?t33 ?m35 ?i35 ?l35 ?c35 ?k35 ?m37 ?i37 ?l37 ?c37 ?k37 ?m38 ?i38 ?l38 ?c38 ?k38 ?m39 ?i39 ?l39 ?c39 ?k39 ?m36 ?m47 ?m48 ?fi38 ?ty39 ?lN ?rN ?saN ?exN ?tyN ?kN ?noN ?rdW ?gaW ?cvW ?hgP ?hgT ?hgM ?zint ?zlen ?zabs ?zlist ?zmin ?zmax ?zisinstance ?zbool ?ztuple ?zall ?zrange ?zrepr ?zany ?zdict ?zzip ?zValueError ?a90 ?l90 ?c90 ?k90 ?a91 ?l91 ?c91 ?k91
      (case a0 => k_is)
      (case l0 => k_is)
      (case c0 => k_is)
      (case k0 => k_is)
      (case a1 => k_is)
      (case l1 => k_is)
      (case c1 => k_is)
      (case k1 => k_is)
      (case a2 => k_is)
      (case l2 => k_is)
      (case c2 => k_is)
      (case k2 => k_is)
      (case a3 => k_is)
      (case l3 => k_is)
      (case c3 => k_is)
      (case k3 => k_is)
      (case a4 => k_is)
      (case l4 => k_is)
      (case c4 => k_is)
      (case k4 => k_is)
      (case a5 => k_is)
      (case l5 => k_is)
      (case c5 => k_is)
      (case k5 => k_is)
      (case a6 => k_is)
      (case l6 => k_is)
      (case c6 => k_is)
      (case k6 => k_is)
      (case a7 => k_is)
      (case l7 => k_is)
      (case c7 => k_is)
      (case k7 => k_is)
      (case a8 => k_is)
      (case l8 => k_is)
      (case c8 => k_is)
      (case k8 => k_is)
      (case a9 => k_is)
      (case l9 => k_is)
      (case c9 => k_is)
      (case k9 => k_is)
      (case a10 => k_is)
      (case l10 => k_is)
      (case c10 => k_is)
      (case k10 => k_is)
      (case a11 => k_is)
      (case l11 => k_is)
      (case c11 => k_is)
      (case k11 => k_is)
      (case a12 => k_is)
      (case l12 => k_is)
      (case c12 => k_is)
      (case k12 => k_is)
      (case a13 => k_is)
      (case l13 => k_is)
      (case c13 => k_is)
      (case k13 => k_is)
      (case a14 => k_is)
      (case l14 => k_is)
      (case c14 => k_is)
      (case k14 => k_is)
      (case a15 => k_is)
      (case l15 => k_is)
      (case c15 => k_is)
      (case k15 => k_is)
      (case a16 => k_is)
      (case l16 => k_is)
      (case c16 => k_is)
      (case k16 => k_is)
      (case a17 => k_is)
      (case l17 => k_is)
      (case c17 => k_is)
      (case k17 => k_is)
      (case a18 => k_is)
      (case l18 => k_is)
      (case c18 => k_is)
      (case k18 => k_is)
      (case a19 => k_is)
      (case l19 => k_is)
      (case c19 => k_is)
      (case k19 => k_is)
      (case a20 => k_is)
      (case l20 => k_is)
      (case c20 => k_is)
      (case k20 => k_is)
      (case a21 => k_is)
      (case l21 => k_is)
      (case c21 => k_is)
      (case k21 => k_is)
      (case a22 => k_is)
      (case l22 => k_is)
      (case c22 => k_is)
      (case k22 => k_is)
      (case a95 => k_is)
      (case l95 => k_is)
      (case c95 => k_is)
      (case k95 => k_is)
      (case a96 => k_is)
      (case l96 => k_is)
      (case c96 => k_is)
      (case k96 => k_is)
      (case a23 => k_is)
      (case l23 => k_is)
      (case c23 => k_is)
      (case k23 => k_is)
      (case aCt => k_is)
      (case aCn => k_is)
      (case aCW => k_is)
      (case aCB => k_is)
      (case aFE => k_is)
      (case pgCt => k_is)
      (case hdCt => k_is)
      (case poCt => k_is)
      (case saCt => k_is)
      (case mkCt => k_is)
      (case kcCt => k_is)
      (case n0Ct => k_is)
      (case n1Ct => k_is)
      (case n2Ct => k_is)
      (case n3Ct => k_is)
      (case hcCt => k_is)
      (case moCt => k_is)
      (case suCt => k_is)
      (case pgCn => k_is)
      (case hdCn => k_is)
      (case poCn => k_is)
      (case saCn => k_is)
      (case mkCn => k_is)
      (case kcCn => k_is)
      (case n0Cn => k_is)
      (case n1Cn => k_is)
      (case n2Cn => k_is)
      (case n3Cn => k_is)
      (case hcCn => k_is)
      (case moCn => k_is)
      (case suCn => k_is)
      (case suTT => k_is)
      (case icCW => k_is)
      (case icCt => k_is)
      (case icCB => k_is)
      (case icFE => k_is)
      (case ttCW => k_is)
      (case ttCt => k_is)
      (case ttFE => k_is)
      (case suBB => k_is)
      (case suBF => k_is)
      (case suFX => k_is)
      (case suBV => k_is)
      (case gaB => k_is)
      (case ggB => k_is)
      (case hdB => k_is)
      (case hcB => k_is)
      (case moB => k_is)
      (case hdL => kernel_rfl)
      (case noT => kernel_rfl)
      (case ikn => k_is)
      (case ikt => k_is)
      (case m30 => k_is)
      (case i30 => k_is)
      (case l30 => k_is)
      (case c30 => k_is)
      (case k30 => k_is)
      (case t30 => k_is)
      (case m33 => k_is)
      (case i33 => k_is)
      (case l33 => k_is)
      (case c33 => k_is)
      (case k33 => k_is)
      (case t33 => k_is)
      (case m35 => k_is)
      (case i35 => k_is)
      (case l35 => k_is)
      (case c35 => k_is)
      (case k35 => k_is)
      (case m37 => k_is)
      (case i37 => k_is)
      (case l37 => k_is)
      (case c37 => k_is)
      (case k37 => k_is)
      (case m38 => k_is)
      (case i38 => k_is)
      (case l38 => k_is)
      (case c38 => k_is)
      (case k38 => k_is)
      (case m39 => k_is)
      (case i39 => k_is)
      (case l39 => k_is)
      (case c39 => k_is)
      (case k39 => k_is)
      (case m36 => k_is)
      (case m47 => k_is)
      (case m48 => k_is)
      (case fi38 => k_is)
      (case ty39 => k_is)
      (case lN => k_is)
      (case rN => decide +kernel)
      (case saN => k_is)
      (case exN => k_is)
      (case tyN => k_is)
      (case kN => k_is)
      (case noN => k_is)
      (case rdW => k_is)
      (case gaW => k_is)
      (case cvW => k_is)
      (case hgP => k_is)
      (case hgT => k_is)
      (case hgM => k_is)
      (case zint => k_is)
      (case zlen => k_is)
      (case zabs => k_is)
      (case zlist => k_is)
      (case zmin => k_is)
      (case zmax => k_is)
      (case zisinstance => k_is)
      (case zbool => k_is)
      (case ztuple => k_is)
      (case zall => k_is)
      (case zrange => k_is)
      (case zrepr => k_is)
      (case zany => k_is)
      (case zdict => k_is)
      (case zzip => k_is)
      (case zValueError => k_is)
      (case a90 => k_is)
      (case l90 => k_is)
      (case c90 => k_is)
      (case k90 => k_is)
      (case a91 => k_is)
      (case l91 => k_is)
      (case c91 => k_is)
      (case k91 => k_is))
