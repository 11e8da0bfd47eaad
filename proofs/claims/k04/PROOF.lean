import PyProof.Rows.All
import Wide.All
import OpenK.AllK
import Wide.FinOn
import HandS.ForMost
import HandS.Wide
import HandS.Codes
import HandS.IsInst
import HandS.Defaults
import HandS.MakeKw
import HandS.MakeKwOnly
import HandS.ClsMeth
import HandS.TupAny
import HandS.Style
import HandS.Zip
import HandS.Walk
import KE.GoesZip
import KE.GoesMore
import HandS.More
import HandS.SlotsOwn
import PyProof.InstNe
import HandS.Conv
import HandS.Star
import KE.DataEq
import HandS.Gcd
import PyProof.Rows.ListMulR
import KE.KxMul
import KE.KCallOwn
import HandS.FStr
import HandS.Text
import PySem.Challenge.RW_evenrules_k04_tests_added_and_turned
open PySem PySem.W PyProof.Rows
set_option Elab.async false
set_option linter.all false
set_option maxRecDepth 100000 in
set_option maxHeartbeats 0 in
open_top hd for PySem.Challenge.rw_evenrules_k04_tests_added_and_turned
set_option maxRecDepth 100000
set_option maxHeartbeats 4000000
namespace Ev
open PySem L2
def top (i : Nat) : Stmt := PySem.Challenge.pw_evenrules_k04_tests_added_and_turned.main.body.getD i (.Pass ⟨0, 0, 0, 0⟩)
abbrev sDraw : Stmt := top 30
/-- all that was tracked is as it was, but at p -/
def But (p : Addr) (H H' : Hp) : Prop := ∀ b o, b ≠ p → H b = some o → H' b = some o
theorem But.refl (p : Addr) (H : Hp) : But p H H := fun _ _ _ e => e
theorem But.trans {p : Addr} {H H1 H2 : Hp} (a : But p H H1) (b : But p H1 H2) : But p H H2 := fun c o n e => b c o n (a c o n e)
theorem Same.but {p : Addr} {H H' : Hp} (a : Same H H') : But p H H' := fun c o _ e => a c o e
theorem But.upd_new {p q : Addr} {H : Hp} {o : HO} (h : H q = none) : But p H (upd H q o) := fun b u _ e => by
  rw [upd_ne (ne_of_none e h)]; exact e
theorem But.upd_at {p : Addr} {H : Hp} {o : HO} : But p H (upd H p o) := fun b u n e => by
  rw [upd_ne n]; exact e
/-- the pen: a list of a list of ints, how often it was asked, and a rest -/
def Pen (L : Addr) (H : Hp) (p : Addr) (B : Int) : Prop := ∃ (ns : List Int) (turn carry : Int),
  H p = some (.lst [.ref L, .int turn, .int carry]) ∧ H L = some (.lst (ns.map V.int)) ∧ L ≠ p ∧ ns.length ≤ 63 ∧ 0 ≤ turn ∧ turn ≤ B ∧ 0 ≤ carry
theorem Pen.keep {L : Addr} {H H' : Hp} {p : Addr} {B : Int} (h : Pen L H p B) (k : Same H H') : Pen L H' p B := by
  obtain ⟨ns, t, c, h1, h2, h3, h4, h5, h6, h7⟩ := h
  exact ⟨ns, t, c, k _ _ h1, k _ _ h2, h3, h4, h5, h6, h7⟩
theorem Pen.mono {L : Addr} {H : Hp} {p : Addr} {B B' : Int} (h : Pen L H p B) (k : B ≤ B') : Pen L H p B' := by
  obtain ⟨ns, t, c, h1, h2, h3, h4, h5, h6, h7⟩ := h
  exact ⟨ns, t, c, h1, h2, h3, h4, h5, by omega, h7⟩
def spDraw : Sp := fun vs H Q _ => ∃ (p L : Addr) (m B : Int), vs = [.ref p, .int m] ∧ 1 ≤ m ∧ m ≤ 10000000000000 ∧ B ≤ 1000000 ∧ Pen L H p B ∧
  ∀ (d : Int) (H' : Hp), But p H H' → Pen L H' p (B + 1) → 0 ≤ d → d < m → Q (.int d) H'
theorem dpInts {K : PySem.W.Frag} {H : Hp} : ∀ ns : List Int, DpAll K H (ns.map V.int) (ns.map PyData.int)
  | [] => .nil
  | n :: r => .cons (.int n) (dpInts r)
theorem sh_ints (ns : List Int) : SeqAt.shaped (.list (ns.map PyData.int)) = true := by
  have h1 : ∀ ns : List Int, PyData.canLayAll0 (ns.map PyData.int) = true := by
    intro ns
    induction ns with
    | nil => rfl
    | cons n r ih => simp [PyData.canLayAll0, PyData.canLay0, ih]
  have h2 : ∀ ns : List Int, PyData.depthAll (ns.map PyData.int) ≤ 1 := by
    intro ns
    induction ns with
    | nil => simp [PyData.depthAll]
    | cons n r ih => simp [PyData.depthAll, PyData.depth]; omega
  unfold SeqAt.shaped
  rw [Bool.and_eq_true]
  refine ⟨by simp [PyData.canLay0, h1], decide_eq_true ?_⟩
  have := h2 ns
  simp [PyData.depth]; omega
theorem eqv_nil (ns : List Int) : PyData.eqv (.list (ns.map PyData.int)) (.list []) = ns.isEmpty := by
  cases ns <;> simp [PyData.eqv, PyData.eqvAll]
section
variable {P : Program} {w : World} {K : PySem.W.Frag} {mg : Str → Option Value} {base : Heap}
/-- built-ins that the program does not cover -/
structure Blt (mg : Str → Option Value) : Prop where
  int : mg "int" = none
  len : mg "len" = none
  abs : mg "abs" = none
  list : mg "list" = none
  min : mg "min" = none
  max : mg "max" = none
  isi : mg "isinstance" = none
  bool : mg "bool" = none
  tuple : mg "tuple" = none
  all : mg "all" = none
  range : mg "range" = none
  repr : mg "repr" = none
theorem scD : FnScope ["_law_pen_here", "_law_top_so", "_law_digit", "_law_at", "_law_cell", "_law_great", "_law_mixed"] ["_law_pen_here", "_law_top_so"] (defScope sDraw) := ⟨rfl, rfl, rfl, by decide +kernel, rfl, by decide +kernel, by decide +kernel⟩
theorem fmod_lo (a : Int) {m : Int} (h : 1 ≤ m) : 0 ≤ a.fmod m := by rw [Int.fmod_eq_emod_of_nonneg a (by omega)]; exact Int.emod_nonneg a (by omega)
theorem fmod_hi (a : Int) {m : Int} (h : 1 ≤ m) : a.fmod m < m := by rw [Int.fmod_eq_emod_of_nonneg a (by omega)]; exact Int.emod_lt_of_pos a (by omega)
theorem fdiv_lo {a m : Int} (h : 1 ≤ m) (h0 : 0 ≤ a) : 0 ≤ a.fdiv m := by rw [Int.fdiv_eq_ediv_of_nonneg a (by omega)]; exact Int.ediv_nonneg h0 (by omega)
theorem cell_at {ns : List Int} (h : ns ≠ []) (t : Int) : ∃ c : Int, atI (ns.map V.int) (t.fmod (((ns.map V.int).length : Nat) : Int)) = some (V.int c) := by
  rw [List.length_map]
  have l : 0 < ns.length := List.length_pos_iff.mpr h
  have h1 : 0 ≤ t.fmod (ns.length : Int) := fmod_lo t (by omega)
  have h2 : t.fmod (ns.length : Int) < ns.length := fmod_hi t (by omega)
  generalize t.fmod (ns.length : Int) = i at h1 h2
  obtain ⟨j, rfl⟩ := Int.eq_ofNat_of_zero_le h1
  have hj : j < ns.length := by omega
  exact ⟨ns[j], atI_nat (by rw [List.getElem?_map, List.getElem?_eq_getElem hj]; rfl)⟩
theorem mul_le_of {a b A B : Int} (a0 : 0 ≤ a) (b0 : 0 ≤ b) (ha : a ≤ A) (hb : b ≤ B) : 0 ≤ a * b ∧ a * b ≤ A * B :=
  ⟨Int.mul_nonneg a0 b0, Int.mul_le_mul ha hb b0 (by omega)⟩
theorem bound1 (c : Int) {M C D t : Int} (hM : 1 ≤ M) (hM2 : M ≤ 4294967296) (hC : 0 ≤ C ∧ C ≤ 1000000) (hD : 0 ≤ D ∧ D ≤ 1000000) (h0 : 0 ≤ t) (h1 : t ≤ 1000000) : (c.fmod M + C * t + D).natAbs < 2 ^ 64 := by
  have a1 := fmod_lo c hM
  have a2 := fmod_hi c hM
  have ⟨a3, a4⟩ := mul_le_of hC.1 h0 hC.2 h1
  omega
theorem bound2 {x C5 C6 C7 t : Int} (hx : 0 ≤ x ∧ x < 4294967296) (h5 : 0 ≤ C5 ∧ C5 ≤ 1000000) (h6 : 0 ≤ C6 ∧ C6 ≤ 1000000) (h7 : 0 ≤ C7 ∧ C7 ≤ 1000000) (h0 : 0 ≤ t) (h1 : t ≤ 1000000) :
    (x * (2 * t + C5) + C6 * t * t + C7).natAbs < 2 ^ 64 := by
  have ⟨a1, a2⟩ := mul_le_of (b := 2 * t + C5) (A := 4294967296) (B := 3000000) hx.1 (by omega) (by omega) (by omega)
  have ⟨a3, a4⟩ := mul_le_of h6.1 h0 h6.2 h1
  have ⟨a5, a6⟩ := mul_le_of a3 h0 a4 h1
  omega
theorem great_nn {c e : Int} (h : e ≤ (if c < 0 then -c else c)) (b : Bool) : 0 ≤ 2 * ((if c < 0 then -c else c) - e) + (if b = true then 1 else 0) := by
  cases b
  · rw [if_neg Bool.false_ne_true]; omega
  · rw [if_pos rfl]; omega
theorem lt64 {x : Int} (h : 0 ≤ x ∧ x < 4294967296) : -(2 ^ 64) < x ∧ x < 2 ^ 64 := ⟨by omega, by omega⟩
theorem nz {M : Int} (h : 0 < M) : M ≠ 0 := by omega
theorem divW {i m : Int} (h : 1 ≤ m) (h2 : m ≤ 10000000000000) : CDivW i m := wide_div (b := 44) (by omega) (by omega) (by decide) (by decide)
theorem ediv_lo {a m : Int} (h : 1 ≤ m) (h0 : 0 ≤ a) : 0 ≤ a / m := Int.ediv_nonneg h0 (by omega)
theorem ok_draw {f : Addr} {fd : FuncData} (F : Fun K "_law_draw" "_law_draw" sDraw f fd) (T : Blt mg) : FnOk P w K mg base CX0 1 f fd ["_law_pen_here", "_law_top_so"] spDraw := by
  refine F.ok scD (fun vs H Q E h => ?_) (fun cdv A outer s H vs Q E hr h => ?_)
  · obtain ⟨p, L, m, B, rfl, _⟩ := h
    rfl
  · obtain ⟨p, L, m, B, rfl, hm, hm2, hB, ⟨ns, tn, ca, hp, hL, Lp, hlen, t0, tB, c0⟩, k⟩ := h
    have hu := hu_of hr
    refine ⟨_, pss_cons (ps_if (pt_cmpR op_gt (pe_ix ix_list (pv 0) pe_int (fun _ _ => rfl)) pe_int (nomark _))
        (pss_cons (ps_set (i := 2) scD.nd rfl (.inl rfl) (pe_op op_modN (pe_callTy call_int1 (by rfl) T.int (by decide +kernel) (pa_cons (pe_ix ix_list (pv 0) pe_int (fun _ _ => rfl)) pa_nil)) (pv 1)))
        (pss_cons (ps_asg (pe_op op_fdivW (pe_callTy call_int1 (by rfl) T.int (by decide +kernel) (pa_cons (pe_ix ix_list (pv 0) pe_int (fun _ _ => rfl)) pa_nil)) (pv 1)) (pg_sub (pv 0) pe_int set_list))
        (pss_one (ps_ret (pv 2))))) pss_nil)
      (pss_cons (ps_set (i := 3) scD.nd rfl (.inl rfl) (pe_ix ix_list (pv 0) pe_int (fun _ _ => rfl)))
      (pss_cons (ps_asg (pe_op op_add (pv 3) pe_int) (pg_sub (pv 0) pe_int set_list))
      (pss_cons (ps_set (i := 4) scD.nd rfl (.inl rfl) (pe_op op_add (pe_op op_mul pe_int (pv 3)) pe_int))
      (pss_cons (ps_if (pt_cmpR (op_neD hr.units) (pe_ix ix_list (pv 0) pe_int (fun _ _ => rfl)) (pe_lst pa_nil) (nomark _))
        (pss_one (ps_set (i := 4) scD.nd rfl (.inl rfl) (pe_ix ix_list (pe_ix ix_list (pv 0) pe_int (fun _ _ => rfl))
          (pe_op op_modN (pe_callTy call_int1 (by rfl) T.int (by decide +kernel) (pa_cons (pv 3) pa_nil)) (pe_callB call_len_seq (by rfl) T.len PySem.boot_len (pa_cons (pe_ix ix_list (pv 0) pe_int (fun _ _ => rfl)) pa_nil))) (fun _ _ => rfl)))) pss_nil)
      (pss_cons (ps_if (PW.pt (pw_and (pt_cmpR op_lt (pv 3) (pe_callB call_len_seq (by rfl) T.len PySem.boot_len (pa_cons (pe_ix ix_list (pv 0) pe_int (fun _ _ => rfl)) pa_nil)) (nomark _))
          (pw_and1 (pt_cmpR op_ge (pe_callB call_abs (by rfl) T.abs (by decide +kernel) (pa_cons (pv 4) pa_nil)) (pe_op op_pow pe_int pe_int) (nomark _)))))
        (pss_cons (ps_set (i := 5) scD.nd rfl (.inl rfl) (pe_op op_add (pe_op op_mul pe_int (pe_op op_sub (pe_callB call_abs (by rfl) T.abs (by decide +kernel) (pa_cons (pv 4) pa_nil)) (pe_op op_pow pe_int pe_int)))
            (pe_callTy call_int1 (by rfl) T.int (by decide +kernel) (pa_cons (pe_cmpR op_lt (pv 4) pe_int (nomark _)) pa_nil))))
        (pss_cons (ps_asg (pe_op op_fdivW (pe_callTy call_int1 (by rfl) T.int (by decide +kernel) (pa_cons (pv 5) pa_nil)) (pv 1)) (pg_sub (pv 0) pe_int set_list))
        (pss_one (ps_ret (pe_op op_modN (pe_callTy call_int1 (by rfl) T.int (by decide +kernel) (pa_cons (pv 5) pa_nil)) (pv 1)))))) pss_nil)
      (pss_cons (ps_set (i := 6) scD.nd rfl (.inl rfl) (pe_op op_modN (pe_callTy call_int1 (by rfl) T.int (by decide +kernel) (pa_cons (pe_op op_pow (pe_op op_add (pe_op op_add
          (pe_op op_modN (pe_callTy call_int1 (by rfl) T.int (by decide +kernel) (pa_cons (pv 4) pa_nil)) pe_int) (pe_op op_mul pe_int (pv 3))) pe_int) pe_int) pa_nil)) pe_int))
      (pss_cons (ps_set (i := 6) scD.nd rfl (.inl rfl) (pe_op op_modN (pe_callTy call_int1 (by rfl) T.int (by decide +kernel) (pa_cons (pe_op op_pow (pe_op op_add (pe_op op_add
          (pe_op op_mul (pv 6) (pe_op op_add (pe_op op_mul pe_int (pv 3)) pe_int)) (pe_op op_mul (pe_op op_mul pe_int (pv 3)) (pv 3))) pe_int) pe_int) pa_nil)) pe_int))
      (pss_one (ps_ret (pe_op op_modN (pe_callTy call_int1 (by rfl) T.int (by decide +kernel) (pa_cons (pe_op op_fdivN (pv 6) pe_int) pa_nil)) (pv 1))))))))))), ?_⟩
    have i2 : ∀ {a b c : V}, atI [a, b, c] 2 = some c := fun {a b c} => atI_nat (j := 2) rfl
    have i1 : ∀ {a b c : V}, atI [a, b, c] 1 = some b := fun {a b c} => atI_nat (j := 1) rfl
    have i0 : ∀ {a b c : V}, atI [a, b, c] 0 = some a := fun {a b c} => atI_nat (j := 0) rfl
    -- if pen[2] > 0
    refine ⟨_, rfl, p, _, 2, _, rfl, rfl, SqL.of hp, i2, _, _, rfl, rfl, _, rfl, ite2 (fun e => ?_) (fun e => ?_)⟩
    · -- digit
      refine ⟨_, rfl, p, _, 2, _, rfl, rfl, SqL.of hp, i2, .inl ⟨_, rfl, _, rfl, _, _, rfl, rfl, (by omega), ?_⟩⟩
      refine ⟨_, rfl, p, _, 2, _, rfl, rfl, SqL.of hp, i2, .inl ⟨_, rfl, _, rfl, _, _, rfl, rfl, divW hm hm2, _, rfl, p, _, _, 2, rfl, rfl, hp, rfl, ?_⟩⟩
      refine ⟨_, rfl, ?_⟩
      exact k _ _ But.upd_at ⟨ns, tn, _, upd_same, by rw [upd_ne Lp]; exact hL, Lp, hlen, t0, by omega, ediv_lo hm c0⟩ (fmod_lo _ hm) (fmod_hi _ hm)
    · -- turn
      refine ⟨_, rfl, p, _, 1, _, rfl, rfl, SqL.of hp, i1, ?_⟩
      refine ⟨_, rfl, _, _, rfl, rfl, _, rfl, p, _, _, 1, rfl, rfl, hp, rfl, ?_⟩
      have hp1 : upd H p (.lst ([V.ref L, V.int tn, V.int ca].set 1 (V.int (tn + 1)))) p = some (.lst [.ref L, .int (tn + 1), .int ca]) := upd_same
      have hL1 : upd H p (.lst ([V.ref L, V.int tn, V.int ca].set 1 (V.int (tn + 1)))) L = some (.lst (ns.map V.int)) := by rw [upd_ne Lp]; exact hL
      have b1 : But p H (upd H p (.lst ([V.ref L, V.int tn, V.int ca].set 1 (V.int (tn + 1))))) := But.upd_at
      generalize upd H p (.lst ([V.ref L, V.int tn, V.int ca].set 1 (V.int (tn + 1)))) = H1 at hp1 hL1 b1 ⊢
      -- cell = c * turn + c'
      refine ⟨_, rfl, _, _, rfl, rfl, .inl ⟨by decide, by decide⟩, _, _, rfl, rfl, ?_⟩
      -- if pen[0] != []
      refine ⟨_, rfl, p, _, 0, _, rfl, rfl, SqL.of hp1, i0, by decide, fun l hl => ?_⟩
      have n1 : p ≠ l := ne_of_none hp1 hl
      have n2 : L ≠ l := ne_of_none hL1 hl
      have hp2 : upd H1 l (.lst []) p = some (.lst [.ref L, .int (tn + 1), .int ca]) := by rw [upd_ne n1]; exact hp1
      have hL2 : upd H1 l (.lst []) L = some (.lst (ns.map V.int)) := by rw [upd_ne n2]; exact hL1
      have hl2 : upd H1 l (.lst []) l = some (.lst []) := upd_same
      have b2 : But p H (upd H1 l (.lst [])) := b1.trans (But.upd_new hl)
      clear b1 hp1 hL1
      generalize upd H1 l (.lst []) = H2 at hp2 hL2 hl2 b2
      refine ⟨_, _, .lst (SqL.of hL2) (dpInts ns), .lst (SqL.of hl2) .nil, sh_ints ns, sh_ints [], _, rfl, ?_⟩
      rw [eqv_nil]
      -- the rest, for any cell
      have hcell : ∀ c : Int, ∃ j : Int, (if c < 0 then -c else c) = j ∧ 0 ≤ j := fun c => by
        by_cases z : c < 0
        · exact ⟨_, rfl, by rw [if_pos z]; omega⟩
        · exact ⟨_, rfl, by rw [if_neg z]; omega⟩
      have fin : ∀ H' : Hp, H' p = some (.lst [.ref L, .int (tn + 1), .int ca]) → H' L = some (.lst (ns.map V.int)) → But p H H' → Pen L H' p (B + 1) := fun H' e1 e2 _ =>
        ⟨ns, tn + 1, ca, e1, e2, Lp, hlen, by omega, by omega, c0⟩
      have ht : tn ≤ 1000000 := by omega
      have hm6 : 0 ≤ 76705 * tn ∧ 76705 * tn ≤ 76705 * 1000000 := mul_le_of (by decide) t0 (Int.le_refl _) ht
      have hq : ∀ {x m : Int}, 1 ≤ m → m ≤ 4294967296 → 0 ≤ x.fmod m ∧ x.fmod m < 4294967296 := fun {x m} h1 h2 => ⟨fmod_lo x h1, by have := fmod_hi x h1; omega⟩
      cases hn : ns with
      | nil =>
        refine iteF ?_
        refine ⟨_, rfl, _, rfl, p, _, 0, _, rfl, rfl, SqL.of hp2, i0, L, _, rfl, .inl (SqL.of hL2), _, _, rfl, rfl, _, rfl, ite2 (fun e1 => ?_) (fun e1 => ?_)⟩
        · refine ⟨_, rfl, _, rfl, _, _, rfl, rfl, ⟨by decide, by decide, by decide⟩, _, _, rfl, rfl, _, rfl, ite2 (fun e2 => ?_) (fun e2 => ?_)⟩
          · refine ⟨_, rfl, _, rfl, _, _, rfl, rfl, ⟨by decide, by decide, by decide⟩, _, _, rfl, rfl, _, _, rfl, rfl, .inl ⟨by decide, by decide⟩, _, rfl, _, _, rfl, rfl, .inr ⟨_, rfl, _, _, rfl, rfl, ?_⟩⟩
            refine ⟨_, rfl, .inl ⟨_, rfl, _, rfl, _, _, rfl, rfl, divW hm hm2, _, rfl, p, _, _, 2, rfl, rfl, hp2, rfl, ?_⟩⟩
            refine ⟨_, rfl, .inl ⟨_, rfl, _, rfl, _, _, rfl, rfl, (by omega), ?_⟩⟩
            refine k _ _ (b2.trans But.upd_at) ⟨_, tn + 1, _, upd_same, by rw [upd_ne Lp]; exact hL2, Lp, hlen, by omega, by omega, ediv_lo hm ?_⟩ (fmod_lo _ hm) (fmod_hi _ hm)
            have e3 := of_decide_eq_true e2
            exact great_nn e3 _
          · skip
            refine ⟨_, rfl, .inl ⟨_, rfl, _, _, rfl, rfl, nz (by decide), _, rfl, _, _, rfl, rfl, .inl ⟨by decide, by decide⟩, _, _, rfl, rfl, _, _, rfl, rfl, _, _, rfl, rfl, ⟨by decide, by decide, bound1 _ (by decide) (by decide) (by decide) (by decide) t0 ht⟩, .inl ⟨_, rfl, _, _, rfl, rfl, nz (by decide), ?_⟩⟩⟩
            refine ⟨_, rfl, _, rfl, _, _, rfl, rfl, .inl ⟨by decide, by decide⟩, _, _, rfl, rfl, _, _, rfl, rfl, .inl ?_, _, rfl, _, _, rfl, rfl, .inl ⟨by decide, by decide⟩, _, rfl, _, _, rfl, rfl, .inl ?_, _, _, rfl, rfl, _, _, rfl, rfl, _, _, rfl, rfl, ⟨by decide, by decide, ?_⟩, .inl ⟨_, rfl, _, _, rfl, rfl, nz (by decide), ?_⟩⟩
            · exact lt64 (hq (by decide) (by decide))
            · exact ⟨by omega, by omega⟩
            · exact bound2 (hq (by decide) (by decide)) (by decide) (by decide) (by decide) t0 ht
            · refine ⟨_, rfl, _, _, rfl, rfl, ⟨by decide, by decide⟩, .inl ⟨_, rfl, _, rfl, _, _, rfl, rfl, (by omega), ?_⟩⟩
              exact k _ _ b2 (fin _ hp2 hL2 b2) (fmod_lo _ hm) (fmod_hi _ hm)
        · skip
          refine ⟨_, rfl, .inl ⟨_, rfl, _, _, rfl, rfl, nz (by decide), _, rfl, _, _, rfl, rfl, .inl ⟨by decide, by decide⟩, _, _, rfl, rfl, _, _, rfl, rfl, _, _, rfl, rfl, ⟨by decide, by decide, bound1 _ (by decide) (by decide) (by decide) (by decide) t0 ht⟩, .inl ⟨_, rfl, _, _, rfl, rfl, nz (by decide), ?_⟩⟩⟩
          refine ⟨_, rfl, _, rfl, _, _, rfl, rfl, .inl ⟨by decide, by decide⟩, _, _, rfl, rfl, _, _, rfl, rfl, .inl ?_, _, rfl, _, _, rfl, rfl, .inl ⟨by decide, by decide⟩, _, rfl, _, _, rfl, rfl, .inl ?_, _, _, rfl, rfl, _, _, rfl, rfl, _, _, rfl, rfl, ⟨by decide, by decide, ?_⟩, .inl ⟨_, rfl, _, _, rfl, rfl, nz (by decide), ?_⟩⟩
          · exact lt64 (hq (by decide) (by decide))
          · exact ⟨by omega, by omega⟩
          · exact bound2 (hq (by decide) (by decide)) (by decide) (by decide) (by decide) t0 ht
          · refine ⟨_, rfl, _, _, rfl, rfl, ⟨by decide, by decide⟩, .inl ⟨_, rfl, _, rfl, _, _, rfl, rfl, (by omega), ?_⟩⟩
            exact k _ _ b2 (fin _ hp2 hL2 b2) (fmod_lo _ hm) (fmod_hi _ hm)
      | cons n0 nr =>
        refine iteT ?_
        obtain ⟨c, hc⟩ := cell_at (ns := ns) (by rw [hn]; exact List.cons_ne_nil _ _) tn
        refine ⟨_, rfl, p, _, 0, _, rfl, rfl, SqL.of hp2, i0, _, rfl, .inl ⟨_, rfl, _, rfl, p, _, 0, _, rfl, rfl, SqL.of hp2, i0, L, _, rfl, .inl (SqL.of hL2), _, _, rfl, rfl, (by rw [List.length_map, hn, List.length_cons]; omega), L, _, _, _, rfl, rfl, SqL.of hL2, hc, ?_⟩⟩
        refine ⟨_, rfl, _, rfl, p, _, 0, _, rfl, rfl, SqL.of hp2, i0, L, _, rfl, .inl (SqL.of hL2), _, _, rfl, rfl, _, rfl, ite2 (fun e1 => ?_) (fun e1 => ?_)⟩
        · refine ⟨_, rfl, _, rfl, _, _, rfl, rfl, ⟨by decide, by decide, by decide⟩, _, _, rfl, rfl, _, rfl, ite2 (fun e2 => ?_) (fun e2 => ?_)⟩
          · refine ⟨_, rfl, _, rfl, _, _, rfl, rfl, ⟨by decide, by decide, by decide⟩, _, _, rfl, rfl, _, _, rfl, rfl, .inl ⟨by decide, by decide⟩, _, rfl, _, _, rfl, rfl, .inr ⟨_, rfl, _, _, rfl, rfl, ?_⟩⟩
            refine ⟨_, rfl, .inl ⟨_, rfl, _, rfl, _, _, rfl, rfl, divW hm hm2, _, rfl, p, _, _, 2, rfl, rfl, hp2, rfl, ?_⟩⟩
            refine ⟨_, rfl, .inl ⟨_, rfl, _, rfl, _, _, rfl, rfl, (by omega), ?_⟩⟩
            refine k _ _ (b2.trans But.upd_at) ⟨_, tn + 1, _, upd_same, by rw [upd_ne Lp]; exact hL2, Lp, hlen, by omega, by omega, ediv_lo hm ?_⟩ (fmod_lo _ hm) (fmod_hi _ hm)
            have e3 := of_decide_eq_true e2
            exact great_nn e3 _
          · skip
            refine ⟨_, rfl, .inl ⟨_, rfl, _, _, rfl, rfl, nz (by decide), _, rfl, _, _, rfl, rfl, .inl ⟨by decide, by decide⟩, _, _, rfl, rfl, _, _, rfl, rfl, _, _, rfl, rfl, ⟨by decide, by decide, bound1 _ (by decide) (by decide) (by decide) (by decide) t0 ht⟩, .inl ⟨_, rfl, _, _, rfl, rfl, nz (by decide), ?_⟩⟩⟩
            refine ⟨_, rfl, _, rfl, _, _, rfl, rfl, .inl ⟨by decide, by decide⟩, _, _, rfl, rfl, _, _, rfl, rfl, .inl ?_, _, rfl, _, _, rfl, rfl, .inl ⟨by decide, by decide⟩, _, rfl, _, _, rfl, rfl, .inl ?_, _, _, rfl, rfl, _, _, rfl, rfl, _, _, rfl, rfl, ⟨by decide, by decide, ?_⟩, .inl ⟨_, rfl, _, _, rfl, rfl, nz (by decide), ?_⟩⟩
            · exact lt64 (hq (by decide) (by decide))
            · exact ⟨by omega, by omega⟩
            · exact bound2 (hq (by decide) (by decide)) (by decide) (by decide) (by decide) t0 ht
            · refine ⟨_, rfl, _, _, rfl, rfl, ⟨by decide, by decide⟩, .inl ⟨_, rfl, _, rfl, _, _, rfl, rfl, (by omega), ?_⟩⟩
              exact k _ _ b2 (fin _ hp2 hL2 b2) (fmod_lo _ hm) (fmod_hi _ hm)
        · skip
          refine ⟨_, rfl, .inl ⟨_, rfl, _, _, rfl, rfl, nz (by decide), _, rfl, _, _, rfl, rfl, .inl ⟨by decide, by decide⟩, _, _, rfl, rfl, _, _, rfl, rfl, _, _, rfl, rfl, ⟨by decide, by decide, bound1 _ (by decide) (by decide) (by decide) (by decide) t0 ht⟩, .inl ⟨_, rfl, _, _, rfl, rfl, nz (by decide), ?_⟩⟩⟩
          refine ⟨_, rfl, _, rfl, _, _, rfl, rfl, .inl ⟨by decide, by decide⟩, _, _, rfl, rfl, _, _, rfl, rfl, .inl ?_, _, rfl, _, _, rfl, rfl, .inl ⟨by decide, by decide⟩, _, rfl, _, _, rfl, rfl, .inl ?_, _, _, rfl, rfl, _, _, rfl, rfl, _, _, rfl, rfl, ⟨by decide, by decide, ?_⟩, .inl ⟨_, rfl, _, _, rfl, rfl, nz (by decide), ?_⟩⟩
          · exact lt64 (hq (by decide) (by decide))
          · exact ⟨by omega, by omega⟩
          · exact bound2 (hq (by decide) (by decide)) (by decide) (by decide) (by decide) t0 ht
          · refine ⟨_, rfl, _, _, rfl, rfl, ⟨by decide, by decide⟩, .inl ⟨_, rfl, _, rfl, _, _, rfl, rfl, (by omega), ?_⟩⟩
            exact k _ _ b2 (fin _ hp2 hL2 b2) (fmod_lo _ hm) (fmod_hi _ hm)
end
end Ev
namespace Ev
open PySem L2 PySem.Spec PyProof.Rows
/-! zip of a tuple and a list. -/
def ItM (K : PySem.W.Frag) (a b : Addr) : It where
  go i H := ∃ us ws : List V, SqT K H a us ∧ SqL K H b ws ∧ i < us.length ∧ i < ws.length
  yld i H v H' := ∃ T x y, v = .ref T ∧ H T = none ∧ H' = upd H T (.tup [x, y]) ∧ (∀ us, SqT K H a us → us[i]? = some x) ∧ ∀ ws, SqL K H b ws → ws[i]? = some y
  stop i H := ∃ us ws : List V, SqT K H a us ∧ SqL K H b ws ∧ i ≤ us.length ∧ i ≤ ws.length ∧ (i = us.length ∨ i = ws.length)
theorem sep_of {I a b : Addr} (ha : a < I) (hb : b < I) : ZipSep2 (I + 4) (I + 2) (I + 3) I (I + 1) [I, a] [I + 1, b] := by
  have e : ∀ k : Nat, a ≠ I + k ∧ b ≠ I + k := fun k => ⟨Nat.ne_of_lt (Nat.lt_of_lt_of_le ha (Nat.le_add_right I k)), Nat.ne_of_lt (Nat.lt_of_lt_of_le hb (Nat.le_add_right I k))⟩
  have n : ∀ k l : Nat, k ≠ l → (I + k : Nat) ≠ I + l := fun k l h z => h (Nat.add_left_cancel z)
  have n0 : ∀ k : Nat, 0 ≠ k → (I : Nat) ≠ I + k := fun k h => n 0 k h
  refine ⟨n 2 4 (by decide), n 3 4 (by decide), n 2 3 (by decide), (n0 2 (by decide)).symm, List.mem_cons_self, ?_, ?_, n 2 1 (by decide), List.mem_cons_self, ?_, ?_, ?_, ?_⟩
  · intro z
    rcases List.mem_cons.mp z with z | z
    · exact n0 4 (by decide) z.symm
    · exact (e 4).1 (List.mem_singleton.mp z).symm
  · intro z
    rcases List.mem_cons.mp z with z | z
    · exact n0 3 (by decide) z.symm
    · exact (e 3).1 (List.mem_singleton.mp z).symm
  · intro z
    rcases List.mem_cons.mp z with z | z
    · exact n 4 1 (by decide) z
    · exact (e 4).2 (List.mem_singleton.mp z).symm
  · intro z
    rcases List.mem_cons.mp z with z | z
    · exact n 3 1 (by decide) z
    · exact (e 3).2 (List.mem_singleton.mp z).symm
  · intro z
    rcases List.mem_cons.mp z with z | z
    · exact n0 1 (by decide) z
    · exact (e 0).2 (List.mem_singleton.mp z).symm
  · intro z
    rcases List.mem_cons.mp z with z | z
    · exact n0 1 (by decide) z.symm
    · exact (e 1).1 (List.mem_singleton.mp z).symm
/-- the five cells of such a zip -/
def cellsM (I : Addr) : List Addr := [I + 4, I + 2, I + 3, I, I + 1]
theorem cellsM_of {I c : Addr} (h : c ∈ cellsM I) : c = I + 4 ∨ c = I + 2 ∨ c = I + 3 ∨ c = I ∨ c = I + 1 := by simpa [cellsM] using h
theorem cells_ge {I c : Addr} (h : c ∈ cellsM I) : I ≤ c := by
  rcases cellsM_of h with z | z | z | z | z <;> rw [z]
  · exact Nat.le_add_right I 4
  · exact Nat.le_add_right I 2
  · exact Nat.le_add_right I 3
  · exact Nat.le_refl I
  · exact Nat.le_add_right I 1
def tnM (I a b : Addr) (i : Nat) (h : Heap) : Prop := IsZip h (I + 4) (I + 2) (I + 3) .none ∧ IsTupOf2 h (I + 2) (.ref I) (.ref (I + 1)) ∧ (∃ x y, IsTupOf2 h (I + 3) x y) ∧ h.IsTupleIter I a i ∧ h.IsListIter (I + 1) b i
theorem turnM {P : Program} {w : World} {K : PySem.W.Frag} {elts : List Expr} {kk : Nat} {tpos : Pos} {I a b : Addr} (ha : a < I) (hb : b < I) : Turn P w K (.Tuple elts kk tpos) (ItM K a b) (cellsM I) (I + 4) (tnM I a b) where
  mem := by simp [cellsM]
  obj := by
    rintro i h ⟨q1, q2, ⟨x, y, q3⟩, ⟨o1, p1, _, d1⟩, ⟨o2, p2, _, d2⟩⟩ c hc
    rcases cellsM_of hc with rfl | rfl | rfl | rfl | rfl
    · exact ⟨_, q1, fun v z => by cases z⟩
    · exact ⟨_, q2, fun v z => by cases z⟩
    · exact ⟨_, q3, fun v z => by cases z⟩
    · exact ⟨o1, p1, fun v z => by rw [d1] at z; cases z⟩
    · exact ⟨o2, p2, fun v z => by rw [d2] at z; cases z⟩
  keep := by
    rintro i h h' ⟨q1, q2, ⟨x, y, q3⟩, q4, q5⟩ k
    refine ⟨k _ (by simp [cellsM]) _ q1, k _ (by simp [cellsM]) _ q2, ⟨x, y, k _ (by simp [cellsM]) _ q3⟩, q4.at fun o z => ?_, q5.at fun o z => ?_⟩
    · exact k _ (by simp [cellsM]) o z
    · exact k _ (by simp [cellsM]) o z
  item := by
    rintro X rfl rfl rfl hc i pins s σ H E J hf ⟨q1, q2, ⟨x0, y0, q3⟩, q4, q5⟩ ⟨us, ws, ku, kw, lu, lw⟩
    obtain ⟨its, rv, p, _⟩ := J.tuple ku
    obtain ⟨its2, rv2, p2, _⟩ := J.list kw
    obtain ⟨u, hu, ru⟩ := rv.get (List.getElem?_eq_getElem lu)
    obtain ⟨u2, hu2, ru2⟩ := rv2.get (List.getElem?_eq_getElem lw)
    have l1 := rv.length
    have l2 := rv2.length
    have hd : X.A.in1.handled = none := J.ok.hd hc
    refine wpAny_pyNext_zipD2_item (sep_of ha hb) (Draws.tuple hd I a (Nat.ne_of_lt ha) its.toArray) (Draws.list hd (I + 1) b (Nat.ne_of_lt (Nat.lt_succ_of_lt hb)) its2.toArray) q1 q2 q3 ⟨q4, p⟩ ⟨q5, p2.isList⟩ (by simp; omega) (by simp; omega) fun x1 x2 h' tk y1 y2 r1 r2 r3 r4 r5 r6 hk => ?_
    obtain rfl : u = x1 := by
      have e : its[i]? = some x1 := by simpa using y1
      rw [hu] at e
      exact Option.some.inj e
    obtain rfl : u2 = x2 := by
      have e : its2[i]? = some x2 := by simpa using y2
      rw [hu2] at e
      exact Option.some.inj e
    refine ⟨_, rfl, wpAny_letOwnedTupleGo_zip (s := { s with heap := h', toks := tk }) r1 fun h2 z2 sb => ?_⟩
    have zl : I + 4 < s.heap.objs.size := Heap.lt_size q1
    have fresh : H s.heap.objs.size = none := J.hok.fresh (Nat.le_refl _)
    have at2 : ∀ c o, c ≠ I + 4 → h'.get? c = some o → h2.get? c = some o := fun c o n e => (sb.2 c n).trans e
    have nT : s.heap.objs.size ≠ I + 4 := Nat.ne_of_gt zl
    have hT := at2 _ _ nT r5
    have kept : ∀ c o, c ∉ cellsM I → s.heap.get? c = some o → h2.get? c = some o := fun c o n e => by
      have m : c ≠ I + 4 ∧ c ≠ I + 3 ∧ c ≠ I ∧ c ≠ I + 1 := ⟨fun z => n (by simp [cellsM, z]), fun z => n (by simp [cellsM, z]), fun z => n (by simp [cellsM, z]), fun z => n (by simp [cellsM, z])⟩
      exact at2 c o m.1 (hk c o m.1 m.2.1 m.2.2.1 m.2.2.2 e)
    have S := sep_of ha hb
    have J1 := J.turnedNew (t' := tk) (ob := .tup [us[i], ws[i]]) (ch := cellsM I) kept hf (Nat.le_refl _) ⟨by show 2 ≤ sizeLine; decide, [u, u2], .cons ru (.cons ru2 .nil), ⟨_, hT, rfl, _, rfl⟩⟩
    refine ⟨.ref s.heap.objs.size, _, J1, rfl, ⟨_, _, _, rfl, fresh, rfl, fun l hl => ?_, fun l hl => ?_⟩, ⟨z2, ?_, ⟨_, _, at2 _ _ S.TOz r2⟩, ?_, ?_⟩, fun c hcm => ?_⟩
    · rw [J.tuple_inj hl ku]; exact List.getElem?_eq_getElem lu
    · rw [J.list_inj hl kw]; exact List.getElem?_eq_getElem lw
    · exact at2 _ _ S.TIz (hk _ _ S.TIz S.TITO S.TIi1 S.TIi2 q2)
    · exact r3.1.at fun o z => at2 _ o S.zi1.symm z
    · exact r4.1.at fun o z => at2 _ o S.zi2.symm z
    · have lt : c < s.heap.objs.size := by
        rcases cellsM_of hcm with rfl | rfl | rfl | rfl | rfl
        · exact zl
        · exact Heap.lt_size q2
        · exact Heap.lt_size q3
        · obtain ⟨_, z, _⟩ := q4; exact Heap.lt_size z
        · obtain ⟨_, z, _⟩ := q5; exact Heap.lt_size z
      rw [upd_ne (Nat.ne_of_lt lt)]
      exact (hf c hcm).1
  done := by
    rintro X rfl rfl rfl hc i pins s σ H E J hf ⟨q1, q2, ⟨x0, y0, q3⟩, q4, q5⟩ ⟨us, ws, ku, kw, lu, lw, le⟩
    obtain ⟨its, rv, p, _⟩ := J.tuple ku
    obtain ⟨its2, rv2, p2, _⟩ := J.list kw
    have l1 := rv.length
    have l2 := rv2.length
    have hd : X.A.in1.handled = none := J.ok.hd hc
    refine wpAny_pyNext_zipD2_end (sep_of ha hb) (Draws.tuple hd I a (Nat.ne_of_lt ha) its.toArray) (Draws.list hd (I + 1) b (Nat.ne_of_lt (Nat.lt_succ_of_lt hb)) its2.toArray) q1 q2 q3 ⟨q4, p⟩ ⟨q5, p2.isList⟩ (by simp; omega) (by simp; omega) (by simp; omega) fun h' tk hk => ⟨rfl, ?_⟩
    refine J.turnedL (t' := tk) (ch := cellsM I) (fun c o n e => ?_) hf
    have m : c ≠ I + 4 ∧ c ≠ I + 3 ∧ c ≠ I ∧ c ≠ I + 1 := ⟨fun z => n (by simp [cellsM, z]), fun z => n (by simp [cellsM, z]), fun z => n (by simp [cellsM, z]), fun z => n (by simp [cellsM, z])⟩
    exact hk c o m.1 m.2.1 m.2.2.1 m.2.2.2 e
  self := fun A i s Q E st h => wpAny_pyIter_zip st.1 h
def iZipM (K : PySem.W.Frag) (ta : TA) : TI := fun σ H R => ta σ H fun vs H1 => ∃ a b us ws, vs = [.ref a, .ref b] ∧ SqT K H1 a us ∧ SqL K H1 b ws ∧ R (ItM K a b) H1
theorem pi_zipM {X : Cx} {e e2 : Expr} {ta : TA} {p pos tpos : Pos} {elts : List Expr} {kk : Nat} (hg : Gl X "zip") (hm : X.mg "zip" = none) (ha : PA X [e, e2] ta)
    (hs : starEach [e, e2] X.env = (false, eval e X.env) :: starEach [e2] X.env := by rfl) (hpl : (backTo pos (starEach [e2] X.env)).any (·.1) = false := by rfl) :
    PI X (.Tuple elts kk tpos) (.Call (.Name "zip" p) [e, e2] [] pos) (iZipM X.K ta) := by
  constructor
  intro pins s σ H R I h
  refine Call_ (ld_blt I hg hm PyProof.Rows.boot_zip (PyProof.Rows.callWith_type1 (thn (ha.run pos pins s σ H _ I h) fun us s1 hh => ?_) hs hpl))
  obtain ⟨vs, H1, I1, r1, a, b, xs, ys, rfl, ka, kb, q⟩ := hh
  obtain ⟨w1, w2, rfl, e1, e2⟩ := vals2 r1
  obtain rfl : w1 = Value.ref a := e1
  obtain rfl : w2 = Value.ref b := e2
  obtain ⟨its, rv, p1, _⟩ := I1.tuple ka
  obtain ⟨its2, rv2, p2, _⟩ := I1.list kb
  have la : a < s1.heap.objs.size := by obtain ⟨_, z, _⟩ := id p1; exact Heap.lt_size z
  refine zip_begins2 (begins_tuple a its.toArray) (begins_list b its2.toArray) p1 p2.isList fun h' g1 g2 g3 g4 g5 g6 hk => ?_
  refine wpAny_pyIter_zip g1 ?_
  refine ⟨_, cellsM s1.heap.objs.size, tnM s1.heap.objs.size a b, ItM X.K a b, H1, rfl, I1.kept (t' := s1.toks) hk, turnM la p2.lt, ⟨g1, g2, ⟨_, _, g3⟩, ⟨_, g4, rfl, rfl⟩, ⟨_, g5, rfl, rfl⟩⟩, fun c hc => ?_, q⟩
  exact (I1.fpOk (cells_ge hc) (I1.hok.fresh (cells_ge hc)))
end Ev
namespace Ev
open PySem L2 PySem.Spec PyProof.Rows
/-! == and != by an own __eq__, both answers, beside values of other types. -/
section
variable {prog : Program} {w : World} {A : Around} {E : Value → Shared → Prop} {s : Shared} {K : PySem.W.Frag} {x C f : Addr} {ox : Obj} {od : Option Obj} {y : Value}
theorem neEntry {Q : Fin → Shared → Prop} (room : A.units < cLine) (X : K.In s.heap) (I : PySem.W.InstAt s.heap x ox C od) (he : PySem.W.findIn K (.ref C) "__eq__" = some (some (.ref f))) (hf : PySem.W.isFn K (.ref f) = true)
    (h : wpAny (model prog w) A (call (.ref f) [.ref x, y]) (fun v s' => ∃ b, v = .bool b ∧ Q (.done (.ret (.bool (!b)))) s') E s) : wpAny (model prog w) A (Builtin.«object.__ne__» ⟨[.ref x, y], []⟩) Q E s := by
  have asked : wpAny (model prog w) A (callSpecialIfBound? (.ref x) (Str.ofString "__eq__") [y]) (fun r s' => ∃ b, r = some (.bool b) ∧ Q (.done (.ret (.bool (!b)))) s') E s := by
    refine PySem.W.ifBound_K X I he hf (wpAny_mono h (fun v s' hv => ?_) fun _ _ z => z)
    obtain ⟨b, rfl, q⟩ := hv
    exact ⟨b, rfl, q⟩
  unfold Builtin.«object.__ne__»
  repeat (first
    | (with_reducible refine wpAny_cRoomFor room ?_)
    | (refine wpAny_bind (m := callSpecialIfBound? (.ref x) (Str.ofString "__eq__") [y]) (wpAny_mono asked (fun r s' hr => ?_) fun _ _ z => z)
       obtain ⟨b, rfl, q⟩ := hr)
    | exact q
    | (exact wpAny_truthy_bool q)
    | wp_step)
theorem neCall {Q : Value → Shared → Prop} (room : A.in1.units < cLine) (X : K.In s.heap) (I : PySem.W.InstAt s.heap x ox C od) (hm : PySem.W.mroIn K C (.type "object") = some true) (he : PySem.W.findIn K (.ref C) "__eq__" = some (some (.ref f))) (hf : PySem.W.isFn K (.ref f) = true)
    (h : wpAny (model prog w) A.in1 (call (.ref f) [.ref x, y]) (fun v s' => ∃ b, v = .bool b ∧ Q (.bool (!b)) s') E s) : wpAny (model prog w) A (call (.builtin "object.__ne__") [.ref x, y]) Q E s :=
  wpAny_call (codeAny_call_builtin F.cmp_object.ne.plain F.cmpEntry_ne (PySem.W.check_slot F.cmpKind_ne F.cmpSplit_ne (I.type.andThen (PySem.W.looks_mroIn X hm)) (F.cmpArgs_ne _ _)
    (neEntry room X I he hf h)))
theorem neBound {Q : Option Value → Shared → Prop} {M : Model} (X : K.In s.heap) (I : PySem.W.InstAt s.heap x ox C od) (hn : PySem.W.findIn K (.ref C) "__ne__" = some (some (.builtin "object.__ne__")))
    (h : wpAny M A (call (.builtin "object.__ne__") [.ref x, y]) (fun v => Q (some v)) E s) : wpAny M A (callSpecialIfBound? (.ref x) "__ne__" [y]) Q E s := by
  have last : wpAny M A (call (.builtin "object.__ne__") ([.ref x] ++ [y]) >>= fun v => pure (some v)) Q E s := by
    refine wpAny_bind (wpAny_mono h (fun v s' z => ?_) fun _ _ z => z)
    exact wpAny_pure z
  simp only [callSpecialIfBound?, bindSpecialIfBound?]
  refine wpAny_holding (wpAny_bind (wpAny_bind (wpAny_bind (I.type.here ?_))))
  refine (PySem.W.looks_findIn X hn).here (wpAny_bind (wpAny_askSetting (wpAny_ite ?_)))
  have bd := F.cmp_object.ne.bind (.ref x)
  split
  · refine wpAny_bind (wpAny_of_eq bd ?_)
    exact wpAny_pure (by exact last)
  · refine wpAny_tryCatch (wpAny_bind (wpAny_of_eq bd ?_))
    exact wpAny_pure (by exact last)
theorem neRich {Q : Value → Shared → Prop} {tb : Value} (room : A.units + 1 < cLine) (X : K.In s.heap) (I : PySem.W.InstAt s.heap x ox C od) (hb : PySem.W.Looks (model prog w) s.heap (typeOf y) tb) (nf : PySem.W.notFirst K C tb = true)
    (hm : PySem.W.mroIn K C (.type "object") = some true) (hn : PySem.W.findIn K (.ref C) "__ne__" = some (some (.builtin "object.__ne__"))) (he : PySem.W.findIn K (.ref C) "__eq__" = some (some (.ref f))) (hf : PySem.W.isFn K (.ref f) = true)
    (h : wpAny (model prog w) A.in1 (call (.ref f) [.ref x, y]) (fun v s' => ∃ b, v = .bool b ∧ Q (.bool (!b)) s') E s) : wpAny (model prog w) A (richCompare .NotEq (.ref x) y) Q E s := by
  have one : wpAny (model prog w) A (tryCompare (.ref x) "__ne__" y) (fun r s' => ∃ b, r = some (.bool b) ∧ Q (.bool b) s') E s := by
    unfold tryCompare
    refine wpAny_bind (neBound X I hn (neCall (show A.in1.units < cLine from room) X I hm he hf (wpAny_mono h (fun v s' z => ?_) fun _ _ z => z)))
    obtain ⟨b, rfl, q⟩ := z
    exact ⟨b, rfl, wpAny_pure ⟨_, rfl, q⟩⟩
  unfold richCompare
  simp only [oneThing_ref]
  rw [cmpInfo_NotEq]
  refine wpAny_holding (wpAny_bind (wpAny_cRoomFor (Nat.lt_of_succ_lt room) ?_))
  refine wpAny_bind (I.type.here ?_)
  refine wpAny_bind (hb.here ?_)
  split
  · rename_i q
    have sub : PySem.W.subIn K tb (.ref C) = some false := by
      rcases Bool.or_eq_true_iff.mp nf with z | z
      · rw [beq_iff_eq.mp z] at q
        simp at q
      · exact beq_iff_eq.mp z
    refine wpAny_bind ((PySem.W.looks_subIn X sub).here ?_)
    simp only [Bool.false_eq_true, if_false]
    refine wpAny_bind (wpAny_mono one (fun r s' z => ?_) fun _ _ z => z)
    obtain ⟨b, rfl, q2⟩ := z
    exact wpAny_pure q2
  · refine wpAny_bind (wpAny_pure ?_)
    simp only [Bool.false_eq_true, if_false]
    refine wpAny_bind (wpAny_mono one (fun r s' z => ?_) fun _ _ z => z)
    obtain ⟨b, rfl, q2⟩ := z
    exact wpAny_pure q2
end
/-- which types come behind an own class -/
theorem nf_own {K : PySem.W.Frag} {C : Addr} : PySem.W.notFirst K C (.ref C) = true := by
  unfold PySem.W.notFirst
  simp
theorem nf_sub {K : PySem.W.Frag} {C : Addr} {t : Value} (h : PySem.W.subIn K t (.ref C) = some false) : PySem.W.notFirst K C t = true := by
  unfold PySem.W.notFirst
  rw [h]
  simp
theorem nf_ty {K : PySem.W.Frag} {C : Addr} {T : String} {l : List String} (h : fastBuiltinMro T = some (l.map Value.type)) : PySem.W.notFirst K C (.type T) = true := by
  refine nf_sub ?_
  show (fastBuiltinMro T).map (·.contains (.ref C)) = some false
  rw [h]
  have z : (l.map Value.type).contains (.ref C) = false := by
    rw [Bool.eq_false_iff]
    intro z
    have m := List.contains_iff_mem.mp z
    simp at m
  exact congrArg some z
section
variable {X : Cx} {CX : CXT} {C g : Addr} {n : Nat} {sp : Sp} {E : XK}
/-- what an own == promises for such values: a truth -/
def rOwnB (K : PySem.W.Frag) (C : Addr) (sp : Sp) (E : XK) (neg : Bool) : R2 := fun x y H Q => ∃ (a dx : Addr) (fs : List (Str × V)) (t : Value), x = .ref a ∧ H a = some (.ins C dx fs) ∧ TyX K H y t ∧ PySem.W.notFirst K C t = true ∧ sp [x, y] H (fun z H' => ∃ b, z = .bl b ∧ Q (.bl (neg ^^ b)) H') E
theorem op_eqO (he : PySem.W.findIn X.K (.ref C) "__eq__" = some (some (.ref g))) (hf : PySem.W.isFn X.K (.ref g) = true) (F : FnR X.prog X.w X.K X.mg X.base CX n g sp) (hr : Room n X.A) (hx : Passes CX X E) : OpR X (compareOp .Eq) (rOwnB X.K C sp E false) := by
  intro pins s σ H x y v u Q I rx ry h
  obtain ⟨a, dx, fs, t, rfl, ha, ty, nf, q⟩ := h
  cases (show v = Value.ref a from rx)
  obtain ⟨mA, J, _⟩ := ins_get I.hok ha
  obtain ⟨od, J, _⟩ := J.look
  obtain ⟨m, hF⟩ := I.fr
  obtain ⟨P, Z, hP, _⟩ := kit_of I ry ty
  show wpAny _ _ (richCompare .Eq (.ref a) u) _ _ s
  refine PySem.W.cmp_K (op := .Eq) hr.units0 hF I.ok.mod.kin J (Z.ty _ _ I.kIn hP) nf he hf ?_
  refine wpAny_mono (wpAny_call (SlX.run_at (us := [.ref a, u]) (ws := [.ref a, y]) F hr I.env0 hx I (.cons rfl (.cons ry .nil)) q)) (fun w' s' z => ?_) fun _ _ z => z
  obtain ⟨z', H', I', rz, b, rfl, q'⟩ := z
  cases (show w' = Value.bool b from rz)
  have q' : Q (.bl b) H' := by simpa using q'
  exact ⟨.bl b, H', I', rfl, q'⟩
theorem op_neO (he : PySem.W.findIn X.K (.ref C) "__eq__" = some (some (.ref g))) (hn : PySem.W.findIn X.K (.ref C) "__ne__" = some (some (.builtin "object.__ne__"))) (hm : PySem.W.mroIn X.K C (.type "object") = some true) (hf : PySem.W.isFn X.K (.ref g) = true)
    (F : FnR X.prog X.w X.K X.mg X.base CX n g sp) (hr : Room (n + 1) X.A) (hx : Passes CX X E) : OpR X (compareOp .NotEq) (rOwnB X.K C sp E true) := by
  intro pins s σ H x y v u Q I rx ry h
  obtain ⟨a, dx, fs, t, rfl, ha, ty, nf, q⟩ := h
  cases (show v = Value.ref a from rx)
  obtain ⟨mA, J, _⟩ := ins_get I.hok ha
  obtain ⟨od, J, _⟩ := J.look
  obtain ⟨P, Z, hP, _⟩ := kit_of I ry ty
  have hr1 : Room n X.A.in1 := hr.in1
  show wpAny _ _ (richCompare .NotEq (.ref a) u) _ _ s
  refine neRich (by have := hr1.units0; exact this) I.kIn J (Z.ty _ _ I.kIn hP) nf hm hn he hf ?_
  refine wpAny_mono (wpAny_call (SlX.run_at (us := [.ref a, u]) (ws := [.ref a, y]) F hr1 I.env0.in1 hx I (.cons rfl (.cons ry .nil)) q)) (fun w' s' z => ?_) fun _ _ z => z
  obtain ⟨z', H', I', rz, b, rfl, q'⟩ := z
  cases (show w' = Value.bool b from rz)
  have q' : Q (.bl (!b)) H' := by simpa using q'
  exact ⟨b, rfl, .bl (!b), H', I', rfl, q'⟩
end
end Ev
namespace Ev
open PySem L2 PySem.Spec PyProof.Rows
abbrev sIsInt : Stmt := top 14
abbrev sTInit : Stmt := inClass (top 23) 0
abbrev sTLen : Stmt := inClass (top 23) 1
abbrev sAmount : Stmt := inClass (top 23) 2
abbrev sTCall : Stmt := inClass (top 23) 3
abbrev sTEq : Stmt := inClass (top 23) 10
abbrev sIsL : Stmt := top 24
abbrev sAreP : Stmt := top 25
abbrev sPen : Stmt := top 29
abbrev sPick : Stmt := top 31
abbrev sSmall : Stmt := top 32
abbrev sNum : Stmt := top 33
abbrev sTAdd : Stmt := inClass (top 23) 4
abbrev sTMul : Stmt := inClass (top 23) 5
abbrev sTRmul : Stmt := inClass (top 23) 6
abbrev sTNeg : Stmt := inClass (top 23) 7
abbrev sTInv : Stmt := inClass (top 23) 8
abbrev sTight : Stmt := inClass (top 23) 9
abbrev sTStr : Stmt := inClass (top 23) 11
abbrev sWord : Stmt := top 18
abbrev sWords : Stmt := top 19
abbrev sScaled : Stmt := top 26
abbrev sCommon : Stmt := top 34
abbrev sMade : Stmt := top 35
abbrev sJoin : Stmt := top 36
abbrev sSides : Stmt := top 37
abbrev sDrawn : Stmt := top 38
abbrev sLaw : Stmt := top 39
theorem same_new {H : Hp} {q : Addr} {o : HO} (n : H q = none) : Same H (upd H q o) := fun b u e => by rw [upd_ne (ne_of_none e n)]; exact e
theorem Same.gone {H H' : Hp} {p : Addr} (k : Same H H') (n : H' p = none) : H p = none := by
  cases z : H p with
  | none => rfl
  | some o => rw [k _ _ z] at n; cases n
section
variable {X : Cx}
theorem pe_never {e : Expr} : PE X e (fun _ _ _ => False) := ⟨fun _ _ _ _ _ _ h => h.elim⟩
theorem pe_or {e : Expr} {t t' : TE} (h : PE X e t) (h' : PE X e t') : PE X e (fun σ H Q => t σ H Q ∨ t' σ H Q) :=
  ⟨fun pins s σ H Q I q => q.elim (h.run pins s σ H Q I) (h'.run pins s σ H Q I)⟩
theorem pi_or {tg e : Expr} {t t' : TI} (h : PI X tg e t) (h' : PI X tg e t') : PI X tg e (fun σ H R => t σ H R ∨ t' σ H R) :=
  ⟨fun pins s σ H R I q => q.elim (h.run pins s σ H R I) (h'.run pins s σ H R I)⟩
theorem pe_imp {e : Expr} {t t' : TE} (h : PE X e t) (k : ∀ σ H Q, t' σ H Q → t σ H Q) : PE X e t' := ⟨fun pins s σ H Q I q => h.run pins s σ H Q I (k σ H Q q)⟩
end
theorem fnr_of {P : Program} {w : World} {K : PySem.W.Frag} {mg : Str → Option Value} {base : Heap} {CX : CXT} {k : Nat} {f : Addr} {fd : FuncData} {ps : List Str} {sp : Sp} (F : FnOk P w K mg base CX k f fd ps sp) (b : Binds K fd ps []) : FnR P w K mg base CX k f sp := by
  intro A above s H us vs Q E room env rv hs
  have hl : us.length = ps.length := rv.length.symm.trans (F.len _ _ _ _ hs)
  have bt := b s us (env.mod.kin.keeps fun b o e => (env.bs b o e).1) (by rw [List.append_nil]; exact hl)
  rw [List.append_nil] at bt
  exact F.run A above s H ⟨us, []⟩ us vs Q E room env bt rv hs
/-- a def that stands under its name -/
structure Df (P : Program) (w : World) (K : PySem.W.Frag) (mg : Str → Option Value) (base : Heap) (k : Nat) (x : Str) (ps : List Str) (sp : Sp) : Prop where
  ex : ∃ (f : Addr) (fd : FuncData), FnOk P w K mg base CX0 k f fd ps sp ∧ mg x = some (.ref f) ∧ PySem.W.keepIn K (.ref f) = true ∧ Binds K fd ps []
/-- a list or a tuple of ints -/
def Ints (H : Hp) (a : Addr) (ns : List Int) : Prop := H a = some (.lst (ns.map V.int)) ∨ H a = some (.tup (ns.map V.int))
theorem Ints.keep {H H' : Hp} {a : Addr} {ns : List Int} (h : Ints H a ns) (k : Same H H') : Ints H' a ns := h.imp (k _ _) (k _ _)
def testF (t : Addr) (b : Int) : List (Str × V) := [("parts", .ref t), ("bound", .int b)]
/-- a test: its parts and its bound -/
def TestAt (C : Addr) (H : Hp) (x : Addr) (ps : List Int) (b : Int) : Prop := ∃ dx t, H x = some (.ins C dx (testF t b)) ∧ H t = some (.tup (ps.map V.int))
theorem TestAt.keep {C : Addr} {H H' : Hp} {x : Addr} {ps : List Int} {b : Int} (h : TestAt C H x ps b) (k : Same H H') : TestAt C H' x ps b := by
  obtain ⟨dx, t, h1, h2⟩ := h
  exact ⟨dx, t, k _ _ h1, k _ _ h2⟩
def Sm (n : Int) : Prop := n.natAbs < 2 ^ 140
def AllSm (ns : List Int) : Prop := ∀ n ∈ ns, Sm n
def sumI (ps ns : List Int) : Int := (List.zipWith (fun a b => a * b) ps ns).sum
def spIsInt : Sp := fun vs H Q _ => ∃ i : Int, vs = [.int i] ∧ Q (.bl true) H
def spIsL : Sp := fun vs H Q _ => ∃ (a : Addr) (ns : List Int), vs = [.ref a] ∧ Ints H a ns ∧ ns.length ≤ 1000 ∧ ∀ H', Same H H' → Q (.bl true) H'
def spAreP : Sp := fun vs H Q _ => ∃ (a : Addr) (ns : List Int), vs = [.ref a] ∧ Ints H a ns ∧ 1 ≤ ns.length ∧ ns.length ≤ 5 ∧ ∀ H', Same H H' → Q (.bl true) H'
def spTInit (C : Addr) : Sp := fun vs H Q _ => ∃ (x dx a : Addr) (ns : List Int) (b : Int), vs = [.ref x, .ref a, .int b] ∧ H x = some (.ins C dx []) ∧ Ints H a ns ∧ 1 ≤ ns.length ∧ ns.length ≤ 5 ∧
  ∀ H' t, But x H H' → H' x = some (.ins C dx (testF t b)) → H' t = some (.tup (ns.map V.int)) → Q .non H'
def spTLen (C : Addr) : Sp := fun vs H Q _ => ∃ (x : Addr) (ps : List Int) (b : Int), vs = [.ref x] ∧ TestAt C H x ps b ∧ ps.length ≤ 1000 ∧ Q (.int ps.length) H
def spAmount (C : Addr) : Sp := fun vs H Q _ => ∃ (x a : Addr) (ps ns : List Int) (b : Int), vs = [.ref x, .ref a] ∧ TestAt C H x ps b ∧ Ints H a ns ∧ ps.length = ns.length ∧ ps.length ≤ 1000 ∧ AllSm ps ∧ AllSm ns ∧ ∀ H', Same H H' → Q (.int (sumI ps ns)) H'
def spTCall (C : Addr) : Sp := fun vs H Q _ => ∃ (x a : Addr) (ps ns : List Int) (b : Int), vs = [.ref x, .ref a] ∧ TestAt C H x ps b ∧ Ints H a ns ∧ ps.length = ns.length ∧ ps.length ≤ 1000 ∧ AllSm ps ∧ AllSm ns ∧ ∀ H', Same H H' → Q (.bl (decide (b ≤ sumI ps ns))) H'
theorem lk_hit {k : Str} {v : V} {l : List (Str × V)} : List.lookup k ((k, v) :: l) = some v := by simp [List.lookup]
theorem lk_miss {k k' : Str} {v : V} {l : List (Str × V)} (h : ¬ k = k') : List.lookup k ((k', v) :: l) = List.lookup k l := by
  have : (k == k') = false := by simpa using h
  simp [List.lookup, this]
theorem test_parts (t : Addr) (b : Int) : (testF t b).lookup ("parts" : Str) = some (.ref t) := lk_hit
theorem test_bound (t : Addr) (b : Int) : (testF t b).lookup ("bound" : Str) = some (.int b) := (lk_miss (by decide +kernel)).trans lk_hit
theorem put_test (t : Addr) (b : Int) : putF "bound" (.int b) (putF "parts" (.ref t) []) = testF t b := by
  show (if ("parts" : Str) = "bound" then _ else _) = _
  rw [if_neg (by decide +kernel)]
  rfl
def kk2 (C x dx t : Addr) (b : Int) (H2 : Hp) (Q : VK) : Prop := Q .non (upd (upd H2 x (.ins C dx (putF "parts" (.ref t) []))) x (.ins C dx (putF "bound" (.int b) (putF "parts" (.ref t) []))))
/-- the class of tests -/
structure TCls (K : PySem.W.Frag) (C : Addr) : Prop where
  cl : Cls K C
  n1 : NoAttr K C "parts"
  n2 : NoAttr K C "bound"
theorem walk_M {K : PySem.W.Frag} {a b : Addr} {xs ys : List V} {n : Nat} (hn : n = xs.length) (hl : xs.length = ys.length) : Walk (ItM K a b) n (fun H => SqT K H a xs ∧ SqL K H b ys) (YPair (fun i => xs[i]?) (fun i => ys[i]?)) := by
  subst hn
  refine ⟨fun i H hi q => ⟨xs, ys, q.1, q.2, hi, by omega⟩, fun H q => ⟨xs, ys, q.1, q.2, Nat.le_refl _, by omega, .inl rfl⟩, fun i H v H' hi q y => ?_⟩
  obtain ⟨T, x, z, h1, h2, h3, h4, h5⟩ := y
  exact ⟨T, x, z, h1, h2, h3, h4 xs q.1, h5 ys q.2⟩
theorem walk_TT {K : PySem.W.Frag} {a b : Addr} {xs ys : List V} {n : Nat} (hn : n = xs.length) (hl : xs.length = ys.length) : Walk (RZ.ItzT K a b) n (fun H => SqT K H a xs ∧ SqT K H b ys) (YPair (fun i => xs[i]?) (fun i => ys[i]?)) := by
  subst hn
  refine ⟨fun i H hi q => ⟨xs, ys, _, _, q.1, q.2, List.getElem?_eq_getElem hi, List.getElem?_eq_getElem (by omega)⟩, fun H q => ⟨xs, ys, q.1, q.2, .inl (Nat.le_refl _)⟩, fun i H v H' hi q y => ?_⟩
  obtain ⟨T, x, z, h1, h2, h3, h4, h5⟩ := y
  exact ⟨T, x, z, h1, h2, h3, h4 xs q.1, h5 ys q.2⟩
theorem int_at {ns : List Int} {i : Nat} {x : V} (h : (ns.map V.int)[i]? = some x) : ∃ n, ns[i]? = some n ∧ x = .int n := by
  rw [List.getElem?_map] at h
  cases z : ns[i]? with
  | none => rw [z] at h; cases h
  | some n => rw [z] at h; exact ⟨n, rfl, (Option.some.inj h).symm⟩
theorem zip_at {ps ns : List Int} {i : Nat} {p n : Int} (h1 : ps[i]? = some p) (h2 : ns[i]? = some n) : (List.zipWith (fun a b => a * b) ps ns)[i]? = some (p * n) := by
  rw [List.getElem?_zipWith, h1, h2]
theorem mulW {p n : Int} (h1 : Sm p) (h2 : Sm n) : CMulW p n := wide_mul h1 h2 (by decide) (by decide) (by decide)
section
variable {P : Program} {w : World} {K : PySem.W.Frag} {mg : Str → Option Value} {base : Heap}
theorem scIsInt : FnScope ["value"] ["value"] (defScope sIsInt) := ⟨rfl, rfl, rfl, by decide +kernel, rfl, by decide +kernel, by decide +kernel⟩
theorem ok_isInt {f : Addr} {fd : FuncData} (F : Fun K "is_integer" "is_integer" sIsInt f fd) (T : Blt mg) : FnOk P w K mg base CX0 1 f fd ["value"] spIsInt := by
  refine F.ok scIsInt (fun vs H Q E h => ?_) (fun cdv A outer s H vs Q E hr h => ?_)
  · obtain ⟨i, rfl, _⟩ := h
    rfl
  · obtain ⟨i, rfl, k⟩ := h
    refine ⟨_, pss_one (ps_ret (pe_and (pe_callB call_isi (by rfl) T.isi (by decide +kernel) (pa_cons (pv 0) (pa_cons (pe_bltn (v := .ty "int") (by rfl) T.int (by decide +kernel) rfl) pa_nil)))
      (pe_one (pe_not (pe_callB call_isi (by rfl) T.isi (by decide +kernel) (pa_cons (pv 0) (pa_cons (pe_bltn (v := .ty "bool") (by rfl) T.bool (by decide +kernel) rfl) pa_nil))))))), ?_⟩
    exact ⟨_, rfl, _, _, _, _, true, rfl, .ty _, .base (.int i), kit_ty (by decide +kernel), true, rfl, iteT ⟨_, rfl, _, _, _, _, false, rfl, .ty _, .base (.int i), kit_ty (by decide +kernel), _, rfl, k⟩⟩
theorem kit_any2 {T a b : String} {r1 r2 : Bool} (h1 : kitB T a = some r1) (h2 : kitB T b = some r2) : PySem.W.kitAny K (.type T) [.type a, .type b] = some (r1 || r2) := by
  refine kitAny_cons (kit_ty h1) (fun e => ?_) (fun e => by rw [e]; rfl)
  refine kitAny_cons (kit_ty h2) (fun e2 => ?_) (fun e2 => by rw [e, e2]; rfl)
  rw [e, e2]
  exact kitAny_nil
theorem scIsL : FnScope ["value", "item"] ["value"] (defScope sIsL) := ⟨rfl, rfl, rfl, by decide +kernel, rfl, by decide +kernel, by decide +kernel⟩
theorem all_true (n : Nat) : (List.replicate n true).all id = true := by
  induction n with
  | zero => rfl
  | succ n ih => rw [List.replicate_succ, List.all_cons, ih]; rfl
theorem ok_isL {f : Addr} {fd : FuncData} (F : Fun K "is_list_of_integers" "is_list_of_integers" sIsL f fd) (T : Blt mg) (D : Df P w K mg base 1 "is_integer" ["value"] spIsInt) : FnOk P w K mg base CX0 2 f fd ["value"] spIsL := by
  refine F.ok scIsL (fun vs H Q E h => ?_) (fun cdv A outer s H vs Q E hr h => ?_)
  · obtain ⟨a, ns, rfl, _⟩ := h
    rfl
  · obtain ⟨a, ns, rfl, ha, hn, k⟩ := h
    refine ⟨_, pss_cons (ps_if (pt_not (pt_val (pe_callB call_isiT (by rfl) T.isi (by decide +kernel) (pa_cons (pv 0) (pa_cons (pe_tup (pa_cons (pe_bltn (v := .ty "list") (by rfl) T.list (by decide +kernel) rfl) (pa_cons (pe_bltn (v := .ty "tuple") (by rfl) T.tuple (by decide +kernel) rfl) pa_nil))) pa_nil))))) (pss_one ps_never) pss_nil)
      (pss_cons (ps_for PassesOwn.never rfl (pi_or (pi_list (pv 0)) (pi_tup (pv 0))) (pg_name (i := 1) scIsL.nd rfl (.inl rfl))
        (pss_one (ps_if (PW.pt (pw_or (pt_not (pt_val (pe_callB call_isi (by rfl) T.isi (by decide +kernel) (pa_cons (pv 1) (pa_cons (pe_bltn (v := .ty "int") (by rfl) T.int (by decide +kernel) rfl) pa_nil))))) (pw_or1 (pt_val (pe_callB call_isi (by rfl) T.isi (by decide +kernel) (pa_cons (pv 1) (pa_cons (pe_bltn (v := .ty "bool") (by rfl) T.bool (by decide +kernel) rfl) pa_nil))))))) (pss_one ps_never) pss_nil)))
      (pss_one (ps_ret pe_bl))), ?_⟩
    have turn : ∀ {x : V} {i : Nat}, (ns.map V.int)[i]? = some x → ∃ n, V.int n = x := fun {x i} hx => by
      rw [List.getElem?_map] at hx
      cases z : ns[i]? with
      | none => rw [z] at hx; cases hx
      | some n => rw [z] at hx; exact ⟨n, Option.some.inj hx⟩
    rcases ha with ha | ha
    · refine ⟨_, rfl, (by show 2 ≤ sizeLine; decide), fun tp ntp => ⟨.ref a, tp, _, _, _, true, rfl, upd_same, .cons (.ty _) (.cons (.ty _) .nil), .base (.lst (same_new ntp _ _ ha)), kit_any2 (r1 := true) (r2 := false) (by decide +kernel) (by decide +kernel), _, rfl, iteF ?_⟩⟩
      have s1 := same_new (o := .tup [.ty "list", .ty "tuple"]) ntp
      have h1 := s1 _ _ ha
      generalize upd H tp (.tup [.ty "list", .ty "tuple"]) = H1 at s1 h1 ⊢
      refine .inl ⟨_, rfl, a, rfl, ⟨_, SqL.of h1⟩, ?_⟩
      have wk : Walk (Itl K a) ns.length (fun H => SqL K H a (ns.map V.int)) (YAt (ns.map V.int)) := by
        have w := walk_list (K := K) (a := a) (xs := ns.map V.int)
        rw [List.length_map] at w
        exact w
      refine for_it wk (fun i σ H' => H' = H1 ∧ ∃ z, σ = [some (.ref a), z]) ⟨rfl, _, rfl⟩ (fun i σ H' _ h => by rw [h.1]; exact SqL.of h1) (fun i v σ H2 H3 hi h y => ?_) (fun σ H' h => ?_)
      · obtain ⟨rfl, z, rfl⟩ := h
        obtain ⟨rfl, hx⟩ := y
        obtain ⟨n, rfl⟩ := turn hx
        exact ⟨_, rfl, _, _, _, _, true, rfl, .ty _, .base (.int n), kit_ty (by decide +kernel), _, rfl, iteF ⟨_, rfl, _, _, _, _, false, rfl, .ty _, .base (.int n), kit_ty (by decide +kernel), _, rfl, iteF ⟨rfl, _, rfl⟩⟩⟩
      · obtain ⟨rfl, z, rfl⟩ := h
        exact k _ s1
    · refine ⟨_, rfl, (by show 2 ≤ sizeLine; decide), fun tp ntp => ⟨.ref a, tp, _, _, _, true, rfl, upd_same, .cons (.ty _) (.cons (.ty _) .nil), .base (.tup (same_new ntp _ _ ha)), kit_any2 (r1 := false) (r2 := true) (by decide +kernel) (by decide +kernel), _, rfl, iteF ?_⟩⟩
      have s1 := same_new (o := .tup [.ty "list", .ty "tuple"]) ntp
      have h1 := s1 _ _ ha
      generalize upd H tp (.tup [.ty "list", .ty "tuple"]) = H1 at s1 h1 ⊢
      refine .inr ⟨_, rfl, a, rfl, ⟨_, SqT.of h1⟩, ?_⟩
      have wk : Walk (Itt K a) ns.length (fun H => SqT K H a (ns.map V.int)) (YAt (ns.map V.int)) := by
        have w := walk_tup (K := K) (a := a) (xs := ns.map V.int)
        rw [List.length_map] at w
        exact w
      refine for_it wk (fun i σ H' => H' = H1 ∧ ∃ z, σ = [some (.ref a), z]) ⟨rfl, _, rfl⟩ (fun i σ H' _ h => by rw [h.1]; exact SqT.of h1) (fun i v σ H2 H3 hi h y => ?_) (fun σ H' h => ?_)
      · obtain ⟨rfl, z, rfl⟩ := h
        obtain ⟨rfl, hx⟩ := y
        obtain ⟨n, rfl⟩ := turn hx
        exact ⟨_, rfl, _, _, _, _, true, rfl, .ty _, .base (.int n), kit_ty (by decide +kernel), _, rfl, iteF ⟨_, rfl, _, _, _, _, false, rfl, .ty _, .base (.int n), kit_ty (by decide +kernel), _, rfl, iteF ⟨rfl, _, rfl⟩⟩⟩
      · obtain ⟨rfl, z, rfl⟩ := h
        exact k _ s1
theorem Ints.sq {H : Hp} {a : Addr} {ns : List Int} (h : Ints H a ns) : SqL K H a (ns.map V.int) ∨ SqT K H a (ns.map V.int) := h.imp SqL.of SqT.of
theorem scAreP : FnScope ["value"] ["value"] (defScope sAreP) := ⟨rfl, rfl, rfl, by decide +kernel, rfl, by decide +kernel, by decide +kernel⟩
theorem ok_areP {f : Addr} {fd : FuncData} (F : Fun K "are_parts" "are_parts" sAreP f fd) (T : Blt mg) (D : Df P w K mg base 2 "is_list_of_integers" ["value"] spIsL) {t : Tok} (gM : mg "MOST_PARTS" = some (.int 5 t)) : FnOk P w K mg base CX0 3 f fd ["value"] spAreP := by
  obtain ⟨f1, fd1, G1, g1, k1, b1⟩ := D.ex
  refine F.ok scAreP (fun vs H Q E h => ?_) (fun cdv A outer s H vs Q E hr h => ?_)
  · obtain ⟨a, ns, rfl, _⟩ := h
    rfl
  · obtain ⟨a, ns, rfl, ha, n1, n5, k⟩ := h
    refine ⟨_, pss_one (ps_ret (pe_and (pe_call G1 hr (by rfl) g1 k1 b1 .nil pass0 (pa_cons (pv 0) pa_nil)) (pe_one (pe_chain op_le op_le pe_int (pe_callB call_len_seq (by rfl) T.len PySem.boot_len (pa_cons (pv 0) pa_nil)) (pe_glob (v := .int 5) rfl gM ⟨_, rfl⟩))))), ?_⟩
    refine ⟨_, rfl, a, ns, rfl, ha, by omega, fun H1 s1 => ⟨_, rfl, iteT ?_⟩⟩
    have h1 := ha.keep s1
    refine ⟨_, rfl, a, _, rfl, h1.sq, _, _, rfl, rfl, _, rfl, ?_⟩
    rw [List.length_map, decide_eq_true (show (1 : Int) ≤ (ns.length : Int) by omega)]
    refine iteT ⟨_, _, rfl, rfl, ?_⟩
    have k2 := k H1 s1
    show Q (.bl (decide ((ns.length : Int) ≤ 5))) H1
    rw [decide_eq_true (show (ns.length : Int) ≤ 5 by omega)]
    exact k2
theorem scTInit : FnScope ["self", "parts", "bound"] ["self", "parts", "bound"] (defScope sTInit) := ⟨rfl, rfl, rfl, by decide +kernel, rfl, by decide +kernel, by decide +kernel⟩
theorem ok_tInit {f C : Addr} {fd : FuncData} (F : Fun K "__init__" "Test.__init__" sTInit f fd) (T : Blt mg) (TC : TCls K C) (D1 : Df P w K mg base 3 "are_parts" ["value"] spAreP) (D2 : Df P w K mg base 1 "is_integer" ["value"] spIsInt) : FnOk P w K mg base CX0 4 f fd ["self", "parts", "bound"] (spTInit C) := by
  obtain ⟨f1, fd1, G1, g1, k1, b1⟩ := D1.ex
  obtain ⟨f2, fd2, G2, g2, k2, b2⟩ := D2.ex
  refine F.ok scTInit (fun vs H Q E h => ?_) (fun cdv A outer s H vs Q E hr h => ?_)
  · obtain ⟨x, dx, a, ns, b, rfl, _⟩ := h
    rfl
  · obtain ⟨x, dx, a, ns, b, rfl, hx, ha, n1, n5, kk⟩ := h
    refine ⟨_, PSs.nox (pss_cons (ps_if (pt_not (pt_val (pe_call G1 hr (by rfl) g1 k1 b1 .nil pass0 (pa_cons (pv 1) pa_nil)))) (pss_one ps_never) pss_nil)
      (pss_cons (ps_if (pt_not (pt_val (pe_call G2 (hr.mono (by decide)) (by rfl) g2 k2 b2 .nil pass0 (pa_cons (pv 2) pa_nil)))) (pss_one ps_never) pss_nil)
      (pss_cons (ps_fld (pv 0) (pe_callTy call_tuple_of (by rfl) T.tuple (by decide +kernel) (pa_cons (pv 1) pa_nil)) rfl) (pss_one (ps_fld (pv 0) (pv 2) rfl))))), ?_⟩
    refine ⟨_, rfl, a, ns, rfl, ha, n1, n5, fun H1 s1 => ⟨true, rfl, iteF ?_⟩⟩
    refine ⟨_, rfl, b, rfl, true, rfl, iteF ?_⟩
    have hx1 := s1 _ _ hx
    have tail : ∀ (t : Addr) (H2 : Hp), Same H1 H2 → H2 t = some (.tup (ns.map V.int)) → H2 x = some (.ins C dx []) → kk2 C x dx t b H2 Q := fun t H2 s2 ht hx2 => by
      have tx : t ≠ x := ne_of ht hx2 (by intro z; cases z)
      refine kk _ t (fun c o n e => ?_) ?_ ?_
      · rw [upd_ne n, upd_ne n]; exact s2 _ _ (s1 _ _ e)
      · rw [upd_same, put_test]
      · rw [upd_ne tx, upd_ne tx]; exact ht
    rcases ha.keep s1 with h1 | h1
    · refine ⟨_, rfl, a, _, rfl, .inl ⟨SqL.of h1, fun l nl => ?_⟩⟩
      have hx2 := same_new (o := .tup (ns.map V.int)) nl _ _ hx1
      exact ⟨_, rfl, x, C, dx, _, rfl, hx2, TC.cl, TC.n1, (by show 0 < 1000; decide), _, rfl, _, rfl, x, C, dx, _, rfl, upd_same, TC.cl, TC.n2, (by show 1 < 1000; decide), tail l _ (same_new nl) upd_same hx2⟩
    · exact ⟨_, rfl, a, _, rfl, .inr ⟨SqT.of h1, _, rfl, x, C, dx, _, rfl, hx1, TC.cl, TC.n1, (by show 0 < 1000; decide), _, rfl, _, rfl, x, C, dx, _, rfl, upd_same, TC.cl, TC.n2, (by show 1 < 1000; decide), tail a _ (Same.refl _) h1 hx1⟩⟩
theorem scTLen : FnScope ["self"] ["self"] (defScope sTLen) := ⟨rfl, rfl, rfl, by decide +kernel, rfl, by decide +kernel, by decide +kernel⟩
theorem ok_tLen {f C : Addr} {fd : FuncData} (F : Fun K "__len__" "Test.__len__" sTLen f fd) (T : Blt mg) (TC : TCls K C) : FnOk P w K mg base CX0 1 f fd ["self"] (spTLen C) := by
  refine F.ok scTLen (fun vs H Q E h => ?_) (fun cdv A outer s H vs Q E hr h => ?_)
  · obtain ⟨x, ps, b, rfl, _⟩ := h
    rfl
  · obtain ⟨x, ps, b, rfl, ⟨dx, t, hx, ht⟩, n1, kk⟩ := h
    refine ⟨_, pss_one (ps_ret (pe_callB call_len_seq (by rfl) T.len PySem.boot_len (pa_cons (pe_fld (pv 0) rfl) pa_nil))), ?_⟩
    refine ⟨_, rfl, x, C, dx, _, _, rfl, hx, TC.cl, TC.n1, test_parts t b, t, _, rfl, .inr (SqT.of ht), ?_⟩
    rw [List.length_map]
    exact kk
theorem scAmount : FnScope ["self", "numbers", "total", "part", "number"] ["self", "numbers"] (defScope sAmount) := ⟨rfl, rfl, rfl, by decide +kernel, rfl, by decide +kernel, by decide +kernel⟩
theorem ok_amount {f C : Addr} {fd : FuncData} (F : Fun K "amount" "Test.amount" sAmount f fd) (T : Blt mg) (msum : mg "sum" = none) (mzip : mg "zip" = none) (TC : TCls K C) (D1 : Df P w K mg base 2 "is_list_of_integers" ["value"] spIsL) : FnOk P w K mg base CX0 3 f fd ["self", "numbers"] (spAmount C) := by
  refine F.ok scAmount (fun vs H Q E h => ?_) (fun cdv A outer s H vs Q E hr h => ?_)
  · obtain ⟨x, a, ps, ns, b, rfl, _⟩ := h
    rfl
  · obtain ⟨x, a, ps, ns, b, rfl, tt, ha, hl, n1, sp1, sp2, kk⟩ := h
    refine ⟨_, (pss_cons (ps_if (PW.pt (pw_or (pt_not (pt_val (pe_callB call_isiT (by rfl) T.isi (by decide +kernel) (pa_cons (pv 1) (pa_cons (pe_tup (pa_cons (pe_bltn (v := .ty "list") (by rfl) T.list (by decide +kernel) rfl) (pa_cons (pe_bltn (v := .ty "tuple") (by rfl) T.tuple (by decide +kernel) rfl) pa_nil))) pa_nil)))))
        (pw_or1 (pt_cmpR op_ne (pe_callB call_len_seq (by rfl) T.len PySem.boot_len (pa_cons (pv 1) pa_nil)) (pe_callB call_len_seq (by rfl) T.len PySem.boot_len (pa_cons (pe_fld (pv 0) rfl) pa_nil)) (nomark _))))) (pss_one ps_never) pss_nil)
      (pss_cons (ps_set (i := 2) scAmount.nd rfl (.inl rfl) pe_int)
      (pss_cons (ps_for PassesOwn.never rfl (pi_or (pi_zipM rfl mzip (pa_cons (pe_fld (pv 0) rfl) (pa_cons (pv 1) pa_nil))) (RZ.pi_zipA rfl mzip (pa_cons (pe_fld (pv 0) rfl) (pa_cons (pv 1) pa_nil)))) (pg_tup (by rfl) (pgs_cons (pg_name (i := 3) scAmount.nd rfl (.inl rfl)) (pgs_cons (pg_name (i := 4) scAmount.nd rfl (.inl rfl)) pgs_nil)))
        (pss_cons (ps_if (PW.pt (pw_or (pt_not (pt_val (pe_callB call_isi (by rfl) T.isi (by decide +kernel) (pa_cons (pv 4) (pa_cons (pe_bltn (v := .ty "int") (by rfl) T.int (by decide +kernel) rfl) pa_nil))))) (pw_or1 (pt_val (pe_callB call_isi (by rfl) T.isi (by decide +kernel) (pa_cons (pv 4) (pa_cons (pe_bltn (v := .ty "bool") (by rfl) T.bool (by decide +kernel) rfl) pa_nil))))))) (pss_one ps_never) pss_nil)
        (pss_one (ps_set (i := 2) scAmount.nd rfl (.inl rfl) (pe_op op_add (pv 2) (pe_op op_mulW (pv 3) (pv 4)))))))
      (pss_one (ps_ret (pv 2)))))), ?_⟩
    obtain ⟨dx, t, hx, ht⟩ := id tt
    refine ⟨_, rfl, (by show 2 ≤ sizeLine; decide), fun tp ntp => ?_⟩
    have s1 := same_new (o := .tup [.ty "list", .ty "tuple"]) ntp
    have hT1 : upd H tp (.tup [.ty "list", .ty "tuple"]) tp = some (.tup [.ty "list", .ty "tuple"]) := upd_same
    generalize upd H tp (.tup [.ty "list", .ty "tuple"]) = H1 at s1 hT1 ⊢
    have h1 := ha.keep s1
    have hx1 := s1 _ _ hx
    have ht1 := s1 _ _ ht
    have isi : ∃ u : Value, TyX K H1 (.ref a) u ∧ PySem.W.kitAny K u [.type "list", .type "tuple"] = some true := by
      rcases h1 with h1 | h1
      · exact ⟨_, .base (.lst h1), kit_any2 (r1 := true) (r2 := false) (by decide +kernel) (by decide +kernel)⟩
      · exact ⟨_, .base (.tup h1), kit_any2 (r1 := false) (r2 := true) (by decide +kernel) (by decide +kernel)⟩
    obtain ⟨u, ty, ki⟩ := isi
    refine ⟨.ref a, tp, _, _, _, true, rfl, hT1, .cons (.ty _) (.cons (.ty _) .nil), ty, ki, _, rfl, iteF ?_⟩
    refine ⟨_, rfl, a, _, rfl, h1.sq, _, rfl, x, C, dx, _, _, rfl, hx1, TC.cl, TC.n1, test_parts t b, t, _, rfl, .inr (SqT.of ht1), rfl, _, rfl, ?_⟩
    rw [List.length_map, List.length_map, hl]
    refine ite2 (fun e => absurd e (by simp)) (fun _ => ?_)
    have hz : (List.zipWith (fun a b => a * b) ps ns).length = ps.length := by rw [List.length_zipWith]; omega
    have sumS : ∀ {L : List Int} {i : Nat} {z : Int}, L[i]? = some z → (L.take (i + 1)).sum = (L.take i).sum + z := fun {L i z} h => by
      rw [List.take_add_one, h, List.sum_append]
      simp
    have turn : ∀ (i : Nat) (H2 H3 : Hp) (v : V) (x3 x4 : Option V), i < ps.length → Same H1 H2 → YPair (fun i => (ps.map V.int)[i]?) (fun i => (ns.map V.int)[i]?) i H2 v H3 →
        ∃ (T' : Addr) (p n : Int), v = .ref T' ∧ SqT K H3 T' [.int p, .int n] ∧ Same H1 H3 ∧ CMulW p n ∧ ((List.zipWith (fun a b => a * b) ps ns).take i).sum + p * n = ((List.zipWith (fun a b => a * b) ps ns).take (i + 1)).sum := by
      intro i H2 H3 v x3 x4 hi s2 y
      obtain ⟨T', u, z, rfl, nT, rfl, h4, h5⟩ := y
      obtain ⟨p, hp, rfl⟩ := int_at h4
      obtain ⟨n, hn, rfl⟩ := int_at h5
      exact ⟨T', p, n, rfl, SqT.of upd_same, s2.trans (same_new nT), mulW (sp1 p (List.mem_of_getElem? hp)) (sp2 n (List.mem_of_getElem? hn)), (sumS (zip_at hp hn)).symm⟩
    rcases h1 with h1 | h1
    · refine .inl ⟨_, rfl, x, C, dx, _, _, rfl, hx1, TC.cl, TC.n1, test_parts t b, _, rfl, t, a, _, _, rfl, SqT.of ht1, SqL.of h1, ?_⟩
      refine for_it (walk_M (xs := ps.map V.int) (ys := ns.map V.int) (n := ps.length) (by simp) (by simpa using hl)) (fun i σ G => Same H1 G ∧ ∃ x3 x4, σ = [some (.ref x), some (.ref a), some (.int (((List.zipWith (fun a b => a * b) ps ns).take i).sum)), x3, x4]) ⟨Same.refl _, none, none, rfl⟩
        (fun i σ G _ h => ⟨SqT.of (h.1 _ _ ht1), SqL.of (h.1 _ _ h1)⟩) (fun i v σ G2 G3 hi h y => ?_) (fun σ G h => ?_)
      · obtain ⟨s2, x3, x4, rfl⟩ := h
        obtain ⟨T', p, n, rfl, hT, s3, hm, es⟩ := turn i G2 G3 v x3 x4 hi s2 y
        refine ⟨T', _, rfl, hT, rfl, _, _, rfl, _, _, rfl, rfl, ?_⟩
        refine ⟨_, rfl, _, _, _, _, true, rfl, .ty _, .base (.int n), kit_ty (by decide +kernel), _, rfl, iteF ⟨_, rfl, _, _, _, _, false, rfl, .ty _, .base (.int n), kit_ty (by decide +kernel), _, rfl, iteF ?_⟩⟩
        refine ⟨_, rfl, _, rfl, _, rfl, p, n, rfl, rfl, hm, _, _, rfl, rfl, s3, some (.int p), some (.int n), ?_⟩
        rw [← es]
        rfl
      · obtain ⟨s2, x3, x4, rfl⟩ := h
        refine ⟨_, rfl, ?_⟩
        rw [show ps.length = (List.zipWith (fun a b => a * b) ps ns).length from hz.symm, List.take_length]
        exact kk G (s1.trans s2)
    · refine .inr ⟨_, rfl, x, C, dx, _, _, rfl, hx1, TC.cl, TC.n1, test_parts t b, _, rfl, t, a, _, _, rfl, .inr ⟨SqT.of ht1, SqT.of h1, ?_⟩⟩
      refine for_it (walk_TT (xs := ps.map V.int) (ys := ns.map V.int) (n := ps.length) (by simp) (by simpa using hl)) (fun i σ G => Same H1 G ∧ ∃ x3 x4, σ = [some (.ref x), some (.ref a), some (.int (((List.zipWith (fun a b => a * b) ps ns).take i).sum)), x3, x4]) ⟨Same.refl _, none, none, rfl⟩
        (fun i σ G _ h => ⟨SqT.of (h.1 _ _ ht1), SqT.of (h.1 _ _ h1)⟩) (fun i v σ G2 G3 hi h y => ?_) (fun σ G h => ?_)
      · obtain ⟨s2, x3, x4, rfl⟩ := h
        obtain ⟨T', p, n, rfl, hT, s3, hm, es⟩ := turn i G2 G3 v x3 x4 hi s2 y
        refine ⟨T', _, rfl, hT, rfl, _, _, rfl, _, _, rfl, rfl, ?_⟩
        refine ⟨_, rfl, _, _, _, _, true, rfl, .ty _, .base (.int n), kit_ty (by decide +kernel), _, rfl, iteF ⟨_, rfl, _, _, _, _, false, rfl, .ty _, .base (.int n), kit_ty (by decide +kernel), _, rfl, iteF ?_⟩⟩
        refine ⟨_, rfl, _, rfl, _, rfl, p, n, rfl, rfl, hm, _, _, rfl, rfl, s3, some (.int p), some (.int n), ?_⟩
        rw [← es]
        rfl
      · obtain ⟨s2, x3, x4, rfl⟩ := h
        refine ⟨_, rfl, ?_⟩
        rw [show ps.length = (List.zipWith (fun a b => a * b) ps ns).length from hz.symm, List.take_length]
        exact kk G (s1.trans s2)
end
end Ev
namespace Ev
open PySem L2 PySem.Spec PyProof.Rows
def eqT (ps : List Int) (b : Int) (qs : List Int) (c : Int) : Bool := decide (ps = qs) && decide (V.int b = V.int c)
theorem sh_intsT (ns : List Int) : SeqAt.shaped (.tuple (ns.map PyData.int)) = true := by
  have h := sh_ints ns
  unfold SeqAt.shaped at h ⊢
  simpa [PyData.canLay0, PyData.depth] using h
theorem eqv_tupI (ps qs : List Int) : PyData.eqv (.tuple (ps.map PyData.int)) (.tuple (qs.map PyData.int)) = decide (ps = qs) := by
  have h : ∀ ps qs : List Int, PyData.eqvAll (ps.map PyData.int) (qs.map PyData.int) = decide (ps = qs) := by
    intro ps
    induction ps with
    | nil => intro qs; cases qs <;> simp [PyData.eqvAll]
    | cons a r ih =>
      intro qs
      cases qs with
      | nil => simp [PyData.eqvAll]
      | cons c t =>
        simp only [List.map_cons, PyData.eqvAll, ih t, PyData.eqv]
        by_cases e1 : a = c <;> by_cases e2 : r = t <;> simp [e1, e2]
  simp only [PyData.eqv, h]
/-- an instance's kind -/
structure InsT (K : PySem.W.Frag) (C : Addr) : Prop where
  ha : PySem.W.findIn K (.ref C) "__class__" = some (some (.builtin "object.__class__"))
  hn : PySem.W.specialIn K (.builtin "object.__class__") "__get__" = some (some (.builtin "getset_descriptor.__get__"))
  htk : PySem.W.takesIn K (.builtin "object.__class__") = some true
  hm : PySem.W.mroIn K C (.type "object") = some true
  ic : PySem.W.isClsIn K C = true
  tt : PySem.W.typeIn K (.ref C) = some (.type "type")
theorem tyTest {K : PySem.W.Frag} {C : Addr} {H : Hp} {x : Addr} {ps : List Int} {b : Int} (TC : TCls K C) (IT : InsT K C) (h : TestAt C H x ps b) : TyX K H (.ref x) (.ref C) := by
  obtain ⟨dx, t, h1, h2⟩ := h
  exact .base (.ins h1 TC.cl IT.ha IT.hn IT.htk IT.hm)
/-- a value of a built-in type, no test -/
def NoTest (H : Hp) (y : V) : Prop := ∃ (T : String) (l : List String), (∀ (K : PySem.W.Frag) (H' : Hp), Same H H' → TyX K H' y (.type T)) ∧ fastBuiltinMro T = some (l.map Value.type)
theorem noTest_lst {H : Hp} {a : Addr} {xs : List V} (h : H a = some (.lst xs)) : NoTest H (.ref a) := ⟨"list", ["list", "object"], fun _ _ k => .base (.lst (k _ _ h)), by decide +kernel⟩
theorem noTest_tup {H : Hp} {a : Addr} {xs : List V} (h : H a = some (.tup xs)) : NoTest H (.ref a) := ⟨"tuple", ["tuple", "object"], fun _ _ k => .base (.tup (k _ _ h)), by decide +kernel⟩
theorem noTest_non (H : Hp) : NoTest H .non := ⟨"NoneType", ["NoneType", "object"], fun _ _ _ => .base .non, by decide +kernel⟩
theorem noTest_int (H : Hp) (i : Int) : NoTest H (.int i) := ⟨"int", ["int", "object"], fun _ _ _ => .base (.int i), by decide +kernel⟩
theorem NoTest.keep {H H' : Hp} {y : V} (h : NoTest H y) (k : Same H H') : NoTest H' y := by
  obtain ⟨T, l, h1, h2⟩ := h
  exact ⟨T, l, fun K G q => h1 K G (k.trans q), h2⟩
theorem sub_no {K : PySem.W.Frag} {C : Addr} {T : String} {l : List String} (h : fastBuiltinMro T = some (l.map Value.type)) : PySem.W.subIn K (.type T) (.ref C) = some false := by
  show (fastBuiltinMro T).map (·.contains (.ref C)) = some false
  rw [h]
  have z : (l.map Value.type).contains (.ref C) = false := by
    rw [Bool.eq_false_iff]
    intro z
    have m := List.contains_iff_mem.mp z
    simp at m
  exact congrArg some z
theorem kit_no {K : PySem.W.Frag} {C : Addr} {T : String} {l : List String} (IT : InsT K C) (h : fastBuiltinMro T = some (l.map Value.type)) : PySem.W.kitOne K (.type T) (.ref C) = some false := by
  have h1 : (PySem.W.clsIn K C).isSome = true := IT.ic
  unfold PySem.W.kitOne
  rw [show ((Value.type T) == (Value.ref C)) = false from by simp, if_neg Bool.false_ne_true]
  unfold PySem.W.kitCls
  simp only [h1, IT.tt, sub_no h]
  decide
theorem kit_self {K : PySem.W.Frag} {C : Addr} : PySem.W.kitOne K (.ref C) (.ref C) = some true := by
  unfold PySem.W.kitOne
  rw [if_pos (by simp)]
def spTEq (C : Addr) : Sp := fun vs H Q _ => ∃ (x : Addr) (y : V) (ps : List Int) (b : Int), vs = [.ref x, y] ∧ TestAt C H x ps b ∧
  ((∃ z qs c, y = .ref z ∧ TestAt C H z qs c ∧ Q (.bl (eqT ps b qs c)) H) ∨ (NoTest H y ∧ Q (.bl false) H))
section
variable {P : Program} {w : World} {K : PySem.W.Frag} {mg : Str → Option Value} {base : Heap}
theorem scTCall : FnScope ["self", "numbers"] ["self", "numbers"] (defScope sTCall) := ⟨rfl, rfl, rfl, by decide +kernel, rfl, by decide +kernel, by decide +kernel⟩
theorem ok_tCall {f fA C : Addr} {fd fdA : FuncData} (F : Fun K "__call__" "Test.__call__" sTCall f fd) (TC : TCls K C) (GA : FnOk P w K mg base CX0 3 fA fdA ["self", "numbers"] (spAmount C)) (bA : Binds K fdA ["self", "numbers"] []) (mA : Meth K C "amount" fA) : FnOk P w K mg base CX0 4 f fd ["self", "numbers"] (spTCall C) := by
  refine F.ok scTCall (fun vs H Q E h => ?_) (fun cdv A outer s H vs Q E hr h => ?_)
  · obtain ⟨x, a, ps, ns, b, rfl, _⟩ := h
    rfl
  · obtain ⟨x, a, ps, ns, b, rfl, tt, ha, hl, n1, sp1, sp2, kk⟩ := h
    obtain ⟨dx, t, hx, ht⟩ := id tt
    refine ⟨_, pss_one (ps_ret (pe_cmpR op_ge (pe_meth (pv 0) TC.cl mA GA hr bA .nil pass0 (pa_cons (pv 1) pa_nil)) (pe_fld (pv 0) rfl) (nomark _))), ?_⟩
    refine ⟨_, rfl, x, dx, _, rfl, hx, ?_, _, rfl, x, a, ps, ns, b, rfl, tt, ha, hl, n1, sp1, sp2, fun H1 s1 => ?_⟩
    · exact (lk_miss (by decide +kernel)).trans ((lk_miss (by decide +kernel)).trans rfl)
    · exact ⟨_, rfl, x, C, dx, _, _, rfl, s1 _ _ hx, TC.cl, TC.n2, test_bound t b, _, _, rfl, rfl, kk H1 s1⟩
theorem scTEq : FnScope ["self", "other"] ["self", "other"] (defScope sTEq) := ⟨rfl, rfl, rfl, by decide +kernel, rfl, by decide +kernel, by decide +kernel⟩
theorem ok_tEq {f C : Addr} {fd : FuncData} (F : Fun K "__eq__" "Test.__eq__" sTEq f fd) (T : Blt mg) (TC : TCls K C) (IT : InsT K C) (gC : mg "Test" = some (.ref C)) : FnOk P w K mg base CX0 1 f fd ["self", "other"] (spTEq C) := by
  refine F.ok scTEq (fun vs H Q E h => ?_) (fun cdv A outer s H vs Q E hr h => ?_)
  · obtain ⟨x, y, ps, b, rfl, _⟩ := h
    rfl
  · obtain ⟨x, y, ps, b, rfl, tt, h⟩ := h
    obtain ⟨dx, t, hx, ht⟩ := id tt
    refine ⟨_, pss_one (ps_ret (pe_and (pe_callB call_isi (by rfl) T.isi (by decide +kernel) (pa_cons (pv 1) (pa_cons (pe_glob (v := .ref C) rfl gC rfl) pa_nil)))
      (pe_and (pe_cmpR (op_eqD (Room.units hr)) (pe_fld (pv 0) rfl) (pe_fld (pv 1) rfl) (nomark _)) (pe_one (pe_cmpR op_eq (pe_fld (pv 0) rfl) (pe_fld (pv 1) rfl) (nomark _)))))), ?_⟩
    rcases h with ⟨z, qs, c, rfl, tz, k⟩ | ⟨⟨T', l, ty, mro⟩, k⟩
    · obtain ⟨dz, t2, hz, ht2⟩ := id tz
      refine ⟨_, rfl, _, _, _, _, true, rfl, .own C, tyTest TC IT tz, kit_self, true, rfl, iteT ?_⟩
      refine ⟨_, rfl, x, C, dx, _, _, rfl, hx, TC.cl, TC.n1, test_parts t b, _, rfl, z, C, dz, _, _, rfl, hz, TC.cl, TC.n1, test_parts t2 c, _, _, .tup (SqT.of ht) (dpInts ps), .tup (SqT.of ht2) (dpInts qs), sh_intsT ps, sh_intsT qs, _, rfl, ?_⟩
      rw [eqv_tupI]
      unfold eqT at k
      by_cases e : ps = qs
      · rw [decide_eq_true e] at k ⊢
        refine iteT ⟨_, rfl, x, C, dx, _, _, rfl, hx, TC.cl, TC.n2, test_bound t b, _, rfl, z, C, dz, _, _, rfl, hz, TC.cl, TC.n2, test_bound t2 c, rfl, ?_⟩
        simpa using k
      · rw [decide_eq_false e] at k ⊢
        exact iteF (by simpa using k)
    · exact ⟨_, rfl, _, _, _, _, false, rfl, .own C, ty _ _ (Same.refl H), kit_no IT mro, _, rfl, iteF k⟩
end
end Ev
namespace Ev
open PySem L2 PySem.Spec PyProof.Rows
/-! Promises of defs that are called while no repr is under way (so what they make can be shown). -/
structure FnG (P : Program) (w : World) (K : PySem.W.Frag) (mg : Str → Option Value) (base : Heap) (k : Nat) (f : Addr)
    (fd : FuncData) (ps : List Str) (sp : Sp) : Prop where
  many : ∀ vs H Q E, sp vs H Q E → vs.length = ps.length
  goes : ∀ (A : Around) (above : List Env) (s : Shared) (H : Hp) (args : Args) (us : List Value) (vs : List V) (Q : VK)
    (E : XK), Room k A → A.guards = some [] → Env0 P w K mg base A above s H → BindsTo s fd args (ps.zip us) → Vals vs us →
    sp vs H Q E → codeAny (model P w) A (.call (.ref f) args) (CR CX0 above P w H s Q E) s
theorem FnG.of {P : Program} {w : World} {K : PySem.W.Frag} {mg : Str → Option Value} {base : Heap} {k : Nat} {f : Addr}
    {fd : FuncData} {ps : List Str} {sp : Sp} (F : FnOk P w K mg base CX0 k f fd ps sp) : FnG P w K mg base k f fd ps sp :=
  ⟨F.len, fun A above s H args us vs Q E hr _ => F.run A above s H args us vs Q E hr⟩
section
variable {P : Program} {w : World} {K : PySem.W.Frag} {mg : Str → Option Value} {base : Heap}
/-- a def by its body, where no repr is under way -/
theorem fng_code {x qual : Str} {st : Stmt} {f : Addr} {fd : FuncData} {N ps : List Str} {k : Nat} {sp : Sp} (F : Fun K x qual st f fd)
    (S : FnScope N ps (defScope st)) (many : ∀ vs H Q E, sp vs H Q E → vs.length = ps.length)
    (body : ∀ (cdv : Value), fd.code = cdv → ∀ (A : Around) (above : List Env) (s : Shared) (H : Hp) (vs : List V) (Q : VK) (E : XK),
      Room k (A.deeper (envOfC qual (defScope st) s.heap.objs.size f cdv)) → A.guards = some [] → sp vs H Q E →
      ∃ t, PSs (cxOf CX0 P w K mg base N qual (defScope st) f cdv A above s H E).nox (defBody st) t ∧
        t { nx := fun _ H' => Q .non H', rt := Q } (start N vs) H) : FnG P w K mg base (k + 1) f fd ps sp := by
  obtain ⟨oc, od, kV, doc, pm, an, cdv, ct, osl, rfl, lk, hcd⟩ := F.ex
  constructor
  · exact many
  · intro A above s H args us vs Q E room gd env bt rv hs
    have inK : K.In s.heap := env.mod.kin.keeps fun b o e => (env.bs b o e).1
    have noLim : s.heap.NoLimit := env.mod.nolimit.keeps fun b o e => (env.bs b o e).1
    have kinds : ∀ y ∈ ps.zip us, (defScope st).names.lookup y.1 = some .local ∨
        ((defScope st).names.lookup y.1 = some .cell ∧ ((cellsFrom (s.heap.objs.size + 1) (defScope st).names []).lookup y.1).isSome = true) := by
      rintro ⟨n, v⟩ hy
      cases S.par n (List.of_mem_zip hy).1 with
      | inl q => exact .inl q
      | inr q => exact .inr ⟨q, PySem.W.cellsFrom_some _ _ _ (.inl q)⟩
    refine codeAny_call_function room.depth (inK _ _ lk) rfl S.co S.gen rfl (PySem.W.codeRec_of inK hcd) (bt _ _ _ _ ?_)
    refine wpAny_newFunctionEnv_cells S.kind kinds fun e2 he s2 x => ?_
    subst he
    refine ⟨noLim.keeps x.toInCall.keep, codeAny_func ?_⟩
    obtain ⟨t, ht, hq⟩ := body cdv rfl A above s H vs Q E (room.deeper _) gd hs
    have inv := inv_start (CX := CX0) (E := E) S room.hd env (many _ _ _ _ hs) rv x
    refine wpAny_mono (ht.nox.run [] s2 (start N vs) H _ inv hq) (fun fl s3 h3 => ?_) fun e s3 h3 => h3
    cases fl with
    | ret u =>
      obtain ⟨v, σ3, H3, J, rr, q⟩ := h3
      exact ⟨v, H3, J.os, J.bare, J.base, J.hok, rr, q⟩
    | next =>
      obtain ⟨σ3, H3, J, q⟩ := h3
      exact ⟨.non, H3, J.os, J.bare, J.base, J.hok, rfl, q⟩
    | brk =>
      obtain ⟨_, _, _, z⟩ := h3
      exact False.elim z
    | cont =>
      obtain ⟨_, _, _, z⟩ := h3
      exact False.elim z
theorem fng_of {x qual : Str} {st : Stmt} {f : Addr} {fd : FuncData} {N ps : List Str} {k : Nat} {sp : Sp} (F : Fun K x qual st f fd)
    (S : FnScope N ps (defScope st)) (many : ∀ vs H Q E, sp vs H Q E → vs.length = ps.length)
    (body : ∀ (cdv : Value) (A : Around) (above : List Env) (s : Shared) (H : Hp) (vs : List V) (Q : VK) (E : XK),
      Room k (A.deeper (envOfC qual (defScope st) s.heap.objs.size f cdv)) → A.guards = some [] → sp vs H Q E →
      ∃ t, PSs (cxOf CX0 P w K mg base N qual (defScope st) f cdv A above s H E).nox (defBody st) t ∧
        t { nx := fun _ H' => Q .non H', rt := Q } (start N vs) H) : FnG P w K mg base (k + 1) f fd ps sp :=
  fng_code F S many fun cdv _ => body cdv
end
section
variable {X : Cx}
/-- f(e, ..) of such a def -/
theorem pe_callG {k : Nat} {f : Addr} {fd : FuncData} {ps : List Str} {sp : Sp} {E : XK} {x : Str} {p pos : Pos} {e : Expr} {es : List Expr} {t : TA}
    (F : FnG X.prog X.w X.K X.mg X.base k f fd ps sp) (room : Room k X.A) (gd : X.A.guards = some []) (hg : Gl X x)
    (hm : X.mg x = some (.ref f)) (kp : PySem.W.keepIn X.K (.ref f) = true) (hb : Binds X.K fd ps []) (ha : PA X (e :: es) t)
    (hdb : (x == ("__debug__" : Str)) = false := by decide)
    (he : starEach (e :: es) X.env = (false, eval e X.env) :: starEach es X.env := by rfl)
    (hpl : (backTo pos (starEach es X.env)).any (·.1) = false := by rfl) :
    PE X (.Call (.Name x p) (e :: es) [] pos) (tCall sp [] E t) := by
  constructor
  intro pins s σ H Q I h
  refine wpAny_Call_Name_kw (ld_glob I hg hm ?_ hdb)
  refine PySem.W.callWith_K (h₀ := X.base) I.ok.mod.kin kp (thn (ha.run pos pins s σ H _ I h) fun us s1 d => ?_) he hpl
  obtain ⟨vs, H1, I1, rv, q⟩ := d
  refine ⟨I1.kIn, ?_⟩
  have q : sp vs H1 Q E := by
    have q' : sp (vs ++ []) H1 Q E := q
    rw [List.append_nil] at q'
    exact q'
  have hl : us.length = ps.length := rv.length.symm.trans (F.many _ _ _ _ q)
  have bt := hb s1 us I1.kIn (by rw [List.append_nil]; exact hl)
  rw [List.append_nil] at bt
  refine wpAny_call (codeAny_mono (F.goes X.A X.stack s1 H1 ⟨us, []⟩ us vs Q E room gd I1.env0 bt rv q) fun r s2 h2 => ?_)
  cases r with
  | error e => exact False.elim h2
  | ok fl =>
    cases fl with
    | ret u => exact I1.after h2
    | next => exact False.elim h2
    | brk => exact False.elim h2
    | cont => exact False.elim h2
/-- repr of data, where none is under way -/
def rRepr (K : PySem.W.Frag) : List V → Hp → VK → Prop := fun xs H Q => ∃ (a : Addr) (d : PyData), xs = [.ref a] ∧ Dp K H (.ref a) d ∧
  d.showable = true ∧ d.hasDict = false ∧ d.depth ≤ 32 ∧ d.shown.length ≤ sizeLine ∧ Q (.str d.shown) H
theorem call_repr (gd : X.A.guards = some []) (hu : X.A.units + 64 < cLine) : CallR X (.builtin "repr") (rRepr X.K) := by
  intro pins s σ H xs us Q I r h
  obtain ⟨a, d, rfl, hd, h1, h2, h3, h4, q⟩ := h
  cases r with
  | cons r1 r2 =>
    cases r2
    cases r1
    obtain ⟨as, rd⟩ := Dp.reads I d (.ref a) (.ref a) hd rfl
    exact repr_of_reads' rd h1 (fun z => by rw [h2] at z; cases z) gd (by omega) (fun _ _ e => e)
      (fun h' u tk hk => ⟨.str d.shown, H, I.kept hk, ⟨u, rfl⟩, q⟩) h4
end
/-! ### the law's own call -/
section
variable {P : Program} {w : World} {K : PySem.W.Frag} {mg mb : Str → Option Value}
theorem law_callG {k : Nat} {fa a : Addr} {fd : FuncData} {x : Str} {sp : Sp} {s : Shared} {vs : List Value} {ns : List Int}
    (inK : K.In s.heap) (ns1 : s.heap.Ns mainGlobals mg) (ns2 : s.heap.Ns builtinsNs mb) (blt : ∀ x : Str, x ≠ "__name__" → mb x = bootBuiltins x)
    (noLim : s.heap.NoLimit) (hg : s.gens = #[]) (ha : s.heap.get? a = some { cls := .type "list", data := .seq vs.toArray })
    (hi : IntsAre vs ns) (hl : ns.length ≤ sizeLine) (hr : Room k callerA)
    (F : ∀ base : Heap, K.In base → base.Ns mainGlobals mg → FnG P w K mg base k fa fd [x] sp)
    (bt : ∀ (s : Shared) (u : Value), BindsTo s fd ⟨[u], []⟩ [(x, u)])
    (hsp : ∀ H : Hp, SqL K H a (ns.map V.int) → sp [.ref a] H (fun v _ => v = .bl true) fun _ _ _ => False) :
    codeAny (model P w) callerA (.call (.ref fa) ⟨[.ref a], []⟩)
      (fun r s' => r = .ok (.ret (.bool true)) ∧ OldK s.heap s'.heap ∧ s'.os = s.os ∧ AllBare s'.gens) s := by
  have rv := vals_ints hi
  have lv := hi.length
  have key : ∀ H : Hp, (∀ b u, H b = some u → b = a ∧ K.lookup a = none ∧ u = .frz { cls := .type "list", data := .seq vs.toArray } (.lst (ns.map V.int))) →
      SqL K H a (ns.map V.int) → codeAny (model P w) callerA (.call (.ref fa) ⟨[.ref a], []⟩)
        (fun r s' => r = .ok (.ret (.bool true)) ∧ OldK s.heap s'.heap ∧ s'.os = s.os ∧ AllBare s'.gens) s := by
    intro H only sq
    have ok : HOk P w H s.heap := by
      intro b u e
      obtain ⟨rfl, _, rfl⟩ := only b u e
      exact ⟨ha, by rw [List.length_map]; exact hl, vs, _, rv, ha⟩
    have plain : ∀ {b : Addr} {o : Obj} {es : Array DictEntry} {n : Nat}, s.heap.get? b = some o → o.data = .dict es n → H b = none := by
      intro b o es n e d
      cases q : H b with
      | none => rfl
      | some u =>
        obtain ⟨rfl, _, _⟩ := only b u q
        rw [ha] at e
        cases e
        exact nomatch d
    have names : ∀ {b : Addr} {m : Str → Option Value}, s.heap.Ns b m → (hidT s.heap H).Ns b m := by
      rintro b m ⟨o, es, n, e, d, r⟩
      exact ⟨o, es, n, hidT_get e (plain e d), d, r⟩
    have inB : K.In (hidT s.heap H) := by
      intro b o e
      refine hidT_get (inK b o e) ?_
      cases q : H b with
      | none => rfl
      | some u =>
        obtain ⟨rfl, n, _⟩ := only b u q
        rw [n] at e
        cases e
    obtain ⟨mc, l1, l2⟩ := noLim
    have md : Mod K mg (hidT s.heap H) := ⟨inB, names ns1, ⟨mb, names ns2, blt⟩, ⟨mc, names l1, l2⟩⟩
    have env : Env0 P w K mg (hidT s.heap H) callerA [] s H :=
      ⟨rfl, md, fun b o e => of_hidT e, Nat.le_of_eq (hidT_size _ _), trivial, (fun b hb => by cases hb), ok, .of_eq hg⟩
    have go := (F _ inB (names ns1)).goes callerA [] s H ⟨[.ref a], []⟩ [.ref a] [.ref a] _ _ hr rfl env (bt s (.ref a)) (.cons rfl .nil) (hsp H sq)
    refine codeAny_mono go fun r s2 h2 => ?_
    cases r with
    | error e => exact False.elim h2
    | ok fl =>
      cases fl with
      | next => exact False.elim h2
      | brk => exact False.elim h2
      | cont => exact False.elim h2
      | ret u =>
        obtain ⟨v, H2, os, bare, un, ok2, rr, q⟩ := h2
        obtain rfl : v = V.bl true := q
        obtain rfl : u = Value.bool true := rr
        refine ⟨rfl, OldK.of_keep fun b o e => ?_, os, bare⟩
        cases q : H b with
        | none => exact un.keep b o e q (by intro z; cases z) (by simp)
        | some u =>
          obtain ⟨rfl, _, rfl⟩ := only b u q
          obtain ⟨e1, _⟩ := ok b _ q
          obtain ⟨e2, _⟩ := ok2 b _ (un.frzs b _ _ q)
          rw [e] at e1
          cases e1
          exact e2
  cases hk : K.lookup a with
  | none =>
    refine key (fun b => if b = a then some (.frz { cls := .type "list", data := .seq vs.toArray } (.lst (ns.map V.int))) else none) (fun b u e => ?_) (.inl (.inr ⟨_, if_pos rfl⟩))
    by_cases z : b = a
    · rw [if_pos z] at e
      cases e
      exact ⟨z, hk, rfl⟩
    · rw [if_neg z] at e
      cases e
  | some o =>
    have e := inK a o hk
    rw [ha] at e
    cases e
    refine key (fun _ => none) (fun b u e => by cases e) (.inr ⟨_, vs.toArray, _, hk, rfl, rfl, rfl, ?_, by simpa using rv⟩)
    rw [List.size_toArray, lv]
    exact hl
end
theorem walk_ofG {l : PySem.W.OpenLaw} {n k : Nat} {q : Program} {loose : List Str} {XP : (Str → Option Value) → Heap → Prop} {YP : World → Heap → Prop}
    {d : DefRec} {K : Params → PySem.W.Frag} {sp : World → Sp} {x : Str} (hn : l.most = some n) (hn2 : n ≤ sizeLine) (hdf : d.params.defaults = [])
    (hr : Room k callerA) (hY : ∀ (w : World) (h : Heap), YP w h → (K w.params).In h)
    (F : ∀ (w : World) (mg : Str → Option Value) (fa : Addr) (h : Heap), (K w.params).In h → h.Ns mainGlobals mg → mg d.name = some (.ref fa) →
      ∃ fd : FuncData, (∀ (s : Shared) (u : Value), BindsTo s fd ⟨[u], []⟩ [(x, u)]) ∧
        ∀ base : Heap, (K w.params).In base → base.Ns mainGlobals mg → FnG l.prog w (K w.params) mg base k fa fd [x] (sp w))
    (hsp : ∀ (w : World) (H : Hp) (a : Addr) (ns : List Int), ns.length ≤ n → SqL (K w.params) H a (ns.map V.int) → sp w [.ref a] H (fun v _ => v = .bl true) fun _ _ _ => False) :
    PySem.W.WalkO q loose XP YP l.row.toRowW d [] (fun f vs => PySem.call f vs) := by
  refine Att.attach_call hn hdf fun w s0 s1 mg mb fa o pm cd doc a vs ns G Y h1 h2 h3 h4 h5 h6 h7 h8 => ?_
  obtain ⟨fd, bt, hF⟩ := F w mg fa _ (hY w _ Y) G.T.g h4
  exact law_callG (hY w _ Y) G.T.g G.T.b G.T.builtins G.T.nolimit h8 h5 h6 (Nat.le_trans h7 hn2) hr hF bt (fun H sq => hsp w H a ns h7 sq)
end Ev
namespace Ev
open PySem L2 PySem.Spec PyProof.Rows
theorem walk_ofGE {l : PySem.W.OpenLaw} {n k : Nat} {q : Program} {loose : List Str} {XP : (Str → Option Value) → Heap → Prop} {YP : World → Heap → Prop}
    {d : DefRec} {x : Str} (hn : l.most = some n) (hn2 : n ≤ sizeLine) (hdf : d.params.defaults = []) (hr : Room k callerA)
    (F : ∀ (w : World) (mg : Str → Option Value) (fa : Addr) (h : Heap), YP w h → h.Ns mainGlobals mg → mg d.name = some (.ref fa) →
      ∃ (K : PySem.W.Frag) (fd : FuncData) (sp : Sp), K.In h ∧ (∀ (s : Shared) (u : Value), BindsTo s fd ⟨[u], []⟩ [(x, u)]) ∧
        (∀ (H : Hp) (a : Addr) (ns : List Int), ns.length ≤ n → SqL K H a (ns.map V.int) → sp [.ref a] H (fun v _ => v = .bl true) fun _ _ _ => False) ∧
        ∀ base : Heap, K.In base → base.Ns mainGlobals mg → FnG l.prog w K mg base k fa fd [x] sp) :
    PySem.W.WalkO q loose XP YP l.row.toRowW d [] (fun f vs => PySem.call f vs) := by
  refine Att.attach_call hn hdf fun w s0 s1 mg mb fa o pm cd doc a vs ns G Y h1 h2 h3 h4 h5 h6 h7 h8 => ?_
  obtain ⟨K, fd, sp, inK, bt, hsp, hF⟩ := F w mg fa _ Y G.T.g h4
  exact law_callG inK G.T.g G.T.b G.T.builtins G.T.nolimit h8 h5 h6 (Nat.le_trans h7 hn2) hr hF bt (fun H sq => hsp H a ns h7 sq)
end Ev
namespace Ev
open PySem L2 PySem.Spec PyProof.Rows
/-! Own operators of one class: unary, binary beside an int on either side, in place without a method of their own. -/
section
variable {prog : Program} {w : World} {A : Around} {E : Value → Shared → Prop} {s : Shared} {K : PySem.W.Frag} {x C f : Addr} {ox : Obj} {od : Option Obj} {y : Value} {nm : String}
theorem backs {Q : Value → Shared → Prop} {v : Value} {s : Shared} (h : PySem.W.CmpBack Q v s) : v ≠ .notImplemented ∧ Q v s := by
  unfold PySem.W.CmpBack at h
  split at h
  · exact h.elim
  · rename_i n
    exact ⟨n, h⟩
theorem bin1_same {Q : Value → Shared → Prop} (X : K.In s.heap) (I : PySem.W.InstAt s.heap x ox C od) (hb : PySem.W.Looks (model prog w) s.heap (typeOf y) (.ref C)) (hs : PySem.W.selfFirst K C = true)
    (hf : PySem.W.findIn K (.ref C) (PySem.dunder nm) = some (some (.ref f))) (hk : PySem.W.isFn K (.ref f) = true) (h : wpAny (model prog w) A (call (.ref f) [.ref x, y]) (PySem.W.CmpBack Q) E s) :
    wpAny (model prog w) A (binaryOp1 nm (.ref x) y) (fun r s' => ∃ v, r = some v ∧ Q v s') E s := by
  obtain ⟨cd, rest, hc, hm⟩ := PySem.W.ksp_first hs
  unfold binaryOp1
  refine wpAny_bind (I.type.here ?_)
  refine wpAny_bind (hb.here ?_)
  refine wpAny_bind ((PySem.W.fills_K X hc hm hf).here ?_)
  simp only [beq_self_eq_true, if_true]
  refine wpAny_bind (wpAny_pure ?_)
  simp only [Bool.and_false, Bool.false_and, Bool.false_eq_true, if_false]
  refine wpAny_bind (wpAny_pure ?_)
  simp only [Bool.false_eq_true, if_false, if_true]
  refine wpAny_bind (wpAny_mono (PySem.W.ksp_try X I hf hk h) (fun r s' z => ?_) fun _ _ z => z)
  obtain ⟨v, rfl, q⟩ := z
  exact wpAny_pure ⟨v, rfl, q⟩
theorem bin1_right {Q : Value → Shared → Prop} {T : String} {fo ro rc : Option Value} (X : K.In s.heap) (I : PySem.W.InstAt s.heap x ox C od) (ht : typeOf y = pure (.type T)) (hs : PySem.W.selfFirst K C = true)
    (hf : PySem.W.findIn K (.ref C) (PySem.dunder nm) = some (some (.ref f))) (hk : PySem.W.isFn K (.ref f) = true) (hr : PySem.W.findIn K (.ref C) (PySem.dunderR nm) = some rc) (hrc : rc = none ∨ ∃ g, rc = some (.ref g))
    (h1 : PySem.W.findIn K (.type T) (PySem.dunder nm) = some fo) (h2 : PySem.W.findIn K (.type T) (PySem.dunderR nm) = some ro) (hp : PySem.W.Looks (model prog w) s.heap (numberSlotInPython (.type T) nm) false) (hsub : PySem.W.subIn K (.type T) (.ref C) = some false)
    (h : wpAny (model prog w) A (call (.ref f) [.ref x, y]) (PySem.W.CmpBack Q) E s) :
    wpAny (model prog w) A (binaryOp1 nm (.ref x) y) (fun r s' => ∃ v, r = some v ∧ Q v s') E s := by
  obtain ⟨cd, rest, hc, hm⟩ := PySem.W.ksp_first hs
  have nb : ((Value.ref C) == (Value.type T)) = false := by simp
  unfold binaryOp1
  refine wpAny_bind (I.type.here ?_)
  rw [ht]
  refine wpAny_bind (wpAny_pure ?_)
  refine wpAny_bind ((PySem.W.fills_K X hc hm hf).here ?_)
  simp only [nb, Bool.false_eq_true, if_false]
  refine wpAny_bind ((PySem.W.ksp_fillsT X h1 h2).here ?_)
  generalize (fo.isSome && !isSeqSlot fo || ro.isSome && !isSeqSlot ro) = right
  cases right
  · simp only [Bool.and_false, Bool.false_and, Bool.false_eq_true, if_false]
    refine wpAny_bind (wpAny_pure ?_)
    simp only [Bool.false_eq_true, if_false, if_true]
    refine wpAny_bind (wpAny_mono (PySem.W.ksp_try X I hf hk h) (fun r s' z => ?_) fun _ _ z => z)
    obtain ⟨v, rfl, q⟩ := z
    exact wpAny_pure ⟨v, rfl, q⟩
  · simp only [Bool.and_true, Bool.true_and, if_true]
    refine wpAny_bind ((PySem.W.looks_subIn X hsub).here ?_)
    simp only [Bool.false_eq_true, if_false, Bool.not_false, if_true]
    refine wpAny_bind ((PySem.W.ksp_inPy X hf hr hrc).here ?_)
    simp only [if_true]
    refine wpAny_bind (hp.here ?_)
    simp only [Bool.not_false, if_true]
    refine wpAny_bind ((PySem.W.looks_findIn X h2).here ?_)
    refine wpAny_bind (wpAny_mono (PySem.W.ksp_try X I hf hk h) (fun r s' z => ?_) fun _ _ z => z)
    obtain ⟨v, rfl, q⟩ := z
    exact wpAny_pure ⟨v, rfl, q⟩
theorem meets_mul {i : Int} {tk : Tok} : Meets (Builtin.«int.__mul__» ⟨[.int i tk, .ref x], []⟩) fun _ R s => ∃ o, s.heap.get? x = some o ∧ o.data = .plain ∧ R (.ok (.ret .notImplemented)) s := by
  intro prog w A R s h
  obtain ⟨o, e, d, q⟩ := h
  unfold Builtin.«int.__mul__» Builtin.Int.intBinary
  refine wpAny_bind (wpAny_of_eq (a := (Value.int i tk, [Value.ref x])) rfl ?_)
  refine wpAny_bind (wpAny_of_eq (a := i) rfl ?_)
  refine wpAny_bind ?_
  show wpAny _ _ (asInt? (Value.ref x)) _ _ _
  unfold asInt?
  refine wpAny_bind (wpAny_load e ?_)
  rw [d]
  refine wpAny_pure ?_
  refine wpAny_bind (wpAny_rule ?_)
  exact wpAny_pure q
theorem mul_declines {v : Value} {name : Str} {i : Int} {tk : Tok} {Q : Option Value → Shared → Prop} (sl : Slot "int" name "int.__mul__") (hv : v = .int i tk) (I : PySem.W.InstAt s.heap x ox C od) (hd : ox.data = .plain) (q : Q none s) : wpAny (model prog w) A (tryMethod v name (.ref x)) Q E s := by
  have ti : s.TypeIs v "int" := by rw [hv]; exact (show typeOf (Value.int i tk) = pure (Value.type "int") from rfl)
  refine wpAny_tryMethod_declines ti sl ?_
  · have key : ∀ R : Result → Shared → Prop, R (.ok (.ret .notImplemented)) s → codeAny (model prog w) A (.call (.builtin "int.__mul__") ⟨[.int i tk, .ref x], []⟩) R s := fun R hR =>
      codeAny_call_builtin slot_int_mul.plain entry_int_mul (slot_int_mul.check _ _ _ _ _ _ _ _ (hv ▸ ti) (F.args_int_mul_2 _ _) (meets_mul prog w A R s ⟨ox, I.at_, hd, hR⟩))
    subst hv
    exact wpAny_call (key _ ⟨rfl, q⟩)
theorem bin1_left {Q : Value → Shared → Prop} {v : Value} {i : Int} {tk : Tok} (hv : v = .int i tk) (X : K.In s.heap) (I : PySem.W.InstAt s.heap x ox C od) (hd : ox.data = .plain) (hs : PySem.W.selfFirst K C = true) (hno : PySem.W.mroIn K C (.type "int") = some false) {f0 : Addr}
    (hf : PySem.W.findIn K (.ref C) (PySem.dunder "mul") = some (some (.ref f0))) (hr : PySem.W.findIn K (.ref C) (PySem.dunderR "mul") = some (some (.ref f))) (hk : PySem.W.isFn K (.ref f) = true)
    (h : wpAny (model prog w) A (call (.ref f) [.ref x, v]) (PySem.W.CmpBack Q) E s) :
    wpAny (model prog w) A (binaryOp1 "mul" v (.ref x)) (fun r s' => ∃ v, r = some v ∧ Q v s') E s := by
  obtain ⟨cd, rest, hc, hm⟩ := PySem.W.ksp_first hs
  have nb : ((Value.type "int") == (Value.ref C)) = false := by simp
  unfold binaryOp1
  refine wpAny_bind (wpAny_of_eq (a := Value.type "int") (by rw [hv]; rfl) ?_)
  refine wpAny_bind (I.type.here ?_)
  rw [fills_int_mul]
  refine wpAny_bind (wpAny_pure ?_)
  simp only [nb, Bool.false_eq_true, if_false]
  refine wpAny_bind ((PySem.W.fills_K X hc hm hf).here ?_)
  simp only [Bool.and_true, Bool.true_and, if_true]
  refine wpAny_bind ((PySem.W.looks_mroIn X hno).here ?_)
  simp only [Bool.false_eq_true, if_false, Bool.not_false, if_true]
  refine wpAny_bind (wpAny_pure ?_)
  simp only [Bool.false_eq_true, if_false, Bool.not_false, if_true]
  refine wpAny_bind (mul_declines slot_int_mul hv I hd ?_)
  refine wpAny_bind (wpAny_mono (PySem.W.ksp_try X I hr hk h) (fun r s' z => ?_) fun _ _ z => z)
  obtain ⟨v, rfl, q⟩ := z
  exact wpAny_bind (wpAny_rule (wpAny_pure ⟨v, rfl, q⟩))
/-- what binaryOp1 tells is what the operator tells -/
theorem bin_of {op : Operator} {a b : Value} {Q : Value → Shared → Prop} (h : wpAny (model prog w) A (binaryOp1 op.info.2 a b) (fun r s' => ∃ v, r = some v ∧ Q v s') E s) : wpAny (model prog w) A (binaryOp op a b) Q E s := by
  unfold binaryOp
  refine wpAny_holding (wpAny_bind (wpAny_mono h (fun r s' z => ?_) fun _ _ z => z))
  obtain ⟨v, rfl, q⟩ := z
  exact wpAny_pure q
theorem fillsI_no (X : K.In s.heap) {cd : ClassData} {nm : String} {add : Bool} (hc : PySem.W.clsIn K C = some cd) (hm : cd.mro = [.ref C, .type "object"]) (h1 : PySem.W.findIn K (.ref C) (PySem.dunderI nm) = some none) (h2 : PySem.W.findIn K (.type "object") (PySem.dunderI nm) = some none) :
    PySem.W.Looks (model prog w) s.heap (fillsInplaceSlot (.ref C) nm add) false := by
  intro A Q E t k q
  have X' : K.In t.heap := fun a o e => k _ _ (X a o e)
  unfold fillsInplaceSlot
  refine wpAny_bind (wpAny_bind ((PySem.W.looks_clsIn X' hc).here (wpAny_pure ?_)))
  rw [hm]
  simp only [List.anyM]
  refine wpAny_bind (wpAny_bind ((PySem.W.looks_findIn X' h1).here (wpAny_pure ?_)))
  simp only []
  refine wpAny_bind (wpAny_bind ((PySem.W.looks_findIn X' h2).here (wpAny_pure ?_)))
  exact wpAny_pure q
theorem inpl_of {op : Operator} {b : Value} {cd : ClassData} {Q : Value → Shared → Prop} (X : K.In s.heap) (I : PySem.W.InstAt s.heap x ox C od) (hc : PySem.W.clsIn K C = some cd) (hm : cd.mro = [.ref C, .type "object"]) (h1 : PySem.W.findIn K (.ref C) (PySem.dunderI op.info.2) = some none) (h2 : PySem.W.findIn K (.type "object") (PySem.dunderI op.info.2) = some none)
    (h : wpAny (model prog w) A (binaryOp1 op.info.2 (.ref x) b) (fun r s' => ∃ v, r = some v ∧ Q v s') E s) : wpAny (model prog w) A (inplaceOp op (.ref x) b) Q E s := by
  unfold inplaceOp
  refine wpAny_holding (wpAny_bind (I.type.here ?_))
  refine wpAny_bind ((fillsI_no X hc hm h1 h2).here ?_)
  simp only [Bool.false_eq_true, if_false]
  refine wpAny_bind (wpAny_mono h (fun r s' z => ?_) fun _ _ z => z)
  obtain ⟨v, rfl, q⟩ := z
  exact wpAny_pure q
end
theorem du_add : PySem.dunder "add" = ("__add__" : Str) := by decide +kernel
theorem du_mul : PySem.dunder "mul" = ("__mul__" : Str) := by decide +kernel
theorem du_rmul : PySem.dunderR "mul" = ("__rmul__" : Str) := by decide +kernel
theorem du_iadd : PySem.dunderI "add" = ("__iadd__" : Str) := by decide +kernel
theorem du_imul : PySem.dunderI "mul" = ("__imul__" : Str) := by decide +kernel
/-- what is known of the operators of a class -/
structure OpsO (K : PySem.W.Frag) (C fa fm fr : Addr) : Prop where
  fst : PySem.W.selfFirst K C = true
  add : PySem.W.findIn K (.ref C) "__add__" = some (some (.ref fa))
  addF : PySem.W.isFn K (.ref fa) = true
  mul : PySem.W.findIn K (.ref C) "__mul__" = some (some (.ref fm))
  mulF : PySem.W.isFn K (.ref fm) = true
  rmul : PySem.W.findIn K (.ref C) "__rmul__" = some (some (.ref fr))
  rmulF : PySem.W.isFn K (.ref fr) = true
  noInt : PySem.W.mroIn K C (.type "int") = some false
  mro : ∃ cd, PySem.W.clsIn K C = some cd ∧ cd.mro = [.ref C, .type "object"]
  ia : PySem.W.findIn K (.ref C) "__iadd__" = some none
  im : PySem.W.findIn K (.ref C) "__imul__" = some none
section
variable {X : Cx} {CX : CXT} {C g : Addr} {n : Nat} {sp : Sp} {E : XK}
/-- an own operator of an instance alone: it tells an object -/
def rOwnU (C : Addr) (sp : Sp) (E : XK) : V → Hp → VK → Prop := fun x H Q => ∃ (a dx : Addr) (fs : List (Str × V)), x = .ref a ∧ H a = some (.ins C dx fs) ∧ sp [x] H Q E
theorem run_back {pins : List (Addr × Obj)} {s : Shared} {σ : L2.St} {H : Hp} {us : List Value} {vs : List V} {Q : VK} (F : FnR X.prog X.w X.K X.mg X.base CX n g sp) (hr : Room n X.A) (hx : Passes CX X E) (I : L2.Inv X pins σ H s) (rv : Vals vs us)
    (q : sp vs H (fun z H' => (∃ b, z = .ref b) ∧ Q z H') E) : wpAny (model X.prog X.w) X.A (call (.ref g) us) (PySem.W.CmpBack (EP X pins σ Q)) X.xe s := by
  refine wpAny_mono (wpAny_call (SlX.run_at (us := us) (ws := vs) F hr I.env0 hx I rv q)) (fun w' s' z => ?_) fun _ _ z => z
  obtain ⟨z', H', I', rz, ⟨b, rfl⟩, q'⟩ := z
  cases (show w' = Value.ref b from rz)
  exact ⟨.ref b, H', I', rfl, q'⟩
theorem un_negO (hf : PySem.W.findIn X.K (.ref C) "__neg__" = some (some (.ref g))) (hk : PySem.W.isFn X.K (.ref g) = true) (F : FnR X.prog X.w X.K X.mg X.base CX n g sp) (hr : Room n X.A) (hx : Passes CX X E) : UnR X (unaryOp .USub) (rOwnU C sp E) := by
  intro pins s σ H x v Q I rx h
  obtain ⟨a, dx, fs, rfl, ha, q⟩ := h
  cases (show v = Value.ref a from rx)
  obtain ⟨mA, J, _⟩ := ins_get I.hok ha
  obtain ⟨od, J, _⟩ := J.look
  obtain ⟨m, hF⟩ := I.fr
  refine PySem.W.ksp_neg hF I.ok.mod.kin J hf hk ?_
  exact wpAny_call (SlX.run_at (us := [.ref a]) (ws := [.ref a]) F hr I.env0 hx I (.cons rfl .nil) q)
theorem un_invO (hf : PySem.W.findIn X.K (.ref C) "__invert__" = some (some (.ref g))) (hk : PySem.W.isFn X.K (.ref g) = true) (F : FnR X.prog X.w X.K X.mg X.base CX n g sp) (hr : Room n X.A) (hx : Passes CX X E) : UnR X (unaryOp .Invert) (rOwnU C sp E) := by
  intro pins s σ H x v Q I rx h
  obtain ⟨a, dx, fs, rfl, ha, q⟩ := h
  cases (show v = Value.ref a from rx)
  obtain ⟨mA, J, _⟩ := ins_get I.hok ha
  obtain ⟨od, J, _⟩ := J.look
  obtain ⟨m, hF⟩ := I.fr
  refine PySem.W.ksp_inv hF I.ok.mod.kin J hf hk ?_
  exact wpAny_call (SlX.run_at (us := [.ref a]) (ws := [.ref a]) F hr I.env0 hx I (.cons rfl .nil) q)
/-- an own operator beside another instance -/
def rOwnS (K : PySem.W.Frag) (C : Addr) (sp : Sp) (E : XK) : R2 := fun x y H Q => ∃ (a dx : Addr) (fs : List (Str × V)), x = .ref a ∧ H a = some (.ins C dx fs) ∧ TyX K H y (.ref C) ∧ sp [x, y] H (fun z H' => (∃ b, z = .ref b) ∧ Q z H') E
/-- beside an int -/
def rOwnI (C : Addr) (sp : Sp) (E : XK) : R2 := fun x y H Q => ∃ (a dx : Addr) (fs : List (Str × V)) (i : Int), x = .ref a ∧ H a = some (.ins C dx fs) ∧ y = .int i ∧ sp [x, y] H (fun z H' => (∃ b, z = .ref b) ∧ Q z H') E
/-- an int beside it -/
def rOwnL (C : Addr) (sp : Sp) (E : XK) : R2 := fun x y H Q => ∃ (a dx : Addr) (fs : List (Str × V)) (i : Int), y = .ref a ∧ H a = some (.ins C dx fs) ∧ x = .int i ∧ sp [y, x] H (fun z H' => (∃ b, z = .ref b) ∧ Q z H') E
variable {fm fr : Addr}
theorem op1_add {pins : List (Addr × Obj)} {s : Shared} {σ : L2.St} {H : Hp} {x y : V} {v u : Value} {Q : VK} (O : OpsO X.K C g fm fr) (F : FnR X.prog X.w X.K X.mg X.base CX n g sp) (hr : Room n X.A) (hx : Passes CX X E) (I : L2.Inv X pins σ H s) (rx : L2.RelV x v) (ry : L2.RelV y u) (h : rOwnS X.K C sp E x y H Q) :
    wpAny (model X.prog X.w) X.A (binaryOp1 "add" v u) (fun r s' => ∃ v, r = some v ∧ EP X pins σ Q v s') X.xe s := by
  obtain ⟨a, dx, fs, rfl, ha, ty, q⟩ := h
  cases (show v = Value.ref a from rx)
  obtain ⟨mA, J, _⟩ := ins_get I.hok ha
  obtain ⟨od, J, _⟩ := J.look
  obtain ⟨P, Z, hP, _⟩ := kit_of I ry ty
  exact bin1_same I.kIn J (Z.ty _ _ I.kIn hP) O.fst (by rw [du_add]; exact O.add) O.addF (run_back (us := [.ref a, u]) (vs := [.ref a, y]) F hr hx I (.cons rfl (.cons ry .nil)) q)
theorem op_addO (O : OpsO X.K C g fm fr) (F : FnR X.prog X.w X.K X.mg X.base CX n g sp) (hr : Room n X.A) (hx : Passes CX X E) : OpR X (binaryOp .Add) (rOwnS X.K C sp E) :=
  fun pins s σ H x y v u Q I rx ry h => bin_of (op := .Add) (op1_add O F hr hx I rx ry h)
theorem iop_addO (O : OpsO X.K C g fm fr) (F : FnR X.prog X.w X.K X.mg X.base CX n g sp) (hr : Room n X.A) (hx : Passes CX X E) : OpR X (inplaceOp .Add) (rOwnS X.K C sp E) := by
  intro pins s σ H x y v u Q I rx ry h
  have k := op1_add O F hr hx I rx ry h
  obtain ⟨a, dx, fs, rfl, ha, ty, q⟩ := h
  cases (show v = Value.ref a from rx)
  obtain ⟨mA, J, _⟩ := ins_get I.hok ha
  obtain ⟨od, J, _⟩ := J.look
  obtain ⟨cd, hc, hm⟩ := O.mro
  exact inpl_of (op := .Add) I.kIn J hc hm (by rw [show (Operator.Add).info.2 = "add" from rfl, du_iadd]; exact O.ia) (show fastLookup "object" (PySem.dunderI "add") = some none by decide +kernel) k
end
section
variable {X : Cx} {CX : CXT} {C g : Addr} {n : Nat} {sp : Sp} {E : XK} {fa fr : Addr}
theorem op1_mul {pins : List (Addr × Obj)} {s : Shared} {σ : L2.St} {H : Hp} {x y : V} {v u : Value} {Q : VK} (O : OpsO X.K C fa g fr) (F : FnR X.prog X.w X.K X.mg X.base CX n g sp) (hr : Room n X.A) (hx : Passes CX X E) (I : L2.Inv X pins σ H s) (rx : L2.RelV x v) (ry : L2.RelV y u) (h : rOwnI C sp E x y H Q) :
    wpAny (model X.prog X.w) X.A (binaryOp1 "mul" v u) (fun r s' => ∃ v, r = some v ∧ EP X pins σ Q v s') X.xe s := by
  obtain ⟨a, dx, fs, i, rfl, ha, rfl, q⟩ := h
  cases (show v = Value.ref a from rx)
  obtain ⟨tk, rfl⟩ : ∃ tk, u = Value.int i tk := ry
  obtain ⟨mA, J, _⟩ := ins_get I.hok ha
  obtain ⟨od, J, _⟩ := J.look
  refine bin1_right (T := "int") (fo := some (.builtin "int.__mul__")) (ro := some (.builtin "int.__rmul__")) I.kIn J rfl O.fst (by rw [du_mul]; exact O.mul) O.mulF (by rw [du_rmul]; exact O.rmul) (.inr ⟨_, rfl⟩) (show fastLookup "int" (PySem.dunder "mul") = _ by decide +kernel) (show fastLookup "int" (PySem.dunderR "mul") = _ by decide +kernel) (fun A Q E s _ q => wpAny_pure q) (sub_no (T := "int") (l := ["int", "object"]) (by decide +kernel))
    (run_back (us := [.ref a, .int i tk]) (vs := [.ref a, .int i]) F hr hx I (.cons rfl (.cons ⟨tk, rfl⟩ .nil)) q)
theorem op_mulO (O : OpsO X.K C fa g fr) (F : FnR X.prog X.w X.K X.mg X.base CX n g sp) (hr : Room n X.A) (hx : Passes CX X E) : OpR X (binaryOp .Mult) (rOwnI C sp E) :=
  fun pins s σ H x y v u Q I rx ry h => bin_of (op := .Mult) (op1_mul O F hr hx I rx ry h)
theorem iop_mulO (O : OpsO X.K C fa g fr) (F : FnR X.prog X.w X.K X.mg X.base CX n g sp) (hr : Room n X.A) (hx : Passes CX X E) : OpR X (inplaceOp .Mult) (rOwnI C sp E) := by
  intro pins s σ H x y v u Q I rx ry h
  have k := op1_mul O F hr hx I rx ry h
  obtain ⟨a, dx, fs, i, rfl, ha, rfl, q⟩ := h
  cases (show v = Value.ref a from rx)
  obtain ⟨mA, J, _⟩ := ins_get I.hok ha
  obtain ⟨od, J, _⟩ := J.look
  obtain ⟨cd, hc, hm⟩ := O.mro
  exact inpl_of (op := .Mult) I.kIn J hc hm (by rw [show (Operator.Mult).info.2 = "mul" from rfl, du_imul]; exact O.im) (show fastLookup "object" (PySem.dunderI "mul") = some none by decide +kernel) k
end
section
variable {X : Cx} {CX : CXT} {C g : Addr} {n : Nat} {sp : Sp} {E : XK} {fa fm : Addr}
theorem op_rmulO (O : OpsO X.K C fa fm g) (F : FnR X.prog X.w X.K X.mg X.base CX n g sp) (hr : Room n X.A) (hx : Passes CX X E) : OpR X (binaryOp .Mult) (rOwnL C sp E) := by
  intro pins s σ H x y v u Q I rx ry h
  obtain ⟨a, dx, fs, i, rfl, ha, rfl, q⟩ := h
  cases (show u = Value.ref a from ry)
  have rx' := rx
  obtain ⟨tk, hv⟩ : ∃ tk, v = Value.int i tk := rx'
  obtain ⟨mA, J, hd⟩ := ins_get I.hok ha
  obtain ⟨od, J, hd2⟩ := J.look
  refine bin_of (op := .Mult) ?_
  exact bin1_left hv I.kIn J rfl O.fst O.noInt (by rw [du_mul]; exact O.mul) (by rw [du_rmul]; exact O.rmul) O.rmulF (run_back (us := [.ref a, v]) (vs := [.ref a, .int i]) F hr hx I (.cons rfl (.cons rx .nil)) q)
end
end Ev
namespace Ev
open PySem L2 PySem.Spec PyProof.Rows
theorem Pen.new {L : Addr} {H : Hp} {p q : Addr} {B : Int} {o : HO} (h : Pen L H p B) (n : H q = none) : Pen L (upd H q o) p B := h.keep (fun b u e => by rw [upd_ne (ne_of_none e n)]; exact e)
theorem Pen.some {L : Addr} {H : Hp} {p : Addr} {B : Int} (h : Pen L H p B) : ∃ xs, H p = some (.lst xs) := by
  obtain ⟨ns, t, c, h1, _⟩ := h
  exact ⟨_, h1⟩
theorem Pen.ne {L : Addr} {H : Hp} {p q : Addr} {B : Int} (h : Pen L H p B) (n : H q = none) : q ≠ p := by
  obtain ⟨xs, e⟩ := h.some
  exact (ne_of_none e n).symm
theorem But.free {L p a : Addr} {H H' : Hp} {B : Int} (t : But p H H') (h : Pen L H' p B) (n : H' a = none) : H a = none := by
  cases e : H a with
  | none => rfl
  | some o =>
    have := t a o (h.ne n) e
    rw [n] at this
    cases this
def spPick : Sp := fun vs H Q _ => ∃ (p l L : Addr) (xs : List V) (B : Int), vs = [.ref p, .ref l] ∧ H l = some (.lst xs) ∧ l ≠ p ∧ 1 ≤ xs.length ∧ xs.length ≤ 1000 ∧ B ≤ 1000000 ∧ Pen L H p B ∧
  ∀ (d : V) (H' : Hp), d ∈ xs → But p H H' → Pen L H' p (B + 1) → Q d H'
/-- a drawn number -/
def Nn (n : Int) : Prop := n.natAbs ≤ 10 ^ 40 + 9
theorem Nn.sm {n : Int} (h : Nn n) : Sm n := Nat.lt_of_le_of_lt h (by decide)
def AllN (ns : List Int) : Prop := ∀ n ∈ ns, Nn n
theorem AllN.sm {ns : List Int} (h : AllN ns) : AllSm ns := fun n m => (h n m).sm
def spSmall : Sp := fun vs H Q _ => ∃ (p L : Addr) (m B : Int), vs = [.ref p, .int m] ∧ 0 ≤ m ∧ m ≤ 1000000000000 ∧ B ≤ 1000000 ∧ Pen L H p B ∧ ∀ (d : Int) (H' : Hp), -m ≤ d → d ≤ m → But p H H' → Pen L H' p (B + 1) → Q (.int d) H'
def spNum : Sp := fun vs H Q _ => ∃ (p L : Addr) (B : Int), vs = [.ref p] ∧ B ≤ 900000 ∧ Pen L H p B ∧ ∀ (d : Int) (H' : Hp), Nn d → But p H H' → Pen L H' p (B + 3) → Q (.int d) H'
section
variable {P : Program} {w : World} {K : PySem.W.Frag} {mg : Str → Option Value} {base : Heap}
theorem scPick : FnScope ["_law_pen_here", "_law_some"] ["_law_pen_here", "_law_some"] (defScope sPick) := ⟨rfl, rfl, rfl, by decide +kernel, rfl, by decide +kernel, by decide +kernel⟩
theorem ok_pick {f : Addr} {fd : FuncData} (F : Fun K "_law_pick" "_law_pick" sPick f fd) (T : Blt mg) (D : Df P w K mg base 1 "_law_draw" ["_law_pen_here", "_law_top_so"] spDraw) : FnOk P w K mg base CX0 2 f fd ["_law_pen_here", "_law_some"] spPick := by
  obtain ⟨f1, fd1, G1, g1, k1, b1⟩ := D.ex
  refine F.ok scPick (fun vs H Q E h => ?_) (fun cdv A outer s H vs Q E hr h => ?_)
  · obtain ⟨p, l, L, xs, B, rfl, _⟩ := h
    rfl
  · obtain ⟨p, l, L, xs, B, rfl, hl, hne, x1, x2, hB, hp, kk⟩ := h
    refine ⟨_, pss_one (ps_ret (pe_ix ix_list (pv 1) (pe_call G1 hr (by rfl) g1 k1 b1 .nil pass0 (pa_cons (pv 0) (pa_cons (pe_callB call_len_seq (by rfl) T.len PySem.boot_len (pa_cons (pv 1) pa_nil)) pa_nil))) (fun _ _ => rfl))), ?_⟩
    refine ⟨_, rfl, _, rfl, _, rfl, l, _, rfl, .inl (SqL.of hl), p, L, _, B, rfl, by omega, by omega, hB, hp, fun d H1 bt pn d0 d1 => ?_⟩
    obtain ⟨j, rfl⟩ := Int.eq_ofNat_of_zero_le d0
    have hj : j < xs.length := by omega
    refine ⟨l, xs, _, xs[j], rfl, rfl, SqL.of (bt _ _ hne hl), atI_nat (List.getElem?_eq_getElem hj), ?_⟩
    exact kk _ _ (List.getElem_mem hj) bt pn
theorem scSmall : FnScope ["_law_pen_here", "_law_most_so"] ["_law_pen_here", "_law_most_so"] (defScope sSmall) := ⟨rfl, rfl, rfl, by decide +kernel, rfl, by decide +kernel, by decide +kernel⟩
theorem ok_small {f : Addr} {fd : FuncData} (F : Fun K "_law_small" "_law_small" sSmall f fd) (D : Df P w K mg base 1 "_law_draw" ["_law_pen_here", "_law_top_so"] spDraw) : FnOk P w K mg base CX0 2 f fd ["_law_pen_here", "_law_most_so"] spSmall := by
  obtain ⟨f1, fd1, G1, g1, k1, b1⟩ := D.ex
  refine F.ok scSmall (fun vs H Q E h => ?_) (fun cdv A outer s H vs Q E hr h => ?_)
  · obtain ⟨p, L, m, B, rfl, _⟩ := h
    rfl
  · obtain ⟨p, L, m, B, rfl, m0, m1, hB, hp, kk⟩ := h
    refine ⟨_, pss_one (ps_ret (pe_op op_sub (pe_call G1 hr (by rfl) g1 k1 b1 .nil pass0 (pa_cons (pv 0) (pa_cons (pe_op op_add (pe_op op_mul pe_int (pv 1)) pe_int) pa_nil))) (pv 1))), ?_⟩
    refine ⟨_, rfl, _, rfl, _, _, rfl, rfl, .inl ⟨by decide, by decide⟩, _, _, rfl, rfl, p, L, _, _, rfl, by omega, by omega, hB, hp, fun d H1 t1 p1 lo hi => ?_⟩
    exact ⟨_, rfl, _, _, rfl, rfl, kk _ _ (by omega) (by omega) t1 p1⟩
theorem scNum : FnScope ["_law_pen_here", "_law_near", "_law_far"] ["_law_pen_here"] (defScope sNum) := ⟨rfl, rfl, rfl, by decide +kernel, rfl, by decide +kernel, by decide +kernel⟩
theorem ok_num {f : Addr} {fd : FuncData} (F : Fun K "_law_number" "_law_number" sNum f fd) (D1 : Df P w K mg base 2 "_law_small" ["_law_pen_here", "_law_most_so"] spSmall) (D2 : Df P w K mg base 2 "_law_pick" ["_law_pen_here", "_law_some"] spPick) : FnOk P w K mg base CX0 3 f fd ["_law_pen_here"] spNum := by
  obtain ⟨f1, fd1, G1, g1, k1, b1⟩ := D1.ex
  obtain ⟨f2, fd2, G2, g2, k2, b2⟩ := D2.ex
  refine F.ok scNum (fun vs H Q E h => ?_) (fun cdv A outer s H vs Q E hr h => ?_)
  · obtain ⟨p, L, B, rfl, _⟩ := h
    rfl
  · obtain ⟨p, L, B, rfl, hB, hp, kk⟩ := h
    refine ⟨_, pss_cons (ps_set (i := 1) scNum.nd rfl (.inl rfl) (pe_call G1 hr (by rfl) g1 k1 b1 .nil pass0 (pa_cons (pv 0) (pa_cons pe_int pa_nil))))
      (pss_cons (ps_set (i := 2) scNum.nd rfl (.inl rfl) (pe_call G1 hr (by rfl) g1 k1 b1 .nil pass0 (pa_cons (pv 0) (pa_cons (pe_op op_pow pe_int pe_int) pa_nil))))
      (pss_one (ps_ret (pe_call G2 hr (by rfl) g2 k2 b2 .nil pass0 (pa_cons (pv 0) (pa_cons (pe_lst (pa_cons (pv 1) (pa_cons (pv 1) (pa_cons pe_int (pa_cons pe_int (pa_cons (pe_un un_neg pe_int) (pa_cons (pv 2) (pa_cons (pe_op op_add (pe_op op_pow pe_int pe_int) (pv 1)) (pa_cons (pe_op op_sub (pv 1) (pe_op op_pow pe_int pe_int)) pa_nil))))))))) pa_nil)))))), ?_⟩
    refine ⟨_, rfl, p, L, _, _, rfl, by decide, by decide, by omega, hp, fun ne H1 a1 a2 t1 p1 => ?_⟩
    refine ⟨_, rfl, _, _, rfl, rfl, ⟨by decide, by decide, by decide⟩, p, L, _, _, rfl, by decide, by decide, by omega, p1, fun fa H2 c1 c2 t2 p2 => ?_⟩
    refine ⟨_, rfl, _, rfl, _, rfl, _, rfl, _, rfl, _, _, rfl, rfl, ⟨by decide, by decide, by decide⟩, _, rfl, _, _, rfl, rfl, _, rfl, _, _, rfl, rfl, ⟨by decide, by decide, by decide⟩, _, _, rfl, rfl, (by show 8 ≤ sizeLine; decide), fun l nl => ?_⟩
    refine ⟨p, l, L, _, _, rfl, upd_same, p2.ne nl, (by show 1 ≤ 8; decide), (by show 8 ≤ 1000; decide), by omega, p2.new nl, fun dv H3 mem t3 p3 => ?_⟩
    have bt := (t1.trans t2).trans ((Same.but (same_new nl)).trans t3)
    have e12 : (10 : Int) ^ Int.toNat 12 = 1000000000000 := by decide
    have e25 : (10 : Int) ^ Int.toNat 25 = 10000000000000000000000000 := by decide
    have e40 : (10 : Int) ^ Int.toNat 40 = 10000000000000000000000000000000000000000 := by decide
    have n40 : (10 : Nat) ^ 40 = 10000000000000000000000000000000000000000 := by decide
    rw [e12] at c1 c2
    obtain ⟨d, rfl, hd⟩ : ∃ d : Int, dv = .int d ∧ Nn d := by
      simp only [List.mem_cons, List.not_mem_nil, or_false] at mem
      unfold Nn
      rcases mem with rfl | rfl | rfl | rfl | rfl | rfl | rfl | rfl
      · exact ⟨_, rfl, by omega⟩
      · exact ⟨_, rfl, by omega⟩
      · exact ⟨_, rfl, by decide⟩
      · exact ⟨_, rfl, by decide⟩
      · exact ⟨_, rfl, by decide⟩
      · exact ⟨_, rfl, by omega⟩
      · exact ⟨_, rfl, by rw [e40]; omega⟩
      · exact ⟨_, rfl, by rw [e25]; omega⟩
    exact kk _ _ hd bt (p3.mono (by omega))
theorem sum_take {l : List Int} {i : Nat} {x : Int} (h : l[i]? = some x) : (l.take (i + 1)).sum = (l.take i).sum + x := by
  rw [List.take_add_one, h, List.sum_append]
  simp
end
end Ev
namespace Ev
open PySem L2 PySem.Spec PyProof.Rows
theorem lc_pure {J : It} {n : Nat} {G : Hp → Prop} {Y : Nat → Hp → V → Hp → Prop} (W : Walk J n G Y) {g : TG} {tt : TT} {te : TE} {vs : List Nat} {σ : L2.St} {H1 : Hp} {D : Addr} {Qd : Hp → Prop} (rs : List Int) (hn : rs.length = n) (hb : n ≤ 1000)
    (hG : ∀ H, But D H1 H → G H)
    (step : ∀ (i : Nat) (x : V) (H H' : Hp) (r : Int), i < n → rs[i]? = some r → But D H1 H → (∃ acc, H D = some (.lst acc)) → Y i H x H' → ∀ (R : VK) (Wk : Hp → Prop), (∀ H4, Same H H4 → R (.int r) H4) →
      g x (wipe σ vs) H' fun σ2 H2 => wipe σ2 vs = wipe σ vs ∧ tt σ2 H2 fun b H3 => if b = true then te σ2 H3 R else Wk H3)
    (fin : ∀ H, But D H1 H → H D = some (.lst (rs.map V.int)) → Qd H) :
    ∃ W : Nat → Nat → Hp → Prop, (∃ m, W 0 m (upd H1 D (HO.lst []))) ∧ ∀ (i m : Nat) (H : Hp), W i m H → J.stop i H ∧ Qd H ∨ J.go i H ∧ ∃ Nx : Hp → Prop, (∀ (H' : Hp), Nx H' → ∃ m', m' < m ∧ W (i + 1) m' H') ∧
      ∀ (x : V) (H' : Hp), J.yld i H x H' → g x (wipe σ vs) H' fun σ2 H2 => wipe σ2 vs = wipe σ vs ∧ tt σ2 H2 fun b H3 =>
        if b = true then te σ2 H3 fun y H4 => ∃ acc, H4 D = some (HO.lst acc) ∧ acc.length < sizeLine ∧ Nx (upd H4 D (HO.lst (acc ++ [y]))) else Nx H3 := by
  refine lc_it W (fun i H => H D = some (.lst ((rs.take i).map V.int)) ∧ But D H1 H) ⟨upd_same, But.upd_at⟩ (fun i H _ h => hG H h.2) (fun i x H H' hi h y => ?_) (fun H h => ?_)
  · obtain ⟨e1, e2⟩ := h
    have hr : rs[i]? = some rs[i] := List.getElem?_eq_getElem (by omega)
    refine step i x H H' rs[i] hi hr e2 ⟨_, e1⟩ y _ _ fun H4 s4 => ⟨_, s4 _ _ e1, ?_, ?_, ?_⟩
    · rw [List.length_map, List.length_take]
      exact Nat.lt_of_le_of_lt (Nat.min_le_left _ _) (Nat.lt_of_lt_of_le (show i < 1000 by omega) (by decide))
    · rw [List.take_add_one, hr, List.map_append]
      exact upd_same
    · exact fun c o nc ec => by rw [upd_ne nc]; exact s4 _ _ (e2 c o nc ec)
  · obtain ⟨e1, e2⟩ := h
    rw [← hn, List.take_length] at e1
    exact fin H e2 e1
/-- an instance is made -/
theorem mk_of {C a : Addr} {H1 : Hp} {ns : List Int} {b : Int} {QQ : Addr → Hp → Prop} {E : XK} (h : Ints H1 a ns) (n1 : 1 ≤ ns.length) (n5 : ns.length ≤ 5) (k : ∀ (x : Addr) (H2 : Hp), Same H1 H2 → TestAt C H2 x ns b → QQ x H2) :
    ∀ x dx, H1 x = none → H1 dx = none → dx ≠ x → spTInit C [.ref x, .ref a, .int b] (upd (upd H1 dx (.own x)) x (.ins C dx [])) (fun v H2 => v = .non ∧ QQ x H2) E := by
  intro x dx nx ndx nd
  have s1 : Same H1 (upd (upd H1 dx (.own x)) x (.ins C dx [])) := fun c o e => by rw [upd_ne (ne_of_none e nx), upd_ne (ne_of_none e ndx)]; exact e
  refine ⟨x, dx, a, ns, b, rfl, upd_same, h.keep s1, n1, n5, fun H2 t bt hx ht => ⟨rfl, ?_⟩⟩
  exact k x H2 (fun c o e => bt c o (ne_of_none e nx) (s1 c o e)) ⟨dx, t, hx, ht⟩
/-- how tests are made -/
structure TMk (P : Program) (w : World) (K : PySem.W.Frag) (mg : Str → Option Value) (base : Heap) (C : Addr) : Prop where
  cl : TCls K C
  it : InsT K C
  g : mg "Test" = some (.ref C)
  mkr : ∃ (f : Addr) (fd : FuncData), Mk K C f ∧ FnOk P w K mg base CX0 4 f fd ["self", "parts", "bound"] (spTInit C) ∧ Binds K fd ["self", "parts", "bound"] []
def gives (C : Addr) (H : Hp) (ps : List Int) (b : Int) (Q : VK) : Prop := ∀ (z : Addr) (H' : Hp), Same H H' → TestAt C H' z ps b → Q (.ref z) H'
def spNeg (C : Addr) : Sp := fun vs H Q _ => ∃ (x : Addr) (ps : List Int) (b : Int), vs = [.ref x] ∧ TestAt C H x ps b ∧ 1 ≤ ps.length ∧ ps.length ≤ 5 ∧ gives C H (ps.map fun p => -p) (-b) Q
def spInv (C : Addr) : Sp := fun vs H Q _ => ∃ (x : Addr) (ps : List Int) (b : Int), vs = [.ref x] ∧ TestAt C H x ps b ∧ 1 ≤ ps.length ∧ ps.length ≤ 5 ∧ gives C H (ps.map fun p => -p) (1 - b) Q
def spScaled (C : Addr) : Sp := fun vs H Q _ => ∃ (x : Addr) (ps : List Int) (b n : Int), vs = [.ref x, .int n] ∧ TestAt C H x ps b ∧ 1 ≤ ps.length ∧ ps.length ≤ 5 ∧ AllSm ps ∧ Sm b ∧ 0 ≤ n ∧ Sm n ∧ gives C H (ps.map fun p => p * n) (b * n) Q
def spAdd (C : Addr) : Sp := fun vs H Q _ => ∃ (x y : Addr) (ps qs : List Int) (b c : Int), vs = [.ref x, .ref y] ∧ TestAt C H x ps b ∧ TestAt C H y qs c ∧ ps.length = qs.length ∧ 1 ≤ ps.length ∧ ps.length ≤ 5 ∧ gives C H (List.zipWith (fun p q => p + q) ps qs) (b + c) Q
theorem map_at {ns : List Int} {i : Nat} {r : Int} {f : Int → Int} (h : (ns.map f)[i]? = some r) : ∃ n, ns[i]? = some n ∧ r = f n := by
  rw [List.getElem?_map] at h
  cases z : ns[i]? with
  | none => rw [z] at h; cases h
  | some n => rw [z] at h; exact ⟨n, rfl, (Option.some.inj h).symm⟩
section
variable {P : Program} {w : World} {K : PySem.W.Frag} {mg : Str → Option Value} {base : Heap}
theorem scTNeg : FnScope ["self", "part"] ["self"] (defScope sTNeg) := ⟨rfl, rfl, rfl, by decide +kernel, rfl, by decide +kernel, by decide +kernel⟩
theorem ok_tNeg {f C : Addr} {fd : FuncData} (F : Fun K "__neg__" "Test.__neg__" sTNeg f fd) (TM : TMk P w K mg base C) : FnOk P w K mg base CX0 6 f fd ["self"] (spNeg C) := by
  obtain ⟨TC, IT, gC, ⟨fm, fdm, MM, GM, bM⟩⟩ := TM
  refine F.ok scTNeg (fun vs H Q E h => ?_) (fun cdv A outer s H vs Q E hr h => ?_)
  · obtain ⟨x, ps, b, rfl, _⟩ := h
    rfl
  · obtain ⟨x, ps, b, rfl, tt, n1, n5, kk⟩ := h
    obtain ⟨dx, t, hx, ht⟩ := id tt
    refine ⟨_, pss_one (ps_ret (pe_make MM GM hr (by rfl) gC bM .nil pass0 (pa_cons (pe_lc (own := [("part", 1)]) (g := gName 1) (tt := tYes) (te := tUn (rU fun i => V.int (-i)) (tVar 1)) (by rfl) scTNeg.nd (pi_tup (pe_fld (pv 0) rfl)) (blkOk_by (own := [("part", 1)]) (N := ["self", "part"]) (sc := defScope sTNeg) (by decide +kernel))
        (fun _ _ _ _ _ => pg_name (i := 1) scTNeg.nd rfl (.inl rfl)) (fun _ _ _ _ _ => pts_nil) (fun _ _ _ _ _ => pe_un un_neg (pv 1))) (pa_cons (pe_un un_neg (pe_fld (pv 0) rfl)) pa_nil)))), ?_⟩
    refine ⟨_, rfl, x, C, dx, _, _, rfl, hx, TC.cl, TC.n1, test_parts t b, t, rfl, ⟨_, SqT.of ht⟩, fun D nD => ?_⟩
    have tD := ne_of_none ht nD
    refine lc_pure (n := ps.length) ((walk_tup (xs := ps.map V.int) |> fun w => by simpa using w)) (ps.map fun p => -p) (List.length_map _) (by omega) (fun H' h => SqT.of (h _ _ tD ht)) (fun i v H2 H' r hi hr bt _ y R Wk k => ?_) (fun H' bt hD => ?_)
    · obtain ⟨rfl, hv⟩ := y
      obtain ⟨n, hn, rfl⟩ := int_at hv
      obtain ⟨n', hn', rfl⟩ := map_at hr
      cases hn.symm.trans hn'
      exact ⟨rfl, _, rfl, n, rfl, k _ (Same.refl _)⟩
    · have s1 : Same H H' := fun c o e => bt c o (ne_of_none e nD) e
      exact ⟨_, rfl, x, C, dx, _, _, rfl, s1 _ _ hx, TC.cl, TC.n2, test_bound t b, b, rfl, mk_of (.inl hD) (by simpa using n1) (by simpa using n5) fun z H2 e2 tz => kk z H2 (s1.trans e2) tz⟩
end
end Ev
namespace Ev
open PySem L2 PySem.Spec PyProof.Rows
section
variable {P : Program} {w : World} {K : PySem.W.Frag} {mg : Str → Option Value} {base : Heap}
theorem scTInv : FnScope ["self", "part"] ["self"] (defScope sTInv) := ⟨rfl, rfl, rfl, by decide +kernel, rfl, by decide +kernel, by decide +kernel⟩
theorem ok_tInv {f C : Addr} {fd : FuncData} (F : Fun K "__invert__" "Test.__invert__" sTInv f fd) (TM : TMk P w K mg base C) : FnOk P w K mg base CX0 6 f fd ["self"] (spInv C) := by
  obtain ⟨TC, IT, gC, ⟨fm, fdm, MM, GM, bM⟩⟩ := TM
  refine F.ok scTInv (fun vs H Q E h => ?_) (fun cdv A outer s H vs Q E hr h => ?_)
  · obtain ⟨x, ps, b, rfl, _⟩ := h
    rfl
  · obtain ⟨x, ps, b, rfl, tt, n1, n5, kk⟩ := h
    obtain ⟨dx, t, hx, ht⟩ := id tt
    refine ⟨_, pss_one (ps_ret (pe_make MM GM hr (by rfl) gC bM .nil pass0 (pa_cons (pe_lc (own := [("part", 1)]) (g := gName 1) (tt := tYes) (te := tUn (rU fun i => V.int (-i)) (tVar 1)) (by rfl) scTInv.nd (pi_tup (pe_fld (pv 0) rfl)) (blkOk_by (own := [("part", 1)]) (N := ["self", "part"]) (sc := defScope sTInv) (by decide +kernel))
        (fun _ _ _ _ _ => pg_name (i := 1) scTInv.nd rfl (.inl rfl)) (fun _ _ _ _ _ => pts_nil) (fun _ _ _ _ _ => pe_un un_neg (pv 1))) (pa_cons (pe_op op_sub pe_int (pe_fld (pv 0) rfl)) pa_nil)))), ?_⟩
    refine ⟨_, rfl, x, C, dx, _, _, rfl, hx, TC.cl, TC.n1, test_parts t b, t, rfl, ⟨_, SqT.of ht⟩, fun D nD => ?_⟩
    have tD := ne_of_none ht nD
    refine lc_pure (n := ps.length) ((walk_tup (xs := ps.map V.int) |> fun w => by simpa using w)) (ps.map fun p => -p) (List.length_map _) (by omega) (fun H' h => SqT.of (h _ _ tD ht)) (fun i v H2 H' r hi hr bt _ y R Wk k => ?_) (fun H' bt hD => ?_)
    · obtain ⟨rfl, hv⟩ := y
      obtain ⟨n, hn, rfl⟩ := int_at hv
      obtain ⟨n', hn', rfl⟩ := map_at hr
      cases hn.symm.trans hn'
      exact ⟨rfl, _, rfl, n, rfl, k _ (Same.refl _)⟩
    · have s1 : Same H H' := fun c o e => bt c o (ne_of_none e nD) e
      exact ⟨_, rfl, x, C, dx, _, _, rfl, s1 _ _ hx, TC.cl, TC.n2, test_bound t b, _, _, rfl, rfl, mk_of (.inl hD) (by simpa using n1) (by simpa using n5) fun z H2 e2 tz => kk z H2 (s1.trans e2) tz⟩
theorem scScaled : FnScope ["test", "number", "part"] ["test", "number"] (defScope sScaled) := ⟨rfl, rfl, rfl, by decide +kernel, rfl, by decide +kernel, by decide +kernel⟩
theorem ok_scaled {f C : Addr} {fd : FuncData} (F : Fun K "scaled" "scaled" sScaled f fd) (TM : TMk P w K mg base C) (D : Df P w K mg base 1 "is_integer" ["value"] spIsInt) : FnOk P w K mg base CX0 6 f fd ["test", "number"] (spScaled C) := by
  obtain ⟨TC, IT, gC, ⟨fm, fdm, MM, GM, bM⟩⟩ := TM
  obtain ⟨f1, fd1, G1, g1, k1, b1⟩ := D.ex
  refine F.ok scScaled (fun vs H Q E h => ?_) (fun cdv A outer s H vs Q E hr h => ?_)
  · obtain ⟨x, ps, b, n, rfl, _⟩ := h
    rfl
  · obtain ⟨x, ps, b, n, rfl, tt, n1, n5, sp, sb, n0, sn, kk⟩ := h
    obtain ⟨dx, t, hx, ht⟩ := id tt
    have hr1 : Room 1 _ := hr.mono (by decide)
    refine ⟨_, pss_cons (ps_if (PW.pt (pw_or (pt_not (pt_val (pe_call G1 hr1 (by rfl) g1 k1 b1 .nil pass0 (pa_cons (pv 1) pa_nil)))) (pw_or1 (pt_cmpR op_lt (pv 1) pe_int (nomark _))))) (pss_one ps_never) pss_nil)
      (pss_one (ps_ret (pe_make MM GM hr (by rfl) gC bM .nil pass0 (pa_cons (pe_lc (own := [("part", 2)]) (g := gName 2) (tt := tYes) (te := tOp (rI CMulW fun i j => .int (i * j)) (tVar 2) (tVar 1)) (by rfl) scScaled.nd (pi_tup (pe_fld (pv 0) rfl)) (blkOk_by (own := [("part", 2)]) (N := ["test", "number", "part"]) (sc := defScope sScaled) (by decide +kernel))
        (fun _ _ _ _ _ => pg_name (i := 2) scScaled.nd rfl (.inl rfl)) (fun _ _ _ _ _ => pts_nil) (fun _ _ _ _ _ => pe_op op_mulW (pv 2) (pv 1))) (pa_cons (pe_op op_mulW (pe_fld (pv 0) rfl) (pv 1)) pa_nil))))), ?_⟩
    refine ⟨_, rfl, n, rfl, true, rfl, _, rfl, _, _, rfl, rfl, _, rfl, ite2 (fun e => absurd (of_decide_eq_true e) (by omega)) (fun _ => ?_)⟩
    refine ⟨_, rfl, x, C, dx, _, _, rfl, hx, TC.cl, TC.n1, test_parts t b, t, rfl, ⟨_, SqT.of ht⟩, fun D nD => ?_⟩
    have tD := ne_of_none ht nD
    refine lc_pure (n := ps.length) ((walk_tup (xs := ps.map V.int) |> fun w => by simpa using w)) (ps.map fun p => p * n) (List.length_map _) (by omega) (fun H' h => SqT.of (h _ _ tD ht)) (fun i v H2 H' r hi hr bt _ y R Wk k => ?_) (fun H' bt hD => ?_)
    · obtain ⟨rfl, hv⟩ := y
      obtain ⟨m, hn, rfl⟩ := int_at hv
      obtain ⟨m', hn', rfl⟩ := map_at hr
      cases hn.symm.trans hn'
      exact ⟨rfl, _, rfl, _, rfl, m, n, rfl, rfl, mulW (sp m (List.mem_of_getElem? hn)) sn, k _ (Same.refl _)⟩
    · have s1 : Same H H' := fun c o e => bt c o (ne_of_none e nD) e
      exact ⟨_, rfl, x, C, dx, _, _, rfl, s1 _ _ hx, TC.cl, TC.n2, test_bound t b, _, rfl, b, n, rfl, rfl, mulW sb sn, mk_of (.inl hD) (by simpa using n1) (by simpa using n5) fun z H2 e2 tz => kk z H2 (s1.trans e2) tz⟩
theorem scTMul : FnScope ["self", "other"] ["self", "other"] (defScope sTMul) := ⟨rfl, rfl, rfl, by decide +kernel, rfl, by decide +kernel, by decide +kernel⟩
theorem scTRmul : FnScope ["self", "other"] ["self", "other"] (defScope sTRmul) := ⟨rfl, rfl, rfl, by decide +kernel, rfl, by decide +kernel, by decide +kernel⟩
theorem ok_tMul {f C : Addr} {fd : FuncData} (F : Fun K "__mul__" "Test.__mul__" sTMul f fd) (D : Df P w K mg base 6 "scaled" ["test", "number"] (spScaled C)) : FnOk P w K mg base CX0 7 f fd ["self", "other"] (spScaled C) := by
  obtain ⟨f1, fd1, G1, g1, k1, b1⟩ := D.ex
  refine F.ok scTMul (fun vs H Q E h => ?_) (fun cdv A outer s H vs Q E hr h => ?_)
  · obtain ⟨x, ps, b, n, rfl, _⟩ := h
    rfl
  · obtain ⟨x, ps, b, n, rfl, h⟩ := h
    refine ⟨_, pss_one (ps_ret (pe_call G1 hr (by rfl) g1 k1 b1 .nil pass0 (pa_cons (pv 0) (pa_cons (pv 1) pa_nil)))), ?_⟩
    exact ⟨_, rfl, _, rfl, x, ps, b, n, rfl, h⟩
theorem ok_tRmul {f C : Addr} {fd : FuncData} (F : Fun K "__rmul__" "Test.__rmul__" sTRmul f fd) (D : Df P w K mg base 6 "scaled" ["test", "number"] (spScaled C)) : FnOk P w K mg base CX0 7 f fd ["self", "other"] (spScaled C) := by
  obtain ⟨f1, fd1, G1, g1, k1, b1⟩ := D.ex
  refine F.ok scTRmul (fun vs H Q E h => ?_) (fun cdv A outer s H vs Q E hr h => ?_)
  · obtain ⟨x, ps, b, n, rfl, _⟩ := h
    rfl
  · obtain ⟨x, ps, b, n, rfl, h⟩ := h
    refine ⟨_, pss_one (ps_ret (pe_call G1 hr (by rfl) g1 k1 b1 .nil pass0 (pa_cons (pv 0) (pa_cons (pv 1) pa_nil)))), ?_⟩
    exact ⟨_, rfl, _, rfl, x, ps, b, n, rfl, h⟩
theorem scTAdd : FnScope ["self", "other", "mine", "its"] ["self", "other"] (defScope sTAdd) := ⟨rfl, rfl, rfl, by decide +kernel, rfl, by decide +kernel, by decide +kernel⟩
theorem ok_tAdd {f C : Addr} {fd : FuncData} (F : Fun K "__add__" "Test.__add__" sTAdd f fd) (T : Blt mg) (mzip : mg "zip" = none) (TM : TMk P w K mg base C) : FnOk P w K mg base CX0 6 f fd ["self", "other"] (spAdd C) := by
  obtain ⟨TC, IT, gC, ⟨fm, fdm, MM, GM, bM⟩⟩ := TM
  refine F.ok scTAdd (fun vs H Q E h => ?_) (fun cdv A outer s H vs Q E hr h => ?_)
  · obtain ⟨x, y, ps, qs, b, c, rfl, _⟩ := h
    rfl
  · obtain ⟨x, y, ps, qs, b, c, rfl, tt, tu, hl, n1, n5, kk⟩ := h
    obtain ⟨dx, t, hx, ht⟩ := id tt
    obtain ⟨dy, t2, hy, ht2⟩ := id tu
    refine ⟨_, pss_cons (ps_if (PW.pt (pw_or (pt_not (pt_val (pe_callB call_isi (by rfl) T.isi (by decide +kernel) (pa_cons (pv 1) (pa_cons (pe_glob (v := .ref C) rfl gC rfl) pa_nil))))) (pw_or1 (pt_cmpR op_ne (pe_callB call_len_seq (by rfl) T.len PySem.boot_len (pa_cons (pe_fld (pv 1) rfl) pa_nil)) (pe_callB call_len_seq (by rfl) T.len PySem.boot_len (pa_cons (pe_fld (pv 0) rfl) pa_nil)) (nomark _))))) (pss_one ps_never) pss_nil)
      (pss_one (ps_ret (pe_make MM GM hr (by rfl) gC bM .nil pass0 (pa_cons (pe_lc (own := [("mine", 2), ("its", 3)]) (g := gTup K 2 (gCons (gName 2) (gCons (gName 3) gNil))) (tt := tYes) (te := tOp (rI0 fun i j => .int (i + j)) (tVar 2) (tVar 3)) (by rfl) scTAdd.nd (RZ.pi_zipA rfl mzip (pa_cons (pe_fld (pv 0) rfl) (pa_cons (pe_fld (pv 1) rfl) pa_nil))) (blkOk_by (own := [("mine", 2), ("its", 3)]) (N := ["self", "other", "mine", "its"]) (sc := defScope sTAdd) (by decide +kernel))
        (fun _ _ _ _ _ => pg_tup (by rfl) (pgs_cons (pg_name (i := 2) scTAdd.nd rfl (.inl rfl)) (pgs_cons (pg_name (i := 3) scTAdd.nd rfl (.inl rfl)) pgs_nil))) (fun _ _ _ _ _ => pts_nil) (fun _ _ _ _ _ => pe_op op_add (pv 2) (pv 3))) (pa_cons (pe_op op_add (pe_fld (pv 0) rfl) (pe_fld (pv 1) rfl)) pa_nil))))), ?_⟩
    refine ⟨_, rfl, _, _, _, _, true, rfl, .own C, tyTest TC IT tu, kit_self, true, rfl, ?_⟩
    refine ⟨_, rfl, y, C, dy, _, _, rfl, hy, TC.cl, TC.n1, test_parts t2 c, t2, _, rfl, .inr (SqT.of ht2), _, rfl, x, C, dx, _, _, rfl, hx, TC.cl, TC.n1, test_parts t b, t, _, rfl, .inr (SqT.of ht), rfl, _, rfl, ?_⟩
    rw [List.length_map, List.length_map, hl]
    refine ite2 (fun e => absurd e (by simp)) (fun _ => ?_)
    refine ⟨_, rfl, x, C, dx, _, _, rfl, hx, TC.cl, TC.n1, test_parts t b, _, rfl, y, C, dy, _, _, rfl, hy, TC.cl, TC.n1, test_parts t2 c, t, t2, _, _, rfl, .inr ⟨SqT.of ht, SqT.of ht2, fun D nD => ?_⟩⟩
    have tD := ne_of_none ht nD
    have tD2 := ne_of_none ht2 nD
    refine lc_pure (n := ps.length) (walk_TT (xs := ps.map V.int) (ys := qs.map V.int) (by simp) (by simpa using hl)) (List.zipWith (fun p q => p + q) ps qs) (by rw [List.length_zipWith]; omega) (by omega) (fun H' h => ⟨SqT.of (h _ _ tD ht), SqT.of (h _ _ tD2 ht2)⟩) (fun i v H2 H' r hi hr bt _ y R Wk k => ?_) (fun H' bt hD => ?_)
    · obtain ⟨T', u, z, rfl, nT, rfl, h4, h5⟩ := y
      obtain ⟨p, hp, rfl⟩ := int_at h4
      obtain ⟨q, hq, rfl⟩ := int_at h5
      have e : r = p + q := by
        rw [List.getElem?_zipWith, hp, hq] at hr
        exact (Option.some.inj hr).symm
      subst e
      exact ⟨T', _, rfl, SqT.of upd_same, rfl, _, _, rfl, _, _, rfl, rfl, rfl, _, rfl, _, rfl, p, q, rfl, rfl, k _ (same_new nT)⟩
    · have s1 : Same H H' := fun c o e => bt c o (ne_of_none e nD) e
      have lz : (List.zipWith (fun p q => p + q) ps qs).length = ps.length := by rw [List.length_zipWith]; omega
      exact ⟨_, rfl, x, C, dx, _, _, rfl, s1 _ _ hx, TC.cl, TC.n2, test_bound t b, _, rfl, y, C, dy, _, _, rfl, s1 _ _ hy, TC.cl, TC.n2, test_bound t2 c, b, c, rfl, rfl, mk_of (.inl hD) (by omega) (by omega) fun z H2 e2 tz => kk z H2 (s1.trans e2) tz⟩
end
end Ev
namespace Ev
open PySem L2 PySem.Spec PyProof.Rows
def gN (a : Nat) (ps : List Int) : Nat := ps.foldl (fun a p => Nat.gcd a p.natAbs) a
theorem gN_snoc {a : Nat} {ps : List Int} {i : Nat} {p : Int} (h : ps[i]? = some p) : gN a (ps.take (i + 1)) = Nat.gcd (gN a (ps.take i)) p.natAbs := by
  unfold gN
  rw [List.take_add_one, h, List.foldl_append]
  rfl
theorem gN_lt : ∀ (ps : List Int) (a : Nat), a < 2 ^ 140 → AllSm ps → gN a ps < 2 ^ 140
  | [], a, h, _ => h
  | p :: r, a, h, q => by
    refine gN_lt r _ ?_ fun n m => q n (List.mem_cons_of_mem _ m)
    by_cases z : a = 0
    · show Nat.gcd a p.natAbs < 2 ^ 140
      rw [z, Nat.gcd_zero_left]
      exact q p List.mem_cons_self
    · exact Nat.lt_of_le_of_lt (Nat.gcd_le_left _ (Nat.pos_of_ne_zero z)) h
theorem gN_dvd0 : ∀ (ps : List Int) (a : Nat), gN a ps ∣ a
  | [], a => Nat.dvd_refl a
  | p :: r, a => Nat.dvd_trans (gN_dvd0 r _) (Nat.gcd_dvd_left _ _)
theorem gN_dvd : ∀ (ps : List Int) (a : Nat) (p : Int), p ∈ ps → gN a ps ∣ p.natAbs
  | q :: r, a, p, h => by
    rcases List.mem_cons.mp h with rfl | m
    · exact Nat.dvd_trans (gN_dvd0 r _) (Nat.gcd_dvd_right _ _)
    · exact gN_dvd r _ p m
/-- the tight test -/
def tgP (g : Nat) (ps : List Int) : List Int := if g = 0 then ps else ps.map fun p => p / (g : Int)
def tgB (g : Nat) (b : Int) : Int := if g = 0 then b else -(-b / (g : Int))
theorem tgP_len (g : Nat) (ps : List Int) : (tgP g ps).length = ps.length := by
  unfold tgP
  split
  · rfl
  · exact List.length_map _
def spTight (C : Addr) : Sp := fun vs H Q _ => ∃ (x : Addr) (ps : List Int) (b : Int), vs = [.ref x] ∧ TestAt C H x ps b ∧ 1 ≤ ps.length ∧ ps.length ≤ 5 ∧ AllSm ps ∧ gives C H (tgP (gN 0 ps) ps) (tgB (gN 0 ps) b) Q
theorem gdivW {g : Nat} {i : Int} (h0 : g ≠ 0) (h1 : g < 2 ^ 140) : CDivW i (g : Int) := by
  refine ⟨by omega, ?_⟩
  rw [Int.natAbs_natCast]
  exact Nat.lt_trans ((Nat.log2_lt h0).mpr h1) (by decide)
section
variable {P : Program} {w : World} {K : PySem.W.Frag} {mg : Str → Option Value} {base : Heap}
theorem scTight : FnScope ["self", "common", "part"] ["self"] (defScope sTight) := ⟨rfl, rfl, rfl, by decide +kernel, rfl, by decide +kernel, by decide +kernel⟩
theorem ok_tTight {f C : Addr} {fd : FuncData} (F : Fun K "tight" "Test.tight" sTight f fd) (mgcd : mg "gcd" = some (.builtin "math.gcd")) (TM : TMk P w K mg base C) : FnOk P w K mg base CX0 6 f fd ["self"] (spTight C) := by
  obtain ⟨TC, IT, gC, ⟨fm, fdm, MM, GM, bM⟩⟩ := TM
  refine F.ok scTight (fun vs H Q E h => ?_) (fun cdv A outer s H vs Q E hr h => ?_)
  · obtain ⟨x, ps, b, rfl, _⟩ := h
    rfl
  · obtain ⟨x, ps, b, rfl, tt, n1, n5, sp, kk⟩ := h
    obtain ⟨dx, t, hx, ht⟩ := id tt
    refine ⟨_, pss_cons (ps_set (i := 1) scTight.nd rfl (.inr rfl) pe_int)
      (pss_cons (ps_for PassesOwn.never rfl (pi_tup (pe_fld (pv 0) rfl)) (pg_name (i := 2) scTight.nd rfl (.inl rfl))
        (pss_one (ps_set (i := 1) scTight.nd rfl (.inr rfl) (pe_callBfun cr_gcd (by rfl) mgcd (pa_cons (pv 1) (pa_cons (pv 2) pa_nil))))))
      (pss_cons (ps_if (pt_cmpR op_eq (pv 1) pe_int (nomark _)) (pss_one (ps_ret (pe_make MM GM hr (by rfl) gC bM .nil pass0 (pa_cons (pe_fld (pv 0) rfl) (pa_cons (pe_fld (pv 0) rfl) pa_nil))))) pss_nil)
      (pss_one (ps_ret (pe_make MM GM hr (by rfl) gC bM .nil pass0 (pa_cons (pe_lc (own := [("part", 2)]) (g := gName 2) (tt := tYes) (te := tOp (rI CDivW fun i j => V.int (i / j)) (tVar 2) (tVar 1)) (by rfl) scTight.nd (pi_tup (pe_fld (pv 0) rfl)) (blkOk_by (own := [("part", 2)]) (N := ["self", "common", "part"]) (sc := defScope sTight) (by decide +kernel))
        (fun _ _ _ _ _ => pg_name (i := 2) scTight.nd rfl (.inl rfl)) (fun _ _ _ _ _ => pts_nil) (fun _ _ _ _ _ => pe_op op_fdivW (pv 2) (pv 1))) (pa_cons (pe_un un_neg (pe_op op_fdivW (pe_un un_neg (pe_fld (pv 0) rfl)) (pv 1))) pa_nil))))))), ?_⟩
    refine ⟨_, rfl, x, C, dx, _, _, rfl, hx, TC.cl, TC.n1, test_parts t b, t, rfl, ⟨_, SqT.of ht⟩, ?_⟩
    have wk : Walk (Itt K t) ps.length (fun H => SqT K H t (ps.map V.int)) (YAt (ps.map V.int)) := by simpa using walk_tup (K := K) (a := t) (xs := ps.map V.int)
    refine for_it wk (fun i σ H' => (∃ v2 : Option V, σ = [some (.ref x), some (.int (gN 0 (ps.take i) : Nat)), v2]) ∧ H' = H) ⟨⟨none, rfl⟩, rfl⟩ (fun i σ H' _ h => by rw [h.2]; exact SqT.of ht) ?_ ?_
    · rintro i y σ Ga Gb hi ⟨⟨v2, rfl⟩, rfl⟩ ⟨rfl, hy⟩
      obtain ⟨p, hp, rfl⟩ := int_at hy
      refine ⟨_, rfl, _, rfl, _, p, rfl, ⟨some (.int p), ?_⟩, rfl⟩
      rw [gN_snoc hp, Int.natAbs_natCast]
      rfl
    · rintro σ Ga ⟨⟨v2, rfl⟩, rfl⟩
      rw [List.take_length]
      have gl := gN_lt ps 0 (by decide) sp
      unfold tgP tgB at kk
      generalize gN 0 ps = g at gl kk ⊢
      refine ⟨_, rfl, rfl, _, rfl, ite2 (fun e => ?_) (fun e => ?_)⟩
      · have e : (g : Int) = 0 := by simpa using e
        have e : g = 0 := by omega
        rw [if_pos e, if_pos e] at kk
        exact ⟨_, rfl, x, C, dx, _, _, rfl, hx, TC.cl, TC.n1, test_parts t b, _, rfl, x, C, dx, _, _, rfl, hx, TC.cl, TC.n2, test_bound t b, mk_of (.inr ht) n1 n5 kk⟩
      · have e : ¬ (g : Int) = 0 := by simpa using e
        have e : ¬ g = 0 := by omega
        rw [if_neg e, if_neg e] at kk
        refine ⟨_, rfl, x, C, dx, _, _, rfl, hx, TC.cl, TC.n1, test_parts t b, t, rfl, ⟨_, SqT.of ht⟩, fun D nD => ?_⟩
        have tD := ne_of_none ht nD
        refine lc_pure (n := ps.length) ((walk_tup (xs := ps.map V.int) |> fun w => by simpa using w)) (ps.map fun p => p / (g : Int)) (List.length_map _) (by omega) (fun H' h => SqT.of (h _ _ tD ht)) (fun i v H2 H' r hi hr bt _ y R Wk k => ?_) (fun H' bt hD => ?_)
        · obtain ⟨rfl, hv⟩ := y
          obtain ⟨m, hn, rfl⟩ := int_at hv
          obtain ⟨m', hn', rfl⟩ := map_at hr
          cases hn.symm.trans hn'
          exact ⟨rfl, _, rfl, _, rfl, m, _, rfl, rfl, gdivW e gl, k _ (Same.refl _)⟩
        · have s1 : Same Ga H' := fun c o e => bt c o (ne_of_none e nD) e
          exact ⟨_, rfl, x, C, dx, _, _, rfl, s1 _ _ hx, TC.cl, TC.n2, test_bound t b, b, rfl, _, rfl, _, _, rfl, rfl, gdivW e gl, _, rfl, mk_of (.inl hD) (by simpa using n1) (by simpa using n5) fun z H2 e2 tz => kk z H2 (s1.trans e2) tz⟩
end
end Ev
namespace Ev
open PySem L2 PySem.Spec PyProof.Rows
def spCommon : Sp := fun vs H Q _ => ∃ i j : Int, vs = [.int i, .int j] ∧ Q (.int (Nat.gcd i.natAbs j.natAbs : Nat)) H
def spMade (C : Addr) : Sp := fun vs H Q _ => ∃ (a : Addr) (ps : List Int) (b : Int), vs = [.ref a] ∧ H a = some (.lst ((ps ++ [b]).map V.int)) ∧ 1 ≤ ps.length ∧ ps.length ≤ 5 ∧ gives C H ps b Q
theorem cut_last {ps : List Int} {b : Int} : cutV ((ps ++ [b]).map V.int) none (some (((ps ++ [b]).length : Nat) - 1 : Int)) = ps.map V.int := by
  unfold cutV
  have e : (((ps ++ [b]).length : Nat) - 1 : Int) = (ps.length : Nat) := by rw [List.length_append]; simp
  have n1 : HT.sIx ((ps ++ [b]).map V.int).length ((ps ++ [b]).map V.int).length (some ((ps.length : Nat) : Int)) = ps.length := by
    rw [HT.sIx_nat, List.length_map, List.length_append]
    simp
  rw [e, n1, HT.sIx_none, List.map_append]
  simp
theorem last_at {ps : List Int} {b : Int} : atI ((ps ++ [b]).map V.int) (((ps ++ [b]).length : Nat) - 1 : Int) = some (.int b) := by
  have e : (((ps ++ [b]).length : Nat) - 1 : Int) = (ps.length : Nat) := by rw [List.length_append]; simp
  rw [e]
  exact atI_nat (by simp)
def Wee (ps : List Int) : Prop := ∀ z ∈ ps, z.natAbs ≤ 315
def spDrawn : Sp := fun vs H Q _ => ∃ (p L : Addr) (n : Nat) (B : Int), vs = [.ref p, .int n] ∧ 1 ≤ n ∧ n ≤ 5 ∧ B ≤ 800000 ∧ Pen L H p B ∧ ∀ (l : Addr) (ps : List Int) (b : Int) (H' : Hp), ps.length = n → Wee ps → Nn b → H' l = some (.lst ((ps ++ [b]).map V.int)) → l ≠ p → But p H H' → Pen L H' p (B + 20) → Q (.ref l) H'
section
variable {P : Program} {w : World} {K : PySem.W.Frag} {mg : Str → Option Value} {base : Heap}
theorem scCommon : FnScope ["_law_one", "_law_other", "_law_rest"] ["_law_one", "_law_other"] (defScope sCommon) := ⟨rfl, rfl, rfl, by decide +kernel, rfl, by decide +kernel, by decide +kernel⟩
theorem abs_if (i : Int) : (if i < 0 then -i else i) = (i.natAbs : Int) := by
  split <;> omega
theorem ok_common {f : Addr} {fd : FuncData} (F : Fun K "_law_common" "_law_common" sCommon f fd) (T : Blt mg) : FnOk P w K mg base CX0 1 f fd ["_law_one", "_law_other"] spCommon := by
  refine F.ok scCommon (fun vs H Q E h => ?_) (fun cdv A outer s H vs Q E hr h => ?_)
  · obtain ⟨i, j, rfl, _⟩ := h
    rfl
  · obtain ⟨i, j, rfl, kk⟩ := h
    refine ⟨_, pss_cons (ps_par (i := 0) (j := 1) rfl scCommon.nd rfl rfl (by decide) rfl rfl (pa_cons (pe_callB call_abs (by rfl) T.abs (by decide +kernel) (pa_cons (pv 0) pa_nil)) (pa_cons (pe_callB call_abs (by rfl) T.abs (by decide +kernel) (pa_cons (pv 1) pa_nil)) pa_nil)) (by rfl))
      (pss_cons (ps_while PassesOwn.never (pt_cmpR op_gt (pv 1) pe_int (nomark _))
        (pss_cons (ps_set (i := 2) scCommon.nd rfl (.inl rfl) (pe_op op_modN (pe_callTy call_int1 (by rfl) T.int (by decide +kernel) (pa_cons (pv 0) pa_nil)) (pv 1)))
        (pss_one (ps_par (i := 0) (j := 1) rfl scCommon.nd rfl rfl (by decide) rfl rfl (pa_cons (pv 1) (pa_cons (pv 2) pa_nil)) (by rfl)))))
      (pss_one (ps_ret (pv 0)))), ?_⟩
    refine ⟨_, rfl, _, rfl, _, rfl, _, rfl, _, _, rfl, ?_⟩
    rw [abs_if, abs_if]
    refine ⟨fun m σ H' => (∃ (a : Nat) (v2 : Option V), σ = [some (.int (a : Int)), some (.int (m : Int)), v2] ∧ Nat.gcd a m = Nat.gcd i.natAbs j.natAbs) ∧ H' = H, ⟨j.natAbs, ⟨i.natAbs, none, rfl, rfl⟩, rfl⟩, ?_⟩
    rintro m σ H' ⟨⟨a, v2, rfl, hg⟩, rfl⟩
    refine ⟨_, rfl, _, _, rfl, rfl, _, rfl, ite2 (fun e => ?_) (fun e => ?_)⟩
    · have e : 0 < m := by have := of_decide_eq_true e; omega
      refine ⟨fun σ H'' => (∃ v2 : Option V, σ = [some (.int (m : Int)), some (.int ((a % m : Nat) : Int)), v2]) ∧ H'' = H', ?_, ?_⟩
      · rintro σ H'' ⟨⟨v2, rfl⟩, rfl⟩
        exact ⟨a % m, Nat.mod_lt _ e, ⟨m, v2, rfl, by rw [← hg, Nat.gcd_comm m, ← Nat.gcd_rec, Nat.gcd_comm]⟩, rfl⟩
      · refine ⟨_, rfl, .inl ⟨_, rfl, _, rfl, _, _, rfl, rfl, (by omega), ?_⟩⟩
        refine ⟨_, rfl, _, rfl, _, _, rfl, ⟨some (.int ((a % m : Nat) : Int)), ?_⟩, rfl⟩
        have e2 : (a : Int).fmod m = ((a % m : Nat) : Int) := by rw [Int.fmod_eq_emod_of_nonneg _ (by omega)]; rfl
        rw [← e2]
        rfl
    · have e : m = 0 := by simpa using e
      subst e
      rw [Nat.gcd_zero_right] at hg
      rw [hg]
      exact ⟨_, rfl, kk⟩
theorem scMade : FnScope ["_law_some"] ["_law_some"] (defScope sMade) := ⟨rfl, rfl, rfl, by decide +kernel, rfl, by decide +kernel, by decide +kernel⟩
theorem ok_made {f C : Addr} {fd : FuncData} (F : Fun K "_law_made" "_law_made" sMade f fd) (T : Blt mg) (TM : TMk P w K mg base C) : FnOk P w K mg base CX0 6 f fd ["_law_some"] (spMade C) := by
  obtain ⟨TC, IT, gC, ⟨fm, fdm, MM, GM, bM⟩⟩ := TM
  refine F.ok scMade (fun vs H Q E h => ?_) (fun cdv A outer s H vs Q E hr h => ?_)
  · obtain ⟨a, ps, b, rfl, _⟩ := h
    rfl
  · obtain ⟨a, ps, b, rfl, ha, n1, n5, kk⟩ := h
    refine ⟨_, pss_one (ps_ret (pe_make MM GM hr (by rfl) gC bM .nil pass0 (pa_cons (pe_slice sl_list (pv 0) po_none (po_some (pe_op op_sub (pe_callB call_len_seq (by rfl) T.len PySem.boot_len (pa_cons (pv 0) pa_nil)) pe_int)))
      (pa_cons (pe_ix ix_list (pv 0) (pe_op op_sub (pe_callB call_len_seq (by rfl) T.len PySem.boot_len (pa_cons (pv 0) pa_nil)) pe_int) (fun _ _ => rfl)) pa_nil)))), ?_⟩
    have lm : ((ps ++ [b]).map V.int).length = (ps ++ [b]).length := List.length_map _
    refine ⟨_, rfl, _, rfl, a, _, rfl, .inl (SqL.of ha), _, _, rfl, rfl, ?_⟩
    rw [lm]
    refine ⟨_, rfl, a, _, rfl, SqL.of ha, fun q nq => ?_⟩
    rw [cut_last]
    have s1 := same_new (o := .lst (ps.map V.int)) nq
    refine ⟨_, rfl, _, rfl, a, _, rfl, .inl (SqL.of (s1 _ _ ha)), _, _, rfl, rfl, ?_⟩
    rw [lm]
    exact ⟨a, _, _, _, rfl, rfl, SqL.of (s1 _ _ ha), last_at, mk_of (.inl upd_same) n1 n5 fun z H2 e2 tz => kk z H2 (s1.trans e2) tz⟩
theorem scDrawn : FnScope ["_law_pen_here", "_law_many", "_law_by", "_law_k"] ["_law_pen_here", "_law_many"] (defScope sDrawn) := ⟨rfl, rfl, rfl, by decide +kernel, rfl, by decide +kernel, by decide +kernel⟩
theorem wee_mul {a d : Int} (h1 : a.natAbs ≤ 35) (h2 : -9 ≤ d) (h3 : d ≤ 9) : (a * d).natAbs ≤ 315 := by
  rw [Int.natAbs_mul]
  exact Nat.mul_le_mul h1 (show d.natAbs ≤ 9 by omega)
theorem Wee.sm {ps : List Int} (h : Wee ps) : AllSm ps := fun z m => Nat.lt_of_le_of_lt (h z m) (by decide)
theorem Pen.upd {L p D : Addr} {H H3 : Hp} {B B3 : Int} {o : HO} (h : Pen L H p B) (h0 : Pen L H3 p B3) (nD : H3 D = none) : Pen L (upd H D o) p B := by
  obtain ⟨ns, t, c, h1, h2, r⟩ := h
  obtain ⟨_, _, _, g1, g2, _⟩ := h0
  exact ⟨ns, t, c, by rw [upd_ne (ne_of_none g1 nD)]; exact h1, by rw [upd_ne (ne_of_none g2 nD)]; exact h2, r⟩
theorem ok_drawn {f : Addr} {fd : FuncData} (F : Fun K "_law_drawn" "_law_drawn" sDrawn f fd) (T : Blt mg) (D1 : Df P w K mg base 2 "_law_pick" ["_law_pen_here", "_law_some"] spPick) (D2 : Df P w K mg base 2 "_law_small" ["_law_pen_here", "_law_most_so"] spSmall) (D3 : Df P w K mg base 3 "_law_number" ["_law_pen_here"] spNum) :
    FnOk P w K mg base CX0 4 f fd ["_law_pen_here", "_law_many"] spDrawn := by
  obtain ⟨f1, fd1, G1, g1, k1, b1⟩ := D1.ex
  obtain ⟨f2, fd2, G2, g2, k2, b2⟩ := D2.ex
  obtain ⟨f3, fd3, G3, g3, k3, b3⟩ := D3.ex
  refine F.ok scDrawn (fun vs H Q E h => ?_) (fun cdv A outer s H vs Q E hr h => ?_)
  · obtain ⟨p, L, n, B, rfl, _⟩ := h
    rfl
  · obtain ⟨p, L, n, B, rfl, n1, n5, hB, pn, kk⟩ := h
    have hr2 : Room 2 _ := hr.mono (by decide)
    refine ⟨_, pss_cons (ps_set (i := 2) scDrawn.nd rfl (.inr rfl) (pe_call G1 hr2 (by rfl) g1 k1 b1 .nil pass0 (pa_cons (pv 0) (pa_cons (pe_lst (pa_cons pe_int (pa_cons pe_int (pa_cons pe_int (pa_cons pe_int (pa_cons pe_int (pa_cons pe_int pa_nil))))))) pa_nil))))
      (pss_one (ps_ret (pe_op op_cat (pe_lc (own := [("_law_k", 3)]) (g := gName 3) (tt := tYes) (te := tOp (rI CMulW fun i j => .int (i * j)) (tVar 2) (tCall spSmall [] E0 (tCons (tVar 0) (tCons (tC (V.int 9)) tNil)))) (by rfl) scDrawn.nd (pi_range1 rfl T.range (pa_cons (pv 1) pa_nil)) (blkOk_by (own := [("_law_k", 3)]) (N := ["_law_pen_here", "_law_many", "_law_by", "_law_k"]) (sc := defScope sDrawn) (by decide +kernel))
          (fun _ _ _ _ _ => pg_name (i := 3) scDrawn.nd rfl (.inl rfl)) (fun _ _ _ _ _ => pts_nil) (fun _ _ _ _ _ => pe_op op_mulW (pv 2) (pe_call G2 hr2 (by rfl) g2 k2 b2 .nil pass0 (pa_cons (pv 0) (pa_cons pe_int pa_nil)))))
        (pe_lst (pa_cons (pe_call G1 hr2 (by rfl) g1 k1 b1 .nil pass0 (pa_cons (pv 0) (pa_cons (pe_lst (pa_cons (pe_call G2 hr2 (by rfl) g2 k2 b2 .nil pass0 (pa_cons (pv 0) (pa_cons pe_int pa_nil))) (pa_cons (pe_call G3 hr (by rfl) g3 k3 b3 .nil pass0 (pa_cons (pv 0) pa_nil)) pa_nil))) pa_nil))) pa_nil))))), ?_⟩
    refine ⟨_, rfl, (by show 6 ≤ sizeLine; decide), fun l nl => ?_⟩
    refine ⟨p, l, L, _, _, rfl, upd_same, pn.ne nl, (by show 1 ≤ 6; decide), (by show 6 ≤ 1000; decide), by omega, pn.new nl, fun dv H1 mem t1 p1 => ?_⟩
    obtain ⟨c, rfl, hc⟩ : ∃ c : Int, dv = .int c ∧ c.natAbs ≤ 35 := by
      simp only [List.mem_cons, List.not_mem_nil, or_false] at mem
      rcases mem with rfl | rfl | rfl | rfl | rfl | rfl <;> exact ⟨_, rfl, by decide⟩
    have t1 := (Same.but (p := p) (same_new (o := .lst [.int 1, .int 1, .int 2, .int 6, .int 35, .int 0]) nl)).trans t1
    refine ⟨_, rfl, n, rfl, by omega, by omega, fun D nD => ?_⟩
    rw [Int.toNat_natCast]
    refine lc_it (n := n) walk_range (fun i' H' => ∃ cs : List Int, cs.length = i' ∧ Wee cs ∧ H' D = some (.lst (cs.map V.int)) ∧ But p H1 H' ∧ Pen L H' p (B + 1 + i')) ⟨[], rfl, fun z m => (nomatch m), upd_same, Same.but (same_new nD), (p1.new nD).mono (by omega)⟩ (fun _ _ _ _ => trivial) (fun i' v H3 H' hi' h y => ?_) (fun H2 h => ?_)
    · obtain ⟨rfl, rfl⟩ := y
      obtain ⟨cs, e1, e2, e3, e4, e5⟩ := h
      refine ⟨rfl, _, rfl, _, rfl, p, L, _, _, rfl, by decide, by decide, by omega, e5, fun d H4 d0 d1 t4 p4 => ?_⟩
      refine ⟨c, d, rfl, rfl, mulW (Nat.lt_of_le_of_lt hc (by decide)) (Nat.lt_of_le_of_lt (show d.natAbs ≤ 9 by omega) (by decide)), _, t4 _ _ (p1.ne nD) e3, ?_, cs ++ [c * d], by rw [List.length_append, e1]; rfl, fun z hz => ?_, ?_, ?_, ?_⟩
      · rw [List.length_map, e1]
        exact Nat.lt_of_lt_of_le (show i' < 1000 by omega) (by decide)
      · rcases List.mem_append.mp hz with m | m
        · exact e2 z m
        · obtain rfl := List.mem_singleton.mp m
          exact wee_mul hc d0 d1
      · rw [List.map_append]
        exact upd_same
      · exact fun b o nb e => by rw [upd_ne (ne_of_none e nD)]; exact t4 b o nb (e4 b o nb e)
      · exact (p4.mono (B' := B + 1 + (i' + 1 : Nat)) (by omega)).upd p1 nD
    · obtain ⟨ps, e1, e2, e3, e4, e5⟩ := h
      refine ⟨_, rfl, _, rfl, p, L, _, _, rfl, by decide, by decide, by omega, e5, fun d H3 d0 d1 t3 p3 => ?_⟩
      refine ⟨_, rfl, p, L, _, rfl, by omega, p3, fun nn H4 hn t4 p4 => ⟨(by show 2 ≤ sizeLine; decide), fun l2 nl2 => ?_⟩⟩
      refine ⟨p, l2, L, _, _, rfl, upd_same, p4.ne nl2, (by show 1 ≤ 2; decide), (by show 2 ≤ 1000; decide), by omega, p4.new nl2, fun dv H5 mem5 t5 p5 => ?_⟩
      obtain ⟨b, rfl, hb⟩ : ∃ b : Int, dv = .int b ∧ Nn b := by
        simp only [List.mem_cons, List.not_mem_nil, or_false] at mem5
        rcases mem5 with rfl | rfl
        · refine ⟨_, rfl, Nat.le_trans (show d.natAbs ≤ 60 by omega) (by decide)⟩
        · exact ⟨_, rfl, hn⟩
      have t5 := (Same.but (p := p) (same_new (o := .lst [.int d, .int nn]) nl2)).trans t5
      have t45 := (t3.trans t4).trans t5
      have hD := t45 _ _ (p1.ne nD) e3
      refine ⟨(by show 1 ≤ sizeLine; decide), fun l3 nl3 => ?_⟩
      have s6 := same_new (o := .lst [.int b]) nl3
      refine ⟨D, l3, _, _, rfl, rfl, s6 _ _ hD, upd_same, ?_, fun l4 nl4 => ?_⟩
      · rw [List.length_map, e1]
        exact Nat.le_trans (show n + 1 ≤ 6 by omega) (by decide)
      have s7 := s6.trans (same_new (o := .lst (ps.map V.int ++ [.int b])) nl4)
      have eq : ps.map V.int ++ [V.int b] = (ps ++ [b]).map V.int := by rw [List.map_append]; rfl
      refine kk l4 ps b _ e1 e2 hb (by rw [← eq]; exact upd_same) ((p5.keep s6).ne nl4) ((t1.trans e4).trans (t45.trans (Same.but s7))) ((p5.keep s7).mono (by omega))
end
end Ev
namespace Ev
open PySem L2 PySem.Spec PyProof.Rows
/-- an instance called, the reading without a context -/
def tCallI (C : Addr) (sp : Sp) (E : XK) (tf : TE) (t : TA) : TE := fun σ H Q => tf σ H fun y H1 => ∃ a, y = V.ref a ∧ t σ H1 fun vs H2 => ((∃ dx vs, SlX.Slt H2 a C dx vs) ∨ ∃ dx fs, H2 a = some (.ins C dx fs)) ∧ sp (V.ref a :: vs) H2 Q E
theorem pe_callI {X : Cx} {CX : CXT} {k : Nat} {C g : Addr} {sp : Sp} {E : XK} {e fe : Expr} {es : List Expr} {tf : TE} {t : TA} {pos : Pos} (hf : PE X fe tf) (c : StX.CallO X.K C g) (F : FnR X.prog X.w X.K X.mg X.base CX k g sp) (hr : Room k X.A) (hx : Passes CX X E) (ha : PA X (e :: es) t)
    (ht : eval (.Call fe (e :: es) [] pos) X.env = (do callWith pos (← eval fe X.env) [] (backTo pos (starEach (e :: es) X.env)) (backToKw pos (keywordEach [] X.env))) := by rfl)
    (he : starEach (e :: es) X.env = (false, eval e X.env) :: starEach es X.env := by rfl) (hpl : (backTo pos (starEach es X.env)).any (·.1) = false := by rfl) : PE X (.Call fe (e :: es) [] pos) (tCallI C sp E tf t) :=
  StX.pe_callO hf c F hr hx ha ht he hpl
/-- the class of tests, with what its methods promise -/
structure TMeth (P : Program) (w : World) (K : PySem.W.Frag) (mg : Str → Option Value) (base : Heap) (C : Addr) : Prop where
  mak : TMk P w K mg base C
  am : ∃ (f : Addr) (fd : FuncData), FnOk P w K mg base CX0 3 f fd ["self", "numbers"] (spAmount C) ∧ Binds K fd ["self", "numbers"] [] ∧ Meth K C "amount" f
  ca : ∃ (f : Addr), FnR P w K mg base CX0 4 f (spTCall C) ∧ StX.CallO K C f
  eq : ∃ (f : Addr), FnR P w K mg base CX0 1 f (spTEq C) ∧ PySem.W.findIn K (.ref C) "__eq__" = some (some (.ref f)) ∧ PySem.W.isFn K (.ref f) = true
  ne : PySem.W.findIn K (.ref C) "__ne__" = some (some (.builtin "object.__ne__"))
  op : ∃ (fa fm fr : Addr), OpsO K C fa fm fr ∧ FnR P w K mg base CX0 6 fa (spAdd C) ∧ FnR P w K mg base CX0 7 fm (spScaled C) ∧ FnR P w K mg base CX0 7 fr (spScaled C)
  ng : ∃ (f : Addr), FnR P w K mg base CX0 6 f (spNeg C) ∧ PySem.W.findIn K (.ref C) "__neg__" = some (some (.ref f)) ∧ PySem.W.isFn K (.ref f) = true
  iv : ∃ (f : Addr), FnR P w K mg base CX0 6 f (spInv C) ∧ PySem.W.findIn K (.ref C) "__invert__" = some (some (.ref f)) ∧ PySem.W.isFn K (.ref f) = true
  tg : ∃ (f : Addr) (fd : FuncData), FnOk P w K mg base CX0 6 f fd ["self"] (spTight C) ∧ Binds K fd ["self"] [] ∧ Meth K C "tight" f
theorem TestAt.but {C l x : Addr} {H H' : Hp} {ps : List Int} {b : Int} {xs : List V} (h : TestAt C H x ps b) (hl : H l = some (.lst xs)) (k : But l H H') : TestAt C H' x ps b := by
  obtain ⟨dx, t, h1, h2⟩ := h
  exact ⟨dx, t, k _ _ (ne_of h1 hl (by intro z; cases z)) h1, k _ _ (ne_of h2 hl (by intro z; cases z)) h2⟩
theorem eqT_self (ps : List Int) (b : Int) : eqT ps b ps b = true := by simp [eqT]
theorem fld_no {t : Addr} {b : Int} {m : Str} (h1 : ¬ m = "parts") (h2 : ¬ m = "bound") : (testF t b).lookup m = none := (lk_miss h1).trans ((lk_miss h2).trans rfl)
section
variable {K : PySem.W.Frag} {C : Addr} {H : Hp} {x : Addr} {ps : List Int} {b : Int} {E : XK} {neg : Bool} {Q : VK}
theorem own_test {z : Addr} {qs : List Int} {c : Int} (TC : TCls K C) (IT : InsT K C) (h : TestAt C H x ps b) (hz : TestAt C H z qs c) (k : Q (.bl (neg ^^ eqT ps b qs c)) H) : rOwnB K C (spTEq C) E neg (.ref x) (.ref z) H Q := by
  obtain ⟨dx, t, hx, ht⟩ := id h
  exact ⟨x, dx, _, _, rfl, hx, tyTest TC IT hz, nf_own, x, .ref z, ps, b, rfl, h, .inl ⟨z, qs, c, rfl, hz, _, rfl, k⟩⟩
/-- like tests -/
theorem own_like {z : Addr} {qs : List Int} {c : Int} (TC : TCls K C) (IT : InsT K C) (h : TestAt C H x ps b) (hz : TestAt C H z qs c) (e1 : ps = qs) (e2 : b = c) (k : Q (.bl (!neg)) H) : rOwnB K C (spTEq C) E neg (.ref x) (.ref z) H Q := by
  subst e1 e2
  refine own_test TC IT h hz ?_
  rw [eqT_self, Bool.xor_true]
  exact k
theorem own_add {z : Addr} {qs : List Int} {c : Int} (TC : TCls K C) (IT : InsT K C) (h : TestAt C H x ps b) (hz : TestAt C H z qs c) (hl : ps.length = qs.length) (n1 : 1 ≤ ps.length) (n5 : ps.length ≤ 5) (k : gives C H (List.zipWith (fun p q => p + q) ps qs) (b + c) Q) : rOwnS K C (spAdd C) E (.ref x) (.ref z) H Q := by
  obtain ⟨dx, t, hx, ht⟩ := id h
  exact ⟨x, dx, _, rfl, hx, tyTest TC IT hz, x, z, ps, qs, b, c, rfl, h, hz, hl, n1, n5, fun y H' s1 ty => ⟨⟨_, rfl⟩, k y H' s1 ty⟩⟩
theorem own_mul {i : Int} (h : TestAt C H x ps b) (n1 : 1 ≤ ps.length) (n5 : ps.length ≤ 5) (sp : AllSm ps) (sb : Sm b) (i0 : 0 ≤ i) (si : Sm i) (k : gives C H (ps.map fun p => p * i) (b * i) Q) : rOwnI C (spScaled C) E (.ref x) (.int i) H Q := by
  obtain ⟨dx, t, hx, ht⟩ := id h
  exact ⟨x, dx, _, i, rfl, hx, rfl, x, ps, b, i, rfl, h, n1, n5, sp, sb, i0, si, fun y H' s1 ty => ⟨⟨_, rfl⟩, k y H' s1 ty⟩⟩
theorem own_rmul {i : Int} (h : TestAt C H x ps b) (n1 : 1 ≤ ps.length) (n5 : ps.length ≤ 5) (sp : AllSm ps) (sb : Sm b) (i0 : 0 ≤ i) (si : Sm i) (k : gives C H (ps.map fun p => p * i) (b * i) Q) : rOwnL C (spScaled C) E (.int i) (.ref x) H Q := by
  obtain ⟨dx, t, hx, ht⟩ := id h
  exact ⟨x, dx, _, i, rfl, hx, rfl, x, ps, b, i, rfl, h, n1, n5, sp, sb, i0, si, fun y H' s1 ty => ⟨⟨_, rfl⟩, k y H' s1 ty⟩⟩
theorem own_neg (h : TestAt C H x ps b) (n1 : 1 ≤ ps.length) (n5 : ps.length ≤ 5) (k : gives C H (ps.map fun p => -p) (-b) Q) : rOwnU C (spNeg C) E (.ref x) H Q := by
  obtain ⟨dx, t, hx, ht⟩ := id h
  exact ⟨x, dx, _, rfl, hx, x, ps, b, rfl, h, n1, n5, k⟩
theorem own_inv (h : TestAt C H x ps b) (n1 : 1 ≤ ps.length) (n5 : ps.length ≤ 5) (k : gives C H (ps.map fun p => -p) (1 - b) Q) : rOwnU C (spInv C) E (.ref x) H Q := by
  obtain ⟨dx, t, hx, ht⟩ := id h
  exact ⟨x, dx, _, rfl, hx, x, ps, b, rfl, h, n1, n5, k⟩
end
end Ev
namespace Ev
open PySem L2 PySem.Spec PyProof.Rows
def spJoin : Sp := fun vs H Q _ => ∃ (p L a c : Addr) (ps qs : List Int) (b d B : Int), vs = [.ref p, .ref a, .ref c] ∧ H a = some (.lst ((ps ++ [b]).map V.int)) ∧ H c = some (.lst ((qs ++ [d]).map V.int)) ∧ a ≠ p ∧ c ≠ p ∧ ps.length = qs.length ∧ 1 ≤ ps.length ∧ ps.length ≤ 5 ∧ Wee ps ∧ Wee qs ∧ Nn b ∧ Nn d ∧ B ≤ 900000 ∧ Pen L H p B ∧
  ∀ H', But p H H' → Pen L H' p (B + 2) → Q (.bl true) H'
abbrev nJoin : List Str := ["_law_pen_here", "_law_one_so", "_law_other_so", "_law_one", "_law_other", "_law_due", "_law_held", "_law_by", "_law_away", "_law_k", "_law_each"]
theorem scJoin : FnScope nJoin ["_law_pen_here", "_law_one_so", "_law_other_so"] (defScope sJoin) := ⟨rfl, rfl, rfl, by decide +kernel, rfl, by decide +kernel, by decide +kernel⟩
abbrev restJoin (n : Nat) : List Stmt := (defBody sJoin).drop n
theorem zip_snoc (ps qs : List Int) (b d : Int) (h : ps.length = qs.length) : List.zipWith (fun p q : Int => p + q) (ps ++ [b]) (qs ++ [d]) = List.zipWith (fun p q => p + q) ps qs ++ [b + d] := by
  rw [List.zipWith_append h]; rfl
section
variable {P : Program} {w : World} {K : PySem.W.Frag} {mg : Str → Option Value} {base : Heap}
theorem ok_join {f C : Addr} {fd : FuncData} (F : Fun K "_law_joined_right" "_law_joined_right" sJoin f fd) (T : Blt mg) (TM : TMeth P w K mg base C) (D1 : Df P w K mg base 1 "_law_draw" ["_law_pen_here", "_law_top_so"] spDraw) (D2 : Df P w K mg base 2 "_law_pick" ["_law_pen_here", "_law_some"] spPick) (D3 : Df P w K mg base 6 "_law_made" ["_law_some"] (spMade C)) :
    FnOk P w K mg base CX0 8 f fd ["_law_pen_here", "_law_one_so", "_law_other_so"] spJoin := by
  obtain ⟨f1, fd1, G1, g1, k1, b1⟩ := D1.ex
  obtain ⟨f2, fd2, G2, g2, k2, b2⟩ := D2.ex
  obtain ⟨f3, fd3, G3, g3, k3, b3⟩ := D3.ex
  obtain ⟨⟨TC, IT, gC, _⟩, _, _, ⟨fe, RE, heq, hef⟩, hne, ⟨fa, fm, fr, OO, RA, RM, RR⟩, ⟨fn, RN, hn, hnf⟩, ⟨fi, RI, hi, hif⟩, _⟩ := id TM
  refine F.ok scJoin (fun vs H Q E h => ?_) (fun cdv A outer s H vs Q E hr h => ?_)
  · obtain ⟨p, L, a, c, ps, qs, b, d, B, rfl, _⟩ := h
    rfl
  · obtain ⟨p, L, a, c, ps, qs, b, d, B, rfl, ha, hc, ap, cp, hl, n1, n5, wp, wq, nb, nd, hB, pn, kk⟩ := h
    have hr1 : Room 1 _ := hr.mono (by decide)
    have hr2 : Room 2 _ := hr.mono (by decide)
    have hr6 : Room 6 _ := hr.mono (by decide)
    obtain ⟨t9, h9, q9⟩ : ∃ t : TS, PSs (cxOf CX0 P w K mg base nJoin "_law_joined_right" (defScope sJoin) f cdv A outer s H E).nox (restJoin 8) t ∧ ∀ (D : Ends) (G : Hp) (x y : Addr) (v4 v5 v6 v7 v8 v9 v10 : Option V), TestAt C G x ps b → G a = some (.lst ((ps ++ [b]).map V.int)) →
        (∀ G', Same G G' → D.rt (.bl true) G') → t D [some (.ref p), some (.ref a), some (.ref c), some (.ref x), v4, v5, v6, v7, v8, v9, v10] G := by
      refine ⟨_, pss_cons (ps_set (i := 5) scJoin.nd rfl (.inl rfl) (pe_call G3 hr6 (by rfl) g3 k3 b3 .nil pass0 (pa_cons (pe_lc (own := [("_law_each", 10)]) (g := gName 10) (tt := tYes) (te := tOp (rI0 fun i j => .int (i - j)) (tC (.int 0)) (tVar 10)) (by rfl) scJoin.nd (pi_list (pv 1)) (blkOk_by (own := [("_law_each", 10)]) (N := nJoin) (sc := defScope sJoin) (by decide +kernel))
            (fun _ _ _ _ _ => pg_name (i := 10) scJoin.nd rfl (.inl rfl)) (fun _ _ _ _ _ => pts_nil) (fun _ _ _ _ _ => pe_op op_sub pe_int (pv 10))) pa_nil)))
        (pss_cons (ps_if (PW.pt (pw_or (pt_cmpR (op_neO (E := E0) heq hne IT.hm hef RE hr2 pass0) (pe_un (un_negO (E := E0) hn hnf RN hr6 pass0) (pv 3)) (pv 5) (nomark _)) (pw_or1 (pt_cmpR (op_neO (E := E0) heq hne IT.hm hef RE hr2 pass0) (pe_un (un_negO (E := E0) hn hnf RN hr6 pass0) (pe_un (un_negO (E := E0) hn hnf RN hr6 pass0) (pv 3))) (pv 3) (nomark _))))) (pss_one (ps_ret pe_bl)) pss_nil)
        (pss_cons (ps_set (i := 8) scJoin.nd rfl (.inl rfl) (pe_op op_cat (pe_lc (own := [("_law_each", 10)]) (g := gName 10) (tt := tYes) (te := tOp (rI0 fun i j => .int (i - j)) (tC (.int 0)) (tVar 10)) (by rfl) scJoin.nd (pi_list (pe_slice sl_list (pv 1) po_none (po_some (pe_op op_sub (pe_callB call_len_seq (by rfl) T.len PySem.boot_len (pa_cons (pv 1) pa_nil)) pe_int)))) (blkOk_by (own := [("_law_each", 10)]) (N := nJoin) (sc := defScope sJoin) (by decide +kernel))
            (fun _ _ _ _ _ => pg_name (i := 10) scJoin.nd rfl (.inl rfl)) (fun _ _ _ _ _ => pts_nil) (fun _ _ _ _ _ => pe_op op_sub pe_int (pv 10)))
          (pe_lst (pa_cons (pe_op op_sub pe_int (pe_ix ix_list (pv 1) (pe_op op_sub (pe_callB call_len_seq (by rfl) T.len PySem.boot_len (pa_cons (pv 1) pa_nil)) pe_int) (fun _ _ => rfl))) pa_nil))))
        (pss_one (ps_ret (pe_and (pe_cmpR (op_eqO (E := E0) heq hef RE hr1 pass0) (pe_un (un_invO (E := E0) hi hif RI hr6 pass0) (pv 3)) (pe_call G3 hr6 (by rfl) g3 k3 b3 .nil pass0 (pa_cons (pv 8) pa_nil)) (nomark _))
          (pe_one (pe_cmpR (op_eqO (E := E0) heq hef RE hr1 pass0) (pe_un (un_invO (E := E0) hi hif RI hr6 pass0) (pe_un (un_invO (E := E0) hi hif RI hr6 pass0) (pv 3))) (pv 3) (nomark _)))))))), ?_⟩
      intro D G x y v4 v5 v6 v7 v8 v9 v10 tt ga fin
      have lm : ((ps ++ [b]).map V.int).length = (ps ++ [b]).length := List.length_map _
      have l1 : (ps ++ [b]).length = ps.length + 1 := by rw [List.length_append]; rfl
      have nn : (ps.map fun p => -p).length = ps.length := List.length_map _
      refine ⟨_, rfl, a, rfl, ⟨_, SqL.of ga⟩, fun D1 nD1 => ?_⟩
      have aD := ne_of_none ga nD1
      refine lc_pure (n := (ps ++ [b]).length) ((walk_list (xs := (ps ++ [b]).map V.int) |> fun w => by rw [← lm]; exact w)) ((ps ++ [b]).map fun z => 0 - z) (List.length_map _) (by omega) (fun H' h => SqL.of (h _ _ aD ga)) (fun i v H2 H' r hi hr bt _ y R Wk k => ?_) (fun G1 bt hD => ?_)
      · obtain ⟨rfl, hv⟩ := y
        obtain ⟨m, hn, rfl⟩ := int_at hv
        obtain ⟨m', hn', rfl⟩ := map_at hr
        cases hn.symm.trans hn'
        exact ⟨rfl, _, rfl, 0, m, rfl, rfl, k _ (Same.refl _)⟩
      have s1 : Same G G1 := fun c o e => bt c o (ne_of_none e nD1) e
      have e1 : ((ps ++ [b]).map fun z => 0 - z) = (ps.map fun z => -z) ++ [-b] := by simp
      rw [e1] at hD
      refine ⟨D1, _, _, rfl, hD, by rw [nn]; exact n1, by rw [nn]; exact n5, fun u G2 e2 tu => ?_⟩
      have s2 := s1.trans e2
      refine ⟨_, rfl, own_neg (tt.keep s2) n1 n5 fun u2 G3 e3 tu2 => ⟨_, rfl, own_like TC IT tu2 (tu.keep e3) rfl rfl ?_⟩⟩
      have s3 := s2.trans e3
      refine ⟨_, rfl, iteF ?_⟩
      have nn2 : ((ps.map fun p => -p).map fun p => -p) = ps := by rw [List.map_map]; simp [Function.comp_def]
      refine ⟨_, rfl, own_neg (tt.keep s3) n1 n5 fun u3 G4 e4 tu3 => own_neg tu3 (by rw [nn]; exact n1) (by rw [nn]; exact n5) fun u4 G5 e5 tu4 => ⟨_, rfl, own_like TC IT tu4 (tt.keep (s3.trans (e4.trans e5))) nn2 (by omega) ⟨_, rfl, iteF ?_⟩⟩⟩
      have s5 := s3.trans (e4.trans e5)
      clear tu tu2 tu3 tu4 e2 e3 e4 e5 s2 s3 hD bt s1
      refine ⟨_, rfl, _, rfl, a, _, rfl, .inl (SqL.of (s5 _ _ ga)), _, _, rfl, rfl, ?_⟩
      rw [lm]
      refine ⟨_, rfl, a, _, rfl, SqL.of (s5 _ _ ga), fun q nq => ?_⟩
      rw [cut_last]
      have s6 := s5.trans (same_new (o := .lst (ps.map V.int)) nq)
      have hq : upd G5 q (.lst (ps.map V.int)) q = some (.lst (ps.map V.int)) := upd_same
      generalize upd G5 q (.lst (ps.map V.int)) = G6 at s6 hq ⊢
      refine ⟨q, rfl, ⟨_, SqL.of hq⟩, fun D2 nD2 => ?_⟩
      have qD := ne_of_none hq nD2
      refine lc_pure (n := ps.length) ((walk_list (xs := ps.map V.int) |> fun w => by simpa using w)) (ps.map fun z => 0 - z) (List.length_map _) (by omega) (fun H' h => SqL.of (h _ _ qD hq)) (fun i v H2 H' r hi hr bt _ y R Wk k => ?_) (fun G7 bt hD => ?_)
      · obtain ⟨rfl, hv⟩ := y
        obtain ⟨m, hn, rfl⟩ := int_at hv
        obtain ⟨m', hn', rfl⟩ := map_at hr
        cases hn.symm.trans hn'
        exact ⟨rfl, _, rfl, 0, m, rfl, rfl, k _ (Same.refl _)⟩
      have s7 : Same G6 G7 := fun c o e => bt c o (ne_of_none e nD2) e
      have s8 := s6.trans s7
      refine ⟨_, rfl, _, rfl, a, _, rfl, .inl (SqL.of (s8 _ _ ga)), _, _, rfl, rfl, ?_⟩
      rw [lm]
      refine ⟨a, _, _, _, rfl, rfl, SqL.of (s8 _ _ ga), last_at, _, _, rfl, rfl, (by show 1 ≤ sizeLine; decide), fun l1 nl1 => ?_⟩
      have s9 := same_new (o := .lst [.int (1 - b)]) nl1
      refine ⟨D2, l1, _, _, rfl, rfl, s9 _ _ hD, upd_same, ?_, fun l2 nl2 => ?_⟩
      · rw [List.length_map, List.length_map]
        exact Nat.le_trans (show ps.length + 1 ≤ 6 by omega) (by decide)
      have e1 : (ps.map fun z => 0 - z) = ps.map fun z => -z := by simp
      rw [e1] at hD ⊢
      have eq : (ps.map fun z => -z).map V.int ++ [V.int (1 - b)] = ((ps.map fun z => -z) ++ [1 - b]).map V.int := by rw [List.map_append]; rfl
      rw [eq]
      have sA := (s8.trans s9).trans (same_new (o := .lst (((ps.map fun z => -z) ++ [1 - b]).map V.int)) nl2)
      have h2 : upd (upd G7 l1 (.lst [.int (1 - b)])) l2 (.lst (((ps.map fun z => -z) ++ [1 - b]).map V.int)) l2 = some (.lst (((ps.map fun z => -z) ++ [1 - b]).map V.int)) := upd_same
      generalize upd (upd G7 l1 (.lst [.int (1 - b)])) l2 (.lst (((ps.map fun z => -z) ++ [1 - b]).map V.int)) = G8 at sA h2 ⊢
      refine ⟨_, rfl, own_inv (tt.keep sA) n1 n5 fun u Ga ea tu => ⟨_, rfl, l2, _, _, rfl, ea _ _ h2, by rw [nn]; exact n1, by rw [nn]; exact n5, fun u2 Gb eb tu2 => ?_⟩⟩
      refine own_like TC IT (tu.keep eb) tu2 rfl rfl ⟨_, rfl, iteT ?_⟩
      have sB := sA.trans (ea.trans eb)
      refine ⟨_, rfl, own_inv (tt.keep sB) n1 n5 fun u3 Gc ec tu3 => own_inv tu3 (by rw [nn]; exact n1) (by rw [nn]; exact n5) fun u4 Gd ed tu4 => ⟨_, rfl, own_like TC IT tu4 (tt.keep (sB.trans (ec.trans ed))) nn2 (by omega) ?_⟩⟩
      exact fin _ (sB.trans (ec.trans ed))
    have hr7 : Room 7 _ := hr.mono (by decide)
    obtain ⟨t5, h5, q5⟩ : ∃ t : TS, PSs (cxOf CX0 P w K mg base nJoin "_law_joined_right" (defScope sJoin) f cdv A outer s H E).nox (restJoin 5) t ∧ ∀ (D : Ends) (G : Hp) (x y : Addr) (v5 v6 v7 v8 v9 v10 : Option V), TestAt C G x ps b → TestAt C G y qs d → G a = some (.lst ((ps ++ [b]).map V.int)) → G c = some (.lst ((qs ++ [d]).map V.int)) → Pen L G p B →
        (∀ G', But p G G' → Pen L G' p (B + 2) → D.rt (.bl true) G') → t D [some (.ref p), some (.ref a), some (.ref c), some (.ref x), some (.ref y), v5, v6, v7, v8, v9, v10] G := by
      refine ⟨_, pss_cons (ps_set (i := 7) scJoin.nd rfl (.inr rfl) (pe_call G2 hr2 (by rfl) g2 k2 b2 .nil pass0 (pa_cons (pv 0) (pa_cons (pe_lst (pa_cons pe_int (pa_cons pe_int (pa_cons pe_int (pa_cons (pe_call G1 hr1 (by rfl) g1 k1 b1 .nil pass0 (pa_cons (pv 0) (pa_cons pe_int pa_nil))) (pa_cons (pe_op op_pow pe_int pe_int) pa_nil)))))) pa_nil))))
        (pss_cons (ps_set (i := 5) scJoin.nd rfl (.inl rfl) (pe_call G3 hr6 (by rfl) g3 k3 b3 .nil pass0 (pa_cons (pe_lc (own := [("_law_each", 10)]) (g := gName 10) (tt := tYes) (te := tOp (rI CMulW fun i j => .int (i * j)) (tVar 7) (tVar 10)) (by rfl) scJoin.nd (pi_list (pv 1)) (blkOk_by (own := [("_law_each", 10)]) (N := nJoin) (sc := defScope sJoin) (by decide +kernel))
            (fun _ _ _ _ _ => pg_name (i := 10) scJoin.nd rfl (.inl rfl)) (fun _ _ _ _ _ => pts_nil) (fun _ _ _ _ _ => pe_op op_mulW (pv 7) (pv 10))) pa_nil)))
        (pss_cons (ps_if (PW.pt (pw_or (pt_cmpR (op_neO (E := E0) heq hne IT.hm hef RE hr2 pass0) (pe_op (op_rmulO (E := E0) OO RR hr7 pass0) (pv 7) (pv 3)) (pv 5) (nomark _))
          (pw_or (pt_cmpR (op_neO (E := E0) heq hne IT.hm hef RE hr2 pass0) (pe_op (op_mulO (E := E0) OO RM hr7 pass0) (pv 3) (pv 7)) (pv 5) (nomark _))
          (pw_or (pt_cmpR (op_neO (E := E0) heq hne IT.hm hef RE hr2 pass0) (pe_op (op_addO (E := E0) OO RA hr6 pass0) (pv 3) (pv 3)) (pe_op (op_rmulO (E := E0) OO RR hr7 pass0) pe_int (pv 3)) (nomark _))
          (pw_or1 (pt_cmpR (op_neO (E := E0) heq hne IT.hm hef RE hr2 pass0) (pv 4) (pe_call G3 hr6 (by rfl) g3 k3 b3 .nil pass0 (pa_cons (pv 2) pa_nil)) (nomark _))))))) (pss_one (ps_ret pe_bl)) pss_nil) h9)), ?_⟩
      intro D G x y v5 v6 v7 v8 v9 v10 tx ty ga gc pn0 fin
      have lm : ((ps ++ [b]).map V.int).length = (ps ++ [b]).length := List.length_map _
      have l1 : (ps ++ [b]).length = ps.length + 1 := by rw [List.length_append]; rfl
      have n99 : (10 : Int) ^ Int.toNat 30 = 1000000000000000000000000000000 := by decide
      refine ⟨_, rfl, _, rfl, p, L, _, _, rfl, by decide, by decide, by omega, pn0, fun dd G1 t1 p1 d0 d1 => ?_⟩
      refine ⟨_, _, rfl, rfl, ⟨by decide, by decide, by decide⟩, (by show 5 ≤ sizeLine; decide), fun l nl => ?_⟩
      refine ⟨p, l, L, _, _, rfl, upd_same, p1.ne nl, (by show 1 ≤ 5; decide), (by show 5 ≤ 1000; decide), by omega, p1.new nl, fun dv G2 mem t2 p2 => ?_⟩
      obtain ⟨i, rfl, i0, si⟩ : ∃ i : Int, dv = .int i ∧ 0 ≤ i ∧ Sm i := by
        simp only [List.mem_cons, List.not_mem_nil, or_false] at mem
        unfold Sm
        rcases mem with rfl | rfl | rfl | rfl | rfl
        · exact ⟨_, rfl, by decide, by decide⟩
        · exact ⟨_, rfl, by decide, by decide⟩
        · exact ⟨_, rfl, by decide, by decide⟩
        · exact ⟨_, rfl, d0, Nat.lt_of_le_of_lt (show dd.natAbs ≤ 99 by omega) (by decide)⟩
        · exact ⟨_, rfl, by rw [n99]; decide, by rw [n99]; decide⟩
      have t2 := (t1.trans (Same.but (same_new (o := .lst [.int 0, .int 1, .int 2, .int dd, .int (10 ^ Int.toNat 30)]) nl))).trans t2
      obtain ⟨px, hpx⟩ := pn0.some
      have tx := tx.but hpx t2
      have ty := ty.but hpx t2
      have ga := t2 _ _ ap ga
      have gc := t2 _ _ cp gc
      have fin2 : ∀ G', Same G2 G' → D.rt (.bl true) G' := fun G' s => fin G' (t2.trans (Same.but s)) ((p2.keep s).mono (by omega))
      clear fin p1 nl t1 pn0
      refine ⟨_, rfl, a, rfl, ⟨_, SqL.of ga⟩, fun D1 nD1 => ?_⟩
      have aD := ne_of_none ga nD1
      have sall : AllSm (ps ++ [b]) := fun z m => by
        rcases List.mem_append.mp m with m | m
        · exact wp.sm z m
        · obtain rfl := List.mem_singleton.mp m
          exact nb.sm
      refine lc_pure (n := (ps ++ [b]).length) ((walk_list (xs := (ps ++ [b]).map V.int) |> fun w => by rw [← lm]; exact w)) ((ps ++ [b]).map fun z => i * z) (List.length_map _) (by omega) (fun H' h => SqL.of (h _ _ aD ga)) (fun j v H2 H' r hi hr bt _ y R Wk k => ?_) (fun G3 bt hD => ?_)
      · obtain ⟨rfl, hv⟩ := y
        obtain ⟨m, hn, rfl⟩ := int_at hv
        obtain ⟨m', hn', rfl⟩ := map_at hr
        cases hn.symm.trans hn'
        exact ⟨rfl, _, rfl, _, rfl, i, m, rfl, rfl, mulW si (sall m (List.mem_of_getElem? hn)), k _ (Same.refl _)⟩
      have s1 : Same G2 G3 := fun c o e => bt c o (ne_of_none e nD1) e
      have e1 : ((ps ++ [b]).map fun z => i * z) = (ps.map fun z => z * i) ++ [b * i] := by rw [List.map_append]; simp [Int.mul_comm]
      rw [e1] at hD
      have nn : (ps.map fun z => z * i).length = ps.length := List.length_map _
      refine ⟨D1, _, _, rfl, hD, by rw [nn]; exact n1, by rw [nn]; exact n5, fun u G4 e2 tu => ?_⟩
      have s2 := s1.trans e2
      refine ⟨_, rfl, _, rfl, own_rmul (tx.keep s2) n1 n5 wp.sm nb.sm i0 si fun u2 G5 e3 tu2 => ⟨_, rfl, own_like TC IT tu2 (tu.keep e3) rfl rfl ⟨_, rfl, iteF ?_⟩⟩⟩
      have s3 := s2.trans e3
      refine ⟨_, rfl, _, rfl, own_mul (tx.keep s3) n1 n5 wp.sm nb.sm i0 si fun u3 G6 e4 tu3 => ⟨_, rfl, own_like TC IT tu3 (tu.keep (e3.trans e4)) rfl rfl ⟨_, rfl, iteF ?_⟩⟩⟩
      have s4 := s3.trans e4
      refine ⟨_, rfl, _, rfl, own_add TC IT (tx.keep s4) (tx.keep s4) rfl n1 n5 fun u4 G7 e5 tu4 => ⟨_, rfl, own_rmul (tx.keep (s4.trans e5)) n1 n5 wp.sm nb.sm (by decide) (show Sm 2 from by unfold Sm; decide) fun u5 G8 e6 tu5 => own_like TC IT (tu4.keep e6) tu5 ?_ (by omega) ⟨_, rfl, iteF ?_⟩⟩⟩
      · rw [List.zipWith_self]
        exact List.map_congr_left fun z _ => by omega
      have s5 := s4.trans (e5.trans e6)
      refine ⟨_, rfl, _, rfl, c, qs, d, rfl, s5 _ _ gc, by omega, by omega, fun u6 G9 e7 tu6 => own_like TC IT (ty.keep (s5.trans e7)) tu6 rfl rfl ⟨_, rfl, iteF ?_⟩⟩
      have s6 := s5.trans e7
      exact q9 D G9 x y _ _ _ _ _ _ _ (tx.keep s6) (s6 _ _ ga) fun G' s => fin2 G' (s6.trans s)
    refine ⟨_, pss_cons (ps_par (i := 3) (j := 4) rfl scJoin.nd rfl rfl (by decide) rfl rfl (pa_cons (pe_call G3 hr6 (by rfl) g3 k3 b3 .nil pass0 (pa_cons (pv 1) pa_nil)) (pa_cons (pe_call G3 hr6 (by rfl) g3 k3 b3 .nil pass0 (pa_cons (pv 2) pa_nil)) pa_nil)) (by rfl))
      (pss_cons (ps_set (i := 5) scJoin.nd rfl (.inl rfl) (pe_call G3 hr6 (by rfl) g3 k3 b3 .nil pass0 (pa_cons (pe_lc (own := [("_law_k", 9)]) (g := gName 9) (tt := tYes) (te := tOp (rI0 fun i j => .int (i + j)) (tOp (rIxL K) (tVar 1) (tVar 9)) (tOp (rIxL K) (tVar 2) (tVar 9))) (by rfl) scJoin.nd (pi_range1 rfl T.range (pa_cons (pe_callB call_len_seq (by rfl) T.len PySem.boot_len (pa_cons (pv 1) pa_nil)) pa_nil)) (blkOk_by (own := [("_law_k", 9)]) (N := nJoin) (sc := defScope sJoin) (by decide +kernel))
            (fun _ _ _ _ _ => pg_name (i := 9) scJoin.nd rfl (.inl rfl)) (fun _ _ _ _ _ => pts_nil) (fun _ _ _ _ _ => pe_op op_add (pe_ix ix_list (pv 1) (pv 9) (fun _ _ => rfl)) (pe_ix ix_list (pv 2) (pv 9) (fun _ _ => rfl)))) pa_nil)))
      (pss_cons (ps_set (i := 6) scJoin.nd rfl (.inl rfl) (pv 3))
      (pss_cons (ps_aug (i := 6) scJoin.nd rfl (.inl rfl) (pv 4) (iop_addO (E := E0) OO RA hr6 pass0))
      (pss_cons (ps_if (PW.pt (pw_or (pt_cmpR (op_neO (E := E0) heq hne IT.hm hef RE hr2 pass0) (pe_op (op_addO (E := E0) OO RA hr6 pass0) (pv 3) (pv 4)) (pv 5) (nomark _))
          (pw_or (pt_cmpR (op_neO (E := E0) heq hne IT.hm hef RE hr2 pass0) (pe_op (op_addO (E := E0) OO RA hr6 pass0) (pv 4) (pv 3)) (pv 5) (nomark _))
          (pw_or (pt_cmpR (op_neO (E := E0) heq hne IT.hm hef RE hr2 pass0) (pv 6) (pv 5) (nomark _))
          (pw_or1 (pt_cmpR (op_neO (E := E0) heq hne IT.hm hef RE hr2 pass0) (pv 3) (pe_call G3 hr6 (by rfl) g3 k3 b3 .nil pass0 (pa_cons (pv 1) pa_nil)) (nomark _))))))) (pss_one (ps_ret pe_bl)) pss_nil) h5)))), ?_⟩
    have lm : ((ps ++ [b]).map V.int).length = (ps ++ [b]).length := List.length_map _
    have l1 : (ps ++ [b]).length = ps.length + 1 := by rw [List.length_append]; rfl
    have l2 : (qs ++ [d]).length = qs.length + 1 := by rw [List.length_append]; rfl
    refine ⟨_, rfl, a, ps, b, rfl, ha, n1, n5, fun x H1 e1 tx => ⟨_, rfl, c, qs, d, rfl, e1 _ _ hc, by omega, by omega, fun y H2 e2 ty => ⟨_, _, rfl, ?_⟩⟩⟩
    have s2 := e1.trans e2
    have tx := tx.keep e2
    refine ⟨_, rfl, a, _, rfl, .inl (SqL.of (s2 _ _ ha)), _, rfl, by omega, by rw [lm]; omega, fun D nD => ?_⟩
    rw [lm, Int.toNat_natCast]
    have ha2 := s2 _ _ ha
    have hc2 := s2 _ _ hc
    have aD := ne_of_none ha2 nD
    have cD := ne_of_none hc2 nD
    refine lc_pure (n := (ps ++ [b]).length) walk_range (List.zipWith (fun p q => p + q) (ps ++ [b]) (qs ++ [d])) (by rw [List.length_zipWith]; omega) (by omega) (fun _ _ => trivial) (fun j v H3 H' r hi hr bt _ y R Wk k => ?_) (fun H3 bt hD => ?_)
    · obtain ⟨rfl, rfl⟩ := y
      have hp : (ps ++ [b])[j]? = some ((ps ++ [b])[j]'(by omega)) := List.getElem?_eq_getElem (by omega)
      have hq : (qs ++ [d])[j]? = some ((qs ++ [d])[j]'(by omega)) := List.getElem?_eq_getElem (by omega)
      have hp' : ((ps ++ [b]).map V.int)[0 + j]? = some (V.int ((ps ++ [b])[j]'(by omega))) := by rw [Nat.zero_add, List.getElem?_map, hp]; rfl
      have hq' : ((qs ++ [d]).map V.int)[0 + j]? = some (V.int ((qs ++ [d])[j]'(by omega))) := by rw [Nat.zero_add, List.getElem?_map, hq]; rfl
      have er : r = (ps ++ [b])[j]'(by omega) + (qs ++ [d])[j]'(by omega) := by
        rw [List.getElem?_zipWith, hp, hq] at hr
        exact (Option.some.inj hr).symm
      subst er
      exact ⟨rfl, _, rfl, _, rfl, a, _, _, _, rfl, rfl, SqL.of (bt _ _ aD ha2), atI_nat hp', _, rfl, _, rfl, c, _, _, _, rfl, rfl, SqL.of (bt _ _ cD hc2), atI_nat hq', _, _, rfl, rfl, k _ (Same.refl _)⟩
    rw [zip_snoc _ _ _ _ hl] at hD
    have s3 : Same H2 H3 := fun c o e => bt c o (ne_of_none e nD) e
    have lz : (List.zipWith (fun p q => p + q) ps qs).length = ps.length := by rw [List.length_zipWith]; omega
    refine ⟨D, _, _, rfl, hD, by omega, by omega, fun u H4 e4 tu => ?_⟩
    have s4 := s3.trans e4
    refine ⟨_, rfl, _, rfl, _, rfl, own_add TC IT (tx.keep s4) (ty.keep s4) hl n1 n5 fun h H5 e5 th => ?_⟩
    have s5 := s4.trans e5
    have tu5 := tu.keep e5
    refine ⟨_, rfl, _, rfl, own_add TC IT (tx.keep s5) (ty.keep s5) hl n1 n5 fun u2 H6 e6 tu2 => ⟨_, rfl, own_like TC IT tu2 (tu5.keep e6) rfl rfl ⟨_, rfl, iteF ?_⟩⟩⟩
    have s6 := s5.trans e6
    refine ⟨_, rfl, _, rfl, own_add TC IT (ty.keep s6) (tx.keep s6) hl.symm (by omega) (by omega) fun u3 H7 e7 tu3 => ⟨_, rfl, own_like TC IT tu3 (tu5.keep (e6.trans e7)) ?_ (by omega) ⟨_, rfl, iteF ?_⟩⟩⟩
    · rw [List.zipWith_comm_of_comm]
      exact fun x y => Int.add_comm x y
    have s7 := s6.trans e7
    refine ⟨_, rfl, _, rfl, own_like TC IT (th.keep (e6.trans e7)) (tu5.keep (e6.trans e7)) rfl rfl ⟨_, rfl, iteF ?_⟩⟩
    have ha7 := s7 _ _ ha2
    refine ⟨_, rfl, _, rfl, a, ps, b, rfl, ha7, n1, n5, fun u4 H8 e8 tu4 => own_like TC IT (tx.keep (s7.trans e8)) tu4 rfl rfl ⟨_, rfl, iteF ?_⟩⟩
    have s8 := s2.trans (s7.trans e8)
    exact q5 _ H8 x y _ _ _ _ _ _ (tx.keep (s7.trans e8)) (ty.keep (s7.trans e8)) (s8 _ _ ha) (s8 _ _ hc) (pn.keep s8) fun G' bt pg => kk G' ((Same.but s8).trans bt) pg
end
end Ev
namespace Ev
open PySem L2 PySem.Spec PyProof.Rows
theorem sum_neg : ∀ ps ns : List Int, sumI (ps.map fun p => -p) ns = -sumI ps ns
  | [], _ => by simp [sumI]
  | p :: r, [] => by simp [sumI]
  | p :: r, n :: t => by
    have ih := sum_neg r t
    unfold sumI at ih ⊢
    rw [List.map_cons, List.zipWith_cons_cons, List.zipWith_cons_cons, List.sum_cons, List.sum_cons, ih, Int.neg_mul]
    omega
theorem sum_div {g : Int} : ∀ ps ns : List Int, (∀ p ∈ ps, g ∣ p) → g ≠ 0 → sumI (ps.map fun p => p / g) ns * g = sumI ps ns
  | [], _, _, _ => by simp [sumI]
  | p :: r, [], _, _ => by simp [sumI]
  | p :: r, n :: t, h, g0 => by
    have ih := sum_div r t (fun q m => h q (List.mem_cons_of_mem _ m)) g0
    unfold sumI at ih ⊢
    rw [List.map_cons, List.zipWith_cons_cons, List.zipWith_cons_cons, List.sum_cons, List.sum_cons, Int.add_mul, ih]
    have e : p / g * g = p := Int.ediv_mul_cancel (h p List.mem_cons_self)
    have e2 : p / g * n * g = p * n := by
      rw [Int.mul_assoc, Int.mul_comm n g, ← Int.mul_assoc, e]
    rw [e2]
theorem dvd_part {ps : List Int} {p : Int} (h : p ∈ ps) : ((gN 0 ps : Nat) : Int) ∣ p := Int.ofNat_dvd_left.mpr (gN_dvd ps 0 p h)
theorem tight_holds (ps ns : List Int) (e : Int) : decide (tgB (gN 0 ps) e ≤ sumI (tgP (gN 0 ps) ps) ns) = decide (e ≤ sumI ps ns) := by
  have hd : ∀ p ∈ ps, ((gN 0 ps : Nat) : Int) ∣ p := fun p m => dvd_part m
  unfold tgB tgP
  by_cases z : gN 0 ps = 0
  · rw [if_pos z, if_pos z]
  · rw [if_neg z, if_neg z]
    generalize gN 0 ps = g at hd z
    have g0 : (0 : Int) < (g : Int) := by omega
    have s := sum_div ps ns hd (by omega)
    generalize sumI (ps.map fun p => p / (g : Int)) ns = S at s
    rw [← s]
    refine decide_eq_decide.mpr ⟨fun h => ?_, fun h => ?_⟩
    · have h2 : -S ≤ -e / (g : Int) := by omega
      have h3 := (Int.le_ediv_iff_mul_le g0).mp h2
      rw [Int.neg_mul] at h3
      omega
    · have h2 : -S * (g : Int) ≤ -e := by rw [Int.neg_mul]; omega
      have h3 := (Int.le_ediv_iff_mul_le g0).mpr h2
      omega
theorem gN_div {d : Nat} (d0 : 0 < d) : ∀ (ps : List Int) (a : Nat), d ∣ a → (∀ p ∈ ps, (d : Int) ∣ p) → gN (a / d) (ps.map fun p => p / (d : Int)) = gN a ps / d
  | [], a, _, _ => rfl
  | p :: r, a, ha, h => by
    have hp := h p List.mem_cons_self
    have hp' : d ∣ p.natAbs := Int.ofNat_dvd_left.mp hp
    show gN (Nat.gcd (a / d) (p / (d : Int)).natAbs) (r.map _) = gN (Nat.gcd a p.natAbs) r / d
    have e : (p / (d : Int)).natAbs = p.natAbs / d := by
      obtain ⟨k, rfl⟩ := hp
      rw [Int.mul_ediv_cancel_left _ (by omega), Int.natAbs_mul, Int.natAbs_natCast, Nat.mul_div_cancel_left _ d0]
    rw [e, Nat.gcd_div ha hp']
    exact gN_div d0 r _ (Nat.dvd_gcd ha hp') fun q m => h q (List.mem_cons_of_mem _ m)
theorem tg_one (ps : List Int) (b : Int) : tgP 1 ps = ps ∧ tgB 1 b = b := by
  unfold tgP tgB
  simp
theorem tg_idem (ps : List Int) (b : Int) : tgP (gN 0 (tgP (gN 0 ps) ps)) (tgP (gN 0 ps) ps) = tgP (gN 0 ps) ps ∧ tgB (gN 0 (tgP (gN 0 ps) ps)) (tgB (gN 0 ps) b) = tgB (gN 0 ps) b := by
  by_cases z : gN 0 ps = 0
  · have e1 : tgP (gN 0 ps) ps = ps := by unfold tgP; rw [if_pos z]
    rw [e1, z]
    unfold tgP tgB
    simp
  · have g0 : 0 < gN 0 ps := Nat.pos_of_ne_zero z
    have e := gN_div g0 ps 0 (Nat.dvd_zero _) fun p m => dvd_part m
    rw [Nat.zero_div, Nat.div_self g0] at e
    have e1 : tgP (gN 0 ps) ps = ps.map fun p => p / ((gN 0 ps : Nat) : Int) := by unfold tgP; rw [if_neg z]
    rw [e1, e]
    exact tg_one _ _
theorem Wee.neg {ps : List Int} (h : Wee ps) : Wee (ps.map fun p => -p) := fun z m => by
  obtain ⟨p, hp, rfl⟩ := List.mem_map.mp m
  rw [Int.natAbs_neg]
  exact h p hp
theorem Wee.tg {ps : List Int} (h : Wee ps) : Wee (tgP (gN 0 ps) ps) := fun z m => by
  by_cases q : gN 0 ps = 0
  · have e1 : tgP (gN 0 ps) ps = ps := by unfold tgP; rw [if_pos q]
    rw [e1] at m
    exact h z m
  · have e1 : tgP (gN 0 ps) ps = ps.map fun p => p / ((gN 0 ps : Nat) : Int) := by unfold tgP; rw [if_neg q]
    rw [e1] at m
    obtain ⟨p, hp, rfl⟩ := List.mem_map.mp m
    have e := Int.ediv_mul_cancel (dvd_part hp)
    have e2 := congrArg Int.natAbs e
    rw [Int.natAbs_mul, Int.natAbs_natCast] at e2
    have := h p hp
    have := Nat.le_mul_of_pos_right (p / ((gN 0 ps : Nat) : Int)).natAbs (Nat.pos_of_ne_zero q)
    show (p / ((gN 0 ps : Nat) : Int)).natAbs ≤ 315
    omega
def toldB (a b c d : Bool) : PyData := .list [.bool a, .bool b, .bool c, .bool d]
theorem toldB_show (a b c d : Bool) : (toldB a b c d).showable = true ∧ (toldB a b c d).hasDict = false ∧ (toldB a b c d).depth ≤ 32 ∧ (toldB a b c d).shown.length ≤ sizeLine := by
  have w : (toldB a b c d).weight ≤ 8000 := by simp [toldB, PyData.weight, PyData.weightAll]
  have lv : (toldB a b c d).leavesShort 2000 = true := by cases a <;> cases b <;> cases c <;> cases d <;> decide +kernel
  refine ⟨by cases a <;> cases b <;> cases c <;> cases d <;> decide +kernel, rfl, by simp [toldB, PyData.depth, PyData.depthAll], ?_⟩
  have := PyData.shown_le 2000 (by decide) (toldB a b c d) lv
  rw [sizeLine_eq]
  omega
end Ev
namespace Ev
open PySem L2 PySem.Spec PyProof.Rows
def spSides : Sp := fun vs H Q _ => ∃ (p L a : Addr) (ps : List Int) (b B : Int), vs = [.ref p, .ref a] ∧ H a = some (.lst ((ps ++ [b]).map V.int)) ∧ a ≠ p ∧ 1 ≤ ps.length ∧ ps.length ≤ 5 ∧ Wee ps ∧ Nn b ∧ B ≤ 800000 ∧ Pen L H p B ∧ ∀ H', But p H H' → Pen L H' p (B + 50) → Q (.bl true) H'
abbrev nSides : List Str := ["_law_pen_here", "_law_some", "_law_many", "_law_made_here", "_law_by", "_law_k", "_law_due", "_law_again", "_law_row", "_law_far", "_law_end", "_law_plain", "_law_away", "_law_back", "_law_near", "_law_told"]
theorem scSides : FnScope nSides ["_law_pen_here", "_law_some"] (defScope sSides) := ⟨rfl, rfl, rfl, by decide +kernel, rfl, by decide +kernel, by decide +kernel⟩
abbrev restSides (n : Nat) : List Stmt := (defBody sSides).drop n
theorem cut_at {ps : List Int} {b : Int} : cutV ((ps ++ [b]).map V.int) none (some ((ps.length : Nat) : Int)) = ps.map V.int := by
  have h := cut_last (ps := ps) (b := b)
  rwa [show (((ps ++ [b]).length : Nat) - 1 : Int) = (ps.length : Nat) by rw [List.length_append]; simp] at h
theorem end_at {ps : List Int} {b : Int} : atI ((ps ++ [b]).map V.int) ((ps.length : Nat) : Int) = some (.int b) := atI_nat (by simp)
section
variable {P : Program} {w : World} {K : PySem.W.Frag} {mg : Str → Option Value} {base : Heap}
theorem ok_sides {f C : Addr} {fd : FuncData} (F : Fun K "_law_sides_right" "_law_sides_right" sSides f fd) (T : Blt mg) (TM : TMeth P w K mg base C) (D1 : Df P w K mg base 2 "_law_small" ["_law_pen_here", "_law_most_so"] spSmall) (D2 : Df P w K mg base 1 "_law_common" ["_law_one", "_law_other"] spCommon) (D3 : Df P w K mg base 6 "_law_made" ["_law_some"] (spMade C)) :
    FnG P w K mg base 8 f fd ["_law_pen_here", "_law_some"] spSides := by
  obtain ⟨f1, fd1, G1, g1, k1, b1⟩ := D1.ex
  obtain ⟨f2, fd2, G2, g2, k2, b2⟩ := D2.ex
  obtain ⟨f3, fd3, G3, g3, k3, b3⟩ := D3.ex
  obtain ⟨⟨TC, IT, gC, ⟨fmk, fdm, MM, GM, bM⟩⟩, ⟨fam, fdam, GA, bA, mA⟩, ⟨fc, RC, cC⟩, ⟨fe, RE, heq, hef⟩, hne, _, ⟨fn, RN, hn, hnf⟩, ⟨fi, RI, hi, hif⟩, ⟨ft, fdt, GT, bT, mT⟩⟩ := id TM
  refine fng_of F scSides (fun vs H Q E h => ?_) (fun cdv A outer s H vs Q E hr gd h => ?_)
  · obtain ⟨p, L, a, ps, b, B, rfl, _⟩ := h
    rfl
  · obtain ⟨p, L, a, ps, b, B, rfl, ha, ap, n1, n5, wp, nb, hB, pn, kk⟩ := h
    have hr1 : Room 1 _ := hr.mono (by decide)
    have hr2 : Room 2 _ := hr.mono (by decide)
    have hr3 : Room 3 _ := hr.mono (by decide)
    have hr4 : Room 4 _ := hr.mono (by decide)
    have hr5 : Room 5 _ := hr.mono (by decide)
    have hr6 : Room 6 _ := hr.mono (by decide)
    have hu : (cxOf CX0 P w K mg base nSides "_law_sides_right" (defScope sSides) f cdv A outer s H E).nox.A.units + 64 < cLine := Room.units hr
    have no1 : ∀ {t : Addr} {e : Int}, (testF t e).lookup ("tight" : Str) = none := fun {t e} => fld_no (by decide +kernel) (by decide +kernel)
    have no2 : ∀ {t : Addr} {e : Int}, (testF t e).lookup ("amount" : Str) = none := fun {t e} => fld_no (by decide +kernel) (by decide +kernel)
    obtain ⟨tR, hR, qR⟩ : ∃ t : TS, PSs (cxOf CX0 P w K mg base nSides "_law_sides_right" (defScope sSides) f cdv A outer s H E).nox (restSides 5) t ∧ ∀ (D : Ends) (G : Hp) (x l : Addr) (v4 v5 v7 v8 v9 v10 v11 v12 v13 v14 v15 : Option V), TestAt C G x ps b → G a = some (.lst ((ps ++ [b]).map V.int)) → G l = some (.lst ((tgP (gN 0 ps) ps ++ [tgB (gN 0 ps) b]).map V.int)) → Pen L G p B →
        (∀ G', But p G G' → Pen L G' p (B + 50) → D.rt (.bl true) G') → t D [some (.ref p), some (.ref a), some (.int (ps.length : Nat)), some (.ref x), v4, v5, some (.ref l), v7, v8, v9, v10, v11, v12, v13, v14, v15] G := by
      refine ⟨_, pss_cons (ps_if (PW.pt (pw_or (pt_cmpR (op_neO (E := E0) heq hne IT.hm hef RE hr2 pass0) (pe_meth0 (pv 3) TC.cl mT GT hr6 bT .nil pass0) (pe_call G3 hr6 (by rfl) g3 k3 b3 .nil pass0 (pa_cons (pv 6) pa_nil)) (nomark _))
          (pw_or1 (pt_cmpR (op_neO (E := E0) heq hne IT.hm hef RE hr2 pass0) (pe_meth0 (pe_meth0 (pv 3) TC.cl mT GT hr6 bT .nil pass0) TC.cl mT GT hr6 bT .nil pass0) (pe_meth0 (pv 3) TC.cl mT GT hr6 bT .nil pass0) (nomark _))))) (pss_one (ps_ret pe_bl)) pss_nil)
        (pss_cons (ps_for PassesOwn.never rfl (pi_range1 rfl T.range (pa_cons pe_int pa_nil)) (pg_name (i := 7) scSides.nd rfl (.inl rfl))
          (pss_cons (ps_setLc (i := 8) (own := [("_law_k", 5)]) (g := gName 5) (tt := tYes) (te := tCall spSmall [] E0 (tCons (tVar 0) (tCons (tC (.int 12)) tNil))) (by rfl) scSides.nd rfl rfl (sw_true rfl rfl rfl (by decide +kernel)) (pi_range1 rfl T.range (pa_cons (pv 2) pa_nil)) (blkOk_by (own := [("_law_k", 5)]) (N := nSides) (sc := defScope sSides) (by decide +kernel))
              (fun _ _ _ _ _ => pg_name (i := 5) scSides.nd rfl (.inl rfl)) (fun _ _ _ _ _ => pts_nil) (fun _ _ _ _ _ => pe_call G1 hr2 (by rfl) g1 k1 b1 .nil pass0 (pa_cons (pv 0) (pa_cons pe_int pa_nil))))
          (pss_cons (ps_set (i := 9) scSides.nd rfl (.inl rfl) (pe_meth (pv 3) TC.cl mA GA hr3 bA .nil pass0 (pa_cons (pv 8) pa_nil)))
          (pss_one (ps_for PassesOwn.never rfl (pi_list (pe_lst (pa_cons (pe_ix ix_list (pv 1) (pv 2) (fun _ _ => rfl)) (pa_cons (pv 9) (pa_cons (pe_op op_add (pv 9) pe_int) (pa_cons (pe_op op_sub (pv 9) pe_int) pa_nil)))))) (pg_name (i := 10) scSides.nd rfl (.inl rfl))
            (pss_cons (ps_set (i := 11) scSides.nd rfl (.inl rfl) (pe_make MM GM hr5 (by rfl) gC bM .nil pass0 (pa_cons (pe_slice sl_list (pv 1) po_none (po_some (pv 2))) (pa_cons (pv 10) pa_nil))))
            (pss_cons (ps_par3 (i := 12) (j := 13) (l := 14) rfl scSides.nd rfl rfl rfl (by decide) (by decide) (by decide) rfl rfl rfl (pa_cons (pe_un (un_invO (E := E0) hi hif RI hr6 pass0) (pv 11)) (pa_cons (pe_un (un_negO (E := E0) hn hnf RN hr6 pass0) (pv 11)) (pa_cons (pe_meth0 (pv 11) TC.cl mT GT hr6 bT .nil pass0) pa_nil))) (by rfl))
            (pss_cons (ps_set (i := 15) scSides.nd rfl (.inl rfl) (pe_lst (pa_cons (pe_callI (pv 11) cC RC hr4 (E := E0) pass0 (pa_cons (pv 8) pa_nil)) (pa_cons (pe_callI (pv 12) cC RC hr4 (E := E0) pass0 (pa_cons (pv 8) pa_nil)) (pa_cons (pe_callI (pv 13) cC RC hr4 (E := E0) pass0 (pa_cons (pv 8) pa_nil)) (pa_cons (pe_callI (pv 14) cC RC hr4 (E := E0) pass0 (pa_cons (pv 8) pa_nil)) pa_nil))))))
            (pss_one (ps_if (pt_cmpR op_ne (pe_callB (call_repr gd hu) (by rfl) T.repr (by decide +kernel) (pa_cons (pv 15) pa_nil)) (pe_callB (call_repr gd hu) (by rfl) T.repr (by decide +kernel) (pa_cons (pe_lst (pa_cons (pe_cmpR op_ge (pv 9) (pv 10) (nomark _)) (pa_cons (pe_cmpR op_lt (pv 9) (pv 10) (nomark _)) (pa_cons (pe_cmpR op_le (pv 9) (pv 10) (nomark _)) (pa_cons (pe_cmpR op_ge (pv 9) (pv 10) (nomark _)) pa_nil))))) pa_nil)) (nomark _)) (pss_one (ps_ret pe_bl)) pss_nil))))))))))
        (pss_one (ps_ret pe_bl))), ?_⟩
      intro D G x l v4 v5 v7 v8 v9 v10 v11 v12 v13 v14 v15 tt ga gl pn0 fin
      have wt := wp.tg
      have lt : (tgP (gN 0 ps) ps).length = ps.length := tgP_len _ _
      obtain ⟨dx, t, hx, _⟩ := id tt
      refine ⟨_, rfl, x, dx, _, rfl, hx, no1, x, ps, b, rfl, tt, n1, n5, wp.sm, fun z1 H1 e1 u1 => ?_⟩
      refine ⟨_, rfl, l, _, _, rfl, e1 _ _ gl, by omega, by omega, fun z2 H2 e2 u2 => own_like TC IT (u1.keep e2) u2 rfl rfl ⟨_, rfl, iteF ?_⟩⟩
      have s2 := e1.trans e2
      obtain ⟨i1, i2⟩ := tg_idem ps b
      refine ⟨_, rfl, x, dx, _, rfl, s2 _ _ hx, no1, x, ps, b, rfl, tt.keep s2, n1, n5, wp.sm, fun z3 H3 e3 u3 => ?_⟩
      obtain ⟨d3, t3, hx3, _⟩ := id u3
      refine ⟨z3, d3, _, rfl, hx3, no1, z3, _, _, rfl, u3, by omega, by omega, wt.sm, fun z4 H4 e4 u4 => ?_⟩
      have s4 := s2.trans (e3.trans e4)
      refine ⟨_, rfl, x, dx, _, rfl, s4 _ _ hx, no1, x, ps, b, rfl, tt.keep s4, n1, n5, wp.sm, fun z5 H5 e5 u5 => own_like TC IT (u4.keep e5) u5 i1 i2 ⟨_, rfl, iteF ?_⟩⟩
      have s5 := s4.trans e5
      have tt := tt.keep s5
      have ga := s5 _ _ ga
      have pn0 := pn0.keep s5
      have fin : ∀ G', But p H5 G' → Pen L G' p (B + 50) → D.rt (.bl true) G' := fun G' bt pg => fin G' ((Same.but s5).trans bt) pg
      clear u1 u2 u3 u4 u5 e1 e2 e3 e4 e5 s2 s4 s5 gl hx3
      obtain ⟨px, hpx⟩ := pn0.some
      refine ⟨5, rfl, by decide, by decide, for_range (n := 5) (fun i σ H' => (∃ v5 v7 v8 v9 v10 v11 v12 v13 v14 v15 : Option V, σ = [some (.ref p), some (.ref a), some (.int (ps.length : Nat)), some (.ref x), v4, v5, some (.ref l), v7, v8, v9, v10, v11, v12, v13, v14, v15]) ∧ But p H5 H' ∧ Pen L H' p (B + 10 * (i : Int)))
        ⟨⟨_, _, _, _, _, _, _, _, _, _, rfl⟩, But.refl _ _, pn0.mono (by omega)⟩ ?_ ?_⟩
      · rintro i σ G0 hi ⟨⟨v5, v7, v8, v9, v10, v11, v12, v13, v14, v15, rfl⟩, bt0, pn1⟩
        have ga0 := bt0 _ _ ap ga
        have tt0 := tt.but hpx bt0
        refine ⟨_, rfl, ps.length, rfl, by omega, by omega, fun D1 nD => ?_⟩
        rw [Int.toNat_natCast]
        refine lc_it (n := ps.length) walk_range (fun i' H' => ∃ cs : List Int, cs.length = i' ∧ Wee cs ∧ H' D1 = some (.lst (cs.map V.int)) ∧ But p G0 H' ∧ Pen L H' p (B + 10 * (i : Int) + i')) ⟨[], rfl, fun z m => (nomatch m), upd_same, Same.but (same_new nD), (pn1.new nD).mono (by omega)⟩ (fun _ _ _ _ => trivial) (fun i' v H3 H' hi' h y => ?_) (fun G1 h => ?_)
        · obtain ⟨rfl, rfl⟩ := y
          obtain ⟨cs, e1, e2, e3, e4, e5⟩ := h
          refine ⟨rfl, _, rfl, p, L, _, _, rfl, by decide, by decide, by omega, e5, fun d H4 d0 d1 t4 p4 => ?_⟩
          refine ⟨_, t4 _ _ (pn1.ne nD) e3, ?_, cs ++ [d], by rw [List.length_append, e1]; rfl, fun z hz => ?_, ?_, ?_, ?_⟩
          · rw [List.length_map, e1]
            exact Nat.lt_of_lt_of_le (show i' < 1000 by omega) (by decide)
          · rcases List.mem_append.mp hz with m | m
            · exact e2 z m
            · obtain rfl := List.mem_singleton.mp m
              show z.natAbs ≤ 315
              omega
          · rw [List.map_append]
            exact upd_same
          · exact fun b o nb e => by rw [upd_ne (ne_of_none e nD)]; exact t4 b o nb (e4 b o nb e)
          · exact (p4.mono (B' := B + 10 * (i : Int) + (i' + 1 : Nat)) (by omega)).upd pn1 nD
        obtain ⟨cs, e1, e2, e3, e4, e5⟩ := h
        obtain ⟨py, hpy⟩ := pn1.some
        have ga1 := e4 _ _ ap ga0
        have tt1 := tt0.but hpy e4
        obtain ⟨dx, t, hx, _⟩ := id tt1
        have lc : ps.length = cs.length := e1.symm
        refine ⟨_, rfl, x, dx, _, rfl, hx, no2, _, rfl, x, D1, ps, cs, b, rfl, tt1, .inl e3, lc, by omega, wp.sm, e2.sm, fun G2 s2 => ?_⟩
        have ga2 := s2 _ _ ga1
        have hD2 := s2 _ _ e3
        refine ⟨_, rfl, _, rfl, a, _, _, _, rfl, rfl, SqL.of ga2, end_at, _, rfl, _, rfl, _, _, rfl, rfl, _, rfl, _, _, rfl, rfl, (by show 4 ≤ sizeLine; decide), fun l3 nl3 => ⟨l3, rfl, ⟨_, SqL.of upd_same⟩, ?_⟩⟩
        have s5 := same_new (o := .lst [.int b, .int (sumI ps cs), .int (sumI ps cs + 1), .int (sumI ps cs - 1)]) nl3
        have hl3 : upd G2 l3 (.lst [.int b, .int (sumI ps cs), .int (sumI ps cs + 1), .int (sumI ps cs - 1)]) l3 = some (.lst [.int b, .int (sumI ps cs), .int (sumI ps cs + 1), .int (sumI ps cs - 1)]) := upd_same
        refine for_it (n := 4) (walk_list (K := K) (a := l3) (xs := [.int b, .int (sumI ps cs), .int (sumI ps cs + 1), .int (sumI ps cs - 1)]))
          (fun _ σ G' => (∃ v10 v11 v12 v13 v14 v15 : Option V, σ = [some (.ref p), some (.ref a), some (.int (ps.length : Nat)), some (.ref x), v4, v5, some (.ref l), some (.int (0 + (i : Nat))), some (.ref D1), some (.int (sumI ps cs)), v10, v11, v12, v13, v14, v15]) ∧ Same (upd G2 l3 (.lst [.int b, .int (sumI ps cs), .int (sumI ps cs + 1), .int (sumI ps cs - 1)])) G')
          ⟨⟨_, _, _, _, _, _, rfl⟩, Same.refl _⟩ (fun _ σ G' _ h => SqL.of (h.2 _ _ hl3)) ?_ ?_
        · rintro i2 y σ Ga Gb hi2 ⟨⟨v10, v11, v12, v13, v14, v15, rfl⟩, sg⟩ ⟨rfl, hy⟩
          obtain ⟨e, rfl⟩ : ∃ e : Int, y = .int e := by
            have m := List.mem_of_getElem? hy
            simp only [List.mem_cons, List.not_mem_nil, or_false] at m
            rcases m with rfl | rfl | rfl | rfl <;> exact ⟨_, rfl⟩
          have sg' := s5.trans sg
          have ga3 := sg' _ _ ga2
          have hD3 := sg' _ _ hD2
          clear hy hl3 s5
          refine ⟨_, rfl, _, rfl, _, rfl, a, _, rfl, SqL.of ga3, fun q nq => ?_⟩
          rw [cut_at]
          have s3 := same_new (o := .lst (ps.map V.int)) nq
          refine ⟨_, rfl, mk_of (.inl upd_same) n1 n5 fun x2 Gc ec tp => ?_⟩
          have s4 := s3.trans ec
          refine ⟨_, rfl, own_inv tp n1 n5 fun x3 Gd ed ta => ⟨_, rfl, own_neg (tp.keep ed) n1 n5 fun x4 Ge ee tb => ?_⟩⟩
          have s6 := ed.trans ee
          obtain ⟨dp, tp', hp', _⟩ := tp.keep s6
          refine ⟨_, rfl, x2, dp, _, rfl, hp', no1, x2, ps, e, rfl, tp.keep s6, n1, n5, wp.sm, fun x5 Gf ef tn => ⟨_, _, _, rfl, ?_⟩⟩
          have s7 := s6.trans ef
          have hD4 := (s4.trans s7) _ _ hD3
          have u2 := tp.keep s7
          have u3 := ta.keep (ee.trans ef)
          have u4 := tb.keep ef
          have nl' : (ps.map fun p => -p).length = cs.length := by rw [List.length_map]; exact lc
          have tl' : (tgP (gN 0 ps) ps).length = cs.length := (tgP_len _ _).trans lc
          obtain ⟨d2, b2', h2, _⟩ := id u2
          refine ⟨_, rfl, x2, rfl, _, rfl, .inr ⟨d2, _, h2⟩, x2, D1, ps, cs, e, rfl, u2, .inl hD4, lc, by omega, wp.sm, e2.sm, fun Gg sa => ?_⟩
          obtain ⟨d3, b3', h3, _⟩ := u3.keep sa
          refine ⟨_, rfl, x3, rfl, _, rfl, .inr ⟨d3, _, h3⟩, x3, D1, _, cs, _, rfl, u3.keep sa, .inl (sa _ _ hD4), nl', by omega, wp.neg.sm, e2.sm, fun Gh sb => ?_⟩
          have sb := sa.trans sb
          obtain ⟨d4, b4', h4, _⟩ := u4.keep sb
          refine ⟨_, rfl, x4, rfl, _, rfl, .inr ⟨d4, _, h4⟩, x4, D1, _, cs, _, rfl, u4.keep sb, .inl (sb _ _ hD4), nl', by omega, wp.neg.sm, e2.sm, fun Gi sc => ?_⟩
          have sc := sb.trans sc
          obtain ⟨d5, b5', h5, _⟩ := tn.keep sc
          refine ⟨_, rfl, x5, rfl, _, rfl, .inr ⟨d5, _, h5⟩, x5, D1, _, cs, _, rfl, tn.keep sc, .inl (sc _ _ hD4), tl', by omega, wp.tg.sm, e2.sm, fun Gj sd => ⟨(by show 4 ≤ sizeLine; decide), fun l4 nl4 => ?_⟩⟩
          rw [tight_holds, sum_neg]
          have c1 : decide (1 - e ≤ -sumI ps cs) = decide (sumI ps cs < e) := decide_eq_decide.mpr (by omega)
          have c2 : decide (-e ≤ -sumI ps cs) = decide (sumI ps cs ≤ e) := decide_eq_decide.mpr (by omega)
          rw [c1, c2]
          have se := sc.trans sd
          have sf := (s4.trans s7).trans (se.trans (same_new (o := .lst [.bl (decide (e ≤ sumI ps cs)), .bl (decide (sumI ps cs < e)), .bl (decide (sumI ps cs ≤ e)), .bl (decide (e ≤ sumI ps cs))]) nl4))
          obtain ⟨w1, w2, w3, w4⟩ := toldB_show (decide (e ≤ sumI ps cs)) (decide (sumI ps cs < e)) (decide (sumI ps cs ≤ e)) (decide (e ≤ sumI ps cs))
          have h4 : upd Gj l4 (.lst [.bl (decide (e ≤ sumI ps cs)), .bl (decide (sumI ps cs < e)), .bl (decide (sumI ps cs ≤ e)), .bl (decide (e ≤ sumI ps cs))]) l4 = some (.lst [.bl (decide (e ≤ sumI ps cs)), .bl (decide (sumI ps cs < e)), .bl (decide (sumI ps cs ≤ e)), .bl (decide (e ≤ sumI ps cs))]) := upd_same
          generalize upd Gj l4 (.lst [.bl (decide (e ≤ sumI ps cs)), .bl (decide (sumI ps cs < e)), .bl (decide (sumI ps cs ≤ e)), .bl (decide (e ≤ sumI ps cs))]) = Gk at sf h4 ⊢
          refine ⟨_, rfl, l4, toldB (decide (e ≤ sumI ps cs)) (decide (sumI ps cs < e)) (decide (sumI ps cs ≤ e)) (decide (e ≤ sumI ps cs)), rfl, .lst (SqL.of h4) (.cons (.bl _) (.cons (.bl _) (.cons (.bl _) (.cons (.bl _) .nil)))), w1, w2, w3, w4, ?_⟩
          refine ⟨_, rfl, _, rfl, _, _, rfl, rfl, _, rfl, _, rfl, _, _, rfl, rfl, _, rfl, _, rfl, _, _, rfl, rfl, _, rfl, _, rfl, _, _, rfl, rfl, (by show 4 ≤ sizeLine; decide), fun l5 nl5 => ?_⟩
          refine ⟨l5, toldB (decide (e ≤ sumI ps cs)) (decide (sumI ps cs < e)) (decide (sumI ps cs ≤ e)) (decide (e ≤ sumI ps cs)), rfl, .lst (SqL.of upd_same) (.cons (.bl _) (.cons (.bl _) (.cons (.bl _) (.cons (.bl _) .nil)))), w1, w2, w3, w4, rfl, _, rfl, ite2 (fun e => absurd e (by simp)) (fun _ => ?_)⟩
          exact ⟨⟨_, _, _, _, _, _, rfl⟩, sg.trans (sf.trans (same_new nl5))⟩
        · rintro σ Ga ⟨⟨v10, v11, v12, v13, v14, v15, rfl⟩, sg⟩
          have sg' := s2.trans (s5.trans sg)
          exact ⟨⟨_, _, _, _, _, _, _, _, _, _, rfl⟩, bt0.trans (e4.trans (Same.but sg')), (e5.keep sg').mono (by omega)⟩
      · rintro σ G0 ⟨⟨v5, v7, v8, v9, v10, v11, v12, v13, v14, v15, rfl⟩, bt0, pn1⟩
        exact fin _ bt0 (pn1.mono (by omega))
    obtain ⟨px, hpx⟩ := pn.some
    refine ⟨_, pss_cons (ps_par (i := 2) (j := 3) rfl scSides.nd rfl rfl (by decide) rfl rfl (pa_cons (pe_op op_sub (pe_callB call_len_seq (by rfl) T.len PySem.boot_len (pa_cons (pv 1) pa_nil)) pe_int) (pa_cons (pe_call G3 hr6 (by rfl) g3 k3 b3 .nil pass0 (pa_cons (pv 1) pa_nil)) pa_nil)) (by rfl))
      (pss_cons (ps_set (i := 4) scSides.nd rfl (.inr rfl) pe_int)
      (pss_cons (ps_for PassesOwn.never rfl (pi_range1 rfl T.range (pa_cons (pv 2) pa_nil)) (pg_name (i := 5) scSides.nd rfl (.inl rfl))
        (pss_one (ps_set (i := 4) scSides.nd rfl (.inr rfl) (pe_call G2 hr1 (by rfl) g2 k2 b2 .nil pass0 (pa_cons (pv 4) (pa_cons (pe_ix ix_list (pv 1) (pv 5) (fun _ _ => rfl)) pa_nil))))))
      (pss_cons (ps_set (i := 6) scSides.nd rfl (.inl rfl) (pe_callTy call_list_of (by rfl) T.list (by decide +kernel) (pa_cons (pv 1) pa_nil)))
      (pss_cons (ps_if (pt_cmpR op_gt (pv 4) pe_int (nomark _)) (pss_one (ps_set (i := 6) scSides.nd rfl (.inl rfl) (pe_op op_cat (pe_lc (own := [("_law_k", 5)]) (g := gName 5) (tt := tYes)
            (te := tOp (rI CDivW fun i j => .int (i / j)) (tCB (fun xs H Q => (∃ i, xs = [V.int i] ∧ Q (V.int i) H) ∨ ∃ k, xs = [V.bl k] ∧ Q (V.int (if k = true then 1 else 0)) H) (tCons (tOp (rIxL K) (tVar 1) (tVar 5)) tNil)) (tVar 4)) (by rfl) scSides.nd (pi_range1 rfl T.range (pa_cons (pv 2) pa_nil)) (blkOk_by (own := [("_law_k", 5)]) (N := nSides) (sc := defScope sSides) (by decide +kernel))
            (fun _ _ _ _ _ => pg_name (i := 5) scSides.nd rfl (.inl rfl)) (fun _ _ _ _ _ => pts_nil) (fun _ _ _ _ _ => pe_op op_fdivW (pe_callTy call_int1 (by rfl) T.int (by decide +kernel) (pa_cons (pe_ix ix_list (pv 1) (pv 5) (fun _ _ => rfl)) pa_nil)) (pv 4)))
          (pe_lst (pa_cons (pe_op op_sub pe_int (pe_op op_fdivW (pe_callTy call_int1 (by rfl) T.int (by decide +kernel) (pa_cons (pe_op op_sub pe_int (pe_ix ix_list (pv 1) (pv 2) (fun _ _ => rfl))) pa_nil)) (pv 4))) pa_nil))))) pss_nil) hR)))), ?_⟩
    have lm : ((ps ++ [b]).map V.int).length = (ps ++ [b]).length := List.length_map _
    have l1 : (((ps ++ [b]).length : Nat) - 1 : Int) = (ps.length : Nat) := by rw [List.length_append]; simp
    refine ⟨_, rfl, a, _, rfl, .inl (SqL.of ha), _, _, rfl, rfl, ?_⟩
    have hv : (fun i j : Int => V.int (i - j)) ((((ps ++ [b]).map V.int).length : Nat) : Int) 1 = V.int (ps.length : Nat) := by rw [lm]; exact congrArg V.int l1
    rw [hv]
    refine ⟨_, rfl, a, ps, b, rfl, ha, n1, n5, fun x H1 e1 tt => ⟨_, _, rfl, ?_⟩⟩
    have ha1 := e1 _ _ ha
    refine ⟨_, rfl, ps.length, rfl, by omega, by omega, ?_⟩
    rw [Int.toNat_natCast]
    refine for_range (n := ps.length) (fun i σ H' => (∃ v5 : Option V, σ = [some (.ref p), some (.ref a), some (.int (ps.length : Nat)), some (.ref x), some (.int (gN 0 (ps.take i) : Nat)), v5, none, none, none, none, none, none, none, none, none, none]) ∧ H' = H1) ⟨⟨none, rfl⟩, rfl⟩ ?_ ?_
    · rintro i σ H' hi ⟨⟨v5, rfl⟩, rfl⟩
      have hp : ps[i]? = some ps[i] := List.getElem?_eq_getElem hi
      have hp' : ((ps ++ [b]).map V.int)[0 + i]? = some (V.int ps[i]) := by rw [Nat.zero_add, List.getElem?_map, List.getElem?_append_left hi, hp]; rfl
      refine ⟨_, rfl, _, rfl, _, rfl, a, _, _, _, rfl, rfl, SqL.of ha1, atI_nat hp', _, _, rfl, ⟨some (.int (0 + (i : Nat))), ?_⟩, rfl⟩
      rw [gN_snoc hp, Int.natAbs_natCast]
      rfl
    · rintro σ H' ⟨⟨v5, rfl⟩, rfl⟩
      rw [List.take_length]
      have gl := gN_lt ps 0 (by decide) wp.sm
      refine ⟨_, rfl, a, _, rfl, .inl (SqL.of ha1), fun l nl => ?_⟩
      have s1 := same_new (o := .lst ((ps ++ [b]).map V.int)) nl
      have hl : upd H' l (.lst ((ps ++ [b]).map V.int)) l = some (.lst ((ps ++ [b]).map V.int)) := upd_same
      have ha2 := s1 _ _ ha1
      have tt2 := tt.keep s1
      have s2 := e1.trans s1
      clear s1 ha1 tt e1 nl
      generalize upd H' l (.lst ((ps ++ [b]).map V.int)) = H2 at hl ha2 tt2 s2 ⊢
      refine ⟨_, rfl, _, _, rfl, rfl, _, rfl, ite2 (fun e => ?_) (fun e => ?_)⟩
      · have e : 0 < gN 0 ps := by have := of_decide_eq_true e; omega
        have ez : ¬ gN 0 ps = 0 := by omega
        refine ⟨_, rfl, _, rfl, by omega, by omega, fun D nD => ?_⟩
        rw [Int.toNat_natCast]
        have aD := ne_of_none ha2 nD
        refine lc_pure (n := ps.length) walk_range (ps.map fun p => p / ((gN 0 ps : Nat) : Int)) (List.length_map _) (by omega) (fun _ _ => trivial) (fun j v H3 H' r hi hr bt _ y R Wk k => ?_) (fun H3 bt hD => ?_)
        · obtain ⟨rfl, rfl⟩ := y
          obtain ⟨m, hm, rfl⟩ := map_at hr
          have hp' : ((ps ++ [b]).map V.int)[0 + j]? = some (V.int m) := by rw [Nat.zero_add, List.getElem?_map, List.getElem?_append_left hi, hm]; rfl
          exact ⟨rfl, _, rfl, _, rfl, a, _, _, _, rfl, rfl, SqL.of (bt _ _ aD ha2), atI_nat hp', .inl ⟨_, rfl, _, rfl, _, _, rfl, rfl, gdivW ez gl, k _ (Same.refl _)⟩⟩
        · have s3 : Same H2 H3 := fun c o e => bt c o (ne_of_none e nD) e
          refine ⟨_, rfl, _, rfl, a, _, _, _, rfl, rfl, SqL.of (s3 _ _ ha2), end_at, _, _, rfl, rfl, .inl ⟨_, rfl, _, rfl, _, _, rfl, rfl, gdivW ez gl, _, _, rfl, rfl, (by show 1 ≤ sizeLine; decide), fun l1 nl1 => ?_⟩⟩
          have s4 := same_new (o := .lst [.int (0 - (0 - b) / ((gN 0 ps : Nat) : Int))]) nl1
          refine ⟨D, l1, _, _, rfl, rfl, s4 _ _ hD, upd_same, ?_, fun l2 nl2 => ?_⟩
          · rw [List.length_map, List.length_map]
            exact Nat.le_trans (show ps.length + 1 ≤ 6 by omega) (by decide)
          have eq : (ps.map fun p => p / ((gN 0 ps : Nat) : Int)).map V.int ++ [V.int (0 - (0 - b) / ((gN 0 ps : Nat) : Int))] = (tgP (gN 0 ps) ps ++ [tgB (gN 0 ps) b]).map V.int := by
            unfold tgP tgB
            rw [if_neg ez, if_neg ez, List.map_append, Int.zero_sub, Int.zero_sub]
            rfl
          rw [eq]
          have s5 := (s3.trans s4).trans (same_new (o := .lst ((tgP (gN 0 ps) ps ++ [tgB (gN 0 ps) b]).map V.int)) nl2)
          have s6 := s2.trans s5
          exact qR _ _ x l2 _ _ _ _ _ _ _ _ _ _ _ (tt2.keep s5) (s5 _ _ ha2) upd_same (pn.keep s6) fun G' bt pg => kk G' ((Same.but s6).trans bt) pg
      · have e : gN 0 ps = 0 := by simpa using e
        have eq : tgP (gN 0 ps) ps ++ [tgB (gN 0 ps) b] = ps ++ [b] := by
          unfold tgP tgB
          rw [if_pos e, if_pos e]
        exact qR _ _ x l _ _ _ _ _ _ _ _ _ _ _ tt2 ha2 (by rw [eq]; exact hl) (pn.keep s2) fun G' bt pg => kk G' ((Same.but s2).trans bt) pg
end
end Ev
namespace Ev
open PySem L2 PySem.Spec PyProof.Rows
section
variable {X : Cx} {CX : CXT} {C g : Addr} {n : Nat} {sp : Sp} {E : XK}
/-- str of an instance with its own __str__ -/
def rStrO (C : Addr) (sp : Sp) (E : XK) : List V → Hp → VK → Prop := fun xs H Q => ∃ (a dx : Addr) (fs : List (Str × V)), xs = [.ref a] ∧ H a = some (.ins C dx fs) ∧ sp [.ref a] H (fun z H' => (∃ y : Str, z = .str y) ∧ Q z H') E
theorem call_strO (hf : PySem.W.findIn X.K (.ref C) "__str__" = some (some (.ref g))) (hk : PySem.W.isFn X.K (.ref g) = true) (F : FnR X.prog X.w X.K X.mg X.base CX n g sp) (hr : Room (n + 2) X.A) (hx : Passes CX X E) : CallR X (.type "str") (rStrO C sp E) := by
  intro pins s σ H xs us Q I r h
  obtain ⟨a, dx, fs, rfl, ha, q⟩ := h
  obtain ⟨u, rfl, rx⟩ : ∃ u, us = [u] ∧ u = Value.ref a := by
    cases r with
    | cons r1 r2 => cases r2; exact ⟨_, rfl, r1⟩
  subst rx
  obtain ⟨mA, J, _⟩ := ins_get I.hok ha
  obtain ⟨od, J, _⟩ := J.look
  have hr1 : Room (n + 1) X.A.in1 := hr.in1
  have hr2 : Room n X.A.in1.in1 := hr1.in1
  refine PySem.W.kso_call hr2.units0 I.kIn J hf hk ?_
  refine wpAny_mono (wpAny_call (SlX.run_at (us := [.ref a]) (ws := [.ref a]) F hr2 I.env0.in1.in1 hx I (.cons rfl .nil) q)) (fun w' s' z => ?_) fun _ _ z => z
  obtain ⟨z', H', I', rz, ⟨y, rfl⟩, q'⟩ := z
  obtain ⟨tk, rfl⟩ : ∃ tk, w' = Value.str y tk := rz
  exact ⟨.str y, H', I', ⟨tk, rfl⟩, q'⟩
end
theorem lc_pureV {J : It} {n : Nat} {G : Hp → Prop} {Y : Nat → Hp → V → Hp → Prop} (W : Walk J n G Y) {g : TG} {tt : TT} {te : TE} {vs : List Nat} {σ : L2.St} {H1 : Hp} {D : Addr} {Qd : Hp → Prop} (rs : List V) (hn : rs.length = n) (hb : n ≤ 1000)
    (hG : ∀ H, But D H1 H → G H)
    (step : ∀ (i : Nat) (x : V) (H H' : Hp) (r : V), i < n → rs[i]? = some r → But D H1 H → (∃ acc, H D = some (.lst acc)) → Y i H x H' → ∀ (R : VK) (Wk : Hp → Prop), (∀ H4, Same H H4 → R r H4) →
      g x (wipe σ vs) H' fun σ2 H2 => wipe σ2 vs = wipe σ vs ∧ tt σ2 H2 fun b H3 => if b = true then te σ2 H3 R else Wk H3)
    (fin : ∀ H, But D H1 H → H D = some (.lst rs) → Qd H) :
    ∃ W : Nat → Nat → Hp → Prop, (∃ m, W 0 m (upd H1 D (HO.lst []))) ∧ ∀ (i m : Nat) (H : Hp), W i m H → J.stop i H ∧ Qd H ∨ J.go i H ∧ ∃ Nx : Hp → Prop, (∀ (H' : Hp), Nx H' → ∃ m', m' < m ∧ W (i + 1) m' H') ∧
      ∀ (x : V) (H' : Hp), J.yld i H x H' → g x (wipe σ vs) H' fun σ2 H2 => wipe σ2 vs = wipe σ vs ∧ tt σ2 H2 fun b H3 =>
        if b = true then te σ2 H3 fun y H4 => ∃ acc, H4 D = some (HO.lst acc) ∧ acc.length < sizeLine ∧ Nx (upd H4 D (HO.lst (acc ++ [y]))) else Nx H3 := by
  refine lc_it W (fun i H => H D = some (.lst (rs.take i)) ∧ But D H1 H) ⟨upd_same, But.upd_at⟩ (fun i H _ h => hG H h.2) (fun i x H H' hi h y => ?_) (fun H h => ?_)
  · obtain ⟨e1, e2⟩ := h
    have hr : rs[i]? = some rs[i] := List.getElem?_eq_getElem (by omega)
    refine step i x H H' rs[i] hi hr e2 ⟨_, e1⟩ y _ _ fun H4 s4 => ⟨_, s4 _ _ e1, ?_, ?_, ?_⟩
    · rw [List.length_take]
      exact Nat.lt_of_le_of_lt (Nat.min_le_left _ _) (Nat.lt_of_lt_of_le (show i < 1000 by omega) (by decide))
    · rw [List.take_add_one, hr]
      exact upd_same
    · exact fun c o nc ec => by rw [upd_ne nc]; exact s4 _ _ (e2 c o nc ec)
  · obtain ⟨e1, e2⟩ := h
    rw [← hn, List.take_length] at e1
    exact fin H e2 e1
theorem pss_nev {X : Cx} {ss : List Stmt} : PSs X ss (fun _ _ _ => False) := ⟨fun _ _ _ _ _ _ h => h.elim⟩
def tx (i : Int) : Str := Str.ofString (toString i)
def txL (ps : List Int) : Str := Txt.join " " (ps.map tx)
def txT (ps : List Int) (b : Int) : Str := ((Str.empty ++ txL ps) ++ " >= ") ++ tx b
theorem tiny_log {n : Int} (h : n.natAbs ≤ 99) : n.natAbs.log2 < 1920 := by
  by_cases z : n.natAbs = 0
  · rw [z]; decide
  · exact (Nat.log2_lt z).mpr (Nat.lt_of_le_of_lt h (by decide +kernel))
theorem tx_len {n : Int} (h : n.natAbs ≤ 99) : (tx n).length ≤ 2000 := by
  have e := int_text_length_le (k := 1920) (by decide) (tiny_log h)
  show (Str.ofString (toString n)).length ≤ 2000
  rw [PySem.ofString_length]
  omega
def spWord : Sp := fun vs H Q _ => ∃ i : Int, vs = [.int i] ∧ i.natAbs ≤ 99 ∧ Q (.str (tx i)) H
def spWords : Sp := fun vs H Q _ => ∃ (t : Addr) (ps : List Int), vs = [.ref t] ∧ H t = some (.tup (ps.map V.int)) ∧ ps.length ≤ 5 ∧ (∀ p ∈ ps, p.natAbs ≤ 99) ∧ ∀ H', Same H H' → Q (.str (txL ps)) H'
def spTStr (C : Addr) : Sp := fun vs H Q _ => ∃ (x : Addr) (ps : List Int) (b : Int), vs = [.ref x] ∧ TestAt C H x ps b ∧ ps.length ≤ 5 ∧ (∀ p ∈ ps, p.natAbs ≤ 99) ∧ b.natAbs ≤ 99 ∧ (txL ps).length ≤ 10000 ∧ (Str.empty ++ txL ps).length ≤ 10000 ∧ ((Str.empty ++ txL ps) ++ " >= ").length ≤ 10000 ∧ (txT ps b).length ≤ 10000 ∧ ∀ H', Same H H' → Q (.str (txT ps b)) H'
section
variable {P : Program} {w : World} {K : PySem.W.Frag} {mg : Str → Option Value} {base : Heap}
theorem scWord : FnScope ["number", "rest", "pieces", "low", "digits"] ["number"] (defScope sWord) := ⟨rfl, rfl, rfl, by decide +kernel, rfl, by decide +kernel, by decide +kernel⟩
theorem ok_word {f : Addr} {fd : FuncData} (F : Fun K "number_word" "number_word" sWord f fd) (mstr : mg "str" = none) {t : Tok} (gP : mg "PIECE" = some (.int (10 ^ 64) t)) : FnOk P w K mg base CX0 1 f fd ["number"] spWord := by
  refine F.ok scWord (fun vs H Q E h => ?_) (fun cdv A outer s H vs Q E hr h => ?_)
  · obtain ⟨i, rfl, _⟩ := h
    rfl
  · obtain ⟨i, rfl, hi, kk⟩ := h
    refine ⟨_, pss_cons (ps_if (pt_chain op_lt op_lt (pe_un un_neg (pe_glob (v := .int (10 ^ 64)) rfl gP ⟨_, rfl⟩)) (pv 0) (pe_glob (v := .int (10 ^ 64)) rfl gP ⟨_, rfl⟩)) (pss_one (ps_ret (pe_callTy call_str_int (by rfl) mstr (by decide +kernel) (pa_cons (pv 0) pa_nil)))) pss_nil) pss_nev, ?_⟩
    have e64 : (10 : Int) ^ 64 = 10000000000000000000000000000000000000000000000000000000000000000 := by decide
    have q1 : decide (-(10 : Int) ^ 64 < i) = true := decide_eq_true (by rw [e64]; omega)
    have q2 : decide (i < (10 : Int) ^ 64) = true := decide_eq_true (by rw [e64]; omega)
    refine ⟨_, rfl, _, rfl, _, _, rfl, rfl, _, rfl, ?_⟩
    rw [q1]
    refine iteT ⟨_, _, rfl, rfl, _, rfl, ?_⟩
    rw [q2]
    exact iteT ⟨_, rfl, i, rfl, tiny_log hi, kk⟩
theorem scWords : FnScope ["numbers", "number"] ["numbers"] (defScope sWords) := ⟨rfl, rfl, rfl, by decide +kernel, rfl, by decide +kernel, by decide +kernel⟩
theorem ok_words {f : Addr} {fd : FuncData} (F : Fun K "number_words" "number_words" sWords f fd) (D : Df P w K mg base 1 "number_word" ["number"] spWord) : FnOk P w K mg base CX0 2 f fd ["numbers"] spWords := by
  obtain ⟨f1, fd1, G1, g1, k1, b1⟩ := D.ex
  refine F.ok scWords (fun vs H Q E h => ?_) (fun cdv A outer s H vs Q E hr h => ?_)
  · obtain ⟨t, ps, rfl, _⟩ := h
    rfl
  · obtain ⟨t, ps, rfl, ht, n5, hs, kk⟩ := h
    refine ⟨_, pss_one (ps_ret (pe_join pe_str (pe_lc (own := [("number", 1)]) (g := gName 1) (tt := tYes) (te := tCall spWord [] E0 (tCons (tVar 1) tNil)) (by rfl) scWords.nd (pi_tup (pv 0)) (blkOk_by (own := [("number", 1)]) (N := ["numbers", "number"]) (sc := defScope sWords) (by decide +kernel))
        (fun _ _ _ _ _ => pg_name (i := 1) scWords.nd rfl (.inl rfl)) (fun _ _ _ _ _ => pts_nil) (fun _ _ _ _ _ => pe_call G1 hr (by rfl) g1 k1 b1 .nil pass0 (pa_cons (pv 1) pa_nil))))), ?_⟩
    refine ⟨⟨_, rfl⟩, _, rfl, t, rfl, ⟨_, SqT.of ht⟩, fun D nD => ?_⟩
    have tD := ne_of_none ht nD
    refine lc_pureV (n := ps.length) ((walk_tup (xs := ps.map V.int) |> fun w => by simpa using w)) ((ps.map tx).map V.str) (by simp) (by omega) (fun H' h => SqT.of (h _ _ tD ht)) (fun i v H2 H' r hi hr bt _ y R Wk k => ?_) (fun H' bt hD => ?_)
    · obtain ⟨rfl, hv⟩ := y
      obtain ⟨m, hn, rfl⟩ := int_at hv
      have er : r = .str (tx m) := by
        rw [List.getElem?_map, List.getElem?_map, hn] at hr
        exact (Option.some.inj hr).symm
      subst er
      exact ⟨rfl, _, rfl, m, rfl, hs m (List.mem_of_getElem? hn), k _ (Same.refl _)⟩
    · have s1 : Same H H' := fun c o e => bt c o (ne_of_none e nD) e
      refine ⟨_, D, ps.map tx, rfl, rfl, .inl (SqL.of hD), ?_, kk _ s1⟩
      have key : ∀ l : List Int, (∀ p ∈ l, p.natAbs ≤ 99) → ((l.map tx).map (·.length)).sum ≤ l.length * 2000 := by
        intro l
        induction l with
        | nil => intro _; simp
        | cons z r ih =>
          intro h
          have h1 := tx_len (h z List.mem_cons_self)
          have h2 := ih fun q m => h q (List.mem_cons_of_mem _ m)
          simp only [List.map_cons, List.sum_cons, List.length_cons] at h2 ⊢
          omega
      have := key ps hs
      have e1 : (Str.ofString " ").length = 1 := by decide +kernel
      rw [e1, List.length_map]
      omega
theorem scTStr : FnScope ["self"] ["self"] (defScope sTStr) := ⟨rfl, rfl, rfl, by decide +kernel, rfl, by decide +kernel, by decide +kernel⟩
theorem ok_tStr {f C : Addr} {fd : FuncData} (F : Fun K "__str__" "Test.__str__" sTStr f fd) (TC : TCls K C) (D1 : Df P w K mg base 1 "number_word" ["number"] spWord) (D2 : Df P w K mg base 2 "number_words" ["numbers"] spWords) : FnOk P w K mg base CX0 3 f fd ["self"] (spTStr C) := by
  obtain ⟨f1, fd1, G1, g1, k1, b1⟩ := D1.ex
  obtain ⟨f2, fd2, G2, g2, k2, b2⟩ := D2.ex
  refine F.ok scTStr (fun vs H Q E h => ?_) (fun cdv A outer s H vs Q E hr h => ?_)
  · obtain ⟨x, ps, b, rfl, _⟩ := h
    rfl
  · obtain ⟨x, ps, b, rfl, tt, n5, hs, hb, hl, l2, l3, l4, kk⟩ := h
    obtain ⟨dx, t, hx, ht⟩ := id tt
    have hr1 : Room 1 _ := hr.mono (by decide)
    refine ⟨_, pss_one (ps_ret (pe_joined (PJ.cons (pe_fmt (pe_call G2 hr (by rfl) g2 k2 b2 .nil pass0 (pa_cons (pe_fld (pv 0) rfl) pa_nil))) (PJ.cons pe_str (PJ.cons (pe_fmt (pe_call G1 hr1 (by rfl) g1 k1 b1 .nil pass0 (pa_cons (pe_fld (pv 0) rfl) pa_nil))) PJ.nil))))), ?_⟩
    have lb := tx_len hb
    refine ⟨_, rfl, x, C, dx, _, _, rfl, hx, TC.cl, TC.n1, test_parts t b, t, ps, rfl, ht, n5, hs, fun H1 s1 => .inl ⟨_, rfl, Nat.le_trans hl (by decide), _, rfl, Nat.le_trans l2 (by decide), ?_⟩⟩
    refine ⟨_, rfl, Nat.le_trans l3 (by decide), _, rfl, x, C, dx, _, _, rfl, s1 _ _ hx, TC.cl, TC.n2, test_bound t b, b, rfl, hb, .inl ⟨_, rfl, Nat.le_trans lb (by decide), _, rfl, Nat.le_trans l4 (by decide), kk _ s1⟩⟩
end
end Ev
namespace Ev
open PySem L2 PySem.Spec PyProof.Rows
def spPen (K : PySem.W.Frag) : Sp := fun vs H Q _ => ∃ (a : Addr) (ns : List Int), vs = [.ref a] ∧ SqL K H a (ns.map V.int) ∧ ns.length ≤ 63 ∧
  ∀ (p L : Addr) (H' : Hp), H p = none → Same H H' → Pen L H' p 0 → Q (.ref p) H'
theorem cut_ints (ns : List Int) (h : Int) : ∃ ms : List Int, cutV (ns.map V.int) none (some h) = ms.map V.int ∧ ms.length ≤ ns.length := by
  unfold cutV
  generalize HT.sIx (ns.map V.int).length 0 none = x
  generalize HT.sIx (ns.map V.int).length (ns.map V.int).length (some h) - x = y
  refine ⟨(ns.drop x).take y, ?_, ?_⟩
  · rw [List.map_take, List.map_drop]
  · rw [List.length_take, List.length_drop]; omega
def spLaw (K : PySem.W.Frag) : Sp := fun vs H Q _ => ∃ (a : Addr) (ns : List Int), vs = [.ref a] ∧ SqL K H a (ns.map V.int) ∧ ns.length ≤ 63 ∧ ∀ H', Q (.bl true) H'
abbrev nLaw : List Str := ["_law_script", "_law_pen_here", "_law_many", "_law_one", "_law_other", "_law_first", "_law_held", "_law_told"]
theorem scLaw : FnScope nLaw ["_law_script"] (defScope sLaw) := ⟨rfl, rfl, rfl, by decide +kernel, rfl, by decide +kernel, by decide +kernel⟩
abbrev restLaw (n : Nat) : List Stmt := (defBody sLaw).drop n
section
variable {P : Program} {w : World} {K : PySem.W.Frag} {mg : Str → Option Value} {base : Heap}
theorem scPen : FnScope ["_law_script"] ["_law_script"] (defScope sPen) := ⟨rfl, rfl, rfl, by decide +kernel, rfl, by decide +kernel, by decide +kernel⟩
theorem ok_pen {f : Addr} {fd : FuncData} (F : Fun K "_law_pen" "_law_pen" sPen f fd) (T : Blt mg) : FnOk P w K mg base CX0 1 f fd ["_law_script"] (spPen K) := by
  refine F.ok scPen (fun vs H Q E h => ?_) (fun cdv A outer s H vs Q E hr h => ?_)
  · obtain ⟨a, ns, rfl, _⟩ := h
    rfl
  · obtain ⟨a, ns, rfl, hS, hlen, kk⟩ := h
    refine ⟨_, pss_one (ps_ret (pe_lst (pa_cons (pe_callTy call_list_of (by rfl) T.list (by decide +kernel) (pa_cons (pe_slice sl_list (pv 0) po_none (po_some pe_int)) pa_nil)) (pa_cons pe_int (pa_cons pe_int pa_nil))))), ?_⟩
    refine ⟨_, rfl, _, rfl, a, _, rfl, hS, fun l1 nl1 => ⟨l1, _, rfl, .inl (SqL.of upd_same), fun l2 nl2 => ⟨(by show 3 ≤ sizeLine; decide), fun p np => ?_⟩⟩⟩
    obtain ⟨ms, e1, e2⟩ := cut_ints ns 63
    rw [e1] at nl2 np ⊢
    have s1 : Same H (upd (upd H l1 (.lst (ms.map V.int))) l2 (.lst (ms.map V.int))) := (same_new nl1).trans (same_new nl2)
    have s2 := s1.trans (same_new (o := .lst [.ref l2, .int 0, .int 0]) np)
    refine kk p l2 _ ?_ s2 ⟨ms, 0, 0, upd_same, by rw [upd_ne (ne_of_none upd_same np)]; exact upd_same, ne_of_none upd_same np, by omega, by decide, by decide, by decide⟩
    cases z : H p with
    | none => rfl
    | some o => rw [s1 _ _ z] at np; cases np
theorem str_of {C : Addr} {H : Hp} {x : Addr} {ps : List Int} {b : Int} {E : XK} {Q : VK} (h : TestAt C H x ps b) (n5 : ps.length ≤ 5) (hs : ∀ p ∈ ps, p.natAbs ≤ 99) (hb : b.natAbs ≤ 99) (l1 : (txL ps).length ≤ 10000) (l2 : (Str.empty ++ txL ps).length ≤ 10000) (l3 : ((Str.empty ++ txL ps) ++ " >= ").length ≤ 10000) (l4 : (txT ps b).length ≤ 10000)
    (k : ∀ H', Same H H' → Q (.str (txT ps b)) H') : rStrO C (spTStr C) E [.ref x] H Q := by
  obtain ⟨dx, t, hx, ht⟩ := id h
  exact ⟨x, dx, _, rfl, hx, x, ps, b, rfl, h, n5, hs, hb, l1, l2, l3, l4, fun H' s => ⟨⟨_, rfl⟩, k H' s⟩⟩
/-- a test made tight and written -/
theorem told_of {C : Addr} {H : Hp} {x : Addr} {ps qs : List Int} {b c : Int} {m : Str} {E E' : XK} {Q : VK} (h : TestAt C H x ps b) (n1 : 1 ≤ ps.length) (n5 : ps.length ≤ 5) (sm : AllSm ps) (e1 : tgP (gN 0 ps) ps = qs) (e2 : tgB (gN 0 ps) b = c) (e3 : txT qs c = m)
    (hs : ∀ p ∈ qs, p.natAbs ≤ 99) (hb : c.natAbs ≤ 99) (l1 : (txL qs).length ≤ 10000) (l2 : (Str.empty ++ txL qs).length ≤ 10000) (l3 : ((Str.empty ++ txL qs) ++ " >= ").length ≤ 10000) (l4 : (txT qs c).length ≤ 10000)
    (k : ∀ H', Same H H' → Q (.str m) H') : spTight C [.ref x] H (fun v H1 => rStrO C (spTStr C) E [v] H1 Q) E' := by
  refine ⟨x, ps, b, rfl, h, n1, n5, sm, fun z H1 s1 tz => ?_⟩
  rw [e1, e2] at tz
  have n5' : qs.length ≤ 5 := by rw [← e1, tgP_len]; exact n5
  exact str_of tz n5' hs hb l1 l2 l3 l4 fun H' s => by rw [e3]; exact k H' (s1.trans s)
theorem ok_law {f C f8 fs : Addr} {fd fd8 : FuncData} (F : Fun K "law" "law" sLaw f fd) (T : Blt mg) (mstr : mg "str" = none) (TM : TMeth P w K mg base C) (RS : FnR P w K mg base CX0 3 fs (spTStr C)) (hs : PySem.W.findIn K (.ref C) "__str__" = some (some (.ref fs))) (hsf : PySem.W.isFn K (.ref fs) = true)
    (D1 : Df P w K mg base 1 "_law_pen" ["_law_script"] (spPen K)) (D2 : Df P w K mg base 1 "_law_draw" ["_law_pen_here", "_law_top_so"] spDraw) (D3 : Df P w K mg base 4 "_law_drawn" ["_law_pen_here", "_law_many"] spDrawn) (D4 : Df P w K mg base 8 "_law_joined_right" ["_law_pen_here", "_law_one_so", "_law_other_so"] spJoin)
    (G8 : FnG P w K mg base 8 f8 fd8 ["_law_pen_here", "_law_some"] spSides) (g8 : mg "_law_sides_right" = some (.ref f8)) (k8 : PySem.W.keepIn K (.ref f8) = true) (b8 : Binds K fd8 ["_law_pen_here", "_law_some"] []) : FnG P w K mg base 9 f fd ["_law_script"] (spLaw K) := by
  obtain ⟨f1, fd1, G1, g1, k1, b1⟩ := D1.ex
  obtain ⟨f2, fd2, G2, g2, k2, b2⟩ := D2.ex
  obtain ⟨f3, fd3, G3, g3, k3, b3⟩ := D3.ex
  obtain ⟨f4, fd4, G4, g4, k4, b4⟩ := D4.ex
  obtain ⟨⟨TC, IT, gC, ⟨fm, fdm, MM, GM, bM⟩⟩, _, _, ⟨fe, RE, heq, hef⟩, hne, ⟨fa, fmu, fr, OO, RA, RM, RR⟩, _, _, ⟨ft, fdt, GT, bT, mT⟩⟩ := id TM
  refine fng_of F scLaw (fun vs H Q E h => ?_) (fun cdv A outer s H vs Q E hr gd h => ?_)
  · obtain ⟨a, ns, rfl, _⟩ := h
    rfl
  · obtain ⟨a, ns, rfl, hS, hlen, kk⟩ := h
    have hr1 : Room 1 _ := hr.mono (by decide)
    have hr2 : Room 2 _ := hr.mono (by decide)
    have hr4 : Room 4 _ := hr.mono (by decide)
    have hr5 : Room 5 _ := hr.mono (by decide)
    have hr6 : Room 6 _ := hr.mono (by decide)
    have hr7 : Room 7 _ := hr.mono (by decide)
    have no1 : ∀ {t : Addr} {e : Int}, (testF t e).lookup ("tight" : Str) = none := fun {t e} => fld_no (by decide +kernel) (by decide +kernel)
    obtain ⟨tE, hE, qE⟩ : ∃ t : TS, PSs (cxOf CX0 P w K mg base nLaw "law" (defScope sLaw) f cdv A outer s H E).nox (restLaw 2) t ∧ ∀ (D : Ends) (G : Hp) (v0 v1 v2 v3 v4 v5 v6 v7 : Option V),
        (∀ G', D.rt (.bl true) G') → t D [v0, v1, v2, v3, v4, v5, v6, v7] G := by
      refine ⟨_, pss_cons (ps_set (i := 5) scLaw.nd rfl (.inl rfl) (pe_make MM GM hr5 (by rfl) gC bM .nil pass0 (pa_cons (pe_tup (pa_cons pe_int (pa_cons (pe_un un_neg pe_int) pa_nil))) (pa_cons pe_int pa_nil))))
        (pss_cons (ps_set (i := 6) scLaw.nd rfl (.inl rfl) (pv 5))
        (pss_cons (ps_aug (i := 6) scLaw.nd rfl (.inl rfl) pe_int (iop_mulO (E := E0) OO RM hr7 pass0))
        (pss_cons (ps_if (PW.pt (pw_or (pt_cmpR (op_neO (E := E0) heq hne IT.hm hef RE hr2 pass0) (pv 6) (pe_make MM GM hr5 (by rfl) gC bM .nil pass0 (pa_cons (pe_tup (pa_cons pe_int (pa_cons (pe_un un_neg pe_int) pa_nil))) (pa_cons pe_int pa_nil))) (nomark _))
          (pw_or1 (pt_cmpR (op_neO (E := E0) heq hne IT.hm hef RE hr2 pass0) (pv 5) (pe_make MM GM hr5 (by rfl) gC bM .nil pass0 (pa_cons (pe_tup (pa_cons pe_int (pa_cons (pe_un un_neg pe_int) pa_nil))) (pa_cons pe_int pa_nil))) (nomark _))))) (pss_one (ps_ret pe_bl)) pss_nil)
        (pss_cons (ps_set (i := 7) scLaw.nd rfl (.inl rfl) (pe_lst (pa_cons (pe_callTy (call_strO (E := E0) hs hsf RS hr5 pass0) (by rfl) mstr (by decide +kernel) (pa_cons (pe_meth0 (pe_make MM GM hr5 (by rfl) gC bM .nil pass0 (pa_cons (pe_tup (pa_cons pe_int (pa_cons (pe_un un_neg pe_int) pa_nil))) (pa_cons pe_int pa_nil))) TC.cl mT GT hr6 bT .nil pass0) pa_nil))
          (pa_cons (pe_callTy (call_strO (E := E0) hs hsf RS hr5 pass0) (by rfl) mstr (by decide +kernel) (pa_cons (pe_meth0 (pe_make MM GM hr5 (by rfl) gC bM .nil pass0 (pa_cons (pe_tup (pa_cons pe_int (pa_cons (pe_un un_neg pe_int) pa_nil))) (pa_cons (pe_un un_neg pe_int) pa_nil))) TC.cl mT GT hr6 bT .nil pass0) pa_nil))
          (pa_cons (pe_callTy (call_strO (E := E0) hs hsf RS hr5 pass0) (by rfl) mstr (by decide +kernel) (pa_cons (pe_meth0 (pe_make MM GM hr5 (by rfl) gC bM .nil pass0 (pa_cons (pe_tup (pa_cons (pe_un un_neg pe_int) pa_nil)) (pa_cons pe_int pa_nil))) TC.cl mT GT hr6 bT .nil pass0) pa_nil))
          (pa_cons (pe_callTy (call_strO (E := E0) hs hsf RS hr5 pass0) (by rfl) mstr (by decide +kernel) (pa_cons (pe_meth0 (pe_make MM GM hr5 (by rfl) gC bM .nil pass0 (pa_cons (pe_tup (pa_cons pe_int (pa_cons pe_int pa_nil))) (pa_cons pe_int pa_nil))) TC.cl mT GT hr6 bT .nil pass0) pa_nil)) pa_nil))))))
        (pss_one (ps_ret (pe_cmpR (op_eqD (Room.units hr)) (pv 7) (pe_lst (pa_cons pe_str (pa_cons pe_str (pa_cons pe_str (pa_cons pe_str pa_nil))))) (nomark _)))))))), ?_⟩
      intro D G v0 v1 v2 v3 v4 v5 v6 v7 fin
      have sm : ∀ {r : List Int}, (∀ z ∈ r, z.natAbs ≤ 9) → AllSm r := fun h z m => Nat.lt_of_le_of_lt (h z m) (by decide)
      have sm1 : Sm 5 := by unfold Sm; decide
      have sm2 : Sm 2 := by unfold Sm; decide
      refine ⟨_, rfl, (by show 2 ≤ sizeLine; decide), fun t1 nt1 => mk_of (ns := [3, -1]) (.inr upd_same) (by decide) (by decide) fun x1 H1 e1 u1 => ?_⟩
      refine ⟨_, rfl, _, rfl, own_mul u1 (by decide) (by decide) (sm (by decide)) sm1 (by decide) sm2 fun x2 H2 e2 u2 => ?_⟩
      refine ⟨_, rfl, _, rfl, (by show 2 ≤ sizeLine; decide), fun t3 nt3 => mk_of (ns := [6, -2]) (.inr upd_same) (by decide) (by decide) fun x3 H3 e3 u3 => own_like TC IT ((u2.keep (same_new nt3)).keep e3) u3 (by decide) (by decide) ⟨_, rfl, iteF ?_⟩⟩
      have s3 := e2.trans ((same_new nt3).trans e3)
      refine ⟨_, rfl, _, rfl, (by show 2 ≤ sizeLine; decide), fun t4 nt4 => mk_of (ns := [3, -1]) (.inr upd_same) (by decide) (by decide) fun x4 H4 e4 u4 => own_like TC IT (((u1.keep s3).keep (same_new nt4)).keep e4) u4 rfl rfl ⟨_, rfl, iteF ?_⟩⟩
      clear u1 u2 u3 u4 e1 e2 e3 s3 nt1 nt3 nt4 e4
      refine ⟨_, rfl, (by show 2 ≤ sizeLine; decide), fun ta nta => mk_of (ns := [6, (-9)]) (.inr upd_same) (by decide) (by decide) fun xa Ha ea ua => ?_⟩
      obtain ⟨da, va, ha, _⟩ := id ua
      refine ⟨xa, da, _, rfl, ha, no1, told_of (E' := E0) (qs := [2, (-3)]) (c := 2) (m := "2 -3 >= 2") ua (by decide) (by decide) (sm (by decide)) (by decide +kernel) (by decide +kernel) (by decide +kernel) (by decide +kernel) (by decide +kernel) (by decide +kernel) (by decide +kernel) (by decide +kernel) (by decide +kernel) fun Ga sa => ?_⟩
      refine ⟨_, rfl, (by show 2 ≤ sizeLine; decide), fun tb ntb => ⟨_, rfl, mk_of (ns := [6, (-9)]) (.inr upd_same) (by decide) (by decide) fun xb Hb eb ub => ?_⟩⟩
      obtain ⟨db, vb, hb, _⟩ := id ub
      refine ⟨xb, db, _, rfl, hb, no1, told_of (E' := E0) (qs := [2, (-3)]) (c := (-1)) (m := "2 -3 >= -1") ub (by decide) (by decide) (sm (by decide)) (by decide +kernel) (by decide +kernel) (by decide +kernel) (by decide +kernel) (by decide +kernel) (by decide +kernel) (by decide +kernel) (by decide +kernel) (by decide +kernel) fun Gb sb => ?_⟩
      refine ⟨_, rfl, (by show 1 ≤ sizeLine; decide), fun tc ntc => mk_of (ns := [(-4)]) (.inr upd_same) (by decide) (by decide) fun xc Hc ec uc => ?_⟩
      obtain ⟨dc, vc, hc, _⟩ := id uc
      refine ⟨xc, dc, _, rfl, hc, no1, told_of (E' := E0) (qs := [(-1)]) (c := 2) (m := "-1 >= 2") uc (by decide) (by decide) (sm (by decide)) (by decide +kernel) (by decide +kernel) (by decide +kernel) (by decide +kernel) (by decide +kernel) (by decide +kernel) (by decide +kernel) (by decide +kernel) (by decide +kernel) fun Gc sc => ?_⟩
      refine ⟨(by show 2 ≤ sizeLine; decide), fun td ntd => mk_of (ns := [0, 0]) (.inr upd_same) (by decide) (by decide) fun xd Hd ed ud => ?_⟩
      obtain ⟨dd, vd, hd, _⟩ := id ud
      refine ⟨xd, dd, _, rfl, hd, no1, told_of (E' := E0) (qs := [0, 0]) (c := 5) (m := "0 0 >= 5") ud (by decide) (by decide) (sm (by decide)) (by decide +kernel) (by decide +kernel) (by decide +kernel) (by decide +kernel) (by decide +kernel) (by decide +kernel) (by decide +kernel) (by decide +kernel) (by decide +kernel) fun Gd sd => ?_⟩
      refine ⟨(by show 4 ≤ sizeLine; decide), fun l1 nl1 => ⟨_, rfl, (by show 4 ≤ sizeLine; decide), fun l2 nl2 => ?_⟩⟩
      have h1 : upd (upd Gd l1 (.lst [.str "2 -3 >= 2", .str "2 -3 >= -1", .str "-1 >= 2", .str "0 0 >= 5"])) l2 (.lst [.str "2 -3 >= 2", .str "2 -3 >= -1", .str "-1 >= 2", .str "0 0 >= 5"]) l1 = some (.lst [.str "2 -3 >= 2", .str "2 -3 >= -1", .str "-1 >= 2", .str "0 0 >= 5"]) := same_new nl2 _ _ upd_same
      have dd : ∀ {G : Hp} {b : Addr}, G b = some (.lst [.str "2 -3 >= 2", .str "2 -3 >= -1", .str "-1 >= 2", .str "0 0 >= 5"]) → Dp K G (.ref b) (.list [.str "2 -3 >= 2", .str "2 -3 >= -1", .str "-1 >= 2", .str "0 0 >= 5"]) := fun e => .lst (SqL.of e) (.cons (.str _) (.cons (.str _) (.cons (.str _) (.cons (.str _) .nil))))
      refine ⟨_, _, dd h1, dd upd_same, by decide +kernel, by decide +kernel, ?_⟩
      rw [show PyData.eqv (.list [.str "2 -3 >= 2", .str "2 -3 >= -1", .str "-1 >= 2", .str "0 0 >= 5"]) (.list [.str "2 -3 >= 2", .str "2 -3 >= -1", .str "-1 >= 2", .str "0 0 >= 5"]) = true by decide +kernel]
      exact fin _
    refine ⟨_, pss_cons (ps_set (i := 1) scLaw.nd rfl (.inl rfl) (pe_call G1 hr1 (by rfl) g1 k1 b1 .nil pass0 (pa_cons (pv 0) pa_nil)))
      (pss_cons (ps_for PassesOwn.never rfl (pi_list (pe_lst (pa_cons pe_int (pa_cons pe_int (pa_cons pe_int (pa_cons pe_int (pa_cons (pe_op op_add pe_int (pe_call G2 hr1 (by rfl) g2 k2 b2 .nil pass0 (pa_cons (pv 1) (pa_cons pe_int pa_nil)))) pa_nil))))))) (pg_name (i := 2) scLaw.nd rfl (.inl rfl))
        (pss_cons (ps_par (i := 3) (j := 4) rfl scLaw.nd rfl rfl (by decide) rfl rfl (pa_cons (pe_call G3 hr4 (by rfl) g3 k3 b3 .nil pass0 (pa_cons (pv 1) (pa_cons (pv 2) pa_nil))) (pa_cons (pe_call G3 hr4 (by rfl) g3 k3 b3 .nil pass0 (pa_cons (pv 1) (pa_cons (pv 2) pa_nil))) pa_nil)) (by rfl))
        (pss_one (ps_if (PW.pt (pw_or (pt_not (pt_val (pe_call G4 hr (by rfl) g4 k4 b4 .nil pass0 (pa_cons (pv 1) (pa_cons (pv 3) (pa_cons (pv 4) pa_nil))))))
          (pw_or (pt_not (pt_val (pe_callG (E := E0) G8 hr gd (by rfl) g8 k8 b8 (pa_cons (pv 1) (pa_cons (pv 3) pa_nil))))) (pw_or1 (pt_not (pt_val (pe_callG (E := E0) G8 hr gd (by rfl) g8 k8 b8 (pa_cons (pv 1) (pa_cons (pv 4) pa_nil))))))))) (pss_one (ps_ret pe_bl)) pss_nil)))) hE), ?_⟩
    refine ⟨_, rfl, a, ns, rfl, hS, hlen, fun p L H1 np s1 pn0 => ?_⟩
    refine ⟨_, rfl, p, L, _, _, rfl, by decide, by decide, by decide, pn0, fun d H2 t2 p2 d0 d1 => ⟨_, _, rfl, rfl, (by show 5 ≤ sizeLine; decide), fun l nl => ⟨l, rfl, ⟨_, SqL.of upd_same⟩, ?_⟩⟩⟩
    have lp := p2.ne nl
    refine for_it (n := 5) (walk_list (K := K) (a := l) (xs := [.int 1, .int 2, .int 3, .int 5, .int (1 + d)]))
      (fun i σ H' => (∃ v2 v3 v4 : Option V, σ = [some (.ref a), some (.ref p), v2, v3, v4, none, none, none]) ∧ Pen L H' p (1 + 150 * (i : Int)) ∧ H' l = some (.lst [.int 1, .int 2, .int 3, .int 5, .int (1 + d)]))
      ⟨⟨none, none, none, rfl⟩, (p2.new nl).mono (by decide), upd_same⟩ (fun _ σ H' _ h => SqL.of h.2.2) ?_ ?_
    · rintro i y σ Ga Gb hi ⟨⟨v2, v3, v4, rfl⟩, pn, hl⟩ ⟨rfl, hy⟩
      obtain ⟨m, rfl, m1, m5⟩ : ∃ m : Nat, y = .int (m : Int) ∧ 1 ≤ m ∧ m ≤ 5 := by
        have q := List.mem_of_getElem? hy
        obtain ⟨k, rfl⟩ := Int.eq_ofNat_of_zero_le d0
        simp only [List.mem_cons, List.not_mem_nil, or_false] at q
        rcases q with rfl | rfl | rfl | rfl | rfl
        · exact ⟨1, rfl, by decide, by decide⟩
        · exact ⟨2, rfl, by decide, by decide⟩
        · exact ⟨3, rfl, by decide, by decide⟩
        · exact ⟨5, rfl, by decide, by decide⟩
        · exact ⟨1 + k, by rw [show ((1 + k : Nat) : Int) = 1 + (k : Int) by omega], by omega, by omega⟩
      refine ⟨_, rfl, _, rfl, p, L, m, _, rfl, m1, m5, by omega, pn, fun la ps b Gc lps wps nb hla lap t3 p3 => ?_⟩
      refine ⟨_, rfl, _, rfl, p, L, m, _, rfl, m1, m5, by omega, p3, fun lb qs c Gd lqs wqs nc hlb lbp t4 p4 => ⟨_, _, rfl, ?_⟩⟩
      have hla4 := t4 _ _ lap hla
      refine ⟨_, rfl, _, rfl, _, rfl, p, L, la, lb, ps, qs, b, c, _, rfl, hla4, hlb, lap, lbp, by omega, by omega, by omega, wps, wqs, nb, nc, by omega, p4, fun Ge t5 p5 => ⟨true, rfl, ?_⟩⟩
      refine ⟨_, rfl, _, rfl, p, L, la, ps, b, _, rfl, t5 _ _ lap hla4, lap, by omega, by omega, wps, nb, by omega, p5, fun Gf t6 p6 => ⟨true, rfl, ?_⟩⟩
      refine ⟨_, rfl, _, rfl, p, L, lb, qs, c, _, rfl, t6 _ _ lbp (t5 _ _ lbp hlb), lbp, by omega, by omega, wqs, nc, by omega, p6, fun Gg t7 p7 => ⟨true, rfl, iteF ?_⟩⟩
      exact ⟨⟨_, _, _, rfl⟩, p7.mono (by omega), t7 _ _ lp (t6 _ _ lp (t5 _ _ lp (t4 _ _ lp (t3 _ _ lp hl))))⟩
    · rintro σ Ga ⟨⟨v2, v3, v4, rfl⟩, pn, hl⟩
      exact qE _ Ga _ _ _ _ _ _ _ _ fun G' => kk G'
end
end Ev
namespace Ev
open PySem L2 PySem.Spec PyProof.Rows
set_option maxHeartbeats 4000000 in
theorem all_mk {l : PySem.W.OpenLaw} {w : World} {K : PySem.W.Frag} {h : Heap} {mg : Str → Option Value} {f0 f1 f2 f3 f4 f5 f6 f7 f8 f9 f10 f11 f12 f13 f14 f15 f16 C f30 f31 f32 f33 f34 f35 f36 f37 f38 f39 f40 fa : Addr} {od0 an0 od1 an1 od2 an2 od3 an3 od4 an4 od5 an5 od6 an6 od7 an7 od8 an8 od9 an9 od10 an10 od11 an11 od12 an12 od13 an13 od14 an14 od15 an15 od16 an16 od30 an30 od31 an31 od32 an32 od33 an33 od34 an34 od35 an35 od36 an36 od37 an37 od38 an38 od39 an39 od40 an40 : Option Addr} {sl0 sl1 sl2 sl3 sl4 sl5 sl6 sl7 sl8 sl9 sl10 sl11 sl12 sl13 sl14 sl15 sl16 sl30 sl31 sl32 sl33 sl34 sl35 sl36 sl37 sl38 sl39 sl40 : Array (Option Value)} {oc0 kV0 dc0 pm0 cd0 ct0 oc1 kV1 dc1 pm1 cd1 ct1 oc2 kV2 dc2 pm2 cd2 ct2 oc3 kV3 dc3 pm3 cd3 ct3 oc4 kV4 dc4 pm4 cd4 ct4 oc5 kV5 dc5 pm5 cd5 ct5 oc6 kV6 dc6 pm6 cd6 ct6 oc7 kV7 dc7 pm7 cd7 ct7 oc8 kV8 dc8 pm8 cd8 ct8 oc9 kV9 dc9 pm9 cd9 ct9 oc10 kV10 dc10 pm10 cd10 ct10 oc11 kV11 dc11 pm11 cd11 ct11 oc12 kV12 dc12 pm12 cd12 ct12 oc13 kV13 dc13 pm13 cd13 ct13 oc14 kV14 dc14 pm14 cd14 ct14 oc15 kV15 dc15 pm15 cd15 ct15 oc16 kV16 dc16 pm16 cd16 ct16 oc30 kV30 dc30 pm30 cd30 ct30 oc31 kV31 dc31 pm31 cd31 ct31 oc32 kV32 dc32 pm32 cd32 ct32 oc33 kV33 dc33 pm33 cd33 ct33 oc34 kV34 dc34 pm34 cd34 ct34 oc35 kV35 dc35 pm35 cd35 ct35 oc36 kV36 dc36 pm36 cd36 ct36 oc37 kV37 dc37 pm37 cd37 ct37 oc38 kV38 dc38 pm38 cd38 ct38 oc39 kV39 dc39 pm39 cd39 ct39 oc40 kV40 dc40 pm40 cd40 ct40 : Value} {tM tP : Tok} (X : K.In h) (G : h.Ns mainGlobals mg) (hfa : mg "law" = some (.ref fa))
    (a0 : PySem.W.nsIn K mainGlobals "is_integer" = some (some (.ref f0)))
    (l0 : K.lookup f0 = some ⟨oc0, od0, .func (PySem.W.fnOf "is_integer" "is_integer" (defArgs sIsInt) (defBody sIsInt) (defScope sIsInt) .none kV0 dc0 pm0 an0 cd0 ct0), sl0⟩)
    (c0 : PySem.W.codeIn K cd0 "is_integer" = true)
    (k0 : PySem.W.keepIn K (.ref f0) = true)
    (a1 : PySem.W.nsIn K mainGlobals "is_list_of_integers" = some (some (.ref f1)))
    (l1 : K.lookup f1 = some ⟨oc1, od1, .func (PySem.W.fnOf "is_list_of_integers" "is_list_of_integers" (defArgs sIsL) (defBody sIsL) (defScope sIsL) .none kV1 dc1 pm1 an1 cd1 ct1), sl1⟩)
    (c1 : PySem.W.codeIn K cd1 "is_list_of_integers" = true)
    (k1 : PySem.W.keepIn K (.ref f1) = true)
    (a2 : PySem.W.nsIn K mainGlobals "are_parts" = some (some (.ref f2)))
    (l2 : K.lookup f2 = some ⟨oc2, od2, .func (PySem.W.fnOf "are_parts" "are_parts" (defArgs sAreP) (defBody sAreP) (defScope sAreP) .none kV2 dc2 pm2 an2 cd2 ct2), sl2⟩)
    (c2 : PySem.W.codeIn K cd2 "are_parts" = true)
    (k2 : PySem.W.keepIn K (.ref f2) = true)
    (a3 : PySem.W.nsIn K mainGlobals "scaled" = some (some (.ref f3)))
    (l3 : K.lookup f3 = some ⟨oc3, od3, .func (PySem.W.fnOf "scaled" "scaled" (defArgs sScaled) (defBody sScaled) (defScope sScaled) .none kV3 dc3 pm3 an3 cd3 ct3), sl3⟩)
    (c3 : PySem.W.codeIn K cd3 "scaled" = true)
    (k3 : PySem.W.keepIn K (.ref f3) = true)
    (a4 : PySem.W.nsIn K mainGlobals "number_word" = some (some (.ref f4)))
    (l4 : K.lookup f4 = some ⟨oc4, od4, .func (PySem.W.fnOf "number_word" "number_word" (defArgs sWord) (defBody sWord) (defScope sWord) .none kV4 dc4 pm4 an4 cd4 ct4), sl4⟩)
    (c4 : PySem.W.codeIn K cd4 "number_word" = true)
    (k4 : PySem.W.keepIn K (.ref f4) = true)
    (a5 : PySem.W.nsIn K mainGlobals "number_words" = some (some (.ref f5)))
    (l5 : K.lookup f5 = some ⟨oc5, od5, .func (PySem.W.fnOf "number_words" "number_words" (defArgs sWords) (defBody sWords) (defScope sWords) .none kV5 dc5 pm5 an5 cd5 ct5), sl5⟩)
    (c5 : PySem.W.codeIn K cd5 "number_words" = true)
    (k5 : PySem.W.keepIn K (.ref f5) = true)
    (a6 : PySem.W.nsIn K mainGlobals "_law_pen" = some (some (.ref f6)))
    (l6 : K.lookup f6 = some ⟨oc6, od6, .func (PySem.W.fnOf "_law_pen" "_law_pen" (defArgs sPen) (defBody sPen) (defScope sPen) .none kV6 dc6 pm6 an6 cd6 ct6), sl6⟩)
    (c6 : PySem.W.codeIn K cd6 "_law_pen" = true)
    (k6 : PySem.W.keepIn K (.ref f6) = true)
    (a7 : PySem.W.nsIn K mainGlobals "_law_draw" = some (some (.ref f7)))
    (l7 : K.lookup f7 = some ⟨oc7, od7, .func (PySem.W.fnOf "_law_draw" "_law_draw" (defArgs sDraw) (defBody sDraw) (defScope sDraw) .none kV7 dc7 pm7 an7 cd7 ct7), sl7⟩)
    (c7 : PySem.W.codeIn K cd7 "_law_draw" = true)
    (k7 : PySem.W.keepIn K (.ref f7) = true)
    (a8 : PySem.W.nsIn K mainGlobals "_law_pick" = some (some (.ref f8)))
    (l8 : K.lookup f8 = some ⟨oc8, od8, .func (PySem.W.fnOf "_law_pick" "_law_pick" (defArgs sPick) (defBody sPick) (defScope sPick) .none kV8 dc8 pm8 an8 cd8 ct8), sl8⟩)
    (c8 : PySem.W.codeIn K cd8 "_law_pick" = true)
    (k8 : PySem.W.keepIn K (.ref f8) = true)
    (a9 : PySem.W.nsIn K mainGlobals "_law_small" = some (some (.ref f9)))
    (l9 : K.lookup f9 = some ⟨oc9, od9, .func (PySem.W.fnOf "_law_small" "_law_small" (defArgs sSmall) (defBody sSmall) (defScope sSmall) .none kV9 dc9 pm9 an9 cd9 ct9), sl9⟩)
    (c9 : PySem.W.codeIn K cd9 "_law_small" = true)
    (k9 : PySem.W.keepIn K (.ref f9) = true)
    (a10 : PySem.W.nsIn K mainGlobals "_law_number" = some (some (.ref f10)))
    (l10 : K.lookup f10 = some ⟨oc10, od10, .func (PySem.W.fnOf "_law_number" "_law_number" (defArgs sNum) (defBody sNum) (defScope sNum) .none kV10 dc10 pm10 an10 cd10 ct10), sl10⟩)
    (c10 : PySem.W.codeIn K cd10 "_law_number" = true)
    (k10 : PySem.W.keepIn K (.ref f10) = true)
    (a11 : PySem.W.nsIn K mainGlobals "_law_common" = some (some (.ref f11)))
    (l11 : K.lookup f11 = some ⟨oc11, od11, .func (PySem.W.fnOf "_law_common" "_law_common" (defArgs sCommon) (defBody sCommon) (defScope sCommon) .none kV11 dc11 pm11 an11 cd11 ct11), sl11⟩)
    (c11 : PySem.W.codeIn K cd11 "_law_common" = true)
    (k11 : PySem.W.keepIn K (.ref f11) = true)
    (a12 : PySem.W.nsIn K mainGlobals "_law_made" = some (some (.ref f12)))
    (l12 : K.lookup f12 = some ⟨oc12, od12, .func (PySem.W.fnOf "_law_made" "_law_made" (defArgs sMade) (defBody sMade) (defScope sMade) .none kV12 dc12 pm12 an12 cd12 ct12), sl12⟩)
    (c12 : PySem.W.codeIn K cd12 "_law_made" = true)
    (k12 : PySem.W.keepIn K (.ref f12) = true)
    (a13 : PySem.W.nsIn K mainGlobals "_law_joined_right" = some (some (.ref f13)))
    (l13 : K.lookup f13 = some ⟨oc13, od13, .func (PySem.W.fnOf "_law_joined_right" "_law_joined_right" (defArgs sJoin) (defBody sJoin) (defScope sJoin) .none kV13 dc13 pm13 an13 cd13 ct13), sl13⟩)
    (c13 : PySem.W.codeIn K cd13 "_law_joined_right" = true)
    (k13 : PySem.W.keepIn K (.ref f13) = true)
    (a14 : PySem.W.nsIn K mainGlobals "_law_sides_right" = some (some (.ref f14)))
    (l14 : K.lookup f14 = some ⟨oc14, od14, .func (PySem.W.fnOf "_law_sides_right" "_law_sides_right" (defArgs sSides) (defBody sSides) (defScope sSides) .none kV14 dc14 pm14 an14 cd14 ct14), sl14⟩)
    (c14 : PySem.W.codeIn K cd14 "_law_sides_right" = true)
    (k14 : PySem.W.keepIn K (.ref f14) = true)
    (a15 : PySem.W.nsIn K mainGlobals "_law_drawn" = some (some (.ref f15)))
    (l15 : K.lookup f15 = some ⟨oc15, od15, .func (PySem.W.fnOf "_law_drawn" "_law_drawn" (defArgs sDrawn) (defBody sDrawn) (defScope sDrawn) .none kV15 dc15 pm15 an15 cd15 ct15), sl15⟩)
    (c15 : PySem.W.codeIn K cd15 "_law_drawn" = true)
    (k15 : PySem.W.keepIn K (.ref f15) = true)
    (a16 : PySem.W.nsIn K mainGlobals "law" = some (some (.ref f16)))
    (l16 : K.lookup f16 = some ⟨oc16, od16, .func (PySem.W.fnOf "law" "law" (defArgs sLaw) (defBody sLaw) (defScope sLaw) .none kV16 dc16 pm16 an16 cd16 ct16), sl16⟩)
    (c16 : PySem.W.codeIn K cd16 "law" = true)
    (k16 : PySem.W.keepIn K (.ref f16) = true)
    (aC : PySem.W.nsIn K mainGlobals "Test" = some (some (.ref C)))
    (pgC : PySem.W.plainGet K C Str.empty = true)
    (hdC : PySem.W.hasDictIn K C = true)
    (poC : PySem.W.plainOver K C = true)
    (saC : PySem.W.findIn K (.ref C) "__setattr__" = some (some (.builtin "object.__setattr__")))
    (mkC : PySem.W.makesIn K C = true)
    (kcC : PySem.W.keepIn K (.ref C) = true)
    (n0C : PySem.W.findIn K (.ref C) "parts" = some none)
    (n1C : PySem.W.findIn K (.ref C) "bound" = some none)
    (hcC : PySem.W.findIn K (.ref C) "__class__" = some (some (.builtin "object.__class__")))
    (moC : PySem.W.mroIn K C (.type "object") = some true)
    (icC : PySem.W.isClsIn K C = true)
    (ttC : PySem.W.typeIn K (.ref C) = some (.type "type"))
    (neC : PySem.W.findIn K (.ref C) "__ne__" = some (some (.builtin "object.__ne__")))
    (ikn : PySem.W.specialIn K (.builtin "object.__class__") "__get__" = some (some (.builtin "getset_descriptor.__get__")))
    (ikt : PySem.W.takesIn K (.builtin "object.__class__") = some true)
    (m30 : PySem.W.findIn K (.ref C) "__init__" = some (some (.ref f30)))
    (i30 : PySem.W.isFn K (.ref f30) = true)
    (l30 : K.lookup f30 = some ⟨oc30, od30, .func (PySem.W.fnOf "__init__" "Test.__init__" (defArgs sTInit) (defBody sTInit) (defScope sTInit) .none kV30 dc30 pm30 an30 cd30 ct30), sl30⟩)
    (c30 : PySem.W.codeIn K cd30 "Test.__init__" = true)
    (k30 : PySem.W.keepIn K (.ref f30) = true)
    (m31 : PySem.W.findIn K (.ref C) "amount" = some (some (.ref f31)))
    (i31 : PySem.W.isFn K (.ref f31) = true)
    (l31 : K.lookup f31 = some ⟨oc31, od31, .func (PySem.W.fnOf "amount" "Test.amount" (defArgs sAmount) (defBody sAmount) (defScope sAmount) .none kV31 dc31 pm31 an31 cd31 ct31), sl31⟩)
    (c31 : PySem.W.codeIn K cd31 "Test.amount" = true)
    (k31 : PySem.W.keepIn K (.ref f31) = true)
    (m32 : PySem.W.findIn K (.ref C) "__call__" = some (some (.ref f32)))
    (i32 : PySem.W.isFn K (.ref f32) = true)
    (l32 : K.lookup f32 = some ⟨oc32, od32, .func (PySem.W.fnOf "__call__" "Test.__call__" (defArgs sTCall) (defBody sTCall) (defScope sTCall) .none kV32 dc32 pm32 an32 cd32 ct32), sl32⟩)
    (c32 : PySem.W.codeIn K cd32 "Test.__call__" = true)
    (k32 : PySem.W.keepIn K (.ref f32) = true)
    (m33 : PySem.W.findIn K (.ref C) "__eq__" = some (some (.ref f33)))
    (i33 : PySem.W.isFn K (.ref f33) = true)
    (l33 : K.lookup f33 = some ⟨oc33, od33, .func (PySem.W.fnOf "__eq__" "Test.__eq__" (defArgs sTEq) (defBody sTEq) (defScope sTEq) .none kV33 dc33 pm33 an33 cd33 ct33), sl33⟩)
    (c33 : PySem.W.codeIn K cd33 "Test.__eq__" = true)
    (k33 : PySem.W.keepIn K (.ref f33) = true)
    (m34 : PySem.W.findIn K (.ref C) "__add__" = some (some (.ref f34)))
    (i34 : PySem.W.isFn K (.ref f34) = true)
    (l34 : K.lookup f34 = some ⟨oc34, od34, .func (PySem.W.fnOf "__add__" "Test.__add__" (defArgs sTAdd) (defBody sTAdd) (defScope sTAdd) .none kV34 dc34 pm34 an34 cd34 ct34), sl34⟩)
    (c34 : PySem.W.codeIn K cd34 "Test.__add__" = true)
    (k34 : PySem.W.keepIn K (.ref f34) = true)
    (m35 : PySem.W.findIn K (.ref C) "__mul__" = some (some (.ref f35)))
    (i35 : PySem.W.isFn K (.ref f35) = true)
    (l35 : K.lookup f35 = some ⟨oc35, od35, .func (PySem.W.fnOf "__mul__" "Test.__mul__" (defArgs sTMul) (defBody sTMul) (defScope sTMul) .none kV35 dc35 pm35 an35 cd35 ct35), sl35⟩)
    (c35 : PySem.W.codeIn K cd35 "Test.__mul__" = true)
    (k35 : PySem.W.keepIn K (.ref f35) = true)
    (m36 : PySem.W.findIn K (.ref C) "__rmul__" = some (some (.ref f36)))
    (i36 : PySem.W.isFn K (.ref f36) = true)
    (l36 : K.lookup f36 = some ⟨oc36, od36, .func (PySem.W.fnOf "__rmul__" "Test.__rmul__" (defArgs sTRmul) (defBody sTRmul) (defScope sTRmul) .none kV36 dc36 pm36 an36 cd36 ct36), sl36⟩)
    (c36 : PySem.W.codeIn K cd36 "Test.__rmul__" = true)
    (k36 : PySem.W.keepIn K (.ref f36) = true)
    (m37 : PySem.W.findIn K (.ref C) "__neg__" = some (some (.ref f37)))
    (i37 : PySem.W.isFn K (.ref f37) = true)
    (l37 : K.lookup f37 = some ⟨oc37, od37, .func (PySem.W.fnOf "__neg__" "Test.__neg__" (defArgs sTNeg) (defBody sTNeg) (defScope sTNeg) .none kV37 dc37 pm37 an37 cd37 ct37), sl37⟩)
    (c37 : PySem.W.codeIn K cd37 "Test.__neg__" = true)
    (k37 : PySem.W.keepIn K (.ref f37) = true)
    (m38 : PySem.W.findIn K (.ref C) "__invert__" = some (some (.ref f38)))
    (i38 : PySem.W.isFn K (.ref f38) = true)
    (l38 : K.lookup f38 = some ⟨oc38, od38, .func (PySem.W.fnOf "__invert__" "Test.__invert__" (defArgs sTInv) (defBody sTInv) (defScope sTInv) .none kV38 dc38 pm38 an38 cd38 ct38), sl38⟩)
    (c38 : PySem.W.codeIn K cd38 "Test.__invert__" = true)
    (k38 : PySem.W.keepIn K (.ref f38) = true)
    (m39 : PySem.W.findIn K (.ref C) "tight" = some (some (.ref f39)))
    (i39 : PySem.W.isFn K (.ref f39) = true)
    (l39 : K.lookup f39 = some ⟨oc39, od39, .func (PySem.W.fnOf "tight" "Test.tight" (defArgs sTight) (defBody sTight) (defScope sTight) .none kV39 dc39 pm39 an39 cd39 ct39), sl39⟩)
    (c39 : PySem.W.codeIn K cd39 "Test.tight" = true)
    (k39 : PySem.W.keepIn K (.ref f39) = true)
    (m40 : PySem.W.findIn K (.ref C) "__str__" = some (some (.ref f40)))
    (i40 : PySem.W.isFn K (.ref f40) = true)
    (l40 : K.lookup f40 = some ⟨oc40, od40, .func (PySem.W.fnOf "__str__" "Test.__str__" (defArgs sTStr) (defBody sTStr) (defScope sTStr) .none kV40 dc40 pm40 an40 cd40 ct40), sl40⟩)
    (c40 : PySem.W.codeIn K cd40 "Test.__str__" = true)
    (k40 : PySem.W.keepIn K (.ref f40) = true)
    (fi32 : PySem.W.fnIn K f32 = true)
    (sfC : PySem.W.selfFirst K C = true)
    (niC : PySem.W.mroIn K C (.type "int") = some false)
    (mrC : (PySem.W.clsIn K C).map (fun cd => cd.mro) = some [.ref C, .type "object"])
    (iaC : PySem.W.findIn K (.ref C) "__iadd__" = some none)
    (imC : PySem.W.findIn K (.ref C) "__imul__" = some none)
    (hgG : PySem.W.nsIn K mainGlobals "gcd" = some (some (.builtin "math.gcd")))
    (hgP : PySem.W.nsIn K mainGlobals "PIECE" = some (some (.int 10000000000000000000000000000000000000000000000000000000000000000 tP)))
    (hgM : PySem.W.nsIn K mainGlobals "MOST_PARTS" = some (some (.int 5 tM)))
    (zint : PySem.W.nsIn K mainGlobals "int" = some none)
    (zlen : PySem.W.nsIn K mainGlobals "len" = some none)
    (zabs : PySem.W.nsIn K mainGlobals "abs" = some none)
    (zlist : PySem.W.nsIn K mainGlobals "list" = some none)
    (zmin : PySem.W.nsIn K mainGlobals "min" = some none)
    (zmax : PySem.W.nsIn K mainGlobals "max" = some none)
    (zisinstance : PySem.W.nsIn K mainGlobals "isinstance" = some none)
    (zbool : PySem.W.nsIn K mainGlobals "bool" = some none)
    (ztuple : PySem.W.nsIn K mainGlobals "tuple" = some none)
    (zall : PySem.W.nsIn K mainGlobals "all" = some none)
    (zrange : PySem.W.nsIn K mainGlobals "range" = some none)
    (zrepr : PySem.W.nsIn K mainGlobals "repr" = some none)
    (zsum : PySem.W.nsIn K mainGlobals "sum" = some none)
    (zzip : PySem.W.nsIn K mainGlobals "zip" = some none)
    (zstr : PySem.W.nsIn K mainGlobals "str" = some none) :
    ∃ fd : FuncData, (∀ (s : Shared) (v : Value), BindsTo s fd ⟨[v], []⟩ [("_law_script", v)]) ∧ ∀ base : Heap, K.In base → base.Ns mainGlobals mg → FnG l.prog w K mg base 9 fa fd ["_law_script"] (spLaw K) := by
  have e := hfa.symm.trans (PySem.W.mg_of X G a16)
  cases e
  have F0 := fun_mk (st := sIsInt) l0 c0 k0
  have b0 := F0.binds (ps := ["value"]) fun _ _ _ _ _ _ us hl => match us, hl with | [_], _ => rfl
  have F1 := fun_mk (st := sIsL) l1 c1 k1
  have b1 := F1.binds (ps := ["value"]) fun _ _ _ _ _ _ us hl => match us, hl with | [_], _ => rfl
  have F2 := fun_mk (st := sAreP) l2 c2 k2
  have b2 := F2.binds (ps := ["value"]) fun _ _ _ _ _ _ us hl => match us, hl with | [_], _ => rfl
  have F3 := fun_mk (st := sScaled) l3 c3 k3
  have b3 := F3.binds (ps := ["test", "number"]) fun _ _ _ _ _ _ us hl => match us, hl with | [_, _], _ => rfl
  have F4 := fun_mk (st := sWord) l4 c4 k4
  have b4 := F4.binds (ps := ["number"]) fun _ _ _ _ _ _ us hl => match us, hl with | [_], _ => rfl
  have F5 := fun_mk (st := sWords) l5 c5 k5
  have b5 := F5.binds (ps := ["numbers"]) fun _ _ _ _ _ _ us hl => match us, hl with | [_], _ => rfl
  have F6 := fun_mk (st := sPen) l6 c6 k6
  have b6 := F6.binds (ps := ["_law_script"]) fun _ _ _ _ _ _ us hl => match us, hl with | [_], _ => rfl
  have F7 := fun_mk (st := sDraw) l7 c7 k7
  have b7 := F7.binds (ps := ["_law_pen_here", "_law_top_so"]) fun _ _ _ _ _ _ us hl => match us, hl with | [_, _], _ => rfl
  have F8 := fun_mk (st := sPick) l8 c8 k8
  have b8 := F8.binds (ps := ["_law_pen_here", "_law_some"]) fun _ _ _ _ _ _ us hl => match us, hl with | [_, _], _ => rfl
  have F9 := fun_mk (st := sSmall) l9 c9 k9
  have b9 := F9.binds (ps := ["_law_pen_here", "_law_most_so"]) fun _ _ _ _ _ _ us hl => match us, hl with | [_, _], _ => rfl
  have F10 := fun_mk (st := sNum) l10 c10 k10
  have b10 := F10.binds (ps := ["_law_pen_here"]) fun _ _ _ _ _ _ us hl => match us, hl with | [_], _ => rfl
  have F11 := fun_mk (st := sCommon) l11 c11 k11
  have b11 := F11.binds (ps := ["_law_one", "_law_other"]) fun _ _ _ _ _ _ us hl => match us, hl with | [_, _], _ => rfl
  have F12 := fun_mk (st := sMade) l12 c12 k12
  have b12 := F12.binds (ps := ["_law_some"]) fun _ _ _ _ _ _ us hl => match us, hl with | [_], _ => rfl
  have F13 := fun_mk (st := sJoin) l13 c13 k13
  have b13 := F13.binds (ps := ["_law_pen_here", "_law_one_so", "_law_other_so"]) fun _ _ _ _ _ _ us hl => match us, hl with | [_, _, _], _ => rfl
  have F14 := fun_mk (st := sSides) l14 c14 k14
  have b14 := F14.binds (ps := ["_law_pen_here", "_law_some"]) fun _ _ _ _ _ _ us hl => match us, hl with | [_, _], _ => rfl
  have F15 := fun_mk (st := sDrawn) l15 c15 k15
  have b15 := F15.binds (ps := ["_law_pen_here", "_law_many"]) fun _ _ _ _ _ _ us hl => match us, hl with | [_, _], _ => rfl
  have F16 := fun_mk (st := sLaw) l16 c16 k16
  have b16 := F16.binds (ps := ["_law_script"]) fun _ _ _ _ _ _ us hl => match us, hl with | [_], _ => rfl
  have F30 := fun_mk (st := sTInit) l30 c30 k30
  have b30 := F30.binds (ps := ["self", "parts", "bound"]) fun _ _ _ _ _ _ us hl => match us, hl with | [_, _, _], _ => rfl
  have F31 := fun_mk (st := sAmount) l31 c31 k31
  have b31 := F31.binds (ps := ["self", "numbers"]) fun _ _ _ _ _ _ us hl => match us, hl with | [_, _], _ => rfl
  have F32 := fun_mk (st := sTCall) l32 c32 k32
  have b32 := F32.binds (ps := ["self", "numbers"]) fun _ _ _ _ _ _ us hl => match us, hl with | [_, _], _ => rfl
  have F33 := fun_mk (st := sTEq) l33 c33 k33
  have b33 := F33.binds (ps := ["self", "other"]) fun _ _ _ _ _ _ us hl => match us, hl with | [_, _], _ => rfl
  have F34 := fun_mk (st := sTAdd) l34 c34 k34
  have b34 := F34.binds (ps := ["self", "other"]) fun _ _ _ _ _ _ us hl => match us, hl with | [_, _], _ => rfl
  have F35 := fun_mk (st := sTMul) l35 c35 k35
  have b35 := F35.binds (ps := ["self", "other"]) fun _ _ _ _ _ _ us hl => match us, hl with | [_, _], _ => rfl
  have F36 := fun_mk (st := sTRmul) l36 c36 k36
  have b36 := F36.binds (ps := ["self", "other"]) fun _ _ _ _ _ _ us hl => match us, hl with | [_, _], _ => rfl
  have F37 := fun_mk (st := sTNeg) l37 c37 k37
  have b37 := F37.binds (ps := ["self"]) fun _ _ _ _ _ _ us hl => match us, hl with | [_], _ => rfl
  have F38 := fun_mk (st := sTInv) l38 c38 k38
  have b38 := F38.binds (ps := ["self"]) fun _ _ _ _ _ _ us hl => match us, hl with | [_], _ => rfl
  have F39 := fun_mk (st := sTight) l39 c39 k39
  have b39 := F39.binds (ps := ["self"]) fun _ _ _ _ _ _ us hl => match us, hl with | [_], _ => rfl
  have F40 := fun_mk (st := sTStr) l40 c40 k40
  have b40 := F40.binds (ps := ["self"]) fun _ _ _ _ _ _ us hl => match us, hl with | [_], _ => rfl
  have T : Blt mg := ⟨PySem.W.mg_none_of X G zint, PySem.W.mg_none_of X G zlen, PySem.W.mg_none_of X G zabs, PySem.W.mg_none_of X G zlist, PySem.W.mg_none_of X G zmin, PySem.W.mg_none_of X G zmax, PySem.W.mg_none_of X G zisinstance, PySem.W.mg_none_of X G zbool, PySem.W.mg_none_of X G ztuple, PySem.W.mg_none_of X G zall, PySem.W.mg_none_of X G zrange, PySem.W.mg_none_of X G zrepr⟩
  have TC : TCls K C := ⟨⟨pgC, hdC, poC, saC⟩, n0C, n1C⟩
  have IT : InsT K C := ⟨hcC, ikn, ikt, moC, icC, ttC⟩
  refine ⟨PySem.W.fnOf "law" "law" (defArgs sLaw) (defBody sLaw) (defScope sLaw) .none kV16 dc16 pm16 an16 cd16 ct16, fun s v => .of_eq rfl, fun base _ _ => ?_⟩
  have d0 : Df l.prog w K mg base 1 "is_integer" ["value"] _ := ⟨f0, _, ok_isInt F0 T, PySem.W.mg_of X G a0, F0.kp, b0⟩
  have d1 : Df l.prog w K mg base 2 "is_list_of_integers" ["value"] _ := ⟨f1, _, ok_isL F1 T d0, PySem.W.mg_of X G a1, F1.kp, b1⟩
  have d2 : Df l.prog w K mg base 3 "are_parts" ["value"] _ := ⟨f2, _, ok_areP F2 T d1 (PySem.W.mg_of X G hgM), PySem.W.mg_of X G a2, F2.kp, b2⟩
  have GI := ok_tInit (P := l.prog) (w := w) (mg := mg) (base := base) F30 T TC d2 d0
  have MK : TMk l.prog w K mg base C := ⟨TC, IT, PySem.W.mg_of X G aC, ⟨_, _, ⟨mkC, m30, i30, kcC⟩, GI, b30⟩⟩
  have GA := ok_amount (P := l.prog) (w := w) (mg := mg) (base := base) F31 T (PySem.W.mg_none_of X G zsum) (PySem.W.mg_none_of X G zzip) TC d1
  have mA : Meth K C "amount" f31 := ⟨m31, i31, k31⟩
  have GC := ok_tCall (P := l.prog) (w := w) (mg := mg) (base := base) F32 TC GA b31 mA
  have GE := ok_tEq (P := l.prog) (w := w) (mg := mg) (base := base) F33 T TC IT (PySem.W.mg_of X G aC)
  have d3 : Df l.prog w K mg base 6 "scaled" ["test", "number"] _ := ⟨f3, _, ok_scaled F3 MK d0, PySem.W.mg_of X G a3, F3.kp, b3⟩
  have d4 : Df l.prog w K mg base 1 "number_word" ["number"] _ := ⟨f4, _, ok_word F4 (PySem.W.mg_none_of X G zstr) (PySem.W.mg_of X G hgP), PySem.W.mg_of X G a4, F4.kp, b4⟩
  have d5 : Df l.prog w K mg base 2 "number_words" ["numbers"] _ := ⟨f5, _, ok_words F5 d4, PySem.W.mg_of X G a5, F5.kp, b5⟩
  have GP := ok_tAdd (P := l.prog) (w := w) (mg := mg) (base := base) F34 T (PySem.W.mg_none_of X G zzip) MK
  have GM := ok_tMul (P := l.prog) (w := w) (mg := mg) (base := base) F35 d3
  have GR := ok_tRmul (P := l.prog) (w := w) (mg := mg) (base := base) F36 d3
  have GN := ok_tNeg (P := l.prog) (w := w) (mg := mg) (base := base) F37 MK
  have GV := ok_tInv (P := l.prog) (w := w) (mg := mg) (base := base) F38 MK
  have GT := ok_tTight (P := l.prog) (w := w) (mg := mg) (base := base) F39 (PySem.W.mg_of X G hgG) MK
  have GS := ok_tStr (P := l.prog) (w := w) (mg := mg) (base := base) F40 TC d4 d5
  have mro : ∃ cd, PySem.W.clsIn K C = some cd ∧ cd.mro = [.ref C, .type "object"] := by
    cases z : PySem.W.clsIn K C with
    | none => rw [z] at mrC; cases mrC
    | some cd => rw [z] at mrC; exact ⟨cd, rfl, Option.some.inj mrC⟩
  have OO : OpsO K C f34 f35 f36 := ⟨sfC, m34, i34, m35, i35, m36, i36, niC, mro, iaC, imC⟩
  have TM : TMeth l.prog w K mg base C := ⟨MK, ⟨_, _, GA, b31, mA⟩, ⟨_, fnr_of GC b32, ⟨m32, i32, fi32⟩⟩, ⟨_, fnr_of GE b33, m33, i33⟩, neC, ⟨_, _, _, OO, fnr_of GP b34, fnr_of GM b35, fnr_of GR b36⟩, ⟨_, fnr_of GN b37, m37, i37⟩, ⟨_, fnr_of GV b38, m38, i38⟩, ⟨_, _, GT, b39, ⟨m39, i39, k39⟩⟩⟩
  have d6 : Df l.prog w K mg base 1 "_law_pen" ["_law_script"] _ := ⟨f6, _, ok_pen F6 T, PySem.W.mg_of X G a6, F6.kp, b6⟩
  have d7 : Df l.prog w K mg base 1 "_law_draw" ["_law_pen_here", "_law_top_so"] _ := ⟨f7, _, ok_draw F7 T, PySem.W.mg_of X G a7, F7.kp, b7⟩
  have d8 : Df l.prog w K mg base 2 "_law_pick" ["_law_pen_here", "_law_some"] _ := ⟨f8, _, ok_pick F8 T d7, PySem.W.mg_of X G a8, F8.kp, b8⟩
  have d9 : Df l.prog w K mg base 2 "_law_small" ["_law_pen_here", "_law_most_so"] _ := ⟨f9, _, ok_small F9 d7, PySem.W.mg_of X G a9, F9.kp, b9⟩
  have d10 : Df l.prog w K mg base 3 "_law_number" ["_law_pen_here"] _ := ⟨f10, _, ok_num F10 d9 d8, PySem.W.mg_of X G a10, F10.kp, b10⟩
  have d11 : Df l.prog w K mg base 1 "_law_common" ["_law_one", "_law_other"] _ := ⟨f11, _, ok_common F11 T, PySem.W.mg_of X G a11, F11.kp, b11⟩
  have d12 : Df l.prog w K mg base 6 "_law_made" ["_law_some"] _ := ⟨f12, _, ok_made F12 T MK, PySem.W.mg_of X G a12, F12.kp, b12⟩
  have d13 : Df l.prog w K mg base 8 "_law_joined_right" ["_law_pen_here", "_law_one_so", "_law_other_so"] _ := ⟨f13, _, ok_join F13 T TM d7 d8 d12, PySem.W.mg_of X G a13, F13.kp, b13⟩
  have d15 : Df l.prog w K mg base 4 "_law_drawn" ["_law_pen_here", "_law_many"] _ := ⟨f15, _, ok_drawn F15 T d8 d9 d10, PySem.W.mg_of X G a15, F15.kp, b15⟩
  have GD := ok_sides (P := l.prog) (w := w) (mg := mg) (base := base) F14 T TM d9 d11 d12
  exact ok_law F16 T (PySem.W.mg_none_of X G zstr) TM (fnr_of GS b40) m40 i40 d6 d7 d15 d13 GD (PySem.W.mg_of X G a14) F14.kp b14
end Ev
open PySem PySem.W PyProof.Rows
set_option maxRecDepth 100000 in
set_option maxHeartbeats 0 in
theorem PySem.Challenge.cw_evenrules_k04_tests_added_and_turned_holds : PySem.Challenge.rw_evenrules_k04_tests_added_and_turned.Holds := by
  exact hd (by
    k_fill
    refine Ev.walk_ofG (l := PySem.Challenge.rw_evenrules_k04_tests_added_and_turned) (n := 63) (k := 9) (x := "_law_script") (sp := fun w => Ev.spLaw _) rfl (by decide) rfl ⟨rfl, by decide, by decide⟩ (fun w h Y => PySem.W.kIn_of Y) ?F (fun _ _ a ns hl hS => ⟨a, ns, rfl, hS, hl, fun _ => rfl⟩)
    case F =>
      intro w mg fa h KX G hmg
      refine' Ev.all_mk KX G hmg ?a0 ?l0 ?c0 ?k0 ?a1 ?l1 ?c1 ?k1 ?a2 ?l2 ?c2 ?k2 ?a3 ?l3 ?c3 ?k3 ?a4 ?l4 ?c4 ?k4 ?a5 ?l5 ?c5 ?k5 ?a6 ?l6 ?c6 ?k6 ?a7 ?l7 ?c7 ?k7 ?a8 ?l8 ?c8 ?k8 ?a9 ?l9 ?c9 ?k9 ?a10 ?l10 ?c10 ?k10 ?a11 ?l11 ?c11 ?k11 ?a12 ?l12 ?c12 ?k12 ?a13 ?l13 ?c13 ?k13 ?a14 ?l14 ?c14 ?k14 ?a15 ?l15 ?c15 ?k15 ?a16 ?l16 ?c16 ?k16 ?aC ?pgC ?hdC ?poC ?saC ?mkC ?kcC ?n0C ?n1C ?hcC ?moC ?icC ?ttC ?neC ?ikn ?ikt ?m30 ?i30 ?l30 ?c30 ?k30 ?m31 ?i31 ?l31 ?c31 ?k31 ?m32 ?i32 ?l32 ?c32 ?k32 ?m33 ?i33 ?l33 ?c33 ?k33 ?m34 ?i34 ?l34 ?c34 ?k34 ?m35 ?i35 ?l35 ?c35 ?k35 ?m36 ?i36 ?l36 ?c36 ?k36 ?m37 ?i37 ?l37 ?c37 ?k37 ?m38 ?i38 ?l38 ?c38 ?k38 ?m39 ?i39 ?l39 ?c39 ?k39 ?m40 ?i40 ?l40 ?c40 ?k40 ?fi32 ?sfC ?niC ?mrC ?iaC ?imC ?hgG ?hgP ?hgM ?zint ?zlen ?zabs ?zlist ?zmin ?zmax ?zisinstance ?zbool ?ztuple ?zall ?zrange ?zrepr ?zsum ?zzip ?zstr
      (case a0 => k_is)
      (case l0 => k_is)
      (case c0 => k_is)
      (case k0 => k_is)
      (case a1 => k_is)
      (case l1 => k_is)
      (case c1 => k_is)
      (case k1 => k_is)
      (case a2 => k_is)
      (case l2 => k_is)
      (case c2 => k_is)
      (case k2 => k_is)
      (case a3 => k_is)
      (case l3 => k_is)
      (case c3 => k_is)
      (case k3 => k_is)
      (case a4 => k_is)
      (case l4 => k_is)
      (case c4 => k_is)
      (case k4 => k_is)
      (case a5 => k_is)
      (case l5 => k_is)
      (case c5 => k_is)
      (case k5 => k_is)
      (case a6 => k_is)
      (case l6 => k_is)
      (case c6 => k_is)
      (case k6 => k_is)
      (case a7 => k_is)
      (case l7 => k_is)
      (case c7 => k_is)
      (case k7 => k_is)
      (case a8 => k_is)
      (case l8 => k_is)
      (case c8 => k_is)
      (case k8 => k_is)
      (case a9 => k_is)
      (case l9 => k_is)
      (case c9 => k_is)
      (case k9 => k_is)
      (case a10 => k_is)
      (case l10 => k_is)
      (case c10 => k_is)
      (case k10 => k_is)
      (case a11 => k_is)
      (case l11 => k_is)
      (case c11 => k_is)
      (case k11 => k_is)
      (case a12 => k_is)
      (case l12 => k_is)
      (case c12 => k_is)
      (case k12 => k_is)
      (case a13 => k_is)
      (case l13 => k_is)
      (case c13 => k_is)
      (case k13 => k_is)
      (case a14 => k_is)
      (case l14 => k_is)
      (case c14 => k_is)
      (case k14 => k_is)
      (case a15 => k_is)
      (case l15 => k_is)
      (case c15 => k_is)
      (case k15 => k_is)
      (case a16 => k_is)
      (case l16 => k_is)
      (case c16 => k_is)
      (case k16 => k_is)
      (case aC => k_is)
      (case pgC => k_is)
      (case hdC => k_is)
      (case poC => k_is)
      (case saC => k_is)
      (case mkC => k_is)
      (case kcC => k_is)
      (case n0C => k_is)
      (case n1C => k_is)
      (case hcC => k_is)
      (case moC => k_is)
      (case icC => k_is)
      (case ttC => k_is)
      (case neC => k_is)
      (case ikn => k_is)
      (case ikt => k_is)
      (case m30 => k_is)
      (case i30 => k_is)
      (case l30 => k_is)
      (case c30 => k_is)
      (case k30 => k_is)
      (case m31 => k_is)
      (case i31 => k_is)
      (case l31 => k_is)
      (case c31 => k_is)
      (case k31 => k_is)
      (case m32 => k_is)
      (case i32 => k_is)
      (case l32 => k_is)
      (case c32 => k_is)
      (case k32 => k_is)
      (case m33 => k_is)
      (case i33 => k_is)
      (case l33 => k_is)
      (case c33 => k_is)
      (case k33 => k_is)
      (case m34 => k_is)
      (case i34 => k_is)
      (case l34 => k_is)
      (case c34 => k_is)
      (case k34 => k_is)
      (case m35 => k_is)
      (case i35 => k_is)
      (case l35 => k_is)
      (case c35 => k_is)
      (case k35 => k_is)
      (case m36 => k_is)
      (case i36 => k_is)
      (case l36 => k_is)
      (case c36 => k_is)
      (case k36 => k_is)
      (case m37 => k_is)
      (case i37 => k_is)
      (case l37 => k_is)
      (case c37 => k_is)
      (case k37 => k_is)
      (case m38 => k_is)
      (case i38 => k_is)
      (case l38 => k_is)
      (case c38 => k_is)
      (case k38 => k_is)
      (case m39 => k_is)
      (case i39 => k_is)
      (case l39 => k_is)
      (case c39 => k_is)
      (case k39 => k_is)
      (case m40 => k_is)
      (case i40 => k_is)
      (case l40 => k_is)
      (case c40 => k_is)
      (case k40 => k_is)
      (case fi32 => k_is)
      (case sfC => k_is)
      (case niC => k_is)
      (case mrC => first | k_is | rfl | decide +kernel)
      (case iaC => k_is)
      (case imC => k_is)
      (case hgG => k_is)
      (case hgP => k_is)
      (case hgM => k_is)
      (case zint => k_is)
      (case zlen => k_is)
      (case zabs => k_is)
      (case zlist => k_is)
      (case zmin => k_is)
      (case zmax => k_is)
      (case zisinstance => k_is)
      (case zbool => k_is)
      (case ztuple => k_is)
      (case zall => k_is)
      (case zrange => k_is)
      (case zrepr => k_is)
      (case zsum => k_is)
      (case zzip => k_is)
      (case zstr => k_is))
