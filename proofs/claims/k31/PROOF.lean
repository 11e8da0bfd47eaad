import PyProof.Rows.All
import Wide.All
import OpenK.AllK
import Wide.FinOn
import HandS.ForMost
import HandS.Wide
import HandS.Codes
import HandS.IsInst
import HandS.Defaults
import HandS.MakeKw
import HandS.MakeKwOnly
import HandS.ClsMeth
import HandS.TupAny
import HandS.Style
import HandS.Zip
import HandS.Conv
import HandS.WideBits
import HandS.Walk
import HandS.Iter
import PySem.Challenge.RW_evenrules_k31_tall_shapes_and_halves
open PySem PySem.W PyProof.Rows
set_option Elab.async false
set_option linter.all false
set_option maxRecDepth 100000 in
set_option maxHeartbeats 0 in
open_top hd for PySem.Challenge.rw_evenrules_k31_tall_shapes_and_halves
set_option maxRecDepth 100000
set_option maxHeartbeats 4000000
namespace Ev
open PySem L2
def top (i : Nat) : Stmt := PySem.Challenge.pw_evenrules_k31_tall_shapes_and_halves.main.body.getD i (.Pass ⟨0, 0, 0, 0⟩)
abbrev sDraw : Stmt := top 67
/-- all that was tracked is as it was, but at p -/
def But (p : Addr) (H H' : Hp) : Prop := ∀ b o, b ≠ p → H b = some o → H' b = some o
theorem But.refl (p : Addr) (H : Hp) : But p H H := fun _ _ _ e => e
theorem But.trans {p : Addr} {H H1 H2 : Hp} (a : But p H H1) (b : But p H1 H2) : But p H H2 := fun c o n e => b c o n (a c o n e)
theorem Same.but {p : Addr} {H H' : Hp} (a : Same H H') : But p H H' := fun c o _ e => a c o e
theorem But.upd_new {p q : Addr} {H : Hp} {o : HO} (h : H q = none) : But p H (upd H q o) := fun b u _ e => by
  rw [upd_ne (ne_of_none e h)]; exact e
theorem But.upd_at {p : Addr} {H : Hp} {o : HO} : But p H (upd H p o) := fun b u n e => by
  rw [upd_ne n]; exact e
/-- the pen: a list of a list of ints, how often it was asked, and a rest -/
def Pen (L : Addr) (H : Hp) (p : Addr) (B : Int) : Prop := ∃ (ns : List Int) (turn carry : Int),
  H p = some (.lst [.ref L, .int turn, .int carry]) ∧ H L = some (.lst (ns.map V.int)) ∧ L ≠ p ∧ ns.length ≤ 63 ∧ 0 ≤ turn ∧ turn ≤ B ∧ 0 ≤ carry
theorem Pen.keep {L : Addr} {H H' : Hp} {p : Addr} {B : Int} (h : Pen L H p B) (k : Same H H') : Pen L H' p B := by
  obtain ⟨ns, t, c, h1, h2, h3, h4, h5, h6, h7⟩ := h
  exact ⟨ns, t, c, k _ _ h1, k _ _ h2, h3, h4, h5, h6, h7⟩
theorem Pen.mono {L : Addr} {H : Hp} {p : Addr} {B B' : Int} (h : Pen L H p B) (k : B ≤ B') : Pen L H p B' := by
  obtain ⟨ns, t, c, h1, h2, h3, h4, h5, h6, h7⟩ := h
  exact ⟨ns, t, c, h1, h2, h3, h4, h5, by omega, h7⟩
def spDraw : Sp := fun vs H Q _ => ∃ (p L : Addr) (m B : Int), vs = [.ref p, .int m] ∧ 1 ≤ m ∧ m ≤ 100000000000000000000000000000 ∧ B ≤ 1000000 ∧ Pen L H p B ∧
  ∀ (d : Int) (H' : Hp), But p H H' → Pen L H' p (B + 1) → 0 ≤ d → d < m → Q (.int d) H'
theorem dpInts {K : PySem.W.Frag} {H : Hp} : ∀ ns : List Int, DpAll K H (ns.map V.int) (ns.map PyData.int)
  | [] => .nil
  | n :: r => .cons (.int n) (dpInts r)
theorem sh_ints (ns : List Int) : SeqAt.shaped (.list (ns.map PyData.int)) = true := by
  have h1 : ∀ ns : List Int, PyData.canLayAll0 (ns.map PyData.int) = true := by
    intro ns
    induction ns with
    | nil => rfl
    | cons n r ih => simp [PyData.canLayAll0, PyData.canLay0, ih]
  have h2 : ∀ ns : List Int, PyData.depthAll (ns.map PyData.int) ≤ 1 := by
    intro ns
    induction ns with
    | nil => simp [PyData.depthAll]
    | cons n r ih => simp [PyData.depthAll, PyData.depth]; omega
  unfold SeqAt.shaped
  rw [Bool.and_eq_true]
  refine ⟨by simp [PyData.canLay0, h1], decide_eq_true ?_⟩
  have := h2 ns
  simp [PyData.depth]; omega
theorem eqv_nil (ns : List Int) : PyData.eqv (.list (ns.map PyData.int)) (.list []) = ns.isEmpty := by
  cases ns <;> simp [PyData.eqv, PyData.eqvAll]
section
variable {P : Program} {w : World} {K : PySem.W.Frag} {mg : Str → Option Value} {base : Heap}
/-- built-ins that the program does not cover -/
structure Blt (mg : Str → Option Value) : Prop where
  int : mg "int" = none
  len : mg "len" = none
  abs : mg "abs" = none
  list : mg "list" = none
  min : mg "min" = none
  max : mg "max" = none
  isi : mg "isinstance" = none
  bool : mg "bool" = none
  tuple : mg "tuple" = none
  all : mg "all" = none
  range : mg "range" = none
  repr : mg "repr" = none
theorem scD : FnScope ["_law_pen_here", "_law_many", "_law_digit", "_law_at", "_law_cell", "_law_great", "_law_mixed"] ["_law_pen_here", "_law_many"] (defScope sDraw) := ⟨rfl, rfl, rfl, by decide +kernel, rfl, by decide +kernel, by decide +kernel⟩
theorem fmod_lo (a : Int) {m : Int} (h : 1 ≤ m) : 0 ≤ a.fmod m := by rw [Int.fmod_eq_emod_of_nonneg a (by omega)]; exact Int.emod_nonneg a (by omega)
theorem fmod_hi (a : Int) {m : Int} (h : 1 ≤ m) : a.fmod m < m := by rw [Int.fmod_eq_emod_of_nonneg a (by omega)]; exact Int.emod_lt_of_pos a (by omega)
theorem fdiv_lo {a m : Int} (h : 1 ≤ m) (h0 : 0 ≤ a) : 0 ≤ a.fdiv m := by rw [Int.fdiv_eq_ediv_of_nonneg a (by omega)]; exact Int.ediv_nonneg h0 (by omega)
theorem cell_at {ns : List Int} (h : ns ≠ []) (t : Int) : ∃ c : Int, atI (ns.map V.int) (t.fmod (((ns.map V.int).length : Nat) : Int)) = some (V.int c) := by
  rw [List.length_map]
  have l : 0 < ns.length := List.length_pos_iff.mpr h
  have h1 : 0 ≤ t.fmod (ns.length : Int) := fmod_lo t (by omega)
  have h2 : t.fmod (ns.length : Int) < ns.length := fmod_hi t (by omega)
  generalize t.fmod (ns.length : Int) = i at h1 h2
  obtain ⟨j, rfl⟩ := Int.eq_ofNat_of_zero_le h1
  have hj : j < ns.length := by omega
  exact ⟨ns[j], atI_nat (by rw [List.getElem?_map, List.getElem?_eq_getElem hj]; rfl)⟩
theorem mul_le_of {a b A B : Int} (a0 : 0 ≤ a) (b0 : 0 ≤ b) (ha : a ≤ A) (hb : b ≤ B) : 0 ≤ a * b ∧ a * b ≤ A * B :=
  ⟨Int.mul_nonneg a0 b0, Int.mul_le_mul ha hb b0 (by omega)⟩
theorem bound1 (c : Int) {M C D t : Int} (hM : 1 ≤ M) (hM2 : M ≤ 4294967296) (hC : 0 ≤ C ∧ C ≤ 1000000) (hD : 0 ≤ D ∧ D ≤ 1000000) (h0 : 0 ≤ t) (h1 : t ≤ 1000000) : (c.fmod M + C * t + D).natAbs < 2 ^ 64 := by
  have a1 := fmod_lo c hM
  have a2 := fmod_hi c hM
  have ⟨a3, a4⟩ := mul_le_of hC.1 h0 hC.2 h1
  omega
theorem bound2 {x C5 C6 C7 t : Int} (hx : 0 ≤ x ∧ x < 4294967296) (h5 : 0 ≤ C5 ∧ C5 ≤ 1000000) (h6 : 0 ≤ C6 ∧ C6 ≤ 1000000) (h7 : 0 ≤ C7 ∧ C7 ≤ 1000000) (h0 : 0 ≤ t) (h1 : t ≤ 1000000) :
    (x * (2 * t + C5) + C6 * t * t + C7).natAbs < 2 ^ 64 := by
  have ⟨a1, a2⟩ := mul_le_of (b := 2 * t + C5) (A := 4294967296) (B := 3000000) hx.1 (by omega) (by omega) (by omega)
  have ⟨a3, a4⟩ := mul_le_of h6.1 h0 h6.2 h1
  have ⟨a5, a6⟩ := mul_le_of a3 h0 a4 h1
  omega
theorem great_nn {c e : Int} (h : e ≤ (if c < 0 then -c else c)) (b : Bool) : 0 ≤ 2 * ((if c < 0 then -c else c) - e) + (if b = true then 1 else 0) := by
  cases b
  · rw [if_neg Bool.false_ne_true]; omega
  · rw [if_pos rfl]; omega
theorem lt64 {x : Int} (h : 0 ≤ x ∧ x < 4294967296) : -(2 ^ 64) < x ∧ x < 2 ^ 64 := ⟨by omega, by omega⟩
theorem nz {M : Int} (h : 0 < M) : M ≠ 0 := by omega
theorem divW {i m : Int} (h : 1 ≤ m) (h2 : m ≤ 100000000000000000000000000000) : CDivW i m := wide_div (b := 97) (by omega) (by omega) (by decide) (by decide)
theorem ediv_lo {a m : Int} (h : 1 ≤ m) (h0 : 0 ≤ a) : 0 ≤ a / m := Int.ediv_nonneg h0 (by omega)
theorem ok_draw {f : Addr} {fd : FuncData} (F : Fun K "_law_draw" "_law_draw" sDraw f fd) (T : Blt mg) : FnOk P w K mg base CX0 1 f fd ["_law_pen_here", "_law_many"] spDraw := by
  refine F.ok scD (fun vs H Q E h => ?_) (fun cdv A outer s H vs Q E hr h => ?_)
  · obtain ⟨p, L, m, B, rfl, _⟩ := h
    rfl
  · obtain ⟨p, L, m, B, rfl, hm, hm2, hB, ⟨ns, tn, ca, hp, hL, Lp, hlen, t0, tB, c0⟩, k⟩ := h
    have hu := hu_of hr
    refine ⟨_, pss_cons (ps_if (pt_cmpR op_gt (pe_ix ix_list (pv 0) pe_int (fun _ _ => rfl)) pe_int (nomark _))
        (pss_cons (ps_set (i := 2) scD.nd rfl (.inl rfl) (pe_op op_modN (pe_callTy call_int1 (by rfl) T.int (by decide +kernel) (pa_cons (pe_ix ix_list (pv 0) pe_int (fun _ _ => rfl)) pa_nil)) (pv 1)))
        (pss_cons (ps_asg (pe_op op_fdivW (pe_callTy call_int1 (by rfl) T.int (by decide +kernel) (pa_cons (pe_ix ix_list (pv 0) pe_int (fun _ _ => rfl)) pa_nil)) (pv 1)) (pg_sub (pv 0) pe_int set_list))
        (pss_one (ps_ret (pv 2))))) pss_nil)
      (pss_cons (ps_set (i := 3) scD.nd rfl (.inl rfl) (pe_ix ix_list (pv 0) pe_int (fun _ _ => rfl)))
      (pss_cons (ps_asg (pe_op op_add (pv 3) pe_int) (pg_sub (pv 0) pe_int set_list))
      (pss_cons (ps_set (i := 4) scD.nd rfl (.inl rfl) (pe_op op_add (pe_op op_mul pe_int (pv 3)) pe_int))
      (pss_cons (ps_if (pt_cmpR (op_neD hr.units) (pe_ix ix_list (pv 0) pe_int (fun _ _ => rfl)) (pe_lst pa_nil) (nomark _))
        (pss_one (ps_set (i := 4) scD.nd rfl (.inl rfl) (pe_ix ix_list (pe_ix ix_list (pv 0) pe_int (fun _ _ => rfl))
          (pe_op op_modN (pe_callTy call_int1 (by rfl) T.int (by decide +kernel) (pa_cons (pv 3) pa_nil)) (pe_callB call_len_seq (by rfl) T.len PySem.boot_len (pa_cons (pe_ix ix_list (pv 0) pe_int (fun _ _ => rfl)) pa_nil))) (fun _ _ => rfl)))) pss_nil)
      (pss_cons (ps_if (PW.pt (pw_and (pt_cmpR op_lt (pv 3) (pe_callB call_len_seq (by rfl) T.len PySem.boot_len (pa_cons (pe_ix ix_list (pv 0) pe_int (fun _ _ => rfl)) pa_nil)) (nomark _))
          (pw_and1 (pt_cmpR op_ge (pe_callB call_abs (by rfl) T.abs (by decide +kernel) (pa_cons (pv 4) pa_nil)) (pe_op op_pow pe_int pe_int) (nomark _)))))
        (pss_cons (ps_set (i := 5) scD.nd rfl (.inl rfl) (pe_op op_add (pe_op op_mul pe_int (pe_op op_sub (pe_callB call_abs (by rfl) T.abs (by decide +kernel) (pa_cons (pv 4) pa_nil)) (pe_op op_pow pe_int pe_int)))
            (pe_callTy call_int1 (by rfl) T.int (by decide +kernel) (pa_cons (pe_cmpR op_lt (pv 4) pe_int (nomark _)) pa_nil))))
        (pss_cons (ps_asg (pe_op op_fdivW (pe_callTy call_int1 (by rfl) T.int (by decide +kernel) (pa_cons (pv 5) pa_nil)) (pv 1)) (pg_sub (pv 0) pe_int set_list))
        (pss_one (ps_ret (pe_op op_modN (pe_callTy call_int1 (by rfl) T.int (by decide +kernel) (pa_cons (pv 5) pa_nil)) (pv 1)))))) pss_nil)
      (pss_cons (ps_set (i := 6) scD.nd rfl (.inl rfl) (pe_op op_modN (pe_callTy call_int1 (by rfl) T.int (by decide +kernel) (pa_cons (pe_op op_pow (pe_op op_add (pe_op op_add
          (pe_op op_modN (pe_callTy call_int1 (by rfl) T.int (by decide +kernel) (pa_cons (pv 4) pa_nil)) pe_int) (pe_op op_mul pe_int (pv 3))) pe_int) pe_int) pa_nil)) pe_int))
      (pss_cons (ps_set (i := 6) scD.nd rfl (.inl rfl) (pe_op op_modN (pe_callTy call_int1 (by rfl) T.int (by decide +kernel) (pa_cons (pe_op op_pow (pe_op op_add (pe_op op_add
          (pe_op op_mul (pv 6) (pe_op op_add (pe_op op_mul pe_int (pv 3)) pe_int)) (pe_op op_mul (pe_op op_mul pe_int (pv 3)) (pv 3))) pe_int) pe_int) pa_nil)) pe_int))
      (pss_one (ps_ret (pe_op op_modN (pe_callTy call_int1 (by rfl) T.int (by decide +kernel) (pa_cons (pe_op op_fdivN (pv 6) pe_int) pa_nil)) (pv 1))))))))))), ?_⟩
    have i2 : ∀ {a b c : V}, atI [a, b, c] 2 = some c := fun {a b c} => atI_nat (j := 2) rfl
    have i1 : ∀ {a b c : V}, atI [a, b, c] 1 = some b := fun {a b c} => atI_nat (j := 1) rfl
    have i0 : ∀ {a b c : V}, atI [a, b, c] 0 = some a := fun {a b c} => atI_nat (j := 0) rfl
    -- if pen[2] > 0
    refine ⟨_, rfl, p, _, 2, _, rfl, rfl, SqL.of hp, i2, _, _, rfl, rfl, _, rfl, ite2 (fun e => ?_) (fun e => ?_)⟩
    · -- digit
      refine ⟨_, rfl, p, _, 2, _, rfl, rfl, SqL.of hp, i2, .inl ⟨_, rfl, _, rfl, _, _, rfl, rfl, (by omega), ?_⟩⟩
      refine ⟨_, rfl, p, _, 2, _, rfl, rfl, SqL.of hp, i2, .inl ⟨_, rfl, _, rfl, _, _, rfl, rfl, divW hm hm2, _, rfl, p, _, _, 2, rfl, rfl, hp, rfl, ?_⟩⟩
      refine ⟨_, rfl, ?_⟩
      exact k _ _ But.upd_at ⟨ns, tn, _, upd_same, by rw [upd_ne Lp]; exact hL, Lp, hlen, t0, by omega, ediv_lo hm c0⟩ (fmod_lo _ hm) (fmod_hi _ hm)
    · -- turn
      refine ⟨_, rfl, p, _, 1, _, rfl, rfl, SqL.of hp, i1, ?_⟩
      refine ⟨_, rfl, _, _, rfl, rfl, _, rfl, p, _, _, 1, rfl, rfl, hp, rfl, ?_⟩
      have hp1 : upd H p (.lst ([V.ref L, V.int tn, V.int ca].set 1 (V.int (tn + 1)))) p = some (.lst [.ref L, .int (tn + 1), .int ca]) := upd_same
      have hL1 : upd H p (.lst ([V.ref L, V.int tn, V.int ca].set 1 (V.int (tn + 1)))) L = some (.lst (ns.map V.int)) := by rw [upd_ne Lp]; exact hL
      have b1 : But p H (upd H p (.lst ([V.ref L, V.int tn, V.int ca].set 1 (V.int (tn + 1))))) := But.upd_at
      generalize upd H p (.lst ([V.ref L, V.int tn, V.int ca].set 1 (V.int (tn + 1)))) = H1 at hp1 hL1 b1 ⊢
      -- cell = c * turn + c'
      refine ⟨_, rfl, _, _, rfl, rfl, .inl ⟨by decide, by decide⟩, _, _, rfl, rfl, ?_⟩
      -- if pen[0] != []
      refine ⟨_, rfl, p, _, 0, _, rfl, rfl, SqL.of hp1, i0, by decide, fun l hl => ?_⟩
      have n1 : p ≠ l := ne_of_none hp1 hl
      have n2 : L ≠ l := ne_of_none hL1 hl
      have hp2 : upd H1 l (.lst []) p = some (.lst [.ref L, .int (tn + 1), .int ca]) := by rw [upd_ne n1]; exact hp1
      have hL2 : upd H1 l (.lst []) L = some (.lst (ns.map V.int)) := by rw [upd_ne n2]; exact hL1
      have hl2 : upd H1 l (.lst []) l = some (.lst []) := upd_same
      have b2 : But p H (upd H1 l (.lst [])) := b1.trans (But.upd_new hl)
      clear b1 hp1 hL1
      generalize upd H1 l (.lst []) = H2 at hp2 hL2 hl2 b2
      refine ⟨_, _, .lst (SqL.of hL2) (dpInts ns), .lst (SqL.of hl2) .nil, sh_ints ns, sh_ints [], _, rfl, ?_⟩
      rw [eqv_nil]
      -- the rest, for any cell
      have hcell : ∀ c : Int, ∃ j : Int, (if c < 0 then -c else c) = j ∧ 0 ≤ j := fun c => by
        by_cases z : c < 0
        · exact ⟨_, rfl, by rw [if_pos z]; omega⟩
        · exact ⟨_, rfl, by rw [if_neg z]; omega⟩
      have fin : ∀ H' : Hp, H' p = some (.lst [.ref L, .int (tn + 1), .int ca]) → H' L = some (.lst (ns.map V.int)) → But p H H' → Pen L H' p (B + 1) := fun H' e1 e2 _ =>
        ⟨ns, tn + 1, ca, e1, e2, Lp, hlen, by omega, by omega, c0⟩
      have ht : tn ≤ 1000000 := by omega
      have hm6 : 0 ≤ 67826 * tn ∧ 67826 * tn ≤ 67826 * 1000000 := mul_le_of (by decide) t0 (Int.le_refl _) ht
      have hq : ∀ {x m : Int}, 1 ≤ m → m ≤ 4294967296 → 0 ≤ x.fmod m ∧ x.fmod m < 4294967296 := fun {x m} h1 h2 => ⟨fmod_lo x h1, by have := fmod_hi x h1; omega⟩
      cases hn : ns with
      | nil =>
        refine iteF ?_
        refine ⟨_, rfl, _, rfl, p, _, 0, _, rfl, rfl, SqL.of hp2, i0, L, _, rfl, .inl (SqL.of hL2), _, _, rfl, rfl, _, rfl, ite2 (fun e1 => ?_) (fun e1 => ?_)⟩
        · refine ⟨_, rfl, _, rfl, _, _, rfl, rfl, ⟨by decide, by decide, by decide⟩, _, _, rfl, rfl, _, rfl, ite2 (fun e2 => ?_) (fun e2 => ?_)⟩
          · refine ⟨_, rfl, _, rfl, _, _, rfl, rfl, ⟨by decide, by decide, by decide⟩, _, _, rfl, rfl, _, _, rfl, rfl, .inl ⟨by decide, by decide⟩, _, rfl, _, _, rfl, rfl, .inr ⟨_, rfl, _, _, rfl, rfl, ?_⟩⟩
            refine ⟨_, rfl, .inl ⟨_, rfl, _, rfl, _, _, rfl, rfl, divW hm hm2, _, rfl, p, _, _, 2, rfl, rfl, hp2, rfl, ?_⟩⟩
            refine ⟨_, rfl, .inl ⟨_, rfl, _, rfl, _, _, rfl, rfl, (by omega), ?_⟩⟩
            refine k _ _ (b2.trans But.upd_at) ⟨_, tn + 1, _, upd_same, by rw [upd_ne Lp]; exact hL2, Lp, hlen, by omega, by omega, ediv_lo hm ?_⟩ (fmod_lo _ hm) (fmod_hi _ hm)
            have e3 := of_decide_eq_true e2
            exact great_nn e3 _
          · skip
            refine ⟨_, rfl, .inl ⟨_, rfl, _, _, rfl, rfl, nz (by decide), _, rfl, _, _, rfl, rfl, .inl ⟨by decide, by decide⟩, _, _, rfl, rfl, _, _, rfl, rfl, _, _, rfl, rfl, ⟨by decide, by decide, bound1 _ (by decide) (by decide) (by decide) (by decide) t0 ht⟩, .inl ⟨_, rfl, _, _, rfl, rfl, nz (by decide), ?_⟩⟩⟩
            refine ⟨_, rfl, _, rfl, _, _, rfl, rfl, .inl ⟨by decide, by decide⟩, _, _, rfl, rfl, _, _, rfl, rfl, .inl ?_, _, rfl, _, _, rfl, rfl, .inl ⟨by decide, by decide⟩, _, rfl, _, _, rfl, rfl, .inl ?_, _, _, rfl, rfl, _, _, rfl, rfl, _, _, rfl, rfl, ⟨by decide, by decide, ?_⟩, .inl ⟨_, rfl, _, _, rfl, rfl, nz (by decide), ?_⟩⟩
            · exact lt64 (hq (by decide) (by decide))
            · exact ⟨by omega, by omega⟩
            · exact bound2 (hq (by decide) (by decide)) (by decide) (by decide) (by decide) t0 ht
            · refine ⟨_, rfl, _, _, rfl, rfl, ⟨by decide, by decide⟩, .inl ⟨_, rfl, _, rfl, _, _, rfl, rfl, (by omega), ?_⟩⟩
              exact k _ _ b2 (fin _ hp2 hL2 b2) (fmod_lo _ hm) (fmod_hi _ hm)
        · skip
          refine ⟨_, rfl, .inl ⟨_, rfl, _, _, rfl, rfl, nz (by decide), _, rfl, _, _, rfl, rfl, .inl ⟨by decide, by decide⟩, _, _, rfl, rfl, _, _, rfl, rfl, _, _, rfl, rfl, ⟨by decide, by decide, bound1 _ (by decide) (by decide) (by decide) (by decide) t0 ht⟩, .inl ⟨_, rfl, _, _, rfl, rfl, nz (by decide), ?_⟩⟩⟩
          refine ⟨_, rfl, _, rfl, _, _, rfl, rfl, .inl ⟨by decide, by decide⟩, _, _, rfl, rfl, _, _, rfl, rfl, .inl ?_, _, rfl, _, _, rfl, rfl, .inl ⟨by decide, by decide⟩, _, rfl, _, _, rfl, rfl, .inl ?_, _, _, rfl, rfl, _, _, rfl, rfl, _, _, rfl, rfl, ⟨by decide, by decide, ?_⟩, .inl ⟨_, rfl, _, _, rfl, rfl, nz (by decide), ?_⟩⟩
          · exact lt64 (hq (by decide) (by decide))
          · exact ⟨by omega, by omega⟩
          · exact bound2 (hq (by decide) (by decide)) (by decide) (by decide) (by decide) t0 ht
          · refine ⟨_, rfl, _, _, rfl, rfl, ⟨by decide, by decide⟩, .inl ⟨_, rfl, _, rfl, _, _, rfl, rfl, (by omega), ?_⟩⟩
            exact k _ _ b2 (fin _ hp2 hL2 b2) (fmod_lo _ hm) (fmod_hi _ hm)
      | cons n0 nr =>
        refine iteT ?_
        obtain ⟨c, hc⟩ := cell_at (ns := ns) (by rw [hn]; exact List.cons_ne_nil _ _) tn
        refine ⟨_, rfl, p, _, 0, _, rfl, rfl, SqL.of hp2, i0, _, rfl, .inl ⟨_, rfl, _, rfl, p, _, 0, _, rfl, rfl, SqL.of hp2, i0, L, _, rfl, .inl (SqL.of hL2), _, _, rfl, rfl, (by rw [List.length_map, hn, List.length_cons]; omega), L, _, _, _, rfl, rfl, SqL.of hL2, hc, ?_⟩⟩
        refine ⟨_, rfl, _, rfl, p, _, 0, _, rfl, rfl, SqL.of hp2, i0, L, _, rfl, .inl (SqL.of hL2), _, _, rfl, rfl, _, rfl, ite2 (fun e1 => ?_) (fun e1 => ?_)⟩
        · refine ⟨_, rfl, _, rfl, _, _, rfl, rfl, ⟨by decide, by decide, by decide⟩, _, _, rfl, rfl, _, rfl, ite2 (fun e2 => ?_) (fun e2 => ?_)⟩
          · refine ⟨_, rfl, _, rfl, _, _, rfl, rfl, ⟨by decide, by decide, by decide⟩, _, _, rfl, rfl, _, _, rfl, rfl, .inl ⟨by decide, by decide⟩, _, rfl, _, _, rfl, rfl, .inr ⟨_, rfl, _, _, rfl, rfl, ?_⟩⟩
            refine ⟨_, rfl, .inl ⟨_, rfl, _, rfl, _, _, rfl, rfl, divW hm hm2, _, rfl, p, _, _, 2, rfl, rfl, hp2, rfl, ?_⟩⟩
            refine ⟨_, rfl, .inl ⟨_, rfl, _, rfl, _, _, rfl, rfl, (by omega), ?_⟩⟩
            refine k _ _ (b2.trans But.upd_at) ⟨_, tn + 1, _, upd_same, by rw [upd_ne Lp]; exact hL2, Lp, hlen, by omega, by omega, ediv_lo hm ?_⟩ (fmod_lo _ hm) (fmod_hi _ hm)
            have e3 := of_decide_eq_true e2
            exact great_nn e3 _
          · skip
            refine ⟨_, rfl, .inl ⟨_, rfl, _, _, rfl, rfl, nz (by decide), _, rfl, _, _, rfl, rfl, .inl ⟨by decide, by decide⟩, _, _, rfl, rfl, _, _, rfl, rfl, _, _, rfl, rfl, ⟨by decide, by decide, bound1 _ (by decide) (by decide) (by decide) (by decide) t0 ht⟩, .inl ⟨_, rfl, _, _, rfl, rfl, nz (by decide), ?_⟩⟩⟩
            refine ⟨_, rfl, _, rfl, _, _, rfl, rfl, .inl ⟨by decide, by decide⟩, _, _, rfl, rfl, _, _, rfl, rfl, .inl ?_, _, rfl, _, _, rfl, rfl, .inl ⟨by decide, by decide⟩, _, rfl, _, _, rfl, rfl, .inl ?_, _, _, rfl, rfl, _, _, rfl, rfl, _, _, rfl, rfl, ⟨by decide, by decide, ?_⟩, .inl ⟨_, rfl, _, _, rfl, rfl, nz (by decide), ?_⟩⟩
            · exact lt64 (hq (by decide) (by decide))
            · exact ⟨by omega, by omega⟩
            · exact bound2 (hq (by decide) (by decide)) (by decide) (by decide) (by decide) t0 ht
            · refine ⟨_, rfl, _, _, rfl, rfl, ⟨by decide, by decide⟩, .inl ⟨_, rfl, _, rfl, _, _, rfl, rfl, (by omega), ?_⟩⟩
              exact k _ _ b2 (fin _ hp2 hL2 b2) (fmod_lo _ hm) (fmod_hi _ hm)
        · skip
          refine ⟨_, rfl, .inl ⟨_, rfl, _, _, rfl, rfl, nz (by decide), _, rfl, _, _, rfl, rfl, .inl ⟨by decide, by decide⟩, _, _, rfl, rfl, _, _, rfl, rfl, _, _, rfl, rfl, ⟨by decide, by decide, bound1 _ (by decide) (by decide) (by decide) (by decide) t0 ht⟩, .inl ⟨_, rfl, _, _, rfl, rfl, nz (by decide), ?_⟩⟩⟩
          refine ⟨_, rfl, _, rfl, _, _, rfl, rfl, .inl ⟨by decide, by decide⟩, _, _, rfl, rfl, _, _, rfl, rfl, .inl ?_, _, rfl, _, _, rfl, rfl, .inl ⟨by decide, by decide⟩, _, rfl, _, _, rfl, rfl, .inl ?_, _, _, rfl, rfl, _, _, rfl, rfl, _, _, rfl, rfl, ⟨by decide, by decide, ?_⟩, .inl ⟨_, rfl, _, _, rfl, rfl, nz (by decide), ?_⟩⟩
          · exact lt64 (hq (by decide) (by decide))
          · exact ⟨by omega, by omega⟩
          · exact bound2 (hq (by decide) (by decide)) (by decide) (by decide) (by decide) t0 ht
          · refine ⟨_, rfl, _, _, rfl, rfl, ⟨by decide, by decide⟩, .inl ⟨_, rfl, _, rfl, _, _, rfl, rfl, (by omega), ?_⟩⟩
            exact k _ _ b2 (fin _ hp2 hL2 b2) (fmod_lo _ hm) (fmod_hi _ hm)
end
end Ev
namespace Ev
open PySem L2
abbrev sIsInt : Stmt := top 14
abbrev sWithin : Stmt := top 15
abbrev sTryInit : Stmt := inClass (top 31) 0
abbrev sTryTurns : Stmt := inClass (top 31) 1
abbrev sTwice : Stmt := inClass (top 31) 2
abbrev sTurnInit : Stmt := inClass (top 30) 0
abbrev sTurnTurns : Stmt := inClass (top 30) 1
abbrev sGreatest : Stmt := inClass (top 29) 2
abbrev sFair : Stmt := top 32
abbrev sNeedW : Stmt := top 36
abbrev sPair : Stmt := top 37
abbrev sTimes : Stmt := top 38
abbrev sPlus : Stmt := top 39
abbrev sTurn : Stmt := top 40
abbrev sNeedT : Stmt := top 41
abbrev sHalves : Stmt := top 42
abbrev sNeedH : Stmt := top 43
def fairB (p q k x y : Int) : Bool := decide (q * y ≤ p * x + k) && decide (q * x ≤ p * y + k)
def spIsInt : Sp := fun vs H Q _ => ∃ i : Int, vs = [.int i] ∧ Q (.bl true) H
def spWithin : Sp := fun vs H Q _ => ∃ v l m : Int, vs = [.int v, .int l, .int m] ∧ l ≤ v ∧ v ≤ m ∧ Q (.bl true) H
def spNeedW : Sp := fun vs H Q _ => ∃ v : Int, vs = [.int v] ∧ 1 ≤ v ∧ v ≤ 10 ^ 60 ∧ Q .non H
def spPair (_K : PySem.W.Frag) : Sp := fun vs H Q _ => ∃ (a : Addr) (x y m : Int), vs = [.ref a, .int m] ∧ H a = some (.tup [.int x, .int y]) ∧ (1 ≤ x ∧ x ≤ m) ∧ (1 ≤ y ∧ y ≤ m) ∧ ∀ H', Same H H' → Q (.bl true) H'
def spTimes (_K : PySem.W.Frag) : Sp := fun vs H Q _ => ∃ (a : Addr) (p q : Int), vs = [.ref a] ∧ H a = some (.tup [.int p, .int q]) ∧ 1 ≤ q ∧ q ≤ p ∧ p ≤ 6 ∧ ∀ H', Same H H' → Q (.bl true) H'
def spPlus : Sp := fun vs H Q _ => ∃ k : Int, vs = [.int k] ∧ -6 ≤ k ∧ k ≤ 6 ∧ Q (.bl true) H
def spTurn (_K : PySem.W.Frag) : Sp := fun vs H Q _ => ∃ (a : Addr) (p q : Int), vs = [.ref a] ∧ H a = some (.tup [.int p, .int q]) ∧ (1 ≤ p ∧ p ≤ 8) ∧ (1 ≤ q ∧ q ≤ 8) ∧ ∀ H', Same H H' → Q (.bl true) H'
def spNeedT (_K : PySem.W.Frag) : Sp := fun vs H Q _ => ∃ (a : Addr) (p q k : Int), vs = [.ref a, .int k] ∧ H a = some (.tup [.int p, .int q]) ∧ 1 ≤ q ∧ q ≤ p ∧ p ≤ 6 ∧ -6 ≤ k ∧ k ≤ 6 ∧ ∀ H', Same H H' → Q .non H'
def spHalves (_K : PySem.W.Frag) : Sp := fun vs H Q _ => ∃ (a : Addr) (p q k : Int), vs = [.ref a, .int k] ∧ H a = some (.tup [.int p, .int q]) ∧ 2 * q ≤ p + k ∧ Q (.bl true) H
def spNeedH (_K : PySem.W.Frag) : Sp := fun vs H Q _ => ∃ (a : Addr) (p q k : Int), vs = [.ref a, .int k] ∧ H a = some (.tup [.int p, .int q]) ∧ 0 ≤ q ∧ 2 * q ≤ p + k ∧ Q .non H
section
variable {P : Program} {w : World} {K : PySem.W.Frag} {mg : Str → Option Value} {base : Heap}
theorem scIsInt : FnScope ["value"] ["value"] (defScope sIsInt) := ⟨rfl, rfl, rfl, by decide +kernel, rfl, by decide +kernel, by decide +kernel⟩
theorem ok_isInt {f : Addr} {fd : FuncData} (F : Fun K "is_integer" "is_integer" sIsInt f fd) (T : Blt mg) : FnOk P w K mg base CX0 1 f fd ["value"] spIsInt := by
  refine F.ok scIsInt (fun vs H Q E h => ?_) (fun cdv A outer s H vs Q E hr h => ?_)
  · obtain ⟨i, rfl, _⟩ := h
    rfl
  · obtain ⟨i, rfl, k⟩ := h
    refine ⟨_, pss_one (ps_ret (pe_and (pe_callB call_isi (by rfl) T.isi (by decide +kernel) (pa_cons (pv 0) (pa_cons (pe_bltn (v := .ty "int") (by rfl) T.int (by decide +kernel) rfl) pa_nil)))
      (pe_one (pe_not (pe_callB call_isi (by rfl) T.isi (by decide +kernel) (pa_cons (pv 0) (pa_cons (pe_bltn (v := .ty "bool") (by rfl) T.bool (by decide +kernel) rfl) pa_nil))))))), ?_⟩
    refine ⟨_, rfl, _, _, _, _, true, rfl, .ty _, .base (.int i), kit_ty (by decide +kernel), true, rfl, iteT ⟨_, rfl, _, _, _, _, false, rfl, .ty _, .base (.int i), kit_ty (by decide +kernel), _, rfl, ?_⟩⟩
    exact k
theorem scWithin : FnScope ["value", "least", "most"] ["value", "least", "most"] (defScope sWithin) := ⟨rfl, rfl, rfl, by decide +kernel, rfl, by decide +kernel, by decide +kernel⟩
theorem ok_within {f fI : Addr} {fd fdI : FuncData} (F : Fun K "is_within" "is_within" sWithin f fd) (T : Blt mg)
    (GI : FnOk P w K mg base CX0 1 fI fdI ["value"] spIsInt) (gI : mg "is_integer" = some (.ref fI)) (kI : PySem.W.keepIn K (.ref fI) = true) (bI : Binds K fdI ["value"] []) : FnOk P w K mg base CX0 2 f fd ["value", "least", "most"] spWithin := by
  refine F.ok scWithin (fun vs H Q E h => ?_) (fun cdv A outer s H vs Q E hr h => ?_)
  · obtain ⟨v, l, m, rfl, _⟩ := h
    rfl
  · obtain ⟨v, l, m, rfl, h1, h2, k⟩ := h
    refine ⟨_, pss_one (ps_ret (pe_and (pe_call GI hr (by rfl) gI kI bI .nil pass0 (pa_cons (pv 0) pa_nil)) (pe_one (pe_chain op_le op_le (pv 1) (pv 0) (pv 2))))), ?_⟩
    refine ⟨_, rfl, v, rfl, true, rfl, iteT ⟨_, rfl, _, rfl, _, _, rfl, rfl, true, congrArg V.bl (decide_eq_true h1), iteT ⟨_, rfl, _, _, rfl, rfl, ?_⟩⟩⟩
    show Q (.bl (decide (v ≤ m))) H
    rw [decide_eq_true h2]
    exact k

/-- a def that stands under its name -/
structure Df (P : Program) (w : World) (K : PySem.W.Frag) (mg : Str → Option Value) (base : Heap) (k : Nat) (x : Str) (ps : List Str) (sp : Sp) : Prop where
  ex : ∃ (f : Addr) (fd : FuncData), FnOk P w K mg base CX0 k f fd ps sp ∧ mg x = some (.ref f) ∧ PySem.W.keepIn K (.ref f) = true ∧ Binds K fd ps []
theorem scNeedW : FnScope ["value"] ["value"] (defScope sNeedW) := ⟨rfl, rfl, rfl, by decide +kernel, rfl, by decide +kernel, by decide +kernel⟩
theorem ok_needW {f : Addr} {fd : FuncData} (F : Fun K "need_weight" "need_weight" sNeedW f fd) (D : Df P w K mg base 2 "is_within" ["value", "least", "most"] spWithin) {t : Tok} (gM : mg "MOST_WEIGHT" = some (.int (10 ^ 60) t)) :
    FnOk P w K mg base CX0 3 f fd ["value"] spNeedW := by
  obtain ⟨fW, fdW, GW, gW, kW, bW⟩ := D.ex
  refine F.ok scNeedW (fun vs H Q E h => ?_) (fun cdv A outer s H vs Q E hr h => ?_)
  · obtain ⟨i, rfl, _⟩ := h
    rfl
  · obtain ⟨i, rfl, h1, h2, k⟩ := h
    refine ⟨_, pss_one (ps_if (pt_not (pt_val (pe_call GW hr (by rfl) gW kW bW .nil pass0 (pa_cons (pv 0) (pa_cons pe_int (pa_cons (pe_glob (v := .int (10 ^ 60)) rfl gM ⟨_, rfl⟩) pa_nil)))))) (pss_one ps_never) pss_nil), ?_⟩
    exact ⟨_, rfl, _, _, _, rfl, h1, h2, true, rfl, iteF k⟩
theorem scPair : FnScope ["value", "most", "item"] ["value", "most"] (defScope sPair) := ⟨rfl, rfl, rfl, by decide +kernel, rfl, by decide +kernel, by decide +kernel⟩
theorem ok_pair {f : Addr} {fd : FuncData} (F : Fun K "is_pair" "is_pair" sPair f fd) (T : Blt mg) (D : Df P w K mg base 2 "is_within" ["value", "least", "most"] spWithin) :
    FnOk P w K mg base CX0 3 f fd ["value", "most"] (spPair K) := by
  obtain ⟨fW, fdW, GW, gW, kW, bW⟩ := D.ex
  refine F.ok scPair (fun vs H Q E h => ?_) (fun cdv A outer s H vs Q E hr h => ?_)
  · obtain ⟨a, x, y, m, rfl, _⟩ := h
    rfl
  · obtain ⟨a, x, y, m, rfl, ha, hx, hy, k⟩ := h
    refine ⟨_, pss_one (ps_ret (pe_and (pe_callB call_isi (by rfl) T.isi (by decide +kernel) (pa_cons (pv 0) (pa_cons (pe_bltn (v := .ty "tuple") (by rfl) T.tuple (by decide +kernel) rfl) pa_nil)))
      (pe_and (pe_cmpR op_eq (pe_callB call_len_seq (by rfl) T.len PySem.boot_len (pa_cons (pv 0) pa_nil)) pe_int (nomark _))
      (pe_one (pe_callB (cr_all rfl) (by rfl) T.all (by decide +kernel) (pa_cons (pe_lc (own := [("item", 2)]) (g := gName 2) (by rfl) scPair.nd (pi_tup (pv 0)) (blkOk_by (own := [("item", 2)]) (N := ["value", "most", "item"]) (sc := defScope sPair) (by decide +kernel))
          (fun _ _ _ _ _ => pg_name (i := 2) scPair.nd rfl (.inl rfl)) (fun _ _ _ _ _ => pts_nil) (fun _ _ _ _ _ => pe_call GW hr (by rfl) gW kW bW .nil pass0 (pa_cons (pv 2) (pa_cons pe_int (pa_cons (pv 1) pa_nil))))) pa_nil)))))), ?_⟩
    refine ⟨_, rfl, _, _, _, _, true, rfl, .ty _, .base (.tup ha), kit_ty (by decide +kernel), true, rfl, iteT ⟨_, rfl, a, _, rfl, .inr (SqT.of ha), rfl, true, congrArg V.bl (decide_eq_true rfl), iteT ⟨_, rfl, a, rfl, ⟨_, SqT.of ha⟩, fun D nD => ?_⟩⟩⟩
    have naD : a ≠ D := ne_of_none ha nD
    refine lc_tup (xs := [V.int x, V.int y]) (fun i H' => H' D = some (.lst ((List.replicate i true).map V.bl)) ∧ But D H H') ⟨upd_same, But.upd_at⟩ (fun i H' _ h => SqT.of (h.2 _ _ naD ha)) (fun i v H' hi ⟨e1, e2⟩ => ?_) (fun H' ⟨e1, e2⟩ => ?_)
    · obtain ⟨z, rfl, z1, z2⟩ : ∃ z : Int, v = .int z ∧ 1 ≤ z ∧ z ≤ m := by
        match i, hi with
        | 0, hi => exact ⟨x, (Option.some.inj hi).symm, hx.1, hx.2⟩
        | 1, hi => exact ⟨y, (Option.some.inj hi).symm, hy.1, hy.2⟩
        | n + 2, hi => cases hi
      have hil : i < 2 := (List.getElem?_eq_some_iff.mp hi).1
      refine ⟨rfl, _, rfl, _, rfl, _, _, _, rfl, z1, z2, _, e1, ?_, ?_, ?_⟩
      · rw [List.length_map, List.length_replicate]; exact small1000 (by omega)
      · rw [List.replicate_succ', List.map_append]
        exact upd_same
      · exact e2.trans But.upd_at
    · refine ⟨D, [true, true], rfl, SqL.of e1, ?_⟩
      exact k H' fun b o e => e2 b o (ne_of_none e nD) e
end
end Ev
namespace Ev
open PySem L2
section
variable {P : Program} {w : World} {K : PySem.W.Frag} {mg : Str → Option Value} {base : Heap}
theorem tup1 {a b : V} : atI [a, b] 1 = some b := atI_nat (j := 1) rfl
theorem tup0 {a b : V} : atI [a, b] 0 = some a := atI_nat (j := 0) rfl
theorem scTimes : FnScope ["value"] ["value"] (defScope sTimes) := ⟨rfl, rfl, rfl, by decide +kernel, rfl, by decide +kernel, by decide +kernel⟩
theorem ok_times {f : Addr} {fd : FuncData} (F : Fun K "is_times" "is_times" sTimes f fd) (D : Df P w K mg base 3 "is_pair" ["value", "most"] (spPair K)) {CW : Addr} {mc u : Value} (gW : mg "WeightRule" = some (.ref CW)) (cr : ClX.CRead K CW mc) (cv : ClX.CVal K CW mc "MOST" (.int 6) u) :
    FnOk P w K mg base CX0 4 f fd ["value"] (spTimes K) := by
  obtain ⟨fP, fdP, GP, gP, kP, bP⟩ := D.ex
  refine F.ok scTimes (fun vs H Q E h => ?_) (fun cdv A outer s H vs Q E hr h => ?_)
  · obtain ⟨a, p, q, rfl, _⟩ := h
    rfl
  · obtain ⟨a, p, q, rfl, ha, h1, h2, h3, k⟩ := h
    refine ⟨_, pss_one (ps_ret (pe_and (pe_call GP hr (by rfl) gP kP bP .nil pass0 (pa_cons (pv 0) (pa_cons (ClX.pe_cval (pe_glob (v := .ref CW) rfl gW rfl)) pa_nil)))
      (pe_one (pe_cmpR op_le (pe_ix ix_tup (pv 0) pe_int (fun _ _ => rfl)) (pe_ix ix_tup (pv 0) pe_int (fun _ _ => rfl)) (nomark _))))), ?_⟩
    refine ⟨_, rfl, CW, mc, _, u, rfl, cr, cv, a, p, q, _, rfl, ha, ⟨by omega, by omega⟩, ⟨by omega, by omega⟩, fun H' s => ⟨true, rfl, ?_⟩⟩
    refine ⟨_, rfl, a, _, 1, _, rfl, rfl, SqT.of (s _ _ ha), tup1, _, rfl, a, _, 0, _, rfl, rfl, SqT.of (s _ _ ha), tup0, _, _, rfl, rfl, ?_⟩
    show Q (.bl (decide (q ≤ p))) H'
    rw [decide_eq_true h2]
    exact k H' s
theorem scPlus : FnScope ["value"] ["value"] (defScope sPlus) := ⟨rfl, rfl, rfl, by decide +kernel, rfl, by decide +kernel, by decide +kernel⟩
theorem ok_plus {f : Addr} {fd : FuncData} (F : Fun K "is_plus" "is_plus" sPlus f fd) (D : Df P w K mg base 2 "is_within" ["value", "least", "most"] spWithin) {t : Tok} (gM : mg "MOST_PLUS" = some (.int 6 t)) : FnOk P w K mg base CX0 3 f fd ["value"] spPlus := by
  obtain ⟨fW, fdW, GW, gW, kW, bW⟩ := D.ex
  refine F.ok scPlus (fun vs H Q E h => ?_) (fun cdv A outer s H vs Q E hr h => ?_)
  · obtain ⟨i, rfl, _⟩ := h
    rfl
  · obtain ⟨i, rfl, h1, h2, k⟩ := h
    refine ⟨_, pss_one (ps_ret (pe_call GW hr (by rfl) gW kW bW .nil pass0 (pa_cons (pv 0) (pa_cons (pe_un un_neg (pe_glob (v := .int 6) rfl gM ⟨_, rfl⟩)) (pa_cons (pe_glob (v := .int 6) rfl gM ⟨_, rfl⟩) pa_nil))))), ?_⟩
    exact ⟨_, rfl, _, rfl, _, _, _, rfl, h1, h2, k⟩
theorem scTurn : FnScope ["value"] ["value"] (defScope sTurn) := ⟨rfl, rfl, rfl, by decide +kernel, rfl, by decide +kernel, by decide +kernel⟩
theorem ok_turn {f : Addr} {fd : FuncData} (F : Fun K "is_turn" "is_turn" sTurn f fd) (D : Df P w K mg base 3 "is_pair" ["value", "most"] (spPair K)) {t : Tok} (gM : mg "MOST_TURN" = some (.int 8 t)) : FnOk P w K mg base CX0 4 f fd ["value"] (spTurn K) := by
  obtain ⟨fP, fdP, GP, gP, kP, bP⟩ := D.ex
  refine F.ok scTurn (fun vs H Q E h => ?_) (fun cdv A outer s H vs Q E hr h => ?_)
  · obtain ⟨a, p, q, rfl, _⟩ := h
    rfl
  · obtain ⟨a, p, q, rfl, ha, h1, h2, k⟩ := h
    refine ⟨_, pss_one (ps_ret (pe_call GP hr (by rfl) gP kP bP .nil pass0 (pa_cons (pv 0) (pa_cons (pe_glob (v := .int 8) rfl gM ⟨_, rfl⟩) pa_nil)))), ?_⟩
    exact ⟨_, rfl, a, p, q, _, rfl, ha, h1, h2, k⟩
theorem scNeedT : FnScope ["times", "plus"] ["times", "plus"] (defScope sNeedT) := ⟨rfl, rfl, rfl, by decide +kernel, rfl, by decide +kernel, by decide +kernel⟩
theorem ok_needT {f : Addr} {fd : FuncData} (F : Fun K "need_times" "need_times" sNeedT f fd) (D1 : Df P w K mg base 4 "is_times" ["value"] (spTimes K)) (D2 : Df P w K mg base 3 "is_plus" ["value"] spPlus) : FnOk P w K mg base CX0 5 f fd ["times", "plus"] (spNeedT K) := by
  obtain ⟨f1, fd1, G1, g1, k1, b1⟩ := D1.ex
  obtain ⟨f2, fd2, G2, g2, k2, b2⟩ := D2.ex
  refine F.ok scNeedT (fun vs H Q E h => ?_) (fun cdv A outer s H vs Q E hr h => ?_)
  · obtain ⟨a, p, q, k, rfl, _⟩ := h
    rfl
  · obtain ⟨a, p, q, k, rfl, ha, h1, h2, h3, h4, h5, kk⟩ := h
    refine ⟨_, pss_cons (ps_if (pt_not (pt_val (pe_call G1 hr (by rfl) g1 k1 b1 .nil pass0 (pa_cons (pv 0) pa_nil)))) (pss_one ps_never) pss_nil)
      (pss_one (ps_if (pt_not (pt_val (pe_call G2 (hr.mono (by decide)) (by rfl) g2 k2 b2 .nil pass0 (pa_cons (pv 1) pa_nil)))) (pss_one ps_never) pss_nil)), ?_⟩
    exact ⟨_, rfl, a, p, q, rfl, ha, h1, h2, h3, fun H' s => ⟨true, rfl, iteF ⟨_, rfl, k, rfl, h4, h5, true, rfl, iteF (kk H' s)⟩⟩⟩
theorem scHalves : FnScope ["times", "plus", "over", "under"] ["times", "plus"] (defScope sHalves) := ⟨rfl, rfl, rfl, by decide +kernel, rfl, by decide +kernel, by decide +kernel⟩
theorem ok_halves {f : Addr} {fd : FuncData} (F : Fun K "has_halves" "has_halves" sHalves f fd) : FnOk P w K mg base CX0 1 f fd ["times", "plus"] (spHalves K) := by
  refine F.ok scHalves (fun vs H Q E h => ?_) (fun cdv A outer s H vs Q E hr h => ?_)
  · obtain ⟨a, p, q, k, rfl, _⟩ := h
    rfl
  · obtain ⟨a, p, q, k, rfl, ha, h1, kk⟩ := h
    refine ⟨_, pss_cons (ps_asg (pv 0) (pg_tup (by rfl) (pgs_cons (pg_name (i := 2) scHalves.nd rfl (.inl rfl)) (pgs_cons (pg_name (i := 3) scHalves.nd rfl (.inl rfl)) pgs_nil))))
      (pss_one (ps_ret (pe_cmpR op_ge (pe_op op_add (pv 2) (pv 1)) (pe_op op_mul pe_int (pv 3)) (nomark _)))), ?_⟩
    refine ⟨_, rfl, a, _, rfl, SqT.of ha, rfl, _, _, rfl, _, _, rfl, rfl, ?_⟩
    refine ⟨_, rfl, _, rfl, _, _, rfl, rfl, _, rfl, _, _, rfl, rfl, .inl ⟨by decide, by decide⟩, _, _, rfl, rfl, ?_⟩
    show Q (.bl (decide (2 * q ≤ p + k))) H
    rw [decide_eq_true h1]
    exact kk
theorem scNeedH : FnScope ["times", "plus", "over", "under"] ["times", "plus"] (defScope sNeedH) := ⟨rfl, rfl, rfl, by decide +kernel, rfl, by decide +kernel, by decide +kernel⟩
theorem ok_needH {f : Addr} {fd : FuncData} (F : Fun K "need_halves" "need_halves" sNeedH f fd) (D : Df P w K mg base 1 "has_halves" ["times", "plus"] (spHalves K)) : FnOk P w K mg base CX0 2 f fd ["times", "plus"] (spNeedH K) := by
  obtain ⟨f1, fd1, G1, g1, k1, b1⟩ := D.ex
  refine F.ok scNeedH (fun vs H Q E h => ?_) (fun cdv A outer s H vs Q E hr h => ?_)
  · obtain ⟨a, p, q, k, rfl, _⟩ := h
    rfl
  · obtain ⟨a, p, q, k, rfl, ha, h0, h1, kk⟩ := h
    refine ⟨_, pss_cons (ps_asg (pv 0) (pg_tup (by rfl) (pgs_cons (pg_name (i := 2) scNeedH.nd rfl (.inl rfl)) (pgs_cons (pg_name (i := 3) scNeedH.nd rfl (.inl rfl)) pgs_nil))))
      (pss_cons (ps_if (pt_cmpR op_lt (pe_op op_add (pv 2) (pv 1)) (pv 3) (nomark _)) (pss_one ps_never) pss_nil)
      (pss_one (ps_if (pt_not (pt_val (pe_call G1 hr (by rfl) g1 k1 b1 .nil pass0 (pa_cons (pv 0) (pa_cons (pv 1) pa_nil))))) (pss_one ps_never) pss_nil))), ?_⟩
    refine ⟨_, rfl, a, _, rfl, SqT.of ha, rfl, _, _, rfl, _, _, rfl, rfl, ?_⟩
    refine ⟨_, rfl, _, rfl, _, _, rfl, rfl, _, rfl, _, _, rfl, rfl, _, rfl, ite2 (fun e => ?_) (fun _ => ?_)⟩
    · have := of_decide_eq_true e; omega
    · exact ⟨_, rfl, _, rfl, a, p, q, k, rfl, ha, h1, true, rfl, iteF kk⟩
end
end Ev
namespace Ev
open PySem L2
/-- the part of a rule object that every rule has -/
structure RB (K : PySem.W.Frag) (H : Hp) (r : Addr) (p q k : Int) : Prop where
  ex : ∃ (C dx : Addr) (fs : List (Str × V)) (a : Addr), H r = some (.ins C dx fs) ∧ Cls K C ∧ NoAttr K C "times" ∧ NoAttr K C "plus" ∧ fs.lookup ("times" : Str) = some (.ref a) ∧ fs.lookup ("plus" : Str) = some (.int k) ∧ H a = some (.tup [.int p, .int q])
  b1 : 1 ≤ q
  b2 : q ≤ p
  b3 : p ≤ 6
  b4 : -6 ≤ k
  b5 : k ≤ 6
def tryF (a : Addr) (k : Int) : List (Str × V) := [("times", .ref a), ("plus", .int k)]
def turnF (a : Addr) (k : Int) (b : Addr) (r : Int) : List (Str × V) := [("times", .ref a), ("plus", .int k), ("turn", .ref b), ("turn_plus", .int r)]
def tryT (p q k l i o : Int) (n : Option Int) : Int :=
  if (fairB p q k l i && fairB p q k (l + i) o) = true then 1 else
    match n with
    | none => 1
    | some n => if (decide (1 < i) && (fairB p q k l n && (fairB p q k (i - n) o && fairB p q k (l + n) (i - n + o)))) = true then 2 else 1
def turnT (t s r i o : Int) : Int := if s * i ≤ t * o + r then 1 else if 1 < i then 2 else 0
def spFair (K : PySem.W.Frag) : Sp := fun vs H Q _ => ∃ (r : Addr) (p q k x y : Int), vs = [.ref r, .int x, .int y] ∧ RB K H r p q k ∧ Q (.bl (fairB p q k x y)) H
def spGreatest (K : PySem.W.Frag) : Sp := fun vs H Q _ => ∃ (r : Addr) (p q k x : Int), vs = [.ref r, .int x] ∧ RB K H r p q k ∧ 1 ≤ x ∧ x ≤ 10 ^ 60 ∧ Q (.int ((p * x + k).fdiv q)) H
def spTwice (K : PySem.W.Frag) : Sp := fun vs H Q _ => ∃ (r : Addr) (p q k l i o n : Int), vs = [.ref r, .int l, .int i, .int o, .int n] ∧ RB K H r p q k ∧ Q (.bl (fairB p q k l n && (fairB p q k (i - n) o && fairB p q k (l + n) (i - n + o)))) H
def vOpt : Option Int → V
  | none => .non
  | some n => .int n
def spTryTurns (K : PySem.W.Frag) (C : Addr) : Sp := fun vs H Q _ => ∃ (r : Addr) (p q k l i o : Int) (n : Option Int) (dx : Addr) (fs : List (Str × V)), vs = [.ref r, .int l, .int i, .int o, vOpt n] ∧ RB K H r p q k ∧ H r = some (.ins C dx fs) ∧ fs.lookup ("twice_is_fair" : Str) = none ∧ (n = none → i = 1) ∧
  Q (.int (tryT p q k l i o n)) H
def spTurnTurns (K : PySem.W.Frag) (C : Addr) : Sp := fun vs H Q _ => ∃ (r : Addr) (l i o : Int) (n : Option Int) (dx a b : Addr) (k t s c : Int), vs = [.ref r, .int l, .int i, .int o, vOpt n] ∧ H r = some (.ins C dx (turnF a k b c)) ∧ H b = some (.tup [.int t, .int s]) ∧ (1 ≤ t ∧ t ≤ 8) ∧ (1 ≤ s ∧ s ≤ 8) ∧
  Q (.int (turnT t s c i o)) H
section
variable {P : Program} {w : World} {K : PySem.W.Frag} {mg : Str → Option Value} {base : Heap}
theorem m64 {q : Int} (h1 : 1 ≤ q) (h2 : q ≤ 8) : -(2 ^ 64) < q ∧ q < 2 ^ 64 := ⟨by omega, by omega⟩
theorem scFair : FnScope ["rule", "x", "y", "over", "under"] ["rule", "x", "y"] (defScope sFair) := ⟨rfl, rfl, rfl, by decide +kernel, rfl, by decide +kernel, by decide +kernel⟩
theorem ok_fair {f : Addr} {fd : FuncData} (F : Fun K "are_fair" "are_fair" sFair f fd) : FnOk P w K mg base CX0 1 f fd ["rule", "x", "y"] (spFair K) := by
  refine F.ok scFair (fun vs H Q E h => ?_) (fun cdv A outer s H vs Q E hr h => ?_)
  · obtain ⟨r, p, q, k, x, y, rfl, _⟩ := h
    rfl
  · obtain ⟨r, p, q, k, x, y, rfl, ⟨⟨C, dx, fs, a, hr1, cl, n1, n2, l1, l2, ha⟩, b1, b2, b3, b4, b5⟩, kk⟩ := h
    refine ⟨_, pss_cons (ps_asg (pe_fld (pv 0) rfl) (pg_tup (by rfl) (pgs_cons (pg_name (i := 3) scFair.nd rfl (.inl rfl)) (pgs_cons (pg_name (i := 4) scFair.nd rfl (.inl rfl)) pgs_nil))))
      (pss_one (ps_ret (pe_and (pe_cmpR op_le (pe_op op_mul (pv 4) (pv 2)) (pe_op op_add (pe_op op_mul (pv 3) (pv 1)) (pe_fld (pv 0) rfl)) (nomark _))
        (pe_one (pe_cmpR op_le (pe_op op_mul (pv 4) (pv 1)) (pe_op op_add (pe_op op_mul (pv 3) (pv 2)) (pe_fld (pv 0) rfl)) (nomark _)))))), ?_⟩
    have q6 := m64 b1 (show q ≤ 8 by omega)
    have p6 := m64 (show 1 ≤ p by omega) (show p ≤ 8 by omega)
    refine ⟨_, rfl, r, C, dx, fs, _, rfl, hr1, cl, n1, l1, a, _, rfl, SqT.of ha, rfl, _, _, rfl, _, _, rfl, rfl, ?_⟩
    refine ⟨_, rfl, _, rfl, _, _, rfl, rfl, .inl q6, _, rfl, _, rfl, _, _, rfl, rfl, .inl p6, _, rfl, r, C, dx, fs, _, rfl, hr1, cl, n2, l2, _, _, rfl, rfl, _, _, rfl, rfl, _, rfl, ite2 (fun e => ?_) (fun e => ?_)⟩
    · refine ⟨_, rfl, _, rfl, _, _, rfl, rfl, .inl q6, _, rfl, _, rfl, _, _, rfl, rfl, .inl p6, _, rfl, r, C, dx, fs, _, rfl, hr1, cl, n2, l2, _, _, rfl, rfl, _, _, rfl, rfl, ?_⟩
      show Q (.bl (decide (q * x ≤ p * y + k))) H
      rw [show fairB p q k x y = decide (q * x ≤ p * y + k) by unfold fairB; rw [show decide (q * y ≤ p * x + k) = true from e, Bool.true_and]] at kk
      exact kk
    · rw [show fairB p q k x y = false by unfold fairB; rw [show decide (q * y ≤ p * x + k) = false from Bool.eq_false_iff.mpr e, Bool.false_and]] at kk
      exact kk
theorem scTwice : FnScope ["self", "light", "inner", "outer", "near", "far"] ["self", "light", "inner", "outer", "near"] (defScope sTwice) := ⟨rfl, rfl, rfl, by decide +kernel, rfl, by decide +kernel, by decide +kernel⟩
theorem ok_twice {f : Addr} {fd : FuncData} (F : Fun K "twice_is_fair" "TryRule.twice_is_fair" sTwice f fd) (D : Df P w K mg base 1 "are_fair" ["rule", "x", "y"] (spFair K)) : FnOk P w K mg base CX0 2 f fd ["self", "light", "inner", "outer", "near"] (spTwice K) := by
  obtain ⟨f1, fd1, G1, g1, k1, b1⟩ := D.ex
  refine F.ok scTwice (fun vs H Q E h => ?_) (fun cdv A outer s H vs Q E hr h => ?_)
  · obtain ⟨r, p, q, k, l, i, o, n, rfl, _⟩ := h
    rfl
  · obtain ⟨r, p, q, k, l, i, o, n, rfl, R, kk⟩ := h
    refine ⟨_, pss_cons (ps_set (i := 5) scTwice.nd rfl (.inl rfl) (pe_op op_sub (pv 2) (pv 4)))
      (pss_one (ps_ret (pe_and (pe_call G1 hr (by rfl) g1 k1 b1 .nil pass0 (pa_cons (pv 0) (pa_cons (pv 1) (pa_cons (pv 4) pa_nil))))
        (pe_and (pe_call G1 hr (by rfl) g1 k1 b1 .nil pass0 (pa_cons (pv 0) (pa_cons (pv 5) (pa_cons (pv 3) pa_nil))))
        (pe_one (pe_call G1 hr (by rfl) g1 k1 b1 .nil pass0 (pa_cons (pv 0) (pa_cons (pe_op op_add (pv 1) (pv 4)) (pa_cons (pe_op op_add (pv 5) (pv 3)) pa_nil))))))))), ?_⟩
    refine ⟨_, rfl, _, rfl, _, _, rfl, rfl, _, rfl, _, rfl, _, rfl, r, p, q, k, _, _, rfl, R, _, rfl, ite2 (fun e => ?_) (fun e => ?_)⟩
    · rw [e, Bool.true_and] at kk
      refine ⟨_, rfl, _, rfl, _, rfl, r, p, q, k, _, _, rfl, R, _, rfl, ite2 (fun e => ?_) (fun e => ?_)⟩
      · rw [show fairB p q k (i - n) o = true from e, Bool.true_and] at kk
        exact ⟨_, rfl, _, rfl, _, rfl, _, _, rfl, rfl, _, rfl, _, rfl, _, _, rfl, rfl, r, p, q, k, _, _, rfl, R, kk⟩
      · rw [show fairB p q k (i - n) o = false from Bool.eq_false_iff.mpr e, Bool.false_and] at kk
        exact kk
    · rw [Bool.eq_false_iff.mpr e, Bool.false_and] at kk
      exact kk
end
end Ev
namespace Ev
open PySem L2 PySem.Spec PyProof.Rows
theorem same_new {H : Hp} {q : Addr} {o : HO} (n : H q = none) : Same H (upd H q o) := fun b u e => by rw [upd_ne (ne_of_none e n)]; exact e
theorem lk_hit {k : Str} {v : V} {l : List (Str × V)} : List.lookup k ((k, v) :: l) = some v := by simp [List.lookup]
theorem lk_miss {k k' : Str} {v : V} {l : List (Str × V)} (h : ¬ k = k') : List.lookup k ((k', v) :: l) = List.lookup k l := by
  have : (k == k') = false := by simpa using h
  simp [List.lookup, this]
theorem try_times (a : Addr) (k : Int) : (tryF a k).lookup ("times" : Str) = some (.ref a) := lk_hit
theorem try_plus (a : Addr) (k : Int) : (tryF a k).lookup ("plus" : Str) = some (.int k) := (lk_miss (by decide +kernel)).trans lk_hit
theorem turn_times (a : Addr) (k : Int) (b : Addr) (c : Int) : (turnF a k b c).lookup ("times" : Str) = some (.ref a) := lk_hit
theorem turn_plus (a : Addr) (k : Int) (b : Addr) (c : Int) : (turnF a k b c).lookup ("plus" : Str) = some (.int k) := (lk_miss (by decide +kernel)).trans lk_hit
theorem turn_turn (a : Addr) (k : Int) (b : Addr) (c : Int) : (turnF a k b c).lookup ("turn" : Str) = some (.ref b) := (lk_miss (by decide +kernel)).trans ((lk_miss (by decide +kernel)).trans lk_hit)
theorem turn_tp (a : Addr) (k : Int) (b : Addr) (c : Int) : (turnF a k b c).lookup ("turn_plus" : Str) = some (.int c) := (lk_miss (by decide +kernel)).trans ((lk_miss (by decide +kernel)).trans ((lk_miss (by decide +kernel)).trans lk_hit))
theorem try_no (a : Addr) (k : Int) {m : Str} (h1 : ¬ m = "times") (h2 : ¬ m = "plus") : (tryF a k).lookup m = none := (lk_miss h1).trans ((lk_miss h2).trans rfl)
theorem turn_no (a : Addr) (k : Int) (b : Addr) (c : Int) {m : Str} (h1 : ¬ m = "times") (h2 : ¬ m = "plus") (h3 : ¬ m = "turn") (h4 : ¬ m = "turn_plus") : (turnF a k b c).lookup m = none := (lk_miss h1).trans ((lk_miss h2).trans ((lk_miss h3).trans ((lk_miss h4).trans rfl)))
theorem put_try (a : Addr) (k : Int) : putF "plus" (.int k) (putF "times" (.ref a) []) = tryF a k := by
  show (if ("times" : Str) = "plus" then _ else _) = _
  rw [if_neg (by decide +kernel)]
  rfl
theorem put_turn1 (a : Addr) (k : Int) (b : Addr) : putF "turn" (V.ref b) (tryF a k) = ([("times", V.ref a), ("plus", V.int k), ("turn", V.ref b)] : List (Str × V)) := by
  show (if ("times" : Str) = "turn" then _ else _ :: (if ("plus" : Str) = "turn" then _ else _)) = _
  rw [if_neg (by decide +kernel), if_neg (by decide +kernel)]
  rfl
theorem put_turn2 (a : Addr) (k : Int) (b : Addr) (c : Int) : putF "turn_plus" (.int c) (putF "turn" (.ref b) (tryF a k)) = turnF a k b c := by
  rw [put_turn1]
  show (if ("times" : Str) = "turn_plus" then _ else _ :: (if ("plus" : Str) = "turn_plus" then _ else _ :: (if ("turn" : Str) = "turn_plus" then _ else _))) = _
  rw [if_neg (by decide +kernel), if_neg (by decide +kernel), if_neg (by decide +kernel)]
  rfl
/-- a class of rules -/
structure RCls (K : PySem.W.Frag) (C : Addr) : Prop where
  cl : Cls K C
  n1 : NoAttr K C "times"
  n2 : NoAttr K C "plus"
  n3 : NoAttr K C "turn"
  n4 : NoAttr K C "turn_plus"
def spTryInit (C : Addr) : Sp := fun vs H Q _ => ∃ (x dx a : Addr) (p q k : Int), vs = [.ref x, .ref a, .int k] ∧ H x = some (.ins C dx []) ∧ H a = some (.tup [.int p, .int q]) ∧ 1 ≤ q ∧ q ≤ p ∧ p ≤ 6 ∧ -6 ≤ k ∧ k ≤ 6 ∧ 2 * q ≤ p + k ∧
  ∀ H', But x H H' → H' x = some (.ins C dx (tryF a k)) → Q .non H'
def spTurnInit (C : Addr) : Sp := fun vs H Q _ => ∃ (x dx a b : Addr) (p q k t s c : Int), vs = [.ref x, .ref a, .int k, .ref b, .int c] ∧ H x = some (.ins C dx []) ∧ H a = some (.tup [.int p, .int q]) ∧ H b = some (.tup [.int t, .int s]) ∧
  1 ≤ q ∧ q ≤ p ∧ p ≤ 6 ∧ -6 ≤ k ∧ k ≤ 6 ∧ 2 * q ≤ p + k ∧ (1 ≤ t ∧ t ≤ 8) ∧ (1 ≤ s ∧ s ≤ 8) ∧ -6 ≤ c ∧ c ≤ 6 ∧ ∀ H', But x H H' → H' x = some (.ins C dx (turnF a k b c)) → Q .non H'
section
variable {P : Program} {w : World} {K : PySem.W.Frag} {mg : Str → Option Value} {base : Heap}
theorem scTryInit : FnScope ["self", "times", "plus"] ["self", "times", "plus"] (defScope sTryInit) := ⟨rfl, rfl, rfl, by decide +kernel, rfl, by decide +kernel, by decide +kernel⟩
theorem ok_tryInit {f C : Addr} {fd : FuncData} {dvs : List V} {kws : List (Str × V)} (F : FunD K "__init__" "TryRule.__init__" (defArgs sTryInit) (defBody sTryInit) (defScope sTryInit) dvs kws f fd) (T : RCls K C) (D1 : Df P w K mg base 5 "need_times" ["times", "plus"] (spNeedT K))
    (D2 : Df P w K mg base 2 "need_halves" ["times", "plus"] (spNeedH K)) : FnOk P w K mg base CX0 6 f fd ["self", "times", "plus"] (spTryInit C) := by
  obtain ⟨f1, fd1, G1, g1, k1, bb1⟩ := D1.ex
  obtain ⟨f2, fd2, G2, g2, k2, bb2⟩ := D2.ex
  refine F.ok scTryInit (fun vs H Q E h => ?_) (fun cdv A outer s H vs Q E hr h => ?_)
  · obtain ⟨x, dx, a, p, q, k, rfl, _⟩ := h
    rfl
  · obtain ⟨x, dx, a, p, q, k, rfl, hx, ha, h1, h2, h3, h4, h5, h6, kk⟩ := h
    refine ⟨_, PSs.nox (pss_cons (ps_expr (pe_call G1 hr (by rfl) g1 k1 bb1 .nil pass0 (pa_cons (pv 1) (pa_cons (pv 2) pa_nil))))
      (pss_cons (ps_expr (pe_call G2 (hr.mono (by decide)) (by rfl) g2 k2 bb2 .nil pass0 (pa_cons (pv 1) (pa_cons (pv 2) pa_nil))))
      (pss_cons (ps_fld (pv 0) (pv 1) rfl) (pss_one (ps_fld (pv 0) (pv 2) rfl))))), ?_⟩
    refine ⟨_, rfl, _, rfl, a, p, q, k, rfl, ha, h1, h2, h3, h4, h5, fun H1 s1 => ?_⟩
    refine ⟨_, rfl, _, rfl, a, p, q, k, rfl, s1 _ _ ha, by omega, h6, ?_⟩
    refine ⟨_, rfl, _, rfl, x, C, dx, _, rfl, s1 _ _ hx, T.cl, T.n1, (by show 0 < 1000; decide), _, rfl, _, rfl, x, C, dx, _, rfl, upd_same, T.cl, T.n2, (by show 1 < 1000; decide), ?_⟩
    refine kk _ ((Same.but s1).trans (But.upd_at.trans But.upd_at)) ?_
    rw [upd_same, put_try]
theorem scTurnInit : FnScope ["self", "times", "plus", "turn", "turn_plus"] ["self", "times", "plus", "turn", "turn_plus"] (defScope sTurnInit) := ⟨rfl, rfl, rfl, by decide +kernel, rfl, by decide +kernel, by decide +kernel⟩
theorem ok_turnInit {f C : Addr} {fd : FuncData} {dvs : List V} {kws : List (Str × V)} (F : FunD K "__init__" "TurnRule.__init__" (defArgs sTurnInit) (defBody sTurnInit) (defScope sTurnInit) dvs kws f fd) (T : RCls K C) (D1 : Df P w K mg base 5 "need_times" ["times", "plus"] (spNeedT K))
    (D2 : Df P w K mg base 2 "need_halves" ["times", "plus"] (spNeedH K)) (D3 : Df P w K mg base 4 "is_turn" ["value"] (spTurn K)) (D4 : Df P w K mg base 3 "is_plus" ["value"] spPlus) : FnOk P w K mg base CX0 6 f fd ["self", "times", "plus", "turn", "turn_plus"] (spTurnInit C) := by
  obtain ⟨f1, fd1, G1, g1, k1, bb1⟩ := D1.ex
  obtain ⟨f2, fd2, G2, g2, k2, bb2⟩ := D2.ex
  obtain ⟨f3, fd3, G3, g3, k3, bb3⟩ := D3.ex
  obtain ⟨f4, fd4, G4, g4, k4, bb4⟩ := D4.ex
  refine F.ok scTurnInit (fun vs H Q E h => ?_) (fun cdv A outer s H vs Q E hr h => ?_)
  · obtain ⟨x, dx, a, b, p, q, k, t, s, c, rfl, _⟩ := h
    rfl
  · obtain ⟨x, dx, a, b, p, q, k, t, s, c, rfl, hx, ha, hb, h1, h2, h3, h4, h5, h6, h7, h8, h9, h10, kk⟩ := h
    refine ⟨_, PSs.nox (pss_cons (ps_expr (pe_call G1 hr (by rfl) g1 k1 bb1 .nil pass0 (pa_cons (pv 1) (pa_cons (pv 2) pa_nil))))
      (pss_cons (ps_if (pt_not (pt_val (pe_call G3 (hr.mono (by decide)) (by rfl) g3 k3 bb3 .nil pass0 (pa_cons (pv 3) pa_nil)))) (pss_one ps_never) pss_nil)
      (pss_cons (ps_if (pt_not (pt_val (pe_call G4 (hr.mono (by decide)) (by rfl) g4 k4 bb4 .nil pass0 (pa_cons (pv 4) pa_nil)))) (pss_one ps_never) pss_nil)
      (pss_cons (ps_expr (pe_call G2 (hr.mono (by decide)) (by rfl) g2 k2 bb2 .nil pass0 (pa_cons (pv 1) (pa_cons (pv 2) pa_nil))))
      (pss_cons (ps_fld (pv 0) (pv 1) rfl) (pss_cons (ps_fld (pv 0) (pv 2) rfl) (pss_cons (ps_fld (pv 0) (pv 3) rfl) (pss_one (ps_fld (pv 0) (pv 4) rfl))))))))), ?_⟩
    refine ⟨_, rfl, _, rfl, a, p, q, k, rfl, ha, h1, h2, h3, h4, h5, fun H1 s1 => ?_⟩
    refine ⟨_, rfl, b, t, s, rfl, s1 _ _ hb, h7, h8, fun H2 s2 => ⟨true, rfl, iteF ?_⟩⟩
    refine ⟨_, rfl, c, rfl, h9, h10, true, rfl, iteF ?_⟩
    have s3 := s1.trans s2
    refine ⟨_, rfl, _, rfl, a, p, q, k, rfl, s3 _ _ ha, by omega, h6, ?_⟩
    refine ⟨_, rfl, _, rfl, x, C, dx, _, rfl, s3 _ _ hx, T.cl, T.n1, (by show 0 < 1000; decide), _, rfl, _, rfl, x, C, dx, _, rfl, upd_same, T.cl, T.n2, (by show 1 < 1000; decide), ?_⟩
    refine ⟨_, rfl, _, rfl, x, C, dx, _, rfl, upd_same, T.cl, T.n3, (by rw [put_try]; show 2 < 1000; decide), _, rfl, _, rfl, x, C, dx, _, rfl, upd_same, T.cl, T.n4, (by rw [put_try, put_turn1]; show 3 < 1000; decide), ?_⟩
    refine kk _ ((Same.but s3).trans (But.upd_at.trans (But.upd_at.trans (But.upd_at.trans But.upd_at)))) ?_
    rw [upd_same, put_try, put_turn2]
end
end Ev
namespace Ev
open PySem L2 PySem.Spec PyProof.Rows
/-! Promises of defs that are called while no repr is under way (so what they make can be shown). -/
structure FnG (P : Program) (w : World) (K : PySem.W.Frag) (mg : Str → Option Value) (base : Heap) (k : Nat) (f : Addr)
    (fd : FuncData) (ps : List Str) (sp : Sp) : Prop where
  many : ∀ vs H Q E, sp vs H Q E → vs.length = ps.length
  goes : ∀ (A : Around) (above : List Env) (s : Shared) (H : Hp) (args : Args) (us : List Value) (vs : List V) (Q : VK)
    (E : XK), Room k A → A.guards = some [] → Env0 P w K mg base A above s H → BindsTo s fd args (ps.zip us) → Vals vs us →
    sp vs H Q E → codeAny (model P w) A (.call (.ref f) args) (CR CX0 above P w H s Q E) s
theorem FnG.of {P : Program} {w : World} {K : PySem.W.Frag} {mg : Str → Option Value} {base : Heap} {k : Nat} {f : Addr}
    {fd : FuncData} {ps : List Str} {sp : Sp} (F : FnOk P w K mg base CX0 k f fd ps sp) : FnG P w K mg base k f fd ps sp :=
  ⟨F.len, fun A above s H args us vs Q E hr _ => F.run A above s H args us vs Q E hr⟩
section
variable {P : Program} {w : World} {K : PySem.W.Frag} {mg : Str → Option Value} {base : Heap}
/-- a def by its body, where no repr is under way -/
theorem fng_of {x qual : Str} {st : Stmt} {f : Addr} {fd : FuncData} {N ps : List Str} {k : Nat} {sp : Sp} (F : Fun K x qual st f fd)
    (S : FnScope N ps (defScope st)) (many : ∀ vs H Q E, sp vs H Q E → vs.length = ps.length)
    (body : ∀ (cdv : Value) (A : Around) (above : List Env) (s : Shared) (H : Hp) (vs : List V) (Q : VK) (E : XK),
      Room k (A.deeper (envOfC qual (defScope st) s.heap.objs.size f cdv)) → A.guards = some [] → sp vs H Q E →
      ∃ t, PSs (cxOf CX0 P w K mg base N qual (defScope st) f cdv A above s H E).nox (defBody st) t ∧
        t { nx := fun _ H' => Q .non H', rt := Q } (start N vs) H) : FnG P w K mg base (k + 1) f fd ps sp := by
  obtain ⟨oc, od, kV, doc, pm, an, cdv, ct, osl, rfl, lk, hcd⟩ := F.ex
  constructor
  · exact many
  · intro A above s H args us vs Q E room gd env bt rv hs
    have inK : K.In s.heap := env.mod.kin.keeps fun b o e => (env.bs b o e).1
    have noLim : s.heap.NoLimit := env.mod.nolimit.keeps fun b o e => (env.bs b o e).1
    have kinds : ∀ y ∈ ps.zip us, (defScope st).names.lookup y.1 = some .local ∨
        ((defScope st).names.lookup y.1 = some .cell ∧ ((cellsFrom (s.heap.objs.size + 1) (defScope st).names []).lookup y.1).isSome = true) := by
      rintro ⟨n, v⟩ hy
      cases S.par n (List.of_mem_zip hy).1 with
      | inl q => exact .inl q
      | inr q => exact .inr ⟨q, PySem.W.cellsFrom_some _ _ _ (.inl q)⟩
    refine codeAny_call_function room.depth (inK _ _ lk) rfl S.co S.gen rfl (PySem.W.codeRec_of inK hcd) (bt _ _ _ _ ?_)
    refine wpAny_newFunctionEnv_cells S.kind kinds fun e2 he s2 x => ?_
    subst he
    refine ⟨noLim.keeps x.toInCall.keep, codeAny_func ?_⟩
    obtain ⟨t, ht, hq⟩ := body cdv A above s H vs Q E (room.deeper _) gd hs
    have inv := inv_start (CX := CX0) (E := E) S room.hd env (many _ _ _ _ hs) rv x
    refine wpAny_mono (ht.nox.run [] s2 (start N vs) H _ inv hq) (fun fl s3 h3 => ?_) fun e s3 h3 => h3
    cases fl with
    | ret u =>
      obtain ⟨v, σ3, H3, J, rr, q⟩ := h3
      exact ⟨v, H3, J.os, J.bare, J.base, J.hok, rr, q⟩
    | next =>
      obtain ⟨σ3, H3, J, q⟩ := h3
      exact ⟨.non, H3, J.os, J.bare, J.base, J.hok, rfl, q⟩
    | brk =>
      obtain ⟨_, _, _, z⟩ := h3
      exact False.elim z
    | cont =>
      obtain ⟨_, _, _, z⟩ := h3
      exact False.elim z
end
section
variable {X : Cx}
/-- f(e, ..) of such a def -/
theorem pe_callG {k : Nat} {f : Addr} {fd : FuncData} {ps : List Str} {sp : Sp} {E : XK} {x : Str} {p pos : Pos} {e : Expr} {es : List Expr} {t : TA}
    (F : FnG X.prog X.w X.K X.mg X.base k f fd ps sp) (room : Room k X.A) (gd : X.A.guards = some []) (hg : Gl X x)
    (hm : X.mg x = some (.ref f)) (kp : PySem.W.keepIn X.K (.ref f) = true) (hb : Binds X.K fd ps []) (ha : PA X (e :: es) t)
    (hdb : (x == ("__debug__" : Str)) = false := by decide)
    (he : starEach (e :: es) X.env = (false, eval e X.env) :: starEach es X.env := by rfl)
    (hpl : (backTo pos (starEach es X.env)).any (·.1) = false := by rfl) :
    PE X (.Call (.Name x p) (e :: es) [] pos) (tCall sp [] E t) := by
  constructor
  intro pins s σ H Q I h
  refine wpAny_Call_Name_kw (ld_glob I hg hm ?_ hdb)
  refine PySem.W.callWith_K (h₀ := X.base) I.ok.mod.kin kp (thn (ha.run pos pins s σ H _ I h) fun us s1 d => ?_) he hpl
  obtain ⟨vs, H1, I1, rv, q⟩ := d
  refine ⟨I1.kIn, ?_⟩
  have q : sp vs H1 Q E := by
    have q' : sp (vs ++ []) H1 Q E := q
    rw [List.append_nil] at q'
    exact q'
  have hl : us.length = ps.length := rv.length.symm.trans (F.many _ _ _ _ q)
  have bt := hb s1 us I1.kIn (by rw [List.append_nil]; exact hl)
  rw [List.append_nil] at bt
  refine wpAny_call (codeAny_mono (F.goes X.A X.stack s1 H1 ⟨us, []⟩ us vs Q E room gd I1.env0 bt rv q) fun r s2 h2 => ?_)
  cases r with
  | error e => exact False.elim h2
  | ok fl =>
    cases fl with
    | ret u => exact I1.after h2
    | next => exact False.elim h2
    | brk => exact False.elim h2
    | cont => exact False.elim h2
/-- repr of data, where none is under way -/
def rRepr (K : PySem.W.Frag) : List V → Hp → VK → Prop := fun xs H Q => ∃ (a : Addr) (d : PyData), xs = [.ref a] ∧ Dp K H (.ref a) d ∧
  d.showable = true ∧ d.hasDict = false ∧ d.depth ≤ 32 ∧ d.shown.length ≤ sizeLine ∧ Q (.str d.shown) H
theorem call_repr (gd : X.A.guards = some []) (hu : X.A.units + 64 < cLine) : CallR X (.builtin "repr") (rRepr X.K) := by
  intro pins s σ H xs us Q I r h
  obtain ⟨a, d, rfl, hd, h1, h2, h3, h4, q⟩ := h
  cases r with
  | cons r1 r2 =>
    cases r2
    cases r1
    obtain ⟨as, rd⟩ := Dp.reads I d (.ref a) (.ref a) hd rfl
    exact repr_of_reads' rd h1 (fun z => by rw [h2] at z; cases z) gd (by omega) (fun _ _ e => e)
      (fun h' u tk hk => ⟨.str d.shown, H, I.kept hk, ⟨u, rfl⟩, q⟩) h4
end
/-! ### the law's own call -/
section
variable {P : Program} {w : World} {K : PySem.W.Frag} {mg mb : Str → Option Value}
theorem law_callG {k : Nat} {fa a : Addr} {fd : FuncData} {x : Str} {sp : Sp} {s : Shared} {vs : List Value} {ns : List Int}
    (inK : K.In s.heap) (ns1 : s.heap.Ns mainGlobals mg) (ns2 : s.heap.Ns builtinsNs mb) (blt : ∀ x : Str, x ≠ "__name__" → mb x = bootBuiltins x)
    (noLim : s.heap.NoLimit) (hg : s.gens = #[]) (ha : s.heap.get? a = some { cls := .type "list", data := .seq vs.toArray })
    (hi : IntsAre vs ns) (hl : ns.length ≤ sizeLine) (hr : Room k callerA)
    (F : ∀ base : Heap, K.In base → base.Ns mainGlobals mg → FnG P w K mg base k fa fd [x] sp)
    (bt : ∀ (s : Shared) (u : Value), BindsTo s fd ⟨[u], []⟩ [(x, u)])
    (hsp : ∀ H : Hp, SqL K H a (ns.map V.int) → sp [.ref a] H (fun v _ => v = .bl true) fun _ _ _ => False) :
    codeAny (model P w) callerA (.call (.ref fa) ⟨[.ref a], []⟩)
      (fun r s' => r = .ok (.ret (.bool true)) ∧ OldK s.heap s'.heap ∧ s'.os = s.os ∧ AllBare s'.gens) s := by
  have rv := vals_ints hi
  have lv := hi.length
  have key : ∀ H : Hp, (∀ b u, H b = some u → b = a ∧ K.lookup a = none ∧ u = .frz { cls := .type "list", data := .seq vs.toArray } (.lst (ns.map V.int))) →
      SqL K H a (ns.map V.int) → codeAny (model P w) callerA (.call (.ref fa) ⟨[.ref a], []⟩)
        (fun r s' => r = .ok (.ret (.bool true)) ∧ OldK s.heap s'.heap ∧ s'.os = s.os ∧ AllBare s'.gens) s := by
    intro H only sq
    have ok : HOk P w H s.heap := by
      intro b u e
      obtain ⟨rfl, _, rfl⟩ := only b u e
      exact ⟨ha, by rw [List.length_map]; exact hl, vs, _, rv, ha⟩
    have plain : ∀ {b : Addr} {o : Obj} {es : Array DictEntry} {n : Nat}, s.heap.get? b = some o → o.data = .dict es n → H b = none := by
      intro b o es n e d
      cases q : H b with
      | none => rfl
      | some u =>
        obtain ⟨rfl, _, _⟩ := only b u q
        rw [ha] at e
        cases e
        exact nomatch d
    have names : ∀ {b : Addr} {m : Str → Option Value}, s.heap.Ns b m → (hidT s.heap H).Ns b m := by
      rintro b m ⟨o, es, n, e, d, r⟩
      exact ⟨o, es, n, hidT_get e (plain e d), d, r⟩
    have inB : K.In (hidT s.heap H) := by
      intro b o e
      refine hidT_get (inK b o e) ?_
      cases q : H b with
      | none => rfl
      | some u =>
        obtain ⟨rfl, n, _⟩ := only b u q
        rw [n] at e
        cases e
    obtain ⟨mc, l1, l2⟩ := noLim
    have md : Mod K mg (hidT s.heap H) := ⟨inB, names ns1, ⟨mb, names ns2, blt⟩, ⟨mc, names l1, l2⟩⟩
    have env : Env0 P w K mg (hidT s.heap H) callerA [] s H :=
      ⟨rfl, md, fun b o e => of_hidT e, Nat.le_of_eq (hidT_size _ _), trivial, (fun b hb => by cases hb), ok, .of_eq hg⟩
    have go := (F _ inB (names ns1)).goes callerA [] s H ⟨[.ref a], []⟩ [.ref a] [.ref a] _ _ hr rfl env (bt s (.ref a)) (.cons rfl .nil) (hsp H sq)
    refine codeAny_mono go fun r s2 h2 => ?_
    cases r with
    | error e => exact False.elim h2
    | ok fl =>
      cases fl with
      | next => exact False.elim h2
      | brk => exact False.elim h2
      | cont => exact False.elim h2
      | ret u =>
        obtain ⟨v, H2, os, bare, un, ok2, rr, q⟩ := h2
        obtain rfl : v = V.bl true := q
        obtain rfl : u = Value.bool true := rr
        refine ⟨rfl, OldK.of_keep fun b o e => ?_, os, bare⟩
        cases q : H b with
        | none => exact un.keep b o e q (by intro z; cases z) (by simp)
        | some u =>
          obtain ⟨rfl, _, rfl⟩ := only b u q
          obtain ⟨e1, _⟩ := ok b _ q
          obtain ⟨e2, _⟩ := ok2 b _ (un.frzs b _ _ q)
          rw [e] at e1
          cases e1
          exact e2
  cases hk : K.lookup a with
  | none =>
    refine key (fun b => if b = a then some (.frz { cls := .type "list", data := .seq vs.toArray } (.lst (ns.map V.int))) else none) (fun b u e => ?_) (.inl (.inr ⟨_, if_pos rfl⟩))
    by_cases z : b = a
    · rw [if_pos z] at e
      cases e
      exact ⟨z, hk, rfl⟩
    · rw [if_neg z] at e
      cases e
  | some o =>
    have e := inK a o hk
    rw [ha] at e
    cases e
    refine key (fun _ => none) (fun b u e => by cases e) (.inr ⟨_, vs.toArray, _, hk, rfl, rfl, rfl, ?_, by simpa using rv⟩)
    rw [List.size_toArray, lv]
    exact hl
end
theorem walk_ofG {l : PySem.W.OpenLaw} {n k : Nat} {q : Program} {loose : List Str} {XP : (Str → Option Value) → Heap → Prop} {YP : World → Heap → Prop}
    {d : DefRec} {K : Params → PySem.W.Frag} {sp : World → Sp} {x : Str} (hn : l.most = some n) (hn2 : n ≤ sizeLine) (hdf : d.params.defaults = [])
    (hr : Room k callerA) (hY : ∀ (w : World) (h : Heap), YP w h → (K w.params).In h)
    (F : ∀ (w : World) (mg : Str → Option Value) (fa : Addr) (h : Heap), (K w.params).In h → h.Ns mainGlobals mg → mg d.name = some (.ref fa) →
      ∃ fd : FuncData, (∀ (s : Shared) (u : Value), BindsTo s fd ⟨[u], []⟩ [(x, u)]) ∧
        ∀ base : Heap, (K w.params).In base → base.Ns mainGlobals mg → FnG l.prog w (K w.params) mg base k fa fd [x] (sp w))
    (hsp : ∀ (w : World) (H : Hp) (a : Addr) (ns : List Int), ns.length ≤ n → SqL (K w.params) H a (ns.map V.int) → sp w [.ref a] H (fun v _ => v = .bl true) fun _ _ _ => False) :
    PySem.W.WalkO q loose XP YP l.row.toRowW d [] (fun f vs => PySem.call f vs) := by
  refine Att.attach_call hn hdf fun w s0 s1 mg mb fa o pm cd doc a vs ns G Y h1 h2 h3 h4 h5 h6 h7 h8 => ?_
  obtain ⟨fd, bt, hF⟩ := F w mg fa _ (hY w _ Y) G.T.g h4
  exact law_callG (hY w _ Y) G.T.g G.T.b G.T.builtins G.T.nolimit h8 h5 h6 (Nat.le_trans h7 hn2) hr hF bt (fun H sq => hsp w H a ns h7 sq)
end Ev
namespace Ev
open PySem L2 PySem.Spec PyProof.Rows
theorem walk_ofGE {l : PySem.W.OpenLaw} {n k : Nat} {q : Program} {loose : List Str} {XP : (Str → Option Value) → Heap → Prop} {YP : World → Heap → Prop}
    {d : DefRec} {x : Str} (hn : l.most = some n) (hn2 : n ≤ sizeLine) (hdf : d.params.defaults = []) (hr : Room k callerA)
    (F : ∀ (w : World) (mg : Str → Option Value) (fa : Addr) (h : Heap), YP w h → h.Ns mainGlobals mg → mg d.name = some (.ref fa) →
      ∃ (K : PySem.W.Frag) (fd : FuncData) (sp : Sp), K.In h ∧ (∀ (s : Shared) (u : Value), BindsTo s fd ⟨[u], []⟩ [(x, u)]) ∧
        (∀ (H : Hp) (a : Addr) (ns : List Int), ns.length ≤ n → SqL K H a (ns.map V.int) → sp [.ref a] H (fun v _ => v = .bl true) fun _ _ _ => False) ∧
        ∀ base : Heap, K.In base → base.Ns mainGlobals mg → FnG l.prog w K mg base k fa fd [x] sp) :
    PySem.W.WalkO q loose XP YP l.row.toRowW d [] (fun f vs => PySem.call f vs) := by
  refine Att.attach_call hn hdf fun w s0 s1 mg mb fa o pm cd doc a vs ns G Y h1 h2 h3 h4 h5 h6 h7 h8 => ?_
  obtain ⟨K, fd, sp, inK, bt, hsp, hF⟩ := F w mg fa _ Y G.T.g h4
  exact law_callG inK G.T.g G.T.b G.T.builtins G.T.nolimit h8 h5 h6 (Nat.le_trans h7 hn2) hr hF bt (fun H sq => hsp H a ns h7 sq)
end Ev
namespace Ev
open PySem L2 PySem.Spec PyProof.Rows
abbrev sPen : Stmt := top 66
abbrev sPick : Stmt := top 68
abbrev sNums : Stmt := top 69
abbrev sRule : Stmt := top 70
abbrev sLaw : Stmt := top 76
theorem Pen.new {L : Addr} {H : Hp} {p q : Addr} {B : Int} {o : HO} (h : Pen L H p B) (n : H q = none) : Pen L (upd H q o) p B := h.keep (fun b u e => by rw [upd_ne (ne_of_none e n)]; exact e)
theorem Pen.some {L : Addr} {H : Hp} {p : Addr} {B : Int} (h : Pen L H p B) : ∃ xs, H p = some (.lst xs) := by
  obtain ⟨ns, t, c, h1, _⟩ := h
  exact ⟨_, h1⟩
theorem Pen.ne {L : Addr} {H : Hp} {p q : Addr} {B : Int} (h : Pen L H p B) (n : H q = none) : q ≠ p := by
  obtain ⟨xs, e⟩ := h.some
  exact (ne_of_none e n).symm
theorem But.free {L p a : Addr} {H H' : Hp} {B : Int} (t : But p H H') (h : Pen L H' p B) (n : H' a = none) : H a = none := by
  cases e : H a with
  | none => rfl
  | some o =>
    have := t a o (h.ne n) e
    rw [n] at this
    cases this
def spPick : Sp := fun vs H Q _ => ∃ (p l L : Addr) (xs : List V) (B : Int), vs = [.ref p, .ref l] ∧ H l = some (.lst xs) ∧ l ≠ p ∧ 1 ≤ xs.length ∧ xs.length ≤ 1000 ∧ B ≤ 1000000 ∧ Pen L H p B ∧
  ∀ (d : V) (H' : Hp), d ∈ xs → But p H H' → Pen L H' p (B + 1) → Q d H'
inductive Row
  | tr (p q k : Int)
  | tn (p q k t s c : Int)
def Row.vs : Row → List V
  | .tr p q k => [.int p, .int q, .int k]
  | .tn p q k t s c => [.int p, .int q, .int k, .int t, .int s, .int c]
def Row.p : Row → Int
  | .tr p _ _ => p
  | .tn p _ _ _ _ _ => p
def Row.q : Row → Int
  | .tr _ q _ => q
  | .tn _ q _ _ _ _ => q
def Row.k : Row → Int
  | .tr _ _ k => k
  | .tn _ _ k _ _ _ => k
def okN (p q k : Int) : Prop := 1 ≤ q ∧ q ≤ p ∧ p ≤ 6 ∧ -6 ≤ k ∧ k ≤ 6 ∧ 2 * q ≤ p + k
def okT (t s c : Int) : Prop := (1 ≤ t ∧ t ≤ 8) ∧ (1 ≤ s ∧ s ≤ 8) ∧ -6 ≤ c ∧ c ≤ 6
def Row.ok : Row → Prop
  | .tr p q k => okN p q k
  | .tn p q k t s c => okN p q k ∧ okT t s c
def spNums : Sp := fun vs H Q _ => ∃ (p L : Addr) (B : Int), vs = [.ref p] ∧ B ≤ 900000 ∧ Pen L H p B ∧
  ∀ (a : Addr) (p' q k t s c : Int) (H' : Hp), okN p' q k → okT t s c → H a = none → H' a = some (.tup (Row.tn p' q k t s c).vs) → But p H H' → Pen L H' p (B + 9) → Q (.ref a) H'
section
variable {P : Program} {w : World} {K : PySem.W.Frag} {mg : Str → Option Value} {base : Heap}
theorem scPick : FnScope ["_law_pen_here", "_law_some"] ["_law_pen_here", "_law_some"] (defScope sPick) := ⟨rfl, rfl, rfl, by decide +kernel, rfl, by decide +kernel, by decide +kernel⟩
theorem ok_pick {f : Addr} {fd : FuncData} (F : Fun K "_law_pick" "_law_pick" sPick f fd) (T : Blt mg) (D : Df P w K mg base 1 "_law_draw" ["_law_pen_here", "_law_many"] spDraw) : FnOk P w K mg base CX0 2 f fd ["_law_pen_here", "_law_some"] spPick := by
  obtain ⟨f1, fd1, G1, g1, k1, b1⟩ := D.ex
  refine F.ok scPick (fun vs H Q E h => ?_) (fun cdv A outer s H vs Q E hr h => ?_)
  · obtain ⟨p, l, L, xs, B, rfl, _⟩ := h
    rfl
  · obtain ⟨p, l, L, xs, B, rfl, hl, hne, x1, x2, hB, hp, kk⟩ := h
    refine ⟨_, pss_one (ps_ret (pe_ix ix_list (pv 1) (pe_call G1 hr (by rfl) g1 k1 b1 .nil pass0 (pa_cons (pv 0) (pa_cons (pe_callB call_len_seq (by rfl) T.len PySem.boot_len (pa_cons (pv 1) pa_nil)) pa_nil))) (fun _ _ => rfl))), ?_⟩
    refine ⟨_, rfl, _, rfl, _, rfl, l, _, rfl, .inl (SqL.of hl), p, L, _, B, rfl, by omega, by omega, hB, hp, fun d H1 bt pn d0 d1 => ?_⟩
    obtain ⟨j, rfl⟩ := Int.eq_ofNat_of_zero_le d0
    have hj : j < xs.length := by omega
    refine ⟨l, xs, _, xs[j], rfl, rfl, SqL.of (bt _ _ hne hl), atI_nat (List.getElem?_eq_getElem hj), ?_⟩
    exact kk _ _ (List.getElem_mem hj) bt pn
theorem scNums : FnScope ["_law_pen_here", "_law_q", "_law_p", "_law_k", "_law_s"] ["_law_pen_here"] (defScope sNums) := ⟨rfl, rfl, rfl, by decide +kernel, rfl, by decide +kernel, by decide +kernel⟩
theorem ok_nums {f : Addr} {fd : FuncData} (F : Fun K "_law_numbers" "_law_numbers" sNums f fd) (T : Blt mg) (D1 : Df P w K mg base 1 "_law_draw" ["_law_pen_here", "_law_many"] spDraw) (D2 : Df P w K mg base 2 "_law_pick" ["_law_pen_here", "_law_some"] spPick) :
    FnOk P w K mg base CX0 3 f fd ["_law_pen_here"] spNums := by
  obtain ⟨f1, fd1, G1, g1, k1, b1⟩ := D1.ex
  obtain ⟨f2, fd2, G2, g2, k2, b2⟩ := D2.ex
  refine F.ok scNums (fun vs H Q E h => ?_) (fun cdv A outer s H vs Q E hr h => ?_)
  · obtain ⟨p, L, B, rfl, _⟩ := h
    rfl
  · obtain ⟨p, L, B, rfl, hB, hp, kk⟩ := h
    have hr1 : Room 1 _ := hr.mono (by decide)
    refine ⟨_, pss_cons (ps_set (i := 1) scNums.nd rfl (.inl rfl) (pe_op op_add pe_int (pe_call G2 hr (by rfl) g2 k2 b2 .nil pass0 (pa_cons (pv 0) (pa_cons (pe_lst (pa_cons pe_int (pa_cons pe_int (pa_cons pe_int (pa_cons pe_int (pa_cons pe_int (pa_cons (pe_call G1 hr1 (by rfl) g1 k1 b1 .nil pass0 (pa_cons (pv 0) (pa_cons pe_int pa_nil))) pa_nil))))))) pa_nil)))))
      (pss_cons (ps_set (i := 2) scNums.nd rfl (.inl rfl) (pe_op op_add (pv 1) (pe_call G1 hr1 (by rfl) g1 k1 b1 .nil pass0 (pa_cons (pv 0) (pa_cons (pe_op op_sub pe_int (pv 1)) pa_nil)))))
      (pss_cons (ps_set (i := 3) scNums.nd rfl (.inl rfl) (pe_call G2 hr (by rfl) g2 k2 b2 .nil pass0 (pa_cons (pv 0) (pa_cons (pe_lst (pa_cons pe_int (pa_cons pe_int (pa_cons pe_int (pa_cons (pe_un un_neg pe_int) (pa_cons pe_int (pa_cons (pe_op op_sub (pe_call G1 hr1 (by rfl) g1 k1 b1 .nil pass0 (pa_cons (pv 0) (pa_cons pe_int pa_nil))) pe_int) pa_nil))))))) pa_nil))))
      (pss_cons (ps_set (i := 3) scNums.nd rfl (.inl rfl) (pe_ifExp (pt_cmpR op_ge (pe_op op_add (pv 2) (pv 3)) (pe_op op_mul pe_int (pv 1)) (nomark _)) (pv 3) (pe_op op_sub (pe_op op_mul pe_int (pv 1)) (pv 2))))
      (pss_cons (ps_set (i := 4) scNums.nd rfl (.inl rfl) (pe_op op_add pe_int (pe_call G1 hr1 (by rfl) g1 k1 b1 .nil pass0 (pa_cons (pv 0) (pa_cons pe_int pa_nil)))))
      (pss_one (ps_ret (pe_tup (pa_cons (pv 2) (pa_cons (pv 1) (pa_cons (pv 3) (pa_cons (pe_op op_add (pv 4) (pe_call G1 hr1 (by rfl) g1 k1 b1 .nil pass0 (pa_cons (pv 0) (pa_cons pe_int pa_nil)))) (pa_cons (pv 4)
        (pa_cons (pe_call G2 hr (by rfl) g2 k2 b2 .nil pass0 (pa_cons (pv 0) (pa_cons (pe_lst (pa_cons pe_int (pa_cons pe_int (pa_cons (pe_un un_neg pe_int) (pa_cons pe_int (pa_cons (pe_un un_neg (pv 4)) (pa_cons (pe_op op_sub (pe_call G1 hr1 (by rfl) g1 k1 b1 .nil pass0 (pa_cons (pv 0) (pa_cons pe_int pa_nil))) pe_int) pa_nil))))))) pa_nil))) pa_nil))))))))))))), ?_⟩
    -- q
    refine ⟨_, rfl, _, rfl, p, L, _, B, rfl, by decide, by decide, by omega, hp, fun d1 H1 t1 p1 a1 c1 => ⟨(by show 6 ≤ sizeLine; decide), fun l1 hl1 => ⟨p, l1, L, _, _, rfl, upd_same, p1.ne hl1, (by show 1 ≤ 6; decide), (by show 6 ≤ 1000; decide), by omega, p1.new hl1, fun q0v H2 m2 t2 p2 => ?_⟩⟩⟩
    obtain ⟨q0, rfl, q0lo, q0hi⟩ : ∃ q0 : Int, q0v = .int q0 ∧ 0 ≤ q0 ∧ q0 ≤ 5 := by
      simp only [List.mem_cons, List.not_mem_nil, or_false] at m2
      rcases m2 with e | e | e | e | e | e
      · exact ⟨_, e, by decide, by decide⟩
      · exact ⟨_, e, by decide, by decide⟩
      · exact ⟨_, e, by decide, by decide⟩
      · exact ⟨_, e, by decide, by decide⟩
      · exact ⟨_, e, by decide, by decide⟩
      · exact ⟨_, e, by omega, by omega⟩
    have u2 : But p H H2 := t1.trans ((Same.but (same_new hl1)).trans t2)
    -- p
    refine ⟨_, _, rfl, rfl, ?_⟩
    refine ⟨_, rfl, _, rfl, _, rfl, _, _, rfl, rfl, p, L, _, _, rfl, by omega, by omega, by omega, p2, fun d3 H3 t3 p3 a3 c3 => ⟨_, _, rfl, rfl, ?_⟩⟩
    -- k
    refine ⟨_, rfl, _, rfl, _, rfl, p, L, _, _, rfl, by decide, by decide, by omega, p3, fun d4 H4 t4 p4 a4 c4 => ⟨_, _, rfl, rfl, (by show 6 ≤ sizeLine; decide), fun l hl => ⟨p, l, L, _, _, rfl, upd_same, p4.ne hl, (by show 1 ≤ 6; decide), (by show 6 ≤ 1000; decide), by omega, p4.new hl, fun d5 H5 m5 t5 p5 => ?_⟩⟩⟩
    obtain ⟨k0, rfl, k0lo, k0hi⟩ : ∃ k0 : Int, d5 = .int k0 ∧ -6 ≤ k0 ∧ k0 ≤ 6 := by
      simp only [List.mem_cons, List.not_mem_nil, or_false] at m5
      rcases m5 with e | e | e | e | e | e
      · exact ⟨_, e, by decide, by decide⟩
      · exact ⟨_, e, by decide, by decide⟩
      · exact ⟨_, e, by decide, by decide⟩
      · exact ⟨_, e, by decide, by decide⟩
      · exact ⟨_, e, by decide, by decide⟩
      · exact ⟨_, e, by omega, by omega⟩
    have t05 : But p H H5 := (u2.trans t3).trans (t4.trans ((Same.but (same_new hl)).trans t5))
    refine ⟨_, rfl, _, rfl, _, _, rfl, rfl, _, rfl, _, _, rfl, rfl, .inl ⟨by decide, by decide⟩, _, _, rfl, rfl, _, rfl, ite2 (fun e => ?_) (fun e => ?_)⟩
    · have e := of_decide_eq_true e
      refine ⟨_, rfl, ?_⟩
      refine ⟨_, rfl, p, L, _, _, rfl, by decide, by decide, by omega, p5, fun d6 H6 t6 p6 a6 c6 => ⟨_, _, rfl, rfl, ?_⟩⟩
      refine ⟨_, rfl, _, rfl, _, rfl, _, rfl, _, rfl, p, L, _, _, rfl, by decide, by decide, by omega, p6, fun d7 H7 t7 p7 a7 c7 => ⟨_, _, rfl, rfl, _, rfl, _, rfl, _, rfl, _, rfl, _, rfl, _, rfl, p, L, _, _, rfl, by decide, by decide, by omega, p7, fun d8 H8 t8 p8 a8 c8 => ⟨_, _, rfl, rfl, (by show 6 ≤ sizeLine; decide), fun l2 hl2 => ⟨p, l2, L, _, _, rfl, upd_same, p8.ne hl2, (by show 1 ≤ 6; decide), (by show 6 ≤ 1000; decide), by omega, p8.new hl2, fun d9 H9 m9 t9 p9 => ⟨(by show 6 ≤ sizeLine; decide), fun a na => ?_⟩⟩⟩⟩⟩
      obtain ⟨c0, rfl, c0lo, c0hi⟩ : ∃ c0 : Int, d9 = .int c0 ∧ -6 ≤ c0 ∧ c0 ≤ 6 := by
        simp only [List.mem_cons, List.not_mem_nil, or_false] at m9
        rcases m9 with e | e | e | e | e | e
        · exact ⟨_, e, by decide, by decide⟩
        · exact ⟨_, e, by decide, by decide⟩
        · exact ⟨_, e, by decide, by decide⟩
        · exact ⟨_, e, by decide, by decide⟩
        · exact ⟨_, e, by omega, by omega⟩
        · exact ⟨_, e, by omega, by omega⟩
      have t09 : But p H H9 := t05.trans (((t6.trans t7).trans t8).trans ((Same.but (same_new hl2)).trans t9))
      refine kk a _ _ _ _ _ _ _ ?_ ?_ (t09.free p9 na) upd_same (t09.trans (Same.but (same_new na))) ((p9.new na).mono (by omega))
      · exact ⟨by omega, by omega, by omega, by omega, by omega, by omega⟩
      · exact ⟨⟨by omega, by omega⟩, ⟨by omega, by omega⟩, by omega, by omega⟩
    · have e : ¬ (2 * (1 + q0) ≤ 1 + q0 + d3 + k0) := fun z => e (decide_eq_true z)
      refine ⟨_, rfl, _, _, rfl, rfl, .inl ⟨by decide, by decide⟩, _, rfl, _, _, rfl, rfl, ?_⟩
      refine ⟨_, rfl, p, L, _, _, rfl, by decide, by decide, by omega, p5, fun d6 H6 t6 p6 a6 c6 => ⟨_, _, rfl, rfl, ?_⟩⟩
      refine ⟨_, rfl, _, rfl, _, rfl, _, rfl, _, rfl, p, L, _, _, rfl, by decide, by decide, by omega, p6, fun d7 H7 t7 p7 a7 c7 => ⟨_, _, rfl, rfl, _, rfl, _, rfl, _, rfl, _, rfl, _, rfl, _, rfl, p, L, _, _, rfl, by decide, by decide, by omega, p7, fun d8 H8 t8 p8 a8 c8 => ⟨_, _, rfl, rfl, (by show 6 ≤ sizeLine; decide), fun l2 hl2 => ⟨p, l2, L, _, _, rfl, upd_same, p8.ne hl2, (by show 1 ≤ 6; decide), (by show 6 ≤ 1000; decide), by omega, p8.new hl2, fun d9 H9 m9 t9 p9 => ⟨(by show 6 ≤ sizeLine; decide), fun a na => ?_⟩⟩⟩⟩⟩
      obtain ⟨c0, rfl, c0lo, c0hi⟩ : ∃ c0 : Int, d9 = .int c0 ∧ -6 ≤ c0 ∧ c0 ≤ 6 := by
        simp only [List.mem_cons, List.not_mem_nil, or_false] at m9
        rcases m9 with e | e | e | e | e | e
        · exact ⟨_, e, by decide, by decide⟩
        · exact ⟨_, e, by decide, by decide⟩
        · exact ⟨_, e, by decide, by decide⟩
        · exact ⟨_, e, by decide, by decide⟩
        · exact ⟨_, e, by omega, by omega⟩
        · exact ⟨_, e, by omega, by omega⟩
      have t09 : But p H H9 := t05.trans (((t6.trans t7).trans t8).trans ((Same.but (same_new hl2)).trans t9))
      refine kk a _ _ _ _ _ _ _ ?_ ?_ (t09.free p9 na) upd_same (t09.trans (Same.but (same_new na))) ((p9.new na).mono (by omega))
      · exact ⟨by omega, by omega, by omega, by omega, by omega, by omega⟩
      · exact ⟨⟨by omega, by omega⟩, ⟨by omega, by omega⟩, by omega, by omega⟩
end
end Ev
namespace Ev
open PySem L2 PySem.Spec PyProof.Rows
def ObjAt (Ct Cn : Addr) (H : Hp) (r : Addr) : Row → Prop
  | .tr p q k => ∃ dx a : Addr, H r = some (.ins Ct dx (tryF a k)) ∧ H a = some (.tup [.int p, .int q])
  | .tn p q k t s c => ∃ dx a b : Addr, H r = some (.ins Cn dx (turnF a k b c)) ∧ H a = some (.tup [.int p, .int q]) ∧ H b = some (.tup [.int t, .int s])
theorem ObjAt.keep {Ct Cn : Addr} {H H' : Hp} {r : Addr} {row : Row} (h : ObjAt Ct Cn H r row) (k : Same H H') : ObjAt Ct Cn H' r row := by
  cases row with
  | tr p q kk =>
    obtain ⟨dx, a, h1, h2⟩ := h
    exact ⟨dx, a, k _ _ h1, k _ _ h2⟩
  | tn p q kk t s c =>
    obtain ⟨dx, a, b, h1, h2, h3⟩ := h
    exact ⟨dx, a, b, k _ _ h1, k _ _ h2, k _ _ h3⟩
theorem ObjAt.but {Ct Cn p : Addr} {H H' : Hp} {r : Addr} {row : Row} {xs : List V} (h : ObjAt Ct Cn H r row) (hp : H p = some (.lst xs)) (k : But p H H') : ObjAt Ct Cn H' r row := by
  cases row with
  | tr p q kk =>
    obtain ⟨dx, a, h1, h2⟩ := h
    exact ⟨dx, a, k _ _ (ne_of h1 hp (by intro z; cases z)) h1, k _ _ (ne_of h2 hp (by intro z; cases z)) h2⟩
  | tn p q kk t s c =>
    obtain ⟨dx, a, b, h1, h2, h3⟩ := h
    exact ⟨dx, a, b, k _ _ (ne_of h1 hp (by intro z; cases z)) h1, k _ _ (ne_of h2 hp (by intro z; cases z)) h2, k _ _ (ne_of h3 hp (by intro z; cases z)) h3⟩
theorem ObjAt.rb {K : PySem.W.Frag} {Ct Cn : Addr} {H : Hp} {r : Addr} {row : Row} (h : ObjAt Ct Cn H r row) (T : RCls K Ct) (N : RCls K Cn) (o : row.ok) : RB K H r row.p row.q row.k := by
  cases row with
  | tr p q kk =>
    obtain ⟨dx, a, h1, h2⟩ := h
    obtain ⟨o1, o2, o3, o4, o5, o6⟩ := o
    exact ⟨⟨Ct, dx, _, a, h1, T.cl, T.n1, T.n2, try_times a kk, try_plus a kk, h2⟩, o1, o2, o3, o4, o5⟩
  | tn p q kk t s c =>
    obtain ⟨dx, a, b, h1, h2, h3⟩ := h
    obtain ⟨⟨o1, o2, o3, o4, o5, o6⟩, _⟩ := o
    exact ⟨⟨Cn, dx, _, a, h1, N.cl, N.n1, N.n2, turn_times a kk b c, turn_plus a kk b c, h2⟩, o1, o2, o3, o4, o5⟩
def spRule (Ct Cn : Addr) : Sp := fun vs H Q _ => ∃ (l : Addr) (p q k t s c : Int) (b : Bool), vs = [.ref l, .bl b] ∧ H l = some (.tup (Row.tn p q k t s c).vs) ∧ okN p q k ∧ okT t s c ∧
  ∀ (r : Addr) (H' : Hp) (row : Row), Same H H' → ObjAt Ct Cn H' r row → row.ok → row.p = p → row.q = q → row.k = k → Q (.ref r) H'
section
variable {P : Program} {w : World} {K : PySem.W.Frag} {mg : Str → Option Value} {base : Heap}
theorem Row.okN {row : Row} (o : row.ok) : Ev.okN row.p row.q row.k := by
  cases row with
  | tr p q k => exact o
  | tn p q k t s c => exact o.1
theorem max6 {c : Int} (h : -6 ≤ c) : (if c > -6 then c else -6) = c := by
  by_cases z : c > -6
  · exact if_pos z
  · rw [if_neg z]; omega
theorem scRule : FnScope ["_law_some", "_law_is_turn", "_law_p", "_law_q", "_law_k", "_law_t", "_law_s", "_law_r"] ["_law_some", "_law_is_turn"] (defScope sRule) := ⟨rfl, rfl, rfl, by decide +kernel, rfl, by decide +kernel, by decide +kernel⟩
theorem ok_rule {f Ct Cn fT fN : Addr} {fd fdT fdN : FuncData} {g : List Value → List Value → List Value} (F : Fun K "_law_rule" "_law_rule" sRule f fd) (T : Blt mg) (gT : mg "TryRule" = some (.ref Ct)) (gN : mg "TurnRule" = some (.ref Cn)) (MT : Mk K Ct fT) (MN : Mk K Cn fN)
    (GT : FnOk P w K mg base CX0 6 fT fdT ["self", "times", "plus"] (spTryInit Ct)) (bT : Binds K fdT ["self", "times", "plus"] [])
    (GN : FnOk P w K mg base CX0 6 fN fdN ["self", "times", "plus", "turn", "turn_plus"] (spTurnInit Cn)) (bN : KBn K fdN ["self", "times", "plus", "turn", "turn_plus"] 3 ["turn", "turn_plus"] g (fun vs zs => vs ++ zs)) :
    FnOk P w K mg base CX0 8 f fd ["_law_some", "_law_is_turn"] (spRule Ct Cn) := by
  refine F.ok scRule (fun vs H Q E h => ?_) (fun cdv A outer s H vs Q E hr h => ?_)
  · obtain ⟨l, p, q, k, t, s, c, b, rfl, _⟩ := h
    rfl
  · obtain ⟨l, p, q, k, t, s, c, b, rfl, hl, o, ot, kk⟩ := h
    refine ⟨_, pss_cons (ps_asg (pv 0) (pg_tup (by rfl) (pgs_cons (pg_name (i := 2) scRule.nd rfl (.inl rfl)) (pgs_cons (pg_name (i := 3) scRule.nd rfl (.inl rfl)) (pgs_cons (pg_name (i := 4) scRule.nd rfl (.inl rfl)) (pgs_cons (pg_name (i := 5) scRule.nd rfl (.inl rfl)) (pgs_cons (pg_name (i := 6) scRule.nd rfl (.inl rfl)) (pgs_cons (pg_name (i := 7) scRule.nd rfl (.inl rfl)) pgs_nil))))))))
      (pss_one (ps_ret (pe_ifExp (pt_val (pv 1))
        (pe_makeN (n := 2) MN GN hr (by rfl) gN bN pass0 (pa_cons (pe_tup (pa_cons (pv 2) (pa_cons (pv 3) pa_nil))) (pa_cons (pv 4) pa_nil))
          (pk_cons (pe_tup (pa_cons (pv 5) (pa_cons (pv 6) pa_nil))) (pk_cons (pe_callB (call_max2 rfl) (by rfl) T.max (by decide +kernel) (pa_cons (pe_un un_neg pe_int) (pa_cons (pe_callTy call_int1 (by rfl) T.int (by decide +kernel) (pa_cons (pv 7) pa_nil)) pa_nil))) pk_nil)))
        (pe_make MT GT hr (by rfl) gT bT .nil pass0 (pa_cons (pe_tup (pa_cons (pv 2) (pa_cons (pv 3) pa_nil))) (pa_cons (pv 4) pa_nil)))))), ?_⟩
    obtain ⟨o1, o2, o3, o4, o5, o6⟩ := o
    refine ⟨_, rfl, l, _, rfl, SqT.of hl, rfl, _, _, rfl, _, _, rfl, _, _, rfl, _, _, rfl, _, _, rfl, _, _, rfl, rfl, ?_⟩
    refine ⟨_, rfl, b, rfl, ite2 (fun e => ?_) (fun e => ?_)⟩
    · refine ⟨_, rfl, _, rfl, (by show 2 ≤ sizeLine; decide), fun tp ntp => ⟨_, rfl, ?_⟩⟩
      refine ⟨_, rfl, _, rfl, (by show 2 ≤ sizeLine; decide), fun tq ntq => ?_⟩
      refine ⟨_, rfl, _, rfl, .inl ⟨_, rfl, _, _, rfl, ?_⟩⟩
      rw [max6 ot.2.2.1]
      refine ⟨rfl, rfl, fun x dx nx ndx nex => ?_⟩
      have f1 : upd (upd H tp (.tup [.int p, .int q])) tq (.tup [.int t, .int s]) tp = some (.tup [.int p, .int q]) := same_new ntq _ _ upd_same
      have f2 : upd (upd H tp (.tup [.int p, .int q])) tq (.tup [.int t, .int s]) tq = some (.tup [.int t, .int s]) := upd_same
      have s2 : Same H (upd (upd H tp (.tup [.int p, .int q])) tq (.tup [.int t, .int s])) := (same_new ntp).trans (same_new ntq)
      generalize upd (upd H tp (.tup [.int p, .int q])) tq (.tup [.int t, .int s]) = H2 at f1 f2 s2 nx ndx ⊢
      have keep : ∀ (o1 o2 : HO) (b : Addr) (u : HO), H2 b = some u → upd (upd H2 dx o1) x o2 b = some u := fun o1 o2 b u e => by
        rw [upd_ne (ne_of_none e nx), upd_ne (ne_of_none e ndx)]; exact e
      refine ⟨x, dx, tp, tq, p, q, k, t, s, c, rfl, upd_same, keep _ _ _ _ f1, keep _ _ _ _ f2, o1, o2, o3, o4, o5, o6, ot.1, ot.2.1, ot.2.2.1, ot.2.2.2, fun H3 t3 hx3 => ⟨rfl, ?_⟩⟩
      have s3 : ∀ b u, H2 b = some u → H3 b = some u := fun b u e => t3 _ _ (ne_of_none e nx) (keep _ _ _ _ e)
      exact kk x H3 (.tn p q k t s c) (fun b u e => s3 _ _ (s2 _ _ e)) ⟨dx, tp, tq, hx3, s3 _ _ f1, s3 _ _ f2⟩ ⟨⟨o1, o2, o3, o4, o5, o6⟩, ot⟩ rfl rfl rfl
    · refine ⟨_, rfl, _, rfl, (by show 2 ≤ sizeLine; decide), fun tp ntp => ⟨_, rfl, fun x dx nx ndx nex => ?_⟩⟩
      have f1 : upd H tp (.tup [.int p, .int q]) tp = some (.tup [.int p, .int q]) := upd_same
      have s2 : Same H (upd H tp (.tup [.int p, .int q])) := same_new ntp
      generalize upd H tp (.tup [.int p, .int q]) = H2 at f1 s2 nx ndx ⊢
      have keep : ∀ (o1 o2 : HO) (b : Addr) (u : HO), H2 b = some u → upd (upd H2 dx o1) x o2 b = some u := fun o1 o2 b u e => by
        rw [upd_ne (ne_of_none e nx), upd_ne (ne_of_none e ndx)]; exact e
      refine ⟨x, dx, tp, p, q, k, rfl, upd_same, keep _ _ _ _ f1, o1, o2, o3, o4, o5, o6, fun H3 t3 hx3 => ⟨rfl, ?_⟩⟩
      have s3 : ∀ b u, H2 b = some u → H3 b = some u := fun b u e => t3 _ _ (ne_of_none e nx) (keep _ _ _ _ e)
      exact kk x H3 (.tr p q k) (fun b u e => s3 _ _ (s2 _ _ e)) ⟨dx, tp, hx3, s3 _ _ f1⟩ ⟨o1, o2, o3, o4, o5, o6⟩ rfl rfl rfl
end
end Ev
namespace Ev
open PySem L2 PySem.Spec PyProof.Rows
def leastV (p q k y : Int) : Int := if -((k - q * y).fdiv p) > 1 then -((k - q * y).fdiv p) else 1
theorem least_le {p q k y x : Int} (hp : 1 ≤ p) (hx : 1 ≤ x) : leastV p q k y ≤ x ↔ q * y ≤ p * x + k := by
  unfold leastV
  rw [Int.fdiv_eq_ediv_of_nonneg _ (by omega)]
  have h1 : -x ≤ (k - q * y) / p ↔ -x * p ≤ k - q * y := Int.le_ediv_iff_mul_le (by omega)
  have h2 : -x * p = -(p * x) := by rw [Int.neg_mul, Int.mul_comm]
  rw [h2] at h1
  generalize q * y = a at h1 ⊢
  generalize p * x = b at h1 ⊢
  generalize (k - a) / p = c at h1 ⊢
  by_cases z : -c > 1
  · rw [if_pos z]
    constructor
    · intro h; have := h1.mp (by omega); omega
    · intro h; have := h1.mpr (by omega); omega
  · rw [if_neg z]
    constructor
    · intro h; have := h1.mp (by omega); omega
    · intro h; omega
theorem least_pos (p q k y : Int) : 1 ≤ leastV p q k y := by
  unfold leastV
  by_cases z : -((k - q * y).fdiv p) > 1
  · rw [if_pos z]; omega
  · rw [if_neg z]; omega
def greatV (p q k x : Int) : Int := (p * x + k).fdiv q
theorem le_great {p q k x y : Int} (hq : 1 ≤ q) : y ≤ greatV p q k x ↔ q * y ≤ p * x + k := by
  unfold greatV
  rw [Int.fdiv_eq_ediv_of_nonneg _ (by omega), Int.le_ediv_iff_mul_le (by omega), Int.mul_comm]
theorem great_ge {p q k x : Int} (o : okN p q k) (hx : 1 ≤ x) : x + 1 ≤ greatV p q k x := by
  obtain ⟨o1, o2, o3, o4, o5, o6⟩ := o
  refine (le_great o1).mpr ?_
  have h1 : q * (x - 1) ≤ p * (x - 1) := Int.mul_le_mul_of_nonneg_right o2 (by omega)
  rw [Int.mul_sub, Int.mul_sub, Int.mul_one, Int.mul_one] at h1
  rw [Int.mul_add, Int.mul_one]
  omega
def Wt (p q k : Int) : Nat → Int
  | 0 => 1
  | n + 1 => Wt p q k n + leastV p q k (Wt p q k n)
theorem Wt_lt (p q k : Int) (n : Nat) : Wt p q k n + 1 ≤ Wt p q k (n + 1) := by
  have := least_pos p q k (Wt p q k n)
  show Wt p q k n + 1 ≤ Wt p q k n + leastV p q k (Wt p q k n)
  omega
theorem Wt_ge (p q k : Int) : ∀ n : Nat, (n : Int) + 1 ≤ Wt p q k n
  | 0 => by show ((0 : Nat) : Int) + 1 ≤ 1; decide
  | n + 1 => by
    have h1 := Wt_ge p q k n
    have h2 := Wt_lt p q k n
    omega
theorem Wt_add (p q k : Int) (m : Nat) : ∀ d : Nat, Wt p q k m + (d : Int) ≤ Wt p q k (m + d)
  | 0 => by simp
  | d + 1 => by
    have h1 := Wt_add p q k m d
    have h2 := Wt_lt p q k (m + d)
    rw [show m + (d + 1) = m + d + 1 by omega]
    omega
theorem Wt_mono (p q k : Int) {m n : Nat} (h : m ≤ n) : Wt p q k m ≤ Wt p q k n := by
  obtain ⟨d, rfl⟩ := Nat.exists_eq_add_of_le h
  have := Wt_add p q k m d
  omega
/-- the greatest height whose least weight is not above m -/
def IsH (p q k m : Int) (h : Nat) : Prop := Wt p q k h ≤ m ∧ m < Wt p q k (h + 1)
theorem IsH.mono {p q k m m' : Int} {h h' : Nat} (a : IsH p q k m h) (b : IsH p q k m' h') (l : m ≤ m') : h ≤ h' := by
  by_cases z : h ≤ h'
  · exact z
  · have := Wt_mono p q k (show h' + 1 ≤ h by omega)
    have := a.1
    have := b.2
    omega
theorem IsH.uniq {p q k m : Int} {h h' : Nat} (a : IsH p q k m h) (b : IsH p q k m h') : h = h' :=
  Nat.le_antisymm (a.mono b (Int.le_refl _)) (b.mono a (Int.le_refl _))
theorem IsH.at (p q k : Int) (n : Nat) : IsH p q k (Wt p q k n) n := ⟨Int.le_refl _, by have := Wt_lt p q k n; omega⟩
theorem IsH.small {p q k m : Int} {h : Nat} (a : IsH p q k m h) : (h : Int) + 1 ≤ m := by
  have := Wt_ge p q k h
  have := a.1
  omega
theorem least_lt {p q k y : Int} (o : okN p q k) (h : 2 ≤ y) : leastV p q k y ≤ y - 1 := by
  have g := great_ge (x := y - 1) o (by omega)
  have g := (le_great o.1).mp (show y ≤ greatV p q k (y - 1) by omega)
  obtain ⟨o1, o2, o3, o4, o5, o6⟩ := o
  exact (least_le (by omega) (by omega)).mpr g
theorem least_ge {p q k y : Int} (o : okN p q k) (h : 12 ≤ y) : y ≤ 12 * leastV p q k y := by
  obtain ⟨o1, o2, o3, o4, o5, o6⟩ := o
  have l1 := least_pos p q k y
  have l := (least_le (p := p) (k := k) (q := q) (y := y) (by omega) l1).mp (Int.le_refl _)
  have a : 1 * y ≤ q * y := Int.mul_le_mul_of_nonneg_right o1 (by omega)
  have b : p * leastV p q k y ≤ 6 * leastV p q k y := Int.mul_le_mul_of_nonneg_right o3 (by omega)
  omega
theorem Wt_one {p q k : Int} (o : okN p q k) : Wt p q k 1 = 2 := by
  show 1 + leastV p q k 1 = 2
  have l1 := least_pos p q k 1
  have : leastV p q k 1 ≤ 1 := (least_le (by have := o.1; have := o.2.1; omega) (Int.le_refl 1)).mpr (by
    obtain ⟨o1, o2, o3, o4, o5, o6⟩ := o
    omega)
  omega
/-- the tree of halves is a fair one -/
theorem Wt_two {p q k : Int} (o : okN p q k) : ∀ b : Nat, Wt p q k (b + 1) ≤ 2 ^ b + 1
  | 0 => by rw [Wt_one o]; decide
  | b + 1 => by
    have h := Wt_two o b
    have g := Wt_ge p q k (b + 1)
    have l := least_lt o (show 2 ≤ Wt p q k (b + 1) by omega)
    show Wt p q k (b + 1) + leastV p q k (Wt p q k (b + 1)) ≤ 2 ^ (b + 1) + 1
    rw [Int.pow_succ]
    omega
theorem Wt_dbl {p q k : Int} (o : okN p q k) {n : Nat} (h : 12 ≤ Wt p q k n) : ∀ d : Nat, 12 * Wt p q k n + d * Wt p q k n ≤ 12 * Wt p q k (n + d)
  | 0 => by simp
  | d + 1 => by
    have h1 := Wt_dbl o h d
    have m := Wt_mono p q k (show n ≤ n + d by omega)
    have l := least_ge o (show 12 ≤ Wt p q k (n + d) by omega)
    show 12 * Wt p q k n + ((d + 1 : Nat) : Int) * Wt p q k n ≤ 12 * (Wt p q k (n + d) + leastV p q k (Wt p q k (n + d)))
    rw [show ((d + 1 : Nat) : Int) * Wt p q k n = (d : Int) * Wt p q k n + Wt p q k n by rw [show ((d + 1 : Nat) : Int) = (d : Int) + 1 by omega, Int.add_mul, Int.one_mul]]
    omega
theorem Wt_exp {p q k : Int} (o : okN p q k) : ∀ j : Nat, 12 * 2 ^ j ≤ Wt p q k (11 + 12 * j)
  | 0 => by
    have := Wt_ge p q k 11
    simpa using this
  | j + 1 => by
    have h := Wt_exp o j
    have t : (1 : Int) ≤ 2 ^ j := by
      have : (0 : Int) < 2 ^ j := Int.pow_pos (by decide)
      omega
    have d := Wt_dbl o (show 12 ≤ Wt p q k (11 + 12 * j) by omega) 12
    rw [show 11 + 12 * (j + 1) = 11 + 12 * j + 12 by omega, Int.pow_succ]
    omega
theorem Wt_long {p q k : Int} (o : okN p q k) {n : Nat} (h : Wt p q k n ≤ 10 ^ 31) : n < 1300 := by
  by_cases z : n < 1300
  · exact z
  · have e := Wt_exp o 104
    have m := Wt_mono p q k (show 11 + 12 * 104 ≤ n by omega)
    have : (10 : Int) ^ 31 < 12 * 2 ^ 104 := by decide
    omega
/-- the least weights of the heights up to n -/
def wl (p q k : Int) (n : Nat) : List V := (List.range (n + 1)).map fun i => V.int (Wt p q k i)
theorem wl_zero (p q k : Int) : wl p q k 0 = [.int 1] := rfl
theorem wl_succ (p q k : Int) (n : Nat) : wl p q k n ++ [.int (Wt p q k (n + 1))] = wl p q k (n + 1) := by
  unfold wl
  rw [List.range_succ (n := n + 1), List.map_append]
  rfl
theorem wl_len (p q k : Int) (n : Nat) : (wl p q k n).length = n + 1 := by unfold wl; simp
theorem wl_get (p q k : Int) {n i : Nat} (h : i ≤ n) : (wl p q k n)[i]? = some (.int (Wt p q k i)) := by
  unfold wl
  rw [List.getElem?_map, List.getElem?_range (by omega)]
  rfl
end Ev
namespace Ev
open PySem L2 PySem.Spec PyProof.Rows
abbrev sLeastB : Stmt := top 34
abbrev sNeedR : Stmt := top 35
abbrev sGH : Stmt := top 55
abbrev sLH : Stmt := top 56
abbrev sNeedN : Stmt := top 62
abbrev sLW : Stmt := top 64
/-- a class of rules beneath the common one -/
structure RK (K : PySem.W.Frag) (C CW : Addr) : Prop where
  cl : RCls K C
  ha : PySem.W.findIn K (.ref C) "__class__" = some (some (.builtin "object.__class__"))
  hm : PySem.W.mroIn K C (.type "object") = some true
  is : PySem.W.kitOne K (.ref C) (.ref CW) = some true
/-- what the kind of an instance asks -/
structure InsK (K : PySem.W.Frag) : Prop where
  hn : PySem.W.specialIn K (.builtin "object.__class__") "__get__" = some (some (.builtin "getset_descriptor.__get__"))
  htk : PySem.W.takesIn K (.builtin "object.__class__") = some true
def spLeastB (K : PySem.W.Frag) : Sp := fun vs H Q _ => ∃ (r : Addr) (p q k y : Int), vs = [.ref r, .int y] ∧ RB K H r p q k ∧ Q (.int (leastV p q k y)) H
def spNeedR (Ct Cn : Addr) : Sp := fun vs H Q _ => ∃ (r : Addr) (row : Row), vs = [.ref r] ∧ ObjAt Ct Cn H r row ∧ Q .non H
def spNeedN : Sp := fun vs H Q _ => ∃ v m : Int, vs = [.int v, .int m] ∧ 0 ≤ v ∧ v ≤ m ∧ Q .non H
def spLW (Ct Cn : Addr) : Sp := fun vs H Q _ => ∃ (r : Addr) (row : Row) (m : Int), vs = [.ref r, .int m] ∧ ObjAt Ct Cn H r row ∧ row.ok ∧ 1 ≤ m ∧ m ≤ 10 ^ 31 ∧
  ∀ (l : Addr) (n : Nat) (H' : Hp), H l = none → Same H H' → H' l = some (.lst (wl row.p row.q row.k n)) → IsH row.p row.q row.k m n → Q (.ref l) H'
def spGH (Ct Cn : Addr) : Sp := fun vs H Q _ => ∃ (r : Addr) (row : Row) (m : Int), vs = [.ref r, .int m] ∧ ObjAt Ct Cn H r row ∧ row.ok ∧ 0 ≤ m ∧ m ≤ 10 ^ 30 ∧
  ∀ (n : Nat) (H' : Hp), Same H H' → IsH row.p row.q row.k (m + 1) n → Q (.int n) H'
def spLH : Sp := fun vs H Q _ => ∃ m : Int, vs = [.int m] ∧ 0 ≤ m ∧ m ≤ 10 ^ 30 ∧ Q (.int (Builtin.Int.intBits m : Nat)) H
section
variable {P : Program} {w : World} {K : PySem.W.Frag} {mg : Str → Option Value} {base : Heap}
theorem scLeastB : FnScope ["rule", "y", "over", "under"] ["rule", "y"] (defScope sLeastB) := ⟨rfl, rfl, rfl, by decide +kernel, rfl, by decide +kernel, by decide +kernel⟩
theorem ok_leastB {f : Addr} {fd : FuncData} (F : Fun K "least_beside" "least_beside" sLeastB f fd) (T : Blt mg) : FnOk P w K mg base CX0 1 f fd ["rule", "y"] (spLeastB K) := by
  refine F.ok scLeastB (fun vs H Q E h => ?_) (fun cdv A outer s H vs Q E hr h => ?_)
  · obtain ⟨r, p, q, k, x, rfl, _⟩ := h
    rfl
  · obtain ⟨r, p, q, k, x, rfl, ⟨⟨C, dx, fs, a, hr1, cl, n1, n2, l1, l2, ha⟩, b1, b2, b3, b4, b5⟩, kk⟩ := h
    refine ⟨_, pss_cons (ps_asg (pe_fld (pv 0) rfl) (pg_tup (by rfl) (pgs_cons (pg_name (i := 2) scLeastB.nd rfl (.inl rfl)) (pgs_cons (pg_name (i := 3) scLeastB.nd rfl (.inl rfl)) pgs_nil))))
      (pss_one (ps_ret (pe_callB (call_max2 rfl) (by rfl) T.max (by decide +kernel) (pa_cons pe_int (pa_cons (pe_un un_neg (pe_op op_fdivN (pe_op op_sub (pe_fld (pv 0) rfl) (pe_op op_mul (pv 3) (pv 1))) (pv 2))) pa_nil))))), ?_⟩
    have q6 := m64 b1 (show q ≤ 8 by omega)
    refine ⟨_, rfl, r, C, dx, fs, _, rfl, hr1, cl, n1, l1, a, _, rfl, SqT.of ha, rfl, _, _, rfl, _, _, rfl, rfl, ?_⟩
    exact ⟨_, rfl, r, C, dx, fs, _, rfl, hr1, cl, n2, l2, _, rfl, _, rfl, _, _, rfl, rfl, .inl q6, _, _, rfl, rfl, _, rfl, _, _, rfl, rfl, ⟨by omega, by omega⟩, _, rfl, _, _, rfl, kk⟩
theorem scNeedR : FnScope ["value"] ["value"] (defScope sNeedR) := ⟨rfl, rfl, rfl, by decide +kernel, rfl, by decide +kernel, by decide +kernel⟩
theorem ok_needR {f Ct Cn CW : Addr} {fd : FuncData} (F : Fun K "need_rule" "need_rule" sNeedR f fd) (T : Blt mg) (gW : mg "WeightRule" = some (.ref CW)) (MT : RK K Ct CW) (MN : RK K Cn CW) (ik : InsK K) : FnOk P w K mg base CX0 1 f fd ["value"] (spNeedR Ct Cn) := by
  refine F.ok scNeedR (fun vs H Q E h => ?_) (fun cdv A outer s H vs Q E hr h => ?_)
  · obtain ⟨r, row, rfl, _⟩ := h
    rfl
  · obtain ⟨r, row, rfl, ob, kk⟩ := h
    refine ⟨_, pss_one (ps_if (pt_not (pt_val (pe_callB call_isi (by rfl) T.isi (by decide +kernel) (pa_cons (pv 0) (pa_cons (pe_glob (v := .ref CW) rfl gW rfl) pa_nil))))) (pss_one ps_never) pss_nil), ?_⟩
    cases row with
    | tr p q k =>
      obtain ⟨dx, a, h1, h2⟩ := ob
      exact ⟨_, rfl, _, _, _, _, true, rfl, .own CW, .base (.ins h1 MT.cl.cl MT.ha ik.hn ik.htk MT.hm), MT.is, true, rfl, iteF kk⟩
    | tn p q k t s c =>
      obtain ⟨dx, a, b, h1, h2, h3⟩ := ob
      exact ⟨_, rfl, _, _, _, _, true, rfl, .own CW, .base (.ins h1 MN.cl.cl MN.ha ik.hn ik.htk MN.hm), MN.is, true, rfl, iteF kk⟩
theorem scNeedN : FnScope ["value", "most"] ["value", "most"] (defScope sNeedN) := ⟨rfl, rfl, rfl, by decide +kernel, rfl, by decide +kernel, by decide +kernel⟩
theorem ok_needN {f : Addr} {fd : FuncData} (F : Fun K "need_number" "need_number" sNeedN f fd) (D : Df P w K mg base 2 "is_within" ["value", "least", "most"] spWithin) : FnOk P w K mg base CX0 3 f fd ["value", "most"] spNeedN := by
  obtain ⟨fW, fdW, GW, gW, kW, bW⟩ := D.ex
  refine F.ok scNeedN (fun vs H Q E h => ?_) (fun cdv A outer s H vs Q E hr h => ?_)
  · obtain ⟨v, m, rfl, _⟩ := h
    rfl
  · obtain ⟨v, m, rfl, h1, h2, k⟩ := h
    refine ⟨_, pss_one (ps_if (pt_not (pt_val (pe_call GW hr (by rfl) gW kW bW .nil pass0 (pa_cons (pv 0) (pa_cons pe_int (pa_cons (pv 1) pa_nil)))))) (pss_one ps_never) pss_nil), ?_⟩
    exact ⟨_, rfl, _, rfl, _, _, _, rfl, h1, h2, true, rfl, iteF k⟩
theorem scLW : FnScope ["rule", "most", "found", "weight"] ["rule", "most"] (defScope sLW) := ⟨rfl, rfl, rfl, by decide +kernel, rfl, by decide +kernel, by decide +kernel⟩
theorem ok_lw {f Ct Cn : Addr} {fd : FuncData} (F : Fun K "least_weights" "least_weights" sLW f fd) (D : Df P w K mg base 1 "least_beside" ["rule", "y"] (spLeastB K)) (RT : RCls K Ct) (RN : RCls K Cn) : FnOk P w K mg base CX0 2 f fd ["rule", "most"] (spLW Ct Cn) := by
  obtain ⟨f1, fd1, G1, g1, k1, b1⟩ := D.ex
  refine F.ok scLW (fun vs H Q E h => ?_) (fun cdv A outer s H vs Q E hr h => ?_)
  · obtain ⟨r, row, m, rfl, _⟩ := h
    rfl
  · obtain ⟨r, row, m, rfl, ob, ok, m1, m2, kk⟩ := h
    refine ⟨_, pss_cons (ps_set (i := 2) scLW.nd rfl (.inl rfl) (pe_lst (pa_cons pe_int pa_nil)))
      (pss_cons (ps_set (i := 3) scLW.nd rfl (.inl rfl) (pe_op op_add pe_int (pe_call G1 hr (by rfl) g1 k1 b1 .nil pass0 (pa_cons (pv 0) (pa_cons pe_int pa_nil)))))
      (pss_cons (ps_while PassesOwn.never (pt_cmpR op_le (pv 3) (pv 1) (nomark _))
        (pss_cons (ps_expr (pe_bm PySem.F.plainAttrs_list PySem.F.slot_list_append PySem.F.type_list_append mt_append (pv 2) (pa_cons (pv 3) pa_nil)))
        (pss_one (ps_set (i := 3) scLW.nd rfl (.inl rfl) (pe_op op_add (pv 3) (pe_call G1 hr (by rfl) g1 k1 b1 .nil pass0 (pa_cons (pv 0) (pa_cons (pv 3) pa_nil))))))))
      (pss_one (ps_ret (pv 2))))), ?_⟩
    refine ⟨(by show 1 ≤ sizeLine; decide), fun l nl => ?_⟩
    have s1 : Same H (upd H l (.lst [.int 1])) := same_new nl
    have hl : upd H l (.lst [.int 1]) l = some (.lst (wl row.p row.q row.k 0)) := upd_same
    have b1 : ∀ H' : Hp, Same H H' → RB K H' r row.p row.q row.k := fun H' s => (ob.keep s).rb RT RN ok
    generalize upd H l (.lst [.int 1]) = H1 at s1 hl ⊢
    have okn := Row.okN ok
    refine ⟨_, rfl, r, _, _, _, _, rfl, b1 _ s1, _, _, rfl, rfl, ?_⟩
    refine ⟨fun μ σ H' => ∃ n : Nat, σ = [some (.ref r), some (.int m), some (.ref l), some (.int (Wt row.p row.q row.k (n + 1)))] ∧ H' l = some (.lst (wl row.p row.q row.k n)) ∧ Same H H' ∧ Wt row.p row.q row.k n ≤ m ∧ μ = (m - Wt row.p row.q row.k n).toNat, ⟨_, 0, rfl, hl, s1, m1, rfl⟩, ?_⟩
    rintro μ σ H' ⟨n, rfl, hl', sm, wm, rfl⟩
    refine ⟨_, rfl, _, rfl, _, _, rfl, rfl, _, rfl, ite2 (fun e => ?_) (fun e => ?_)⟩
    · have e := of_decide_eq_true e
      have lt := Wt_lt row.p row.q row.k n
      have long := Wt_long okn (Int.le_trans wm m2)
      refine ⟨fun σ' H2 => σ' = [some (.ref r), some (.int m), some (.ref l), some (.int (Wt row.p row.q row.k (n + 1 + 1)))] ∧ H2 l = some (.lst (wl row.p row.q row.k (n + 1))) ∧ Same H H2, fun σ' H2 ⟨q1, q2, q3⟩ => ⟨_, ?_, n + 1, q1, q2, q3, e, rfl⟩, ?_⟩
      · omega
      · have s2 : Same H (upd H' l (.lst (wl row.p row.q row.k n ++ [.int (Wt row.p row.q row.k (n + 1))]))) := fun b o q => by
          rw [upd_ne (ne_of_none q nl)]; exact sm _ _ q
        refine ⟨_, rfl, .inl ⟨rfl, _, SqL.of hl'⟩, _, rfl, l, _, _, rfl, rfl, hl', (by rw [wl_len]; exact Nat.lt_of_le_of_lt (show n + 1 ≤ 2000 by omega) (by decide)), ?_⟩
        refine ⟨_, rfl, _, rfl, _, rfl, r, _, _, _, _, rfl, b1 _ s2, _, _, rfl, rfl, rfl, ?_, s2⟩
        rw [upd_same, wl_succ]
    · have e : ¬ (Wt row.p row.q row.k (n + 1) ≤ m) := fun z => e (decide_eq_true z)
      exact ⟨_, rfl, kk l n H' nl sm hl' ⟨wm, by omega⟩⟩
theorem le31 {m : Int} (h : m ≤ 10 ^ 30) : m + 1 ≤ 10 ^ 31 := by
  have : (10 : Int) ^ 30 + 1 ≤ 10 ^ 31 := by decide
  omega
theorem scGH : FnScope ["rule", "keys"] ["rule", "keys"] (defScope sGH) := ⟨rfl, rfl, rfl, by decide +kernel, rfl, by decide +kernel, by decide +kernel⟩
theorem ok_gh {f Ct Cn : Addr} {fd : FuncData} (F : Fun K "greatest_height" "greatest_height" sGH f fd) (T : Blt mg) (D1 : Df P w K mg base 1 "need_rule" ["value"] (spNeedR Ct Cn)) (D2 : Df P w K mg base 3 "need_number" ["value", "most"] spNeedN) (D3 : Df P w K mg base 2 "least_weights" ["rule", "most"] (spLW Ct Cn))
    {t : Tok} (gM : mg "MOST_KEYS" = some (.int (10 ^ 30) t)) : FnOk P w K mg base CX0 4 f fd ["rule", "keys"] (spGH Ct Cn) := by
  obtain ⟨f1, fd1, G1, g1, k1, b1⟩ := D1.ex
  obtain ⟨f2, fd2, G2, g2, k2, b2⟩ := D2.ex
  obtain ⟨f3, fd3, G3, g3, k3, b3⟩ := D3.ex
  refine F.ok scGH (fun vs H Q E h => ?_) (fun cdv A outer s H vs Q E hr h => ?_)
  · obtain ⟨r, row, m, rfl, _⟩ := h
    rfl
  · obtain ⟨r, row, m, rfl, ob, ok, m1, m2, kk⟩ := h
    refine ⟨_, pss_cons (ps_expr (pe_call G1 (hr.mono (by decide)) (by rfl) g1 k1 b1 .nil pass0 (pa_cons (pv 0) pa_nil)))
      (pss_cons (ps_expr (pe_call G2 hr (by rfl) g2 k2 b2 .nil pass0 (pa_cons (pv 1) (pa_cons (pe_glob (v := .int (10 ^ 30)) rfl gM ⟨_, rfl⟩) pa_nil))))
      (pss_one (ps_ret (pe_op op_sub (pe_callB call_len_seq (by rfl) T.len PySem.boot_len (pa_cons (pe_call G3 (hr.mono (by decide)) (by rfl) g3 k3 b3 .nil pass0 (pa_cons (pv 0) (pa_cons (pe_op op_add (pv 1) pe_int) pa_nil))) pa_nil)) pe_int)))), ?_⟩
    refine ⟨_, rfl, r, row, rfl, ob, ?_⟩
    refine ⟨_, rfl, _, _, rfl, m1, m2, ?_⟩
    refine ⟨_, rfl, _, rfl, _, _, rfl, rfl, r, row, _, rfl, ob, ok, by omega, le31 m2, fun l n H' _ sm hl ih => ?_⟩
    refine ⟨l, _, rfl, .inl (SqL.of hl), _, _, rfl, rfl, ?_⟩
    show Q (.int (((wl row.p row.q row.k n).length : Nat) - 1)) H'
    rw [wl_len, show (((n + 1 : Nat) : Int) - 1) = (n : Int) by omega]
    exact kk n H' sm ih
theorem scLH : FnScope ["keys"] ["keys"] (defScope sLH) := ⟨rfl, rfl, rfl, by decide +kernel, rfl, by decide +kernel, by decide +kernel⟩
theorem ok_lh {f : Addr} {fd : FuncData} (F : Fun K "least_height" "least_height" sLH f fd) (D2 : Df P w K mg base 3 "need_number" ["value", "most"] spNeedN)
    {t : Tok} (gM : mg "MOST_KEYS" = some (.int (10 ^ 30) t)) : FnOk P w K mg base CX0 4 f fd ["keys"] spLH := by
  obtain ⟨f2, fd2, G2, g2, k2, b2⟩ := D2.ex
  refine F.ok scLH (fun vs H Q E h => ?_) (fun cdv A outer s H vs Q E hr h => ?_)
  · obtain ⟨m, rfl, _⟩ := h
    rfl
  · obtain ⟨m, rfl, m1, m2, kk⟩ := h
    refine ⟨_, pss_cons (ps_expr (pe_call G2 hr (by rfl) g2 k2 b2 .nil pass0 (pa_cons (pv 0) (pa_cons (pe_glob (v := .int (10 ^ 30)) rfl gM ⟨_, rfl⟩) pa_nil))))
      (pss_one (ps_ret (pe_bits (pv 0)))), ?_⟩
    exact ⟨_, rfl, _, _, rfl, m1, m2, _, rfl, _, rfl, kk⟩
end
end Ev
namespace Ev
open PySem L2 PySem.Spec PyProof.Rows
abbrev sTop : Stmt := top 71
abbrev sLeast : Stmt := top 72
/-- the law's row of six numbers -/
def RowAt (H : Hp) (l : Addr) (p q k : Int) : Prop := ∃ t s c : Int, H l = some (.tup [.int p, .int q, .int k, .int t, .int s, .int c])
theorem RowAt.keep {H H' : Hp} {l : Addr} {p q k : Int} (h : RowAt H l p q k) (s : Same H H') : RowAt H' l p q k := by
  obtain ⟨a, b, c, e⟩ := h
  exact ⟨a, b, c, s _ _ e⟩
def spTop : Sp := fun vs H Q _ => ∃ (l : Addr) (p q k x : Int), vs = [.ref l, .int x] ∧ RowAt H l p q k ∧ okN p q k ∧ Q (.int (greatV p q k x)) H
def spLLeast : Sp := fun vs H Q _ => ∃ (l : Addr) (p q k y : Int), vs = [.ref l, .int y] ∧ RowAt H l p q k ∧ okN p q k ∧ 1 ≤ y ∧ Q (.int (leastV p q k y)) H
theorem least_at {p q k y : Int} (o : okN p q k) (h : 1 ≤ y) : leastV p q k y ≤ y := by
  by_cases z : 2 ≤ y
  · have := least_lt o z; omega
  · obtain rfl : y = 1 := by omega
    refine (least_le (by have := o.1; have := o.2.1; omega) (Int.le_refl 1)).mpr ?_
    obtain ⟨o1, o2, o3, o4, o5, o6⟩ := o
    omega
section
variable {P : Program} {w : World} {K : PySem.W.Frag} {mg : Str → Option Value} {base : Heap}
theorem ix6_0 {a b c d e f : V} : atI [a, b, c, d, e, f] 0 = some a := atI_nat (j := 0) rfl
theorem ix6_1 {a b c d e f : V} : atI [a, b, c, d, e, f] 1 = some b := atI_nat (j := 1) rfl
theorem ix6_2 {a b c d e f : V} : atI [a, b, c, d, e, f] 2 = some c := atI_nat (j := 2) rfl
theorem scTop : FnScope ["_law_some", "_law_x"] ["_law_some", "_law_x"] (defScope sTop) := ⟨rfl, rfl, rfl, by decide +kernel, rfl, by decide +kernel, by decide +kernel⟩
theorem ok_top {f : Addr} {fd : FuncData} (F : Fun K "_law_top" "_law_top" sTop f fd) : FnOk P w K mg base CX0 1 f fd ["_law_some", "_law_x"] spTop := by
  refine F.ok scTop (fun vs H Q E h => ?_) (fun cdv A outer s H vs Q E hr h => ?_)
  · obtain ⟨l, p, q, k, x, rfl, _⟩ := h
    rfl
  · obtain ⟨l, p, q, k, x, rfl, ⟨t, s', c, hl⟩, ⟨o1, o2, o3, o4, o5, o6⟩, kk⟩ := h
    refine ⟨_, pss_one (ps_ret (pe_op op_fdivN (pe_op op_add (pe_op op_mul (pe_ix ix_tup (pv 0) pe_int (fun _ _ => rfl)) (pv 1)) (pe_ix ix_tup (pv 0) pe_int (fun _ _ => rfl))) (pe_ix ix_tup (pv 0) pe_int (fun _ _ => rfl)))), ?_⟩
    exact ⟨_, rfl, l, _, 0, _, rfl, rfl, SqT.of hl, ix6_0, _, rfl, _, _, rfl, rfl, .inl (m64 (show 1 ≤ p by omega) (by omega)), _, rfl, l, _, 2, _, rfl, rfl, SqT.of hl, ix6_2, _, _, rfl, rfl, _, rfl, l, _, 1, _, rfl, rfl, SqT.of hl, ix6_1, _, _, rfl, rfl, ⟨by omega, by omega⟩, kk⟩
theorem scLeast : FnScope ["_law_some", "_law_y", "_law_low", "_law_high", "_law_middle"] ["_law_some", "_law_y"] (defScope sLeast) := ⟨rfl, rfl, rfl, by decide +kernel, rfl, by decide +kernel, by decide +kernel⟩
theorem ok_least {f : Addr} {fd : FuncData} (F : Fun K "_law_least" "_law_least" sLeast f fd) (D : Df P w K mg base 1 "_law_top" ["_law_some", "_law_x"] spTop) : FnOk P w K mg base CX0 2 f fd ["_law_some", "_law_y"] spLLeast := by
  obtain ⟨f1, fd1, G1, g1, k1, b1⟩ := D.ex
  refine F.ok scLeast (fun vs H Q E h => ?_) (fun cdv A outer s H vs Q E hr h => ?_)
  · obtain ⟨l, p, q, k, x, rfl, _⟩ := h
    rfl
  · obtain ⟨l, p, q, k, y, rfl, hl, o, hy, kk⟩ := h
    refine ⟨_, pss_cons (ps_par (i := 2) (j := 3) rfl scLeast.nd rfl rfl (by decide) rfl rfl (pa_cons pe_int (pa_cons (pv 1) pa_nil)) (by rfl))
      (pss_cons (ps_while PassesOwn.never (pt_cmpR op_lt (pv 2) (pv 3) (nomark _))
        (pss_cons (ps_set (i := 4) scLeast.nd rfl (.inl rfl) (pe_op op_fdivN (pe_op op_add (pv 2) (pv 3)) pe_int))
        (pss_one (ps_if (pt_cmpR op_le (pv 1) (pe_call G1 hr (by rfl) g1 k1 b1 .nil pass0 (pa_cons (pv 0) (pa_cons (pv 4) pa_nil))) (nomark _))
          (pss_one (ps_set (i := 3) scLeast.nd rfl (.inl rfl) (pv 4))) (pss_one (ps_set (i := 2) scLeast.nd rfl (.inl rfl) (pe_op op_add (pv 4) pe_int)))))))
      (pss_one (ps_ret (pv 2)))), ?_⟩
    have p1 : 1 ≤ p := by have := o.1; have := o.2.1; omega
    have at1 : ∀ x : Int, 1 ≤ x → (leastV p q k y ≤ x ↔ y ≤ greatV p q k x) := fun x hx => (least_le p1 hx).trans (le_great o.1).symm
    refine ⟨_, rfl, _, _, rfl, ?_⟩
    refine ⟨fun μ σ H' => ∃ (a b : Int) (mv : Option V), σ = [some (.ref l), some (.int y), some (.int a), some (.int b), mv] ∧ H' = H ∧ 1 ≤ a ∧ a ≤ leastV p q k y ∧ leastV p q k y ≤ b ∧ μ = (b - a).toNat, ⟨_, 1, y, none, rfl, rfl, Int.le_refl _, least_pos _ _ _ _, least_at o hy, rfl⟩, ?_⟩
    rintro μ σ H' ⟨a, b, mv, rfl, rfl, a1, a2, a3, rfl⟩
    refine ⟨_, rfl, _, rfl, _, _, rfl, rfl, _, rfl, ite2 (fun e => ?_) (fun e => ?_)⟩
    · have e := of_decide_eq_true e
      have md : a ≤ (a + b).fdiv 2 ∧ (a + b).fdiv 2 < b := by
        rw [Int.fdiv_eq_ediv_of_nonneg _ (by decide)]
        omega
      refine ⟨fun σ' H2 => ∃ (a' b' : Int) (mv' : Option V), σ' = [some (.ref l), some (.int y), some (.int a'), some (.int b'), mv'] ∧ H2 = H' ∧ 1 ≤ a' ∧ a' ≤ leastV p q k y ∧ leastV p q k y ≤ b' ∧ b' - a' < b - a, fun σ' H2 ⟨a', b', mv', q1, q2, q3, q4, q5, q6⟩ => ⟨_, ?_, a', b', mv', q1, q2, q3, q4, q5, rfl⟩, ?_⟩
      · omega
      · refine ⟨_, rfl, _, rfl, _, _, rfl, rfl, _, _, rfl, rfl, ⟨by decide, by decide⟩, ?_⟩
        refine ⟨_, rfl, _, rfl, _, rfl, l, p, q, k, _, rfl, hl, o, _, _, rfl, rfl, _, rfl, ite2 (fun g => ?_) (fun g => ?_)⟩
        · have g := (at1 _ (by omega)).mpr (of_decide_eq_true g)
          exact ⟨_, rfl, a, _, _, rfl, rfl, a1, a2, g, by omega⟩
        · have g : ¬ (leastV p q k y ≤ (a + b).fdiv 2) := fun z => g (decide_eq_true ((at1 _ (by omega)).mp z))
          exact ⟨_, rfl, _, _, rfl, rfl, _, b, _, rfl, rfl, by omega, by omega, a3, by omega⟩
    · have e : ¬ (a < b) := fun z => e (decide_eq_true z)
      refine ⟨_, rfl, ?_⟩
      rw [show a = leastV p q k y by omega]
      exact kk
end
end Ev
namespace Ev
open PySem L2 PySem.Spec PyProof.Rows
/-! ### shapes, gone through in the order of their parts -/
inductive Sh
  | e
  | n (l r : Sh)
deriving DecidableEq
def Sh.full : Sh → Bool
  | .e => false
  | .n _ _ => true
def Sh.fold (b : Int) (f : Int → Int → Int) : Sh → Int
  | .e => b
  | .n l r => f (l.fold b f) (r.fold b f)
def Sh.many : Sh → Nat
  | .e => 0
  | .n l r => l.many + r.many + 1
/-- how many parts before a place hold sides -/
def cn (P : List Sh) (j : Nat) : Nat := ((P.take j).filter Sh.full).length
theorem cn_zero (P : List Sh) : cn P 0 = 0 := by simp [cn]
theorem cn_succ {P : List Sh} {j : Nat} {s : Sh} (h : P[j]? = some s) : cn P (j + 1) = cn P j + (if s.full then 1 else 0) := by
  unfold cn
  rw [List.take_add_one, h, List.filter_append, List.length_append]
  cases s <;> rfl
theorem cn_mono {P : List Sh} {i j : Nat} (h : i ≤ j) : cn P i ≤ cn P j := by
  unfold cn
  obtain ⟨d, rfl⟩ := Nat.exists_eq_add_of_le h
  rw [List.take_add, List.filter_append, List.length_append]
  omega
theorem cn_app (P Q : List Sh) {j : Nat} (h : j ≤ P.length) : cn (P ++ Q) j = cn P j := by
  unfold cn
  rw [List.take_append_of_le_length h]
/-- all parts of a shape, the sides of the c-th that has sides at 1 + 2 c and 2 + 2 c -/
structure Clo (P : List Sh) : Prop where
  len : P.length = 1 + 2 * cn P P.length
  lt : ∀ j, j < P.length → j < 1 + 2 * cn P j
  kid : ∀ j l r, P[j]? = some (.n l r) → P[1 + 2 * cn P j]? = some l ∧ P[2 + 2 * cn P j]? = some r
/-- values that are the parts -/
def ShAt (H : Hp) : Sh → V → Prop
  | .e, v => ∃ a, v = .ref a ∧ H a = some (.tup [])
  | .n l r, v => ∃ a x y, v = .ref a ∧ H a = some (.tup [x, y]) ∧ ShAt H l x ∧ ShAt H r y
theorem ShAt.keep {H H' : Hp} (k : Same H H') : ∀ {s : Sh} {v : V}, ShAt H s v → ShAt H' s v
  | .e, v, ⟨a, e1, e2⟩ => ⟨a, e1, k _ _ e2⟩
  | .n l r, v, ⟨a, x, y, e1, e2, e3, e4⟩ => ⟨a, x, y, e1, k _ _ e2, e3.keep k, e4.keep k⟩
/-- what does not change tuples -/
def TupK (H H' : Hp) : Prop := ∀ a xs, H a = some (.tup xs) → H' a = some (.tup xs)
theorem ShAt.tupk {H H' : Hp} (k : TupK H H') : ∀ {s : Sh} {v : V}, ShAt H s v → ShAt H' s v
  | .e, v, ⟨a, e1, e2⟩ => ⟨a, e1, k _ _ e2⟩
  | .n l r, v, ⟨a, x, y, e1, e2, e3, e4⟩ => ⟨a, x, y, e1, k _ _ e2, e3.tupk k, e4.tupk k⟩
theorem Same.tupk {H H' : Hp} (k : Same H H') : TupK H H' := fun a xs e => k _ _ e
theorem TupK.trans {H H1 H2 : Hp} (a : TupK H H1) (b : TupK H1 H2) : TupK H H2 := fun c xs e => b _ _ (a _ _ e)
theorem TupK.refl (H : Hp) : TupK H H := fun _ _ e => e
theorem But.tupk {p : Addr} {H H' : Hp} {ys : List V} (k : But p H H') (h : H p = some (.lst ys)) : TupK H H' := fun a xs e => k _ _ (ne_of e h (by intro z; cases z)) e
def VP (H : Hp) (P : List Sh) (xs : List V) : Prop := xs.length = P.length ∧ ∀ (i : Nat) (s : Sh), P[i]? = some s → ∃ x, xs[i]? = some x ∧ ShAt H s x
theorem VP.keep {H H' : Hp} {P : List Sh} {xs : List V} (h : VP H P xs) (k : TupK H H') : VP H' P xs := ⟨h.1, fun i s e => by
  obtain ⟨x, e1, e2⟩ := h.2 i s e
  exact ⟨x, e1, e2.tupk k⟩⟩
theorem ShAt.tup {H : Hp} {s : Sh} {v : V} (h : ShAt H s v) : ∃ (a : Addr) (ys : List V), v = .ref a ∧ H a = some (.tup ys) ∧ ys.length = (if s.full then 2 else 0) := by
  cases s with
  | e => obtain ⟨a, e1, e2⟩ := h; exact ⟨a, _, e1, e2, rfl⟩
  | n l r => obtain ⟨a, x, y, e1, e2, _⟩ := h; exact ⟨a, _, e1, e2, rfl⟩
/-- the places that have sides, from the last one back, of the last i places -/
def jd (P : List Sh) : Nat → List Nat
  | 0 => []
  | i + 1 => jd P i ++ (match P[P.length - 1 - i]? with
    | some (.n _ _) => [P.length - 1 - i]
    | _ => [])
theorem jd_mem {P : List Sh} : ∀ {i : Nat}, i ≤ P.length → ∀ j, j ∈ jd P i ↔ P.length - i ≤ j ∧ ∃ l r, P[j]? = some (.n l r)
  | 0, _, j => by
    constructor
    · intro h; cases h
    · rintro ⟨h, l, r, e⟩
      have := (List.getElem?_eq_some_iff.mp e).1
      omega
  | i + 1, hi, j => by
    have ih := jd_mem (P := P) (i := i) (by omega) j
    unfold jd
    rw [List.mem_append, ih]
    constructor
    · rintro (⟨h, l, r, e⟩ | h)
      · exact ⟨by omega, l, r, e⟩
      · split at h
        · rename_i l r e
          obtain rfl := List.mem_singleton.mp h
          exact ⟨by omega, l, r, e⟩
        · cases h
    · rintro ⟨h, l, r, e⟩
      by_cases z : P.length - i ≤ j
      · exact .inl ⟨z, l, r, e⟩
      · have : j = P.length - 1 - i := by omega
        subst this
        rw [e]
        exact .inr (List.mem_singleton.mpr rfl)
theorem jd_sorted {P : List Sh} : ∀ {i : Nat}, i ≤ P.length → (jd P i).Pairwise (fun a b => b < a)
  | 0, _ => .nil
  | i + 1, hi => by
    unfold jd
    rw [List.pairwise_append]
    refine ⟨jd_sorted (by omega), ?_, fun a ha b hb => ?_⟩
    · split
      · exact List.pairwise_singleton _ _
      · exact .nil
    · have h1 := ((jd_mem (P := P) (i := i) (by omega) a).mp ha).1
      split at hb
      · obtain rfl := List.mem_singleton.mp hb
        omega
      · cases hb
theorem jd_len (P : List Sh) : ∀ i : Nat, (jd P i).length ≤ i
  | 0 => Nat.le_refl _
  | i + 1 => by
    have := jd_len P i
    unfold jd
    rw [List.length_append]
    split <;> simp <;> omega
/-- the amounts of parts behind i joints -/
def wv (b : Int) (f : Int → Int → Int) (P : List Sh) (i : Nat) : List Int := (List.range P.length).map fun (j : Nat) => match P[j]? with
  | some (Sh.n l r) => if j ∈ (jd P P.length).take i then (Sh.n l r).fold b f else b
  | _ => b
theorem wv_len (b : Int) (f : Int → Int → Int) (P : List Sh) (i : Nat) : (wv b f P i).length = P.length := by unfold wv; simp
theorem wv_get {b : Int} {f : Int → Int → Int} {P : List Sh} {i j : Nat} (h : j < P.length) : (wv b f P i)[j]? = some (match P[j]? with
  | some (Sh.n l r) => if j ∈ (jd P P.length).take i then (Sh.n l r).fold b f else b
  | _ => b) := by
  unfold wv
  rw [List.getElem?_map, List.getElem?_range h]
  rfl
theorem wv_zero (b : Int) (f : Int → Int → Int) (P : List Sh) : wv b f P 0 = List.replicate P.length b := by
  refine List.ext_getElem? fun j => ?_
  by_cases h : j < P.length
  · rw [wv_get h, List.getElem?_replicate, if_pos h, List.take_zero]
    split <;> simp
  · rw [List.getElem?_eq_none (by rw [wv_len]; omega), List.getElem?_eq_none (by simp; omega)]
/-- a part behind the next joint is reckoned already -/
theorem wv_done {b : Int} {f : Int → Int → Int} {P : List Sh} {i j m : Nat} {s : Sh} (hi : (jd P P.length)[i]? = some j) (hm : j < m) (hs : P[m]? = some s) : (wv b f P i)[m]? = some (s.fold b f) := by
  have ml := (List.getElem?_eq_some_iff.mp hs).1
  rw [wv_get ml, hs]
  cases s with
  | e => rfl
  | n l r =>
    have mem : m ∈ jd P P.length := (jd_mem (Nat.le_refl _) m).mpr ⟨by omega, l, r, hs⟩
    obtain ⟨x, hx, ex⟩ := List.getElem_of_mem mem
    have sorted := jd_sorted (P := P) (Nat.le_refl _)
    have xi : x < i := by
      by_cases z : x < i
      · exact z
      · obtain ⟨hj, ej⟩ := List.getElem?_eq_some_iff.mp hi
        by_cases y : x = i
        · subst y
          omega
        · have := List.pairwise_iff_getElem.mp sorted i x hj hx (by omega)
          omega
    have : m ∈ (jd P P.length).take i := by
      rw [← ex]
      exact List.mem_take_iff_getElem.mpr ⟨x, by omega, rfl⟩
    simp only
    rw [if_pos this]
theorem wv_step {b : Int} {f : Int → Int → Int} {P : List Sh} {i j : Nat} {l r : Sh} (hi : (jd P P.length)[i]? = some j) (hs : P[j]? = some (.n l r)) : (wv b f P i).set j ((Sh.n l r).fold b f) = wv b f P (i + 1) := by
  have jl := (List.getElem?_eq_some_iff.mp hs).1
  refine List.ext_getElem? fun m => ?_
  by_cases h : m < P.length
  · rw [List.getElem?_set, wv_len, wv_get h, wv_get h]
    have tk : (jd P P.length).take (i + 1) = (jd P P.length).take i ++ [j] := by rw [List.take_add_one, hi]; rfl
    by_cases e : j = m
    · subst e
      rw [if_pos rfl, if_pos h, hs]
      simp only [tk]
      rw [if_pos (List.mem_append_right _ (List.mem_singleton.mpr rfl))]
    · rw [if_neg e]
      congr 1
      split
      · rename_i l' r' e'
        have : (m ∈ (jd P P.length).take (i + 1)) ↔ m ∈ (jd P P.length).take i := by
          rw [tk, List.mem_append, List.mem_singleton]
          exact ⟨fun z => z.elim id fun z => absurd z.symm e, .inl⟩
        simp only [this]
      · rfl
  · rw [List.getElem?_eq_none (by rw [List.length_set, wv_len]; omega), List.getElem?_eq_none (by rw [wv_len]; omega)]
theorem wv_end {b : Int} {f : Int → Int → Int} {P : List Sh} {m : Nat} {s : Sh} (hs : P[m]? = some s) : (wv b f P (jd P P.length).length)[m]? = some (s.fold b f) := by
  have ml := (List.getElem?_eq_some_iff.mp hs).1
  rw [wv_get ml, hs]
  cases s with
  | e => rfl
  | n l r =>
    have mem : m ∈ jd P P.length := (jd_mem (Nat.le_refl _) m).mpr ⟨by omega, l, r, hs⟩
    simp only [List.take_length]
    rw [if_pos mem]
end Ev
namespace Ev
open PySem L2 PySem.Spec PyProof.Rows
abbrev sJointsOf : Stmt := top 48
abbrev sWeightsOf : Stmt := top 49
abbrev sAreJointsFair : Stmt := top 50
def prO (P : List Sh) (j : Nat) : HO := .tup [.int (j : Int), .int ((1 + 2 * cn P j : Nat) : Int)]
def Prs (H : Hp) (P : List Sh) (ts : List Addr) (js : List Nat) : Prop := Paired (fun t j => H t = some (prO P j)) ts js
theorem Prs.keep {H H' : Hp} {P : List Sh} (k : TupK H H') {ts : List Addr} {js : List Nat} (h : Prs H P ts js) : Prs H' P ts js := by
  induction h with
  | nil => exact .nil
  | cons x t ih => exact .cons (k _ _ x) ih
theorem Prs.snoc {H : Hp} {P : List Sh} {ts : List Addr} {js : List Nat} {t : Addr} {j : Nat} (h : Prs H P ts js) (e : H t = some (prO P j)) : Prs H P (ts ++ [t]) (js ++ [j]) := by
  induction h with
  | nil => exact .cons e .nil
  | cons x t ih => exact .cons x ih
theorem Prs.at {H : Hp} {P : List Sh} : ∀ {ts : List Addr} {js : List Nat} {i : Nat} {t : Addr}, Prs H P ts js → ts[i]? = some t → ∃ j, js[i]? = some j ∧ H t = some (prO P j)
  | _, _, 0, _, .cons e _, h => by cases h; exact ⟨_, rfl, e⟩
  | _, _, i + 1, _, .cons _ r, h => by
    obtain ⟨j, e1, e2⟩ := Prs.at r (by simpa using h)
    exact ⟨j, by simpa using e1, e2⟩
theorem Prs.rev {H : Hp} {P : List Sh} {ts : List Addr} {js : List Nat} (h : Prs H P ts js) : Prs H P ts.reverse js.reverse := by
  induction h with
  | nil => exact .nil
  | cons x t ih =>
    rw [List.reverse_cons, List.reverse_cons]
    exact Prs.snoc ih x
/-- the places that have sides among the first i places -/
def jf (P : List Sh) : Nat → List Nat
  | 0 => []
  | i + 1 => jf P i ++ (match P[i]? with
    | some (.n _ _) => [i]
    | _ => [])
theorem jf_split (P : List Sh) : ∀ i, i ≤ P.length → jf P P.length = jf P (P.length - i) ++ (jd P i).reverse
  | 0, _ => by simp [jd]
  | i + 1, h => by
    rw [jf_split P i (by omega)]
    have e : P.length - i = P.length - (i + 1) + 1 := by omega
    have jds : jd P (i + 1) = jd P i ++ (match P[P.length - 1 - i]? with
      | some (.n _ _) => [P.length - 1 - i]
      | _ => []) := rfl
    have jfs : jf P (P.length - (i + 1) + 1) = jf P (P.length - (i + 1)) ++ (match P[P.length - (i + 1)]? with
      | some (.n _ _) => [P.length - (i + 1)]
      | _ => []) := rfl
    rw [e, jds, jfs, List.reverse_append, List.append_assoc, show P.length - 1 - i = P.length - (i + 1) by omega]
    congr 2
    generalize P[P.length - (i + 1)]? = o
    rcases o with _ | _ | ⟨l, r⟩ <;> rfl
theorem jf_rev (P : List Sh) : (jf P P.length).reverse = jd P P.length := by
  rw [jf_split P P.length (Nat.le_refl _), Nat.sub_self]
  simp [jf]
theorem jf_len {P : List Sh} : ∀ j, j ≤ P.length → (jf P j).length = cn P j
  | 0, _ => by rw [cn_zero]; rfl
  | j + 1, h => by
    have e : P[j]? = some P[j] := List.getElem?_eq_getElem (by omega)
    rw [cn_succ e]
    unfold jf
    rw [List.length_append, jf_len j (by omega), e]
    cases P[j] <;> rfl
theorem jf_app (P Q : List Sh) : ∀ j, j ≤ P.length → jf (P ++ Q) j = jf P j
  | 0, _ => rfl
  | j + 1, h => by
    unfold jf
    rw [jf_app P Q j (by omega), List.getElem?_append_left (by omega)]
/-- what goes through all joints of a value -/
def spJoints (NS : Hp → V → Prop) : Sp := fun vs H Q _ => ∃ v, vs = [v] ∧ ((∃ s, ShAt H s v ∧ s.many ≤ 3000 ∧ ∀ (l : Addr) (P : List Sh) (ts : List Addr) (H' : Hp), H l = none → Same H H' → H' l = some (.lst (ts.map V.ref)) → Prs H' P ts (jf P P.length) → Clo P → P[0]? = some s → P.length = 1 + 2 * s.many → Q (.ref l) H') ∨
  (NS H v ∧ ∀ H', Same H H' → Q .non H'))
end Ev
namespace Ev
open PySem L2 PySem.Spec PyProof.Rows
abbrev sKeysOf : Stmt := top 59
abbrev sHeightOf : Stmt := top 60
abbrev sIsFair : Stmt := top 61
abbrev sNeedJoints : Stmt := top 63
theorem ixN_nat {n j : Nat} (h : j < n) : ixN n (j : Int) = some j := by
  unfold ixN
  rw [if_pos (by omega)]
  simp [h]
def Sh.wt (s : Sh) : Int := s.fold 1 (fun a b => a + b)
def Sh.ht (s : Sh) : Int := s.fold 0 (fun a b => 1 + if b < a then a else b)
def spWof : Sp := fun vs H Q _ => ∃ (a : Addr) (P : List Sh) (ts : List Addr), vs = [.ref a] ∧ H a = some (.lst (ts.map V.ref)) ∧ Prs H P ts (jf P P.length) ∧ Clo P ∧ P.length ≤ 1000000 ∧
  ∀ (l : Addr) (H' : Hp), H l = none → TupK H H' → Same H H' → H' l = some (.lst ((P.map Sh.wt).map V.int)) → Q (.ref l) H'
theorem ts_len {H : Hp} {P : List Sh} {ts : List Addr} (cl : Clo P) (h : Prs H P ts (jf P P.length)) : 2 * (ts.length : Int) + 1 = P.length := by
  have e := h.length
  rw [jf_len _ (Nat.le_refl _)] at e
  have := cl.len
  omega
theorem wv_map {b : Int} {f : Int → Int → Int} {P : List Sh} : wv b f P (jd P P.length).length = P.map (Sh.fold b f) := by
  refine List.ext_getElem? fun m => ?_
  rw [List.getElem?_map]
  by_cases h : m < P.length
  · rw [wv_end (List.getElem?_eq_getElem h), List.getElem?_eq_getElem h]
    rfl
  · rw [List.getElem?_eq_none (by rw [wv_len]; omega), List.getElem?_eq_none (l := P) (by omega)]
    rfl
section
variable {P : Program} {w : World} {K : PySem.W.Frag} {mg : Str → Option Value} {base : Heap}
theorem rep_one (b : Int) (n : Nat) : (List.replicate n [V.int b]).flatten = (List.replicate n b).map V.int := by
  induction n with
  | zero => rfl
  | succ n ih => rw [List.replicate_succ, List.flatten_cons, ih, List.replicate_succ, List.map_cons]; rfl
theorem scWeightsOf : FnScope ["joints", "weights", "place", "side"] ["joints"] (defScope sWeightsOf) := ⟨rfl, rfl, rfl, by decide +kernel, rfl, by decide +kernel, by decide +kernel⟩
theorem ok_wof {f : Addr} {fd : FuncData} (F : Fun K "weights_of" "weights_of" sWeightsOf f fd) (T : Blt mg) : FnOk P w K mg base CX0 2 f fd ["joints"] spWof := by
  refine F.ok scWeightsOf (fun vs H Q E h => ?_) (fun cdv A outer s H vs Q E hr h => ?_)
  · obtain ⟨a, P, ts, rfl, _⟩ := h
    rfl
  · obtain ⟨a, P, ts0, rfl, ha, pr0, cl, hb, kk⟩ := h
    refine ⟨_, pss_cons (ps_set (i := 1) scWeightsOf.nd rfl (.inl rfl) (pe_op op_rep (pe_lst (pa_cons pe_int pa_nil)) (pe_op op_add (pe_op op_mul pe_int (pe_callB call_len_seq (by rfl) T.len PySem.boot_len (pa_cons (pv 0) pa_nil))) pe_int)))
      (pss_cons (ps_for PassesOwn.never rfl (pi_list (pe_revL (pv 0))) (pg_tup (by rfl) (pgs_cons (pg_name (i := 2) scWeightsOf.nd rfl (.inl rfl)) (pgs_cons (pg_name (i := 3) scWeightsOf.nd rfl (.inl rfl)) pgs_nil)))
        (pss_one (ps_asg (pe_op op_add (pe_ix ix_list (pv 1) (pv 3) (fun _ _ => rfl)) (pe_ix ix_list (pv 1) (pe_op op_add (pv 3) pe_int) (fun _ _ => rfl))) (pg_sub (pv 1) (pv 2) set_list))))
      (pss_one (ps_ret (pv 1)))), ?_⟩
    have hx : 2 * (((ts0.map V.ref).length : Nat) : Int) + 1 = (P.length : Int) := by rw [List.length_map]; exact ts_len cl pr0
    refine ⟨(by show 1 ≤ sizeLine; decide), fun l0 nl0 => ?_⟩
    have s0 : Same H (upd H l0 (.lst [.int 1])) := same_new nl0
    refine ⟨_, rfl, a, _, rfl, .inl (SqL.of (s0 _ _ ha)), _, _, rfl, rfl, .inl ⟨by decide, by decide⟩, _, _, rfl, rfl, ?_⟩
    refine ⟨l0, (P.length : Int), _, rfl, congrArg V.int hx, upd_same, by omega, by omega, ?_, fun l nl => ?_⟩
    · show 1 * ((P.length : Int)).toNat ≤ sizeLine
      exact Nat.le_trans (show _ ≤ 1000000 by omega) (by decide)
    have s1 : Same H (upd (upd H l0 (.lst [.int 1])) l (.lst ((List.replicate ((P.length : Int)).toNat [V.int 1]).flatten))) := s0.trans (same_new nl)
    have hl : upd (upd H l0 (.lst [.int 1])) l (.lst ((List.replicate ((P.length : Int)).toNat [V.int 1]).flatten)) l = some (.lst ((wv 1 (fun a b => a + b) P 0).map V.int)) := by
      rw [upd_same, wv_zero, rep_one, show ((P.length : Int)).toNat = P.length by omega]
    have nlH : H l = none := by
      cases z : H l with
      | none => rfl
      | some o => rw [s0 _ _ z] at nl; cases nl
    generalize upd (upd H l0 (.lst [.int 1])) l (.lst ((List.replicate ((P.length : Int)).toNat [V.int 1]).flatten)) = H1 at s1 hl ⊢
    refine ⟨_, rfl, a, _, rfl, SqL.of (s1 _ _ ha), fun jl njl => ?_⟩
    obtain ⟨ts, hts⟩ : ∃ ts, ts = ts0.reverse := ⟨_, rfl⟩
    have s2 : Same H1 (upd H1 jl (.lst (ts0.map V.ref).reverse)) := same_new njl
    have hjl : upd H1 jl (.lst (ts0.map V.ref).reverse) jl = some (.lst (ts.map V.ref)) := by rw [upd_same, hts, List.map_reverse]
    have pr : Prs (upd H1 jl (.lst (ts0.map V.ref).reverse)) P ts (jd P P.length) := by
      rw [hts, ← jf_rev]
      exact ((pr0.keep (Same.tupk s1)).rev).keep (Same.tupk s2)
    generalize upd H1 jl (.lst (ts0.map V.ref).reverse) = H2 at s2 hjl pr ⊢
    have jne : jl ≠ l := (ne_of_none hl njl).symm
    have hl2 := s2 _ _ hl
    refine ⟨jl, rfl, ⟨_, SqL.of hjl⟩, for_list (K := K) (a := jl) (xs := ts.map V.ref) (fun i σ H3 => ∃ v2 v3 : Option V, σ = [some (.ref a), some (.ref l), v2, v3] ∧ H3 l = some (.lst ((wv 1 (fun a b => a + b) P i).map V.int)) ∧ But l H2 H3)
      ⟨none, none, rfl, hl2, But.refl _ _⟩ (fun i σ H3 _ ⟨_, _, _, _, bt⟩ => SqL.of (bt _ _ jne hjl)) ?_ ?_⟩
    · rintro i y σ H3 hy ⟨v2, v3, rfl, hl3, bt⟩
      rw [List.getElem?_map] at hy
      cases et : ts[i]? with
      | none => rw [et] at hy; cases hy
      | some t =>
        rw [et] at hy
        obtain rfl := Option.some.inj hy
        have bk := bt.tupk hl2
        obtain ⟨j, ej, ht⟩ := Prs.at (pr.keep bk) et
        have jm := (jd_mem (Nat.le_refl P.length) j).mp (List.mem_of_getElem? ej)
        obtain ⟨_, l', r', es⟩ := jm
        obtain ⟨c1, c2⟩ := cl.kid j l' r' es
        have jlt := cl.lt j (List.getElem?_eq_some_iff.mp es).1
        have w1 := wv_done (b := 1) (f := fun a b => a + b) ej jlt c1
        have w2 := wv_done (b := 1) (f := fun a b => a + b) ej (show j < 2 + 2 * cn P j by omega) c2
        have x1 : ((wv 1 (fun a b => a + b) P i).map V.int)[1 + 2 * cn P j]? = some (V.int (l'.fold 1 (fun a b => a + b))) := by rw [List.getElem?_map, w1]; rfl
        have x2 : ((wv 1 (fun a b => a + b) P i).map V.int)[2 + 2 * cn P j]? = some (V.int (r'.fold 1 (fun a b => a + b))) := by rw [List.getElem?_map, w2]; rfl
        have a2 : atI ((wv 1 (fun a b => a + b) P i).map V.int) (((1 + 2 * cn P j : Nat) : Int) + 1) = some (V.int (r'.fold 1 (fun a b => a + b))) := by
          rw [show ((1 + 2 * cn P j : Nat) : Int) + 1 = ((2 + 2 * cn P j : Nat) : Int) by omega]
          exact atI_nat x2
        have jlen : j < ((wv 1 (fun a b => a + b) P i).map V.int).length := by
          rw [List.length_map, wv_len]
          exact (List.getElem?_eq_some_iff.mp es).1
        refine ⟨t, _, rfl, SqT.of ht, rfl, _, _, rfl, _, _, rfl, rfl, ?_⟩
        refine ⟨_, rfl, _, rfl, l, _, _, _, rfl, rfl, SqL.of hl3, atI_nat x1, _, rfl, _, rfl, _, _, rfl, rfl, l, _, _, _, rfl, rfl, SqL.of hl3, a2, _, _, rfl, rfl, ?_⟩
        refine ⟨_, rfl, _, rfl, l, _, _, _, rfl, rfl, hl3, ixN_nat jlen, ?_⟩
        refine ⟨_, _, rfl, ?_, bt.trans But.upd_at⟩
        rw [upd_same, ← wv_step ej es, List.map_set]
        rfl
    · rintro σ H3 ⟨v2, v3, rfl, hl3, bt⟩
      have e := pr.length
      rw [List.length_map, e, wv_map] at hl3
      refine ⟨_, rfl, kk l H3 nlH ?_ ?_ hl3⟩
      · exact (Same.tupk s1).trans ((Same.tupk s2).trans (bt.tupk hl2))
      · exact fun c o q => bt _ _ (ne_of_none q nlH) (s2 _ _ (s1 _ _ q))
theorem scNeedJoints : FnScope ["shape", "joints"] ["shape"] (defScope sNeedJoints) := ⟨rfl, rfl, rfl, by decide +kernel, rfl, by decide +kernel, by decide +kernel⟩
def spNeedJ : Sp := fun vs H Q _ => ∃ (v : V) (s : Sh), vs = [v] ∧ ShAt H s v ∧ s.many ≤ 3000 ∧ ∀ (l : Addr) (P : List Sh) (ts : List Addr) (H' : Hp), H l = none → Same H H' → H' l = some (.lst (ts.map V.ref)) → Prs H' P ts (jf P P.length) → Clo P → P[0]? = some s → P.length = 1 + 2 * s.many → Q (.ref l) H'
theorem ok_needJ {f : Addr} {fd : FuncData} {NS : Hp → V → Prop} {k : Nat} (F : Fun K "need_joints" "need_joints" sNeedJoints f fd) (D : Df P w K mg base k "joints_of" ["shape"] (spJoints NS)) : FnOk P w K mg base CX0 (k + 1) f fd ["shape"] spNeedJ := by
  obtain ⟨f1, fd1, G1, g1, k1, b1⟩ := D.ex
  refine F.ok scNeedJoints (fun vs H Q E h => ?_) (fun cdv A outer s H vs Q E hr h => ?_)
  · obtain ⟨v, s, rfl, _⟩ := h
    rfl
  · obtain ⟨v, s, rfl, hs, hm, kk⟩ := h
    refine ⟨_, pss_cons (ps_set (i := 1) scNeedJoints.nd rfl (.inl rfl) (pe_call G1 hr (by rfl) g1 k1 b1 .nil pass0 (pa_cons (pv 0) pa_nil)))
      (pss_cons (ps_if (pt_cmpR op_isN (pv 1) pe_non (nomark _)) (pss_one ps_never) pss_nil) (pss_one (ps_ret (pv 1)))), ?_⟩
    refine ⟨_, rfl, v, rfl, .inl ⟨s, hs, hm, fun l P xs H' nl sm hl vp cl e0 en => ?_⟩⟩
    refine ⟨_, rfl, rfl, _, rfl, ite2 (fun e => absurd (of_decide_eq_true e) (by intro z; cases z)) (fun _ => ?_)⟩
    exact ⟨_, rfl, kk l P xs H' nl sm hl vp cl e0 en⟩
end
end Ev
namespace Ev
open PySem L2 PySem.Spec PyProof.Rows
def spKeysOf : Sp := fun vs H Q _ => ∃ (v : V) (s : Sh), vs = [v] ∧ ShAt H s v ∧ s.many ≤ 3000 ∧ ∀ H' : Hp, Same H H' → Q (.int s.many) H'
def spHeightOf : Sp := fun vs H Q _ => ∃ (v : V) (s : Sh), vs = [v] ∧ ShAt H s v ∧ s.many ≤ 3000 ∧ ∀ H' : Hp, Same H H' → Q (.int s.ht) H'
def Sh.fair (p q k : Int) : Sh → Bool
  | .e => true
  | .n l r => fairB p q k l.wt r.wt && l.fair p q k && r.fair p q k
def fairAt (p q k : Int) (P : List Sh) (j : Nat) : Bool := match P[j]? with
  | some (.n l r) => fairB p q k l.wt r.wt
  | _ => true
theorem cn_has (P : List Sh) : ∀ n : Nat, n ≤ P.length → ∀ c, c < cn P n → ∃ i l r, i < n ∧ P[i]? = some (.n l r) ∧ cn P i = c
  | 0, _, c, h => by rw [cn_zero] at h; omega
  | n + 1, hn, c, h => by
    have e := cn_succ (P := P) (List.getElem?_eq_getElem (show n < P.length by omega))
    by_cases z : c < cn P n
    · obtain ⟨i, l, r, a, b, d⟩ := cn_has P n (by omega) c z
      exact ⟨i, l, r, by omega, b, d⟩
    · cases hs : P[n] with
      | e =>
        rw [hs] at e
        have e : cn P (n + 1) = cn P n := e
        omega
      | n l r =>
        rw [hs] at e
        have e : cn P (n + 1) = cn P n + 1 := e
        exact ⟨n, l, r, by omega, by rw [List.getElem?_eq_getElem (show n < P.length by omega), hs], by omega⟩
theorem fair_up {p q k : Int} {P : List Sh} (cl : Clo P) (h : ∀ j, fairAt p q k P j = true) : ∀ (s : Sh) (j : Nat), P[j]? = some s → s.fair p q k = true
  | .e, _, _ => rfl
  | .n l r, j, e => by
    obtain ⟨c1, c2⟩ := cl.kid j l r e
    have hj := h j
    unfold fairAt at hj
    rw [e] at hj
    unfold Sh.fair
    rw [show fairB p q k l.wt r.wt = true from hj, fair_up cl h l _ c1, fair_up cl h r _ c2]
    rfl
theorem fair_down {p q k : Int} {P : List Sh} {s : Sh} (cl : Clo P) (h0 : P[0]? = some s) (hs : s.fair p q k = true) : ∀ (n j : Nat), j ≤ n → ∀ z, P[j]? = some z → z.fair p q k = true
  | 0, j, hj, z, e => by
    obtain rfl : j = 0 := by omega
    rw [h0] at e
    cases e
    exact hs
  | n + 1, j, hj, z, e => by
    by_cases y : j = 0
    · subst y
      rw [h0] at e
      cases e
      exact hs
    · have jl := (List.getElem?_eq_some_iff.mp e).1
      have len := cl.len
      obtain ⟨i, l, r, il, ei, ci⟩ := cn_has P P.length (Nat.le_refl _) ((j - 1) / 2) (by omega)
      have lt := cl.lt i il
      obtain ⟨c1, c2⟩ := cl.kid i l r ei
      have pf := fair_down cl h0 hs n i (by omega) _ ei
      unfold Sh.fair at pf
      rw [Bool.and_eq_true, Bool.and_eq_true] at pf
      rcases (show j = 1 + 2 * cn P i ∨ j = 2 + 2 * cn P i by omega) with w | w
      · rw [← w, e] at c1
        cases c1
        exact pf.1.2
      · rw [← w, e] at c2
        cases c2
        exact pf.2
theorem fair_all {p q k : Int} {P : List Sh} {s : Sh} (cl : Clo P) (h0 : P[0]? = some s) : ((jd P P.length).map (fairAt p q k P)).all id = s.fair p q k := by
  rw [Bool.eq_iff_iff, List.all_eq_true]
  constructor
  · intro h
    refine fair_up cl (fun j => ?_) s 0 h0
    unfold fairAt
    split
    · rename_i l r e
      have m := h (fairAt p q k P j) (List.mem_map.mpr ⟨j, (jd_mem (Nat.le_refl _) j).mpr ⟨by omega, l, r, e⟩, rfl⟩)
      unfold fairAt at m
      rw [e] at m
      exact m
    · rfl
  · intro h b hb
    obtain ⟨j, hj, rfl⟩ := List.mem_map.mp hb
    obtain ⟨_, l, r, e⟩ := (jd_mem (Nat.le_refl _) j).mp hj
    have f := fair_down cl h0 h j j (Nat.le_refl _) _ e
    unfold Sh.fair at f
    rw [Bool.and_eq_true, Bool.and_eq_true] at f
    unfold fairAt
    rw [e]
    exact f.1.1
section
variable {P : Program} {w : World} {K : PySem.W.Frag} {mg : Str → Option Value} {base : Heap}
theorem scKeysOf : FnScope ["shape"] ["shape"] (defScope sKeysOf) := ⟨rfl, rfl, rfl, by decide +kernel, rfl, by decide +kernel, by decide +kernel⟩
theorem ok_keysOf {f : Addr} {fd : FuncData} {k : Nat} (F : Fun K "keys_of" "keys_of" sKeysOf f fd) (T : Blt mg) (D : Df P w K mg base k "need_joints" ["shape"] spNeedJ) : FnOk P w K mg base CX0 (k + 1) f fd ["shape"] spKeysOf := by
  obtain ⟨f1, fd1, G1, g1, k1, b1⟩ := D.ex
  refine F.ok scKeysOf (fun vs H Q E h => ?_) (fun cdv A outer s H vs Q E hr h => ?_)
  · obtain ⟨v, s, rfl, _⟩ := h
    rfl
  · obtain ⟨v, s, rfl, hs, hm, kk⟩ := h
    refine ⟨_, pss_one (ps_ret (pe_callB call_len_seq (by rfl) T.len PySem.boot_len (pa_cons (pe_call G1 hr (by rfl) g1 k1 b1 .nil pass0 (pa_cons (pv 0) pa_nil)) pa_nil))), ?_⟩
    refine ⟨_, rfl, v, s, rfl, hs, hm, fun l P ts H' nl sm hl pr cl e0 en => ?_⟩
    refine ⟨l, _, rfl, .inl (SqL.of hl), ?_⟩
    have := ts_len cl pr
    show Q (.int (((ts.map V.ref).length : Nat) : Int)) H'
    rw [List.length_map, show (ts.length : Int) = (s.many : Int) by omega]
    exact kk H' sm
theorem scHeightOf : FnScope ["shape", "joints", "found", "place", "side", "left", "right"] ["shape"] (defScope sHeightOf) := ⟨rfl, rfl, rfl, by decide +kernel, rfl, by decide +kernel, by decide +kernel⟩
theorem ok_heightOf {f : Addr} {fd : FuncData} {k : Nat} (F : Fun K "height_of" "height_of" sHeightOf f fd) (T : Blt mg) (D : Df P w K mg base (k + 1) "need_joints" ["shape"] spNeedJ) : FnOk P w K mg base CX0 (k + 2) f fd ["shape"] spHeightOf := by
  obtain ⟨f1, fd1, G1, g1, k1, b1⟩ := D.ex
  refine F.ok scHeightOf (fun vs H Q E h => ?_) (fun cdv A outer s H vs Q E hr h => ?_)
  · obtain ⟨v, s, rfl, _⟩ := h
    rfl
  · obtain ⟨v, s, rfl, hs, hm, kk⟩ := h
    refine ⟨_, pss_cons (ps_set (i := 1) scHeightOf.nd rfl (.inl rfl) (pe_call G1 hr (by rfl) g1 k1 b1 .nil pass0 (pa_cons (pv 0) pa_nil)))
      (pss_cons (ps_set (i := 2) scHeightOf.nd rfl (.inl rfl) (pe_op op_rep (pe_lst (pa_cons pe_int pa_nil)) (pe_op op_add (pe_op op_mul pe_int (pe_callB call_len_seq (by rfl) T.len PySem.boot_len (pa_cons (pv 1) pa_nil))) pe_int)))
      (pss_cons (ps_for PassesOwn.never rfl (pi_list (pe_revL (pv 1))) (pg_tup (by rfl) (pgs_cons (pg_name (i := 3) scHeightOf.nd rfl (.inl rfl)) (pgs_cons (pg_name (i := 4) scHeightOf.nd rfl (.inl rfl)) pgs_nil)))
        (pss_cons (ps_par (i := 5) (j := 6) rfl scHeightOf.nd rfl rfl (by decide) rfl rfl (pa_cons (pe_ix ix_list (pv 2) (pv 4) (fun _ _ => rfl)) (pa_cons (pe_ix ix_list (pv 2) (pe_op op_add (pv 4) pe_int) (fun _ _ => rfl)) pa_nil)) (by rfl))
        (pss_one (ps_asg (pe_op op_add pe_int (pe_ifExp (pt_cmpR op_gt (pv 5) (pv 6) (nomark _)) (pv 5) (pv 6))) (pg_sub (pv 2) (pv 3) set_list)))))
      (pss_one (ps_ret (pe_ix ix_list (pv 2) pe_int (fun _ _ => rfl)))))), ?_⟩
    refine ⟨_, rfl, v, s, rfl, hs, hm, fun a P ts0 HA nla sa ha pr0 cl e0 en => ?_⟩
    have hx : 2 * (((ts0.map V.ref).length : Nat) : Int) + 1 = (P.length : Int) := by rw [List.length_map]; exact ts_len cl pr0
    have hb : P.length ≤ 1000000 := by omega
    refine ⟨(by show 1 ≤ sizeLine; decide), fun l0 nl0 => ?_⟩
    have s0 : Same HA (upd HA l0 (.lst [.int 0])) := same_new nl0
    refine ⟨_, rfl, a, _, rfl, .inl (SqL.of (s0 _ _ ha)), _, _, rfl, rfl, .inl ⟨by decide, by decide⟩, _, _, rfl, rfl, ?_⟩
    refine ⟨l0, (P.length : Int), _, rfl, congrArg V.int hx, upd_same, by omega, by omega, ?_, fun l nl => ?_⟩
    · show 1 * ((P.length : Int)).toNat ≤ sizeLine
      exact Nat.le_trans (show _ ≤ 1000000 by omega) (by decide)
    have s1 : Same HA (upd (upd HA l0 (.lst [.int 0])) l (.lst ((List.replicate ((P.length : Int)).toNat [V.int 0]).flatten))) := s0.trans (same_new nl)
    have hl : upd (upd HA l0 (.lst [.int 0])) l (.lst ((List.replicate ((P.length : Int)).toNat [V.int 0]).flatten)) l = some (.lst ((wv 0 (fun a b => 1 + if b < a then a else b) P 0).map V.int)) := by
      rw [upd_same, wv_zero, rep_one, show ((P.length : Int)).toNat = P.length by omega]
    have nlH : HA l = none := by
      cases z : HA l with
      | none => rfl
      | some o => rw [s0 _ _ z] at nl; cases nl
    generalize upd (upd HA l0 (.lst [.int 0])) l (.lst ((List.replicate ((P.length : Int)).toNat [V.int 0]).flatten)) = H1 at s1 hl ⊢
    refine ⟨_, rfl, a, _, rfl, SqL.of (s1 _ _ ha), fun jl njl => ?_⟩
    obtain ⟨ts, hts⟩ : ∃ ts, ts = ts0.reverse := ⟨_, rfl⟩
    have s2 : Same H1 (upd H1 jl (.lst (ts0.map V.ref).reverse)) := same_new njl
    have hjl : upd H1 jl (.lst (ts0.map V.ref).reverse) jl = some (.lst (ts.map V.ref)) := by rw [upd_same, hts, List.map_reverse]
    have pr : Prs (upd H1 jl (.lst (ts0.map V.ref).reverse)) P ts (jd P P.length) := by
      rw [hts, ← jf_rev]
      exact ((pr0.keep (Same.tupk s1)).rev).keep (Same.tupk s2)
    generalize upd H1 jl (.lst (ts0.map V.ref).reverse) = H2 at s2 hjl pr ⊢
    have jne : jl ≠ l := (ne_of_none hl njl).symm
    have hl2 := s2 _ _ hl
    refine ⟨jl, rfl, ⟨_, SqL.of hjl⟩, for_list (K := K) (a := jl) (xs := ts.map V.ref) (fun i σ H3 => ∃ v3 v4 v5 v6 : Option V, σ = [some v, some (.ref a), some (.ref l), v3, v4, v5, v6] ∧ H3 l = some (.lst ((wv 0 (fun a b => 1 + if b < a then a else b) P i).map V.int)) ∧ But l H2 H3)
      ⟨none, none, none, none, rfl, hl2, But.refl _ _⟩ (fun i σ H3 _ ⟨_, _, _, _, _, _, bt⟩ => SqL.of (bt _ _ jne hjl)) ?_ ?_⟩
    · rintro i y σ H3 hy ⟨v3, v4, v5, v6, rfl, hl3, bt⟩
      rw [List.getElem?_map] at hy
      cases et : ts[i]? with
      | none => rw [et] at hy; cases hy
      | some t =>
        rw [et] at hy
        obtain rfl := Option.some.inj hy
        have bk := bt.tupk hl2
        obtain ⟨j, ej, ht⟩ := Prs.at (pr.keep bk) et
        have jm := (jd_mem (Nat.le_refl P.length) j).mp (List.mem_of_getElem? ej)
        obtain ⟨_, l', r', es⟩ := jm
        obtain ⟨c1, c2⟩ := cl.kid j l' r' es
        have jlt := cl.lt j (List.getElem?_eq_some_iff.mp es).1
        have w1 := wv_done (b := 0) (f := fun a b => 1 + if b < a then a else b) ej jlt c1
        have w2 := wv_done (b := 0) (f := fun a b => 1 + if b < a then a else b) ej (show j < 2 + 2 * cn P j by omega) c2
        have x1 : ((wv 0 (fun a b => 1 + if b < a then a else b) P i).map V.int)[1 + 2 * cn P j]? = some (V.int l'.ht) := by rw [List.getElem?_map, w1]; rfl
        have x2 : ((wv 0 (fun a b => 1 + if b < a then a else b) P i).map V.int)[2 + 2 * cn P j]? = some (V.int r'.ht) := by rw [List.getElem?_map, w2]; rfl
        have a2 : atI ((wv 0 (fun a b => 1 + if b < a then a else b) P i).map V.int) (((1 + 2 * cn P j : Nat) : Int) + 1) = some (V.int r'.ht) := by
          rw [show ((1 + 2 * cn P j : Nat) : Int) + 1 = ((2 + 2 * cn P j : Nat) : Int) by omega]
          exact atI_nat x2
        have jlen : j < ((wv 0 (fun a b => 1 + if b < a then a else b) P i).map V.int).length := by
          rw [List.length_map, wv_len]
          exact (List.getElem?_eq_some_iff.mp es).1
        have fin : ∀ (σ' : L2.St) (v5 v6 : Option V) (z : Int), z = (Sh.n l' r').ht → σ' = [some v, some (.ref a), some (.ref l), some (.int (j : Int)), some (.int ((1 + 2 * cn P j : Nat) : Int)), v5, v6] → ∃ v3 v4 v5 v6 : Option V, σ' = [some v, some (.ref a), some (.ref l), v3, v4, v5, v6] ∧ upd H3 l (.lst (((wv 0 (fun a b => 1 + if b < a then a else b) P i).map V.int).set j (.int z))) l = some (.lst ((wv 0 (fun a b => 1 + if b < a then a else b) P (i + 1)).map V.int)) ∧ But l H2 (upd H3 l (.lst (((wv 0 (fun a b => 1 + if b < a then a else b) P i).map V.int).set j (.int z)))) := by
          rintro _ v5 v6 z rfl rfl
          refine ⟨_, _, _, _, rfl, ?_, bt.trans But.upd_at⟩
          rw [upd_same, ← wv_step ej es, List.map_set]
          rfl
        refine ⟨t, _, rfl, SqT.of ht, rfl, _, _, rfl, _, _, rfl, rfl, ?_⟩
        refine ⟨_, rfl, _, rfl, l, _, _, _, rfl, rfl, SqL.of hl3, atI_nat x1, _, rfl, _, rfl, _, _, rfl, rfl, l, _, _, _, rfl, rfl, SqL.of hl3, a2, _, _, rfl, ?_⟩
        refine ⟨_, rfl, _, rfl, _, _, rfl, rfl, _, rfl, ite2 (fun e => ?_) (fun e => ?_)⟩
        · have e : r'.ht < l'.ht := of_decide_eq_true e
          refine ⟨_, rfl, _, _, rfl, rfl, _, rfl, _, rfl, l, _, _, _, rfl, rfl, hl3, ixN_nat jlen, ?_⟩
          exact fin _ _ _ _ (by show 1 + l'.ht = 1 + if r'.ht < l'.ht then l'.ht else r'.ht; rw [if_pos e]) rfl
        · have e : ¬ (r'.ht < l'.ht) := fun z => e (decide_eq_true z)
          refine ⟨_, rfl, _, _, rfl, rfl, _, rfl, _, rfl, l, _, _, _, rfl, rfl, hl3, ixN_nat jlen, ?_⟩
          exact fin _ _ _ _ (by show 1 + r'.ht = 1 + if r'.ht < l'.ht then l'.ht else r'.ht; rw [if_neg e]) rfl
    · rintro σ H3 ⟨v3, v4, v5, v6, rfl, hl3, bt⟩
      have e := pr.length
      rw [List.length_map, e, wv_map] at hl3
      refine ⟨_, rfl, l, _, 0, .int s.ht, rfl, rfl, SqL.of hl3, atI_nat (j := 0) (by rw [List.getElem?_map, List.getElem?_map, e0]; rfl), ?_⟩
      exact kk H3 (fun c o q => bt _ _ (ne_of_none (sa _ _ q) nlH) (s2 _ _ (s1 _ _ (sa _ _ q))))
end
end Ev
namespace Ev
open PySem L2 PySem.Spec PyProof.Rows
def spIsFair (Ct Cn : Addr) (NS : Hp → V → Prop) : Sp := fun vs H Q _ => ∃ (r : Addr) (row : Row) (v : V), vs = [.ref r, v] ∧ ObjAt Ct Cn H r row ∧ row.ok ∧
  ((∃ s, ShAt H s v ∧ s.many ≤ 3000 ∧ ∀ H' : Hp, Same H H' → Q (.bl (s.fair row.p row.q row.k)) H') ∨ (NS H v ∧ ∀ H' : Hp, Same H H' → Q (.bl false) H'))
theorem ObjAt.same {Ct Cn : Addr} {H H' : Hp} {r : Addr} {row : Row} (h : ObjAt Ct Cn H r row) (k : Same H H') : ObjAt Ct Cn H' r row := h.keep k
section
variable {P : Program} {w : World} {K : PySem.W.Frag} {mg : Str → Option Value} {base : Heap}
def spAreJF (K : PySem.W.Frag) : Sp := fun vs H Q _ => ∃ (r a l : Addr) (p q k : Int) (P : List Sh) (ts : List Addr), vs = [.ref r, .ref a, .ref l] ∧ RB K H r p q k ∧ H a = some (.lst (ts.map V.ref)) ∧ Prs H P ts (jf P P.length) ∧ Clo P ∧ H l = some (.lst ((P.map Sh.wt).map V.int)) ∧
  ∀ s, P[0]? = some s → ∀ H' : Hp, Same H H' → Q (.bl (s.fair p q k)) H'
theorem fair_jf {p q k : Int} {P : List Sh} {s : Sh} (cl : Clo P) (h0 : P[0]? = some s) : ((jf P P.length).map (fairAt p q k P)).all id = s.fair p q k := by
  rw [← fair_all cl h0, ← jf_rev, List.map_reverse, List.all_reverse]
theorem scAreJointsFair : FnScope ["rule", "joints", "weights", "over", "under", "plus", "_", "side", "one", "other"] ["rule", "joints", "weights"] (defScope sAreJointsFair) := ⟨rfl, rfl, rfl, by decide +kernel, rfl, by decide +kernel, by decide +kernel⟩
theorem ok_areJF {f : Addr} {fd : FuncData} (F : Fun K "are_joints_fair" "are_joints_fair" sAreJointsFair f fd) : FnOk P w K mg base CX0 1 f fd ["rule", "joints", "weights"] (spAreJF K) := by
  refine F.ok scAreJointsFair (fun vs H Q E h => ?_) (fun cdv A outer s H vs Q E hr h => ?_)
  · obtain ⟨r, a, l, p, q, k, P, ts, rfl, _⟩ := h
    rfl
  · obtain ⟨r, a, l, p, q, k, P, ts, rfl, ⟨⟨C, dx, fs, at', hr1, cls, n1, n2, l1, l2, ht'⟩, b1, b2, b3, b4, b5⟩, ha, pr, cl, hl, kk⟩ := h
    refine ⟨_, (pss_cons (ps_asg (pe_fld (pv 0) rfl) (pg_tup (by rfl) (pgs_cons (pg_name (i := 3) scAreJointsFair.nd rfl (.inl rfl)) (pgs_cons (pg_name (i := 4) scAreJointsFair.nd rfl (.inl rfl)) pgs_nil))))
      (pss_cons (ps_set (i := 5) scAreJointsFair.nd rfl (.inl rfl) (pe_fld (pv 0) rfl))
      (pss_cons (ps_for PassesOwn.never rfl (pi_list (pv 1)) (pg_tup (by rfl) (pgs_cons (pg_name (i := 6) scAreJointsFair.nd rfl (.inl rfl)) (pgs_cons (pg_name (i := 7) scAreJointsFair.nd rfl (.inl rfl)) pgs_nil)))
        (pss_cons (ps_par (i := 8) (j := 9) (by rfl) scAreJointsFair.nd rfl rfl (by decide) rfl rfl (pa_cons (pe_ix ix_list (pv 2) (pv 7) (fun _ _ => rfl)) (pa_cons (pe_ix ix_list (pv 2) (pe_op op_add (pv 7) pe_int) (fun _ _ => rfl)) pa_nil)) (by rfl))
        (pss_one (ps_if (PW.pt (pw_or (pt_cmpR op_gt (pe_op op_mul (pv 4) (pv 8)) (pe_op op_add (pe_op op_mul (pv 3) (pv 9)) (pv 5)) (nomark _)) (pw_or1 (pt_cmpR op_gt (pe_op op_mul (pv 4) (pv 9)) (pe_op op_add (pe_op op_mul (pv 3) (pv 8)) (pv 5)) (nomark _)))))
          (pss_one (ps_ret pe_bl)) pss_nil))))
      (pss_one (ps_ret pe_bl))))), ?_⟩
    have q6 := m64 b1 (show q ≤ 8 by omega)
    have p6 := m64 (show 1 ≤ p by omega) (show p ≤ 8 by omega)
    obtain ⟨sh, e0⟩ : ∃ s, P[0]? = some s := by
      have := cl.len
      exact ⟨P[0]'(by omega), List.getElem?_eq_getElem _⟩
    have fa := fair_jf (p := p) (q := q) (k := k) cl e0
    have kk := kk sh e0 H (Same.refl H)
    refine ⟨_, rfl, r, C, dx, fs, _, rfl, hr1, cls, n1, l1, at', _, rfl, SqT.of ht', rfl, _, _, rfl, _, _, rfl, rfl, ?_⟩
    refine ⟨_, rfl, r, C, dx, fs, _, rfl, hr1, cls, n2, l2, ?_⟩
    refine ⟨_, rfl, a, rfl, ⟨_, SqL.of ha⟩, for_list (K := K) (a := a) (xs := ts.map V.ref) (fun i σ H' => (∃ v6 v7 v8 v9 : Option V, σ = [some (.ref r), some (.ref a), some (.ref l), some (.int p), some (.int q), some (.int k), v6, v7, v8, v9]) ∧ H' = H ∧ (((jf P P.length).take i).map (fairAt p q k P)).all id = true) ⟨⟨_, _, _, _, rfl⟩, rfl, by simp⟩ (fun i σ H' _ h => by rw [h.2.1]; exact SqL.of ha) ?_ ?_⟩
    · rintro i y σ H' hy ⟨⟨v6, v7, v8, v9, rfl⟩, rfl, ih⟩
      rw [List.getElem?_map] at hy
      cases et : ts[i]? with
      | none => rw [et] at hy; cases hy
      | some t =>
        rw [et] at hy
        obtain rfl := Option.some.inj hy
        obtain ⟨j, ej, ht⟩ := Prs.at pr et
        have jm : j ∈ jd P P.length := by rw [← jf_rev, List.mem_reverse]; exact List.mem_of_getElem? ej
        obtain ⟨_, l', r', es⟩ := (jd_mem (Nat.le_refl P.length) j).mp jm
        obtain ⟨c1, c2⟩ := cl.kid j l' r' es
        have x1 : ((P.map Sh.wt).map V.int)[1 + 2 * cn P j]? = some (V.int l'.wt) := by rw [List.getElem?_map, List.getElem?_map, c1]; rfl
        have x2 : ((P.map Sh.wt).map V.int)[2 + 2 * cn P j]? = some (V.int r'.wt) := by rw [List.getElem?_map, List.getElem?_map, c2]; rfl
        have a2 : atI ((P.map Sh.wt).map V.int) (((1 + 2 * cn P j : Nat) : Int) + 1) = some (V.int r'.wt) := by
          rw [show ((1 + 2 * cn P j : Nat) : Int) + 1 = ((2 + 2 * cn P j : Nat) : Int) by omega]
          exact atI_nat x2
        have fj : fairAt p q k P j = fairB p q k l'.wt r'.wt := by unfold fairAt; rw [es]
        have no : fairB p q k l'.wt r'.wt = false → Q (.bl false) H' := by
          intro z
          have : ((jf P P.length).map (fairAt p q k P)).all id = false := by
            rw [List.all_eq_false]
            exact ⟨_, List.mem_map.mpr ⟨j, List.mem_of_getElem? ej, rfl⟩, by rw [fj, z]; decide⟩
          rw [fa] at this
          rw [this] at kk
          exact kk
        refine ⟨t, _, rfl, SqT.of ht, rfl, _, _, rfl, _, _, rfl, rfl, ?_⟩
        refine ⟨_, rfl, _, rfl, l, _, _, _, rfl, rfl, SqL.of hl, atI_nat x1, _, rfl, _, rfl, _, _, rfl, rfl, l, _, _, _, rfl, rfl, SqL.of hl, a2, _, _, rfl, ?_⟩
        refine ⟨_, rfl, _, rfl, _, _, rfl, rfl, .inl q6, _, rfl, _, rfl, _, _, rfl, rfl, .inl p6, _, rfl, _, _, rfl, rfl, _, _, rfl, rfl, _, rfl, ite2 (fun e => ?_) (fun e => ?_)⟩
        · have e := of_decide_eq_true e
          refine iteT (no ?_)
          unfold fairB
          rw [show decide (q * l'.wt ≤ p * r'.wt + k) = false from decide_eq_false (by omega), Bool.and_false]
        · have e1 : ¬ (q * l'.wt > p * r'.wt + k) := fun z => e (decide_eq_true z)
          refine ⟨_, rfl, _, rfl, _, _, rfl, rfl, .inl q6, _, rfl, _, rfl, _, _, rfl, rfl, .inl p6, _, rfl, _, _, rfl, rfl, _, _, rfl, rfl, _, rfl, ite2 (fun e => ?_) (fun e => ?_)⟩
          · have e := of_decide_eq_true e
            refine no ?_
            unfold fairB
            rw [show decide (q * r'.wt ≤ p * l'.wt + k) = false from decide_eq_false (by omega), Bool.false_and]
          · have e2 : ¬ (q * r'.wt > p * l'.wt + k) := fun z => e (decide_eq_true z)
            refine ⟨⟨_, _, _, _, rfl⟩, rfl, ?_⟩
            rw [List.take_add_one, ej, List.map_append, List.all_append, ih]
            have : fairB p q k l'.wt r'.wt = true := by
              unfold fairB
              rw [decide_eq_true (show q * r'.wt ≤ p * l'.wt + k by omega), decide_eq_true (show q * l'.wt ≤ p * r'.wt + k by omega)]
              rfl
            simp [fj, this]
    · rintro σ H' ⟨⟨v6, v7, v8, v9, rfl⟩, rfl, ih⟩
      have e := pr.length
      rw [List.length_map, e, List.take_length, fa] at ih
      rw [ih] at kk
      exact kk
theorem scIsFair : FnScope ["rule", "shape", "joints"] ["rule", "shape"] (defScope sIsFair) := ⟨rfl, rfl, rfl, by decide +kernel, rfl, by decide +kernel, by decide +kernel⟩
theorem ok_isFair {f Ct Cn : Addr} {fd : FuncData} {NS : Hp → V → Prop} {k : Nat} (F : Fun K "is_fair" "is_fair" sIsFair f fd) (T : Blt mg) (RT : RCls K Ct) (RN : RCls K Cn) (D1 : Df P w K mg base 1 "need_rule" ["value"] (spNeedR Ct Cn)) (D2 : Df P w K mg base (k + 2) "joints_of" ["shape"] (spJoints NS))
    (D3 : Df P w K mg base 2 "weights_of" ["joints"] spWof) (D4 : Df P w K mg base 1 "are_joints_fair" ["rule", "joints", "weights"] (spAreJF K)) : FnOk P w K mg base CX0 (k + 3) f fd ["rule", "shape"] (spIsFair Ct Cn NS) := by
  obtain ⟨f1, fd1, G1, g1, k1, b1⟩ := D1.ex
  obtain ⟨f2, fd2, G2, g2, k2, b2⟩ := D2.ex
  obtain ⟨f3, fd3, G3, g3, k3, b3⟩ := D3.ex
  obtain ⟨f4, fd4, G4, g4, k4, b4⟩ := D4.ex
  refine F.ok scIsFair (fun vs H Q E h => ?_) (fun cdv A outer s H vs Q E hr h => ?_)
  · obtain ⟨r, row, v, rfl, _⟩ := h
    rfl
  · obtain ⟨r, row, v, rfl, ob, ok, hh⟩ := h
    have hr1 : Room 1 _ := hr.mono (by omega)
    have hr2 : Room 2 _ := hr.mono (by omega)
    refine ⟨_, pss_cons (ps_expr (pe_call G1 hr1 (by rfl) g1 k1 b1 .nil pass0 (pa_cons (pv 0) pa_nil)))
      (pss_cons (ps_set (i := 2) scIsFair.nd rfl (.inl rfl) (pe_call G2 hr (by rfl) g2 k2 b2 .nil pass0 (pa_cons (pv 1) pa_nil)))
      (pss_one (ps_ret (pe_and (pe_cmpR op_notN (pv 2) pe_non (nomark _)) (pe_one (pe_call G4 hr1 (by rfl) g4 k4 b4 .nil pass0 (pa_cons (pv 0) (pa_cons (pv 2) (pa_cons (pe_call G3 hr2 (by rfl) g3 k3 b3 .nil pass0 (pa_cons (pv 2) pa_nil)) pa_nil))))))))), ?_⟩
    refine ⟨_, rfl, r, row, rfl, ob, ?_⟩
    rcases hh with ⟨sh, hs, hm, kk⟩ | ⟨hn, kk⟩
    · refine ⟨_, rfl, v, rfl, .inl ⟨sh, hs, hm, fun a P ts HA nla sa ha pr cl e0 en => ?_⟩⟩
      refine ⟨_, rfl, rfl, true, rfl, iteT ?_⟩
      have hb : P.length ≤ 1000000 := by omega
      refine ⟨_, rfl, _, rfl, _, rfl, a, P, ts, rfl, ha, pr, cl, hb, fun l H1 nl tk s1 hl => ?_⟩
      refine ⟨r, a, l, row.p, row.q, row.k, P, ts, rfl, ((ob.keep sa).keep s1).rb RT RN ok, s1 _ _ ha, pr.keep tk, cl, hl, fun s' e' H2 s2 => ?_⟩
      rw [e0] at e'
      cases e'
      exact kk H2 (sa.trans (s1.trans s2))
    · refine ⟨_, rfl, v, rfl, .inr ⟨hn, fun HA sa => ?_⟩⟩
      exact ⟨_, rfl, rfl, false, rfl, iteF (kk HA sa)⟩
end
end Ev
namespace Ev
open PySem L2 PySem.Spec PyProof.Rows
theorem bits_zero : Builtin.Int.intBits 0 = 0 := by decide
theorem bits_half {m : Int} (h : 0 < m) : Builtin.Int.intBits m = Builtin.Int.intBits (m.fdiv 2) + 1 := by
  obtain ⟨n, rfl⟩ := Int.eq_ofNat_of_zero_le (show 0 ≤ m by omega)
  rw [Int.fdiv_eq_ediv_of_nonneg _ (by decide)]
  unfold Builtin.Int.intBits
  have e1 : ((n : Int) == 0) = false := by
    rw [beq_eq_false_iff_ne]; omega
  rw [e1]
  by_cases z : n = 1
  · subst z
    decide
  · have e2 : (((n : Int) / 2) == 0) = false := by
      rw [beq_eq_false_iff_ne]; omega
    rw [e2]
    have e3 : ((n : Int) / 2).natAbs = n / 2 := by omega
    rw [e3]
    show (n : Int).natAbs.log2 + 1 = (n / 2).log2 + 1 + 1
    rw [Int.natAbs_natCast, Nat.log2_def n, if_pos (by omega)]
theorem log2_mono {a b : Nat} (h : a ≤ b) (ha : a ≠ 0) : a.log2 ≤ b.log2 := by
  have h1 : 2 ^ a.log2 ≤ a := Nat.log2_self_le ha
  exact (Nat.le_log2 (by omega)).mpr (Nat.le_trans h1 h)
theorem bits_mono {a b : Int} (h0 : 0 ≤ a) (h : a ≤ b) : Builtin.Int.intBits a ≤ Builtin.Int.intBits b := by
  obtain ⟨m, rfl⟩ := Int.eq_ofNat_of_zero_le h0
  obtain ⟨n, rfl⟩ := Int.eq_ofNat_of_zero_le (Int.le_trans h0 h)
  unfold Builtin.Int.intBits
  by_cases z : m = 0
  · subst z
    exact Nat.zero_le _
  · rw [if_neg (by simp; omega), if_neg (by simp; omega), Int.natAbs_natCast, Int.natAbs_natCast]
    have := log2_mono (show m ≤ n by omega) z
    omega
theorem bits_le30 {m : Int} (h0 : 0 ≤ m) (h : m ≤ 10 ^ 30) : Builtin.Int.intBits m < 2000 := by
  have h1 := bits_mono h0 h
  have h2 : Builtin.Int.intBits (10 ^ 30) < 2000 := by decide +kernel
  omega
/-- the least height is not above the greatest one -/
theorem bits_isH {p q k m : Int} {n : Nat} (o : okN p q k) (h0 : 0 ≤ m) (ih : IsH p q k (m + 1) n) : Builtin.Int.intBits m ≤ n := by
  obtain ⟨a, rfl⟩ := Int.eq_ofNat_of_zero_le h0
  by_cases z : a = 0
  · subst z
    exact Nat.zero_le _
  · have e : Builtin.Int.intBits (a : Int) = a.log2 + 1 := by
      unfold Builtin.Int.intBits
      rw [if_neg (by simp; omega), Int.natAbs_natCast]
    have w := Wt_two o a.log2
    have p2 : ((2 : Int)) ^ a.log2 ≤ (a : Int) := by
      have := Nat.log2_self_le z
      have c : ((2 ^ a.log2 : Nat) : Int) = (2 : Int) ^ a.log2 := by simp
      omega
    rw [e]
    by_cases y : a.log2 + 1 ≤ n
    · exact y
    · have mo := Wt_mono p q k (show n + 1 ≤ a.log2 + 1 by omega)
      have := ih.2
      omega
theorem Wt_stair {p q k : Int} (o : okN p q k) {n : Nat} {a b : Int} (ha : 12 ≤ a) (h : a ≤ Wt p q k n) (hb : 6 * b ≤ 7 * a - 1) : b ≤ Wt p q k (n + 1) := by
  obtain ⟨o1, o2, o3, o4, o5, o6⟩ := o
  have l1 := least_pos p q k (Wt p q k n)
  have l := (least_le (p := p) (k := k) (q := q) (y := Wt p q k n) (by omega) l1).mp (Int.le_refl _)
  have x1 : 1 * Wt p q k n ≤ q * Wt p q k n := Int.mul_le_mul_of_nonneg_right o1 (by omega)
  have x2 : p * leastV p q k (Wt p q k n) ≤ 6 * leastV p q k (Wt p q k n) := Int.mul_le_mul_of_nonneg_right o3 (by omega)
  show b ≤ Wt p q k n + leastV p q k (Wt p q k n)
  omega
theorem Wt_48 {p q k : Int} (o : okN p q k) : 2001 < Wt p q k 47 := by
  have h11 : (12 : Int) ≤ Wt p q k 11 := Wt_ge p q k 11
  have h12 : (13 : Int) ≤ Wt p q k 12 := Wt_stair o (a := 12) (by decide) h11 (by decide)
  have h13 : (15 : Int) ≤ Wt p q k 13 := Wt_stair o (a := 13) (by decide) h12 (by decide)
  have h14 : (17 : Int) ≤ Wt p q k 14 := Wt_stair o (a := 15) (by decide) h13 (by decide)
  have h15 : (19 : Int) ≤ Wt p q k 15 := Wt_stair o (a := 17) (by decide) h14 (by decide)
  have h16 : (22 : Int) ≤ Wt p q k 16 := Wt_stair o (a := 19) (by decide) h15 (by decide)
  have h17 : (25 : Int) ≤ Wt p q k 17 := Wt_stair o (a := 22) (by decide) h16 (by decide)
  have h18 : (29 : Int) ≤ Wt p q k 18 := Wt_stair o (a := 25) (by decide) h17 (by decide)
  have h19 : (33 : Int) ≤ Wt p q k 19 := Wt_stair o (a := 29) (by decide) h18 (by decide)
  have h20 : (38 : Int) ≤ Wt p q k 20 := Wt_stair o (a := 33) (by decide) h19 (by decide)
  have h21 : (44 : Int) ≤ Wt p q k 21 := Wt_stair o (a := 38) (by decide) h20 (by decide)
  have h22 : (51 : Int) ≤ Wt p q k 22 := Wt_stair o (a := 44) (by decide) h21 (by decide)
  have h23 : (59 : Int) ≤ Wt p q k 23 := Wt_stair o (a := 51) (by decide) h22 (by decide)
  have h24 : (68 : Int) ≤ Wt p q k 24 := Wt_stair o (a := 59) (by decide) h23 (by decide)
  have h25 : (79 : Int) ≤ Wt p q k 25 := Wt_stair o (a := 68) (by decide) h24 (by decide)
  have h26 : (92 : Int) ≤ Wt p q k 26 := Wt_stair o (a := 79) (by decide) h25 (by decide)
  have h27 : (107 : Int) ≤ Wt p q k 27 := Wt_stair o (a := 92) (by decide) h26 (by decide)
  have h28 : (124 : Int) ≤ Wt p q k 28 := Wt_stair o (a := 107) (by decide) h27 (by decide)
  have h29 : (144 : Int) ≤ Wt p q k 29 := Wt_stair o (a := 124) (by decide) h28 (by decide)
  have h30 : (167 : Int) ≤ Wt p q k 30 := Wt_stair o (a := 144) (by decide) h29 (by decide)
  have h31 : (194 : Int) ≤ Wt p q k 31 := Wt_stair o (a := 167) (by decide) h30 (by decide)
  have h32 : (226 : Int) ≤ Wt p q k 32 := Wt_stair o (a := 194) (by decide) h31 (by decide)
  have h33 : (263 : Int) ≤ Wt p q k 33 := Wt_stair o (a := 226) (by decide) h32 (by decide)
  have h34 : (306 : Int) ≤ Wt p q k 34 := Wt_stair o (a := 263) (by decide) h33 (by decide)
  have h35 : (356 : Int) ≤ Wt p q k 35 := Wt_stair o (a := 306) (by decide) h34 (by decide)
  have h36 : (415 : Int) ≤ Wt p q k 36 := Wt_stair o (a := 356) (by decide) h35 (by decide)
  have h37 : (484 : Int) ≤ Wt p q k 37 := Wt_stair o (a := 415) (by decide) h36 (by decide)
  have h38 : (564 : Int) ≤ Wt p q k 38 := Wt_stair o (a := 484) (by decide) h37 (by decide)
  have h39 : (657 : Int) ≤ Wt p q k 39 := Wt_stair o (a := 564) (by decide) h38 (by decide)
  have h40 : (766 : Int) ≤ Wt p q k 40 := Wt_stair o (a := 657) (by decide) h39 (by decide)
  have h41 : (893 : Int) ≤ Wt p q k 41 := Wt_stair o (a := 766) (by decide) h40 (by decide)
  have h42 : (1041 : Int) ≤ Wt p q k 42 := Wt_stair o (a := 893) (by decide) h41 (by decide)
  have h43 : (1214 : Int) ≤ Wt p q k 43 := Wt_stair o (a := 1041) (by decide) h42 (by decide)
  have h44 : (1416 : Int) ≤ Wt p q k 44 := Wt_stair o (a := 1214) (by decide) h43 (by decide)
  have h45 : (1651 : Int) ≤ Wt p q k 45 := Wt_stair o (a := 1416) (by decide) h44 (by decide)
  have h46 : (1926 : Int) ≤ Wt p q k 46 := Wt_stair o (a := 1651) (by decide) h45 (by decide)
  have h47 : (2246 : Int) ≤ Wt p q k 47 := Wt_stair o (a := 1926) (by decide) h46 (by decide)
  exact Int.lt_of_lt_of_le (by decide) h47
theorem IsH.low {p q k m : Int} {h : Nat} (o : okN p q k) (a : IsH p q k m h) (hm : m ≤ 2001) : h < 47 := by
  by_cases z : h < 47
  · exact z
  · have := Wt_48 o
    have := Wt_mono p q k (show 47 ≤ h by omega)
    have := a.1
    omega
theorem isH_ex {p q k : Int} : ∀ n : Nat, ∃ h, IsH p q k ((n : Int) + 1) h
  | 0 => ⟨0, by show (1 : Int) ≤ _; omega, by have := Wt_ge p q k 1; show ((0 : Nat) : Int) + 1 < Wt p q k 1; omega⟩
  | n + 1 => by
    obtain ⟨h, a, b⟩ := isH_ex (p := p) (q := q) (k := k) n
    by_cases z : ((n + 1 : Nat) : Int) + 1 < Wt p q k (h + 1)
    · exact ⟨h, by omega, z⟩
    · have := Wt_lt p q k (h + 1)
      exact ⟨h + 1, by omega, by omega⟩
theorem wt_many : ∀ s : Sh, s.wt = (s.many : Int) + 1
  | .e => rfl
  | .n l r => by
    show l.wt + r.wt = ((l.many + r.many + 1 : Nat) : Int) + 1
    rw [wt_many l, wt_many r]
    omega
def Sh.deep : Sh → Nat
  | .e => 0
  | .n l r => max l.deep r.deep + 1
theorem ht_deep : ∀ s : Sh, s.ht = (s.deep : Int)
  | .e => rfl
  | .n l r => by
    show 1 + (if r.ht < l.ht then l.ht else r.ht) = ((max l.deep r.deep + 1 : Nat) : Int)
    rw [ht_deep l, ht_deep r]
    split <;> omega
/-- the shape of halves -/
def hv (m : Nat) : Sh := if h : m = 0 then .e else .n (hv (m / 2)) (hv ((m - 1) / 2))
termination_by m
decreasing_by all_goals omega
theorem hv_zero : hv 0 = .e := by rw [hv]; simp
theorem hv_pos {m : Nat} (h : m ≠ 0) : hv m = .n (hv (m / 2)) (hv ((m - 1) / 2)) := by rw [hv]; simp [h]
theorem hv_many : ∀ (b m : Nat), m ≤ b → (hv m).many = m
  | 0, m, h => by obtain rfl : m = 0 := by omega
                  rw [hv_zero]; rfl
  | b + 1, m, h => by
    by_cases z : m = 0
    · subst z; rw [hv_zero]; rfl
    · rw [hv_pos z]
      show (hv (m / 2)).many + (hv ((m - 1) / 2)).many + 1 = m
      rw [hv_many b _ (by omega), hv_many b _ (by omega)]
      omega
theorem hv_wt (m : Nat) : (hv m).wt = (m : Int) + 1 := by rw [wt_many, hv_many m m (Nat.le_refl _)]
theorem bits_nat {m : Nat} (h : m ≠ 0) : Builtin.Int.intBits (m : Int) = Builtin.Int.intBits ((m / 2 : Nat) : Int) + 1 := by
  rw [bits_half (m := (m : Int)) (by omega), Int.fdiv_eq_ediv_of_nonneg _ (by decide)]
  rfl
theorem hv_deep : ∀ (b m : Nat), m ≤ b → (hv m).deep = Builtin.Int.intBits (m : Int)
  | 0, m, h => by obtain rfl : m = 0 := by omega
                  rw [hv_zero]; rfl
  | b + 1, m, h => by
    by_cases z : m = 0
    · subst z; rw [hv_zero]; rfl
    · rw [hv_pos z]
      show max (hv (m / 2)).deep (hv ((m - 1) / 2)).deep + 1 = _
      rw [hv_deep b _ (by omega), hv_deep b _ (by omega), bits_nat z]
      have := bits_mono (a := (((m - 1) / 2 : Nat) : Int)) (b := ((m / 2 : Nat) : Int)) (by omega) (by omega)
      omega
theorem fair_near {p q k x y : Int} (o : okN p q k) (hy : 1 ≤ y) (h1 : y ≤ x) (h2 : x ≤ y + 1) : fairB p q k x y = true := by
  have a := (le_great o.1).mp (great_ge (x := y) o hy)
  have b := (le_great o.1).mp (great_ge (x := x) o (by omega))
  have c : q * x ≤ q * (y + 1) := Int.mul_le_mul_of_nonneg_left h2 (by have := o.1; omega)
  have d : q * y ≤ q * (x + 1) := Int.mul_le_mul_of_nonneg_left (by omega) (by have := o.1; omega)
  unfold fairB
  rw [decide_eq_true (Int.le_trans d b), decide_eq_true (Int.le_trans c a)]
  rfl
theorem hv_fair {p q k : Int} (o : okN p q k) : ∀ (b m : Nat), m ≤ b → (hv m).fair p q k = true
  | 0, m, h => by obtain rfl : m = 0 := by omega
                  rw [hv_zero]; rfl
  | b + 1, m, h => by
    by_cases z : m = 0
    · subst z; rw [hv_zero]; rfl
    · rw [hv_pos z]
      show (fairB p q k (hv (m / 2)).wt (hv ((m - 1) / 2)).wt && (hv (m / 2)).fair p q k && (hv ((m - 1) / 2)).fair p q k) = true
      rw [hv_fair o b _ (by omega), hv_fair o b _ (by omega), hv_wt, hv_wt, fair_near o (by omega) (by omega) (by omega)]
      rfl
/-- the heavy side of a tall shape -/
def hvy (p q k w : Int) (h : Nat) : Int := if Wt p q k (h - 1) < (w + 1) / 2 then (w + 1) / 2 else Wt p q k (h - 1)
inductive Tall (p q k : Int) : Int → Sh → Prop
  | one : Tall p q k 1 .e
  | more {w : Int} {h : Nat} {s : Sh} (hw : 2 ≤ w) (ih : IsH p q k w h) (t : Tall p q k (hvy p q k w h) s) : Tall p q k w (.n s (hv (w - hvy p q k w h - 1).toNat))
theorem isH_pos {p q k w : Int} {h : Nat} (o : okN p q k) (hw : 2 ≤ w) (ih : IsH p q k w h) : 1 ≤ h := by
  cases h with
  | zero =>
    have := ih.2
    have e := Wt_one o
    rw [show 0 + 1 = 1 from rfl, e] at this
    omega
  | succ h => omega
theorem hvy_facts {p q k w : Int} {h : Nat} (o : okN p q k) (hw : 2 ≤ w) (ih : IsH p q k w h) : IsH p q k (hvy p q k w h) (h - 1) ∧ 1 ≤ hvy p q k w h ∧ hvy p q k w h ≤ w - 1 ∧ w - hvy p q k w h ≤ hvy p q k w h ∧ fairB p q k (hvy p q k w h) (w - hvy p q k w h) = true := by
  have hp := isH_pos o hw ih
  obtain ⟨g, rfl⟩ : ∃ g, h = g + 1 := ⟨h - 1, by omega⟩
  have eh : hvy p q k w (g + 1) = if Wt p q k g < (w + 1) / 2 then (w + 1) / 2 else Wt p q k g := rfl
  rw [eh, show g + 1 - 1 = g from rfl]
  have wg := Wt_ge p q k g
  have wg1 := Wt_ge p q k (g + 1)
  have i1 := ih.1
  have i2 : w < Wt p q k (g + 1) + leastV p q k (Wt p q k (g + 1)) := ih.2
  have l2 := least_lt o (show 2 ≤ Wt p q k (g + 1) by omega)
  have wl := Wt_lt p q k g
  by_cases z : Wt p q k g < (w + 1) / 2
  · rw [if_pos z]
    exact ⟨⟨by omega, by omega⟩, by omega, by omega, by omega, fair_near o (by omega) (by omega) (by omega)⟩
  · rw [if_neg z]
    have e : Wt p q k (g + 1) = Wt p q k g + leastV p q k (Wt p q k g) := rfl
    have lp := least_pos p q k (Wt p q k g)
    refine ⟨⟨by omega, by omega⟩, by omega, by omega, by omega, ?_⟩
    have a := (least_le (p := p) (q := q) (k := k) (y := Wt p q k g) (x := w - Wt p q k g) (by have := o.1; have := o.2.1; omega) (by omega)).mp (by omega)
    have b := (le_great o.1).mp (great_ge (x := Wt p q k g) o (by omega))
    have c : q * (w - Wt p q k g) ≤ q * (Wt p q k g + 1) := Int.mul_le_mul_of_nonneg_left (by omega) (by have := o.1; omega)
    unfold fairB
    rw [decide_eq_true (Int.le_trans c b), decide_eq_true a]
    rfl
theorem Tall.facts {p q k : Int} (o : okN p q k) {w : Int} {s : Sh} (t : Tall p q k w s) : 1 ≤ w ∧ s.wt = w ∧ s.fair p q k = true ∧ ∀ h, IsH p q k w h → s.deep = h := by
  induction t with
  | one => exact ⟨by omega, rfl, rfl, fun h ih => (ih.uniq (IsH.at p q k 0)).symm⟩
  | @more w h s hw ih t f =>
    obtain ⟨f1, f2, f3, f4⟩ := f
    obtain ⟨g1, g2, g3, g4, g5⟩ := hvy_facts o hw ih
    have hp := isH_pos o hw ih
    have dS := f4 _ g1
    generalize hvy p q k w h = x at f1 f2 g1 g2 g3 g4 g5 dS
    have ey : ((w - x - 1).toNat : Int) = w - x - 1 := by omega
    have wy : (hv (w - x - 1).toNat).wt = w - x := by rw [hv_wt, ey]; omega
    refine ⟨by omega, ?_, ?_, fun h' ih' => ?_⟩
    · show s.wt + (hv (w - x - 1).toNat).wt = w
      rw [f2, wy]; omega
    · show (fairB p q k s.wt (hv (w - x - 1).toNat).wt && s.fair p q k && (hv (w - x - 1).toNat).fair p q k) = true
      rw [f2, wy, g5, f3, hv_fair o _ _ (Nat.le_refl _)]
      rfl
    · obtain rfl := ih'.uniq ih
      show max s.deep (hv (w - x - 1).toNat).deep + 1 = h'
      rw [dS, hv_deep _ _ (Nat.le_refl _), ey]
      obtain ⟨hy, iy⟩ := isH_ex (p := p) (q := q) (k := k) (w - x - 1).toNat
      rw [ey] at iy
      have b1 := bits_isH o (show 0 ≤ w - x - 1 by omega) iy
      have b2 := iy.mono g1 (by omega)
      omega
theorem Tall.uniq {p q k : Int} {w : Int} {s s' : Sh} (t : Tall p q k w s) (t' : Tall p q k w s') : s = s' := by
  induction t generalizing s' with
  | one =>
    cases t' with
    | one => rfl
    | more hw _ _ => omega
  | more hw ih t f =>
    cases t' with
    | one => omega
    | more hw' ih' t' =>
      obtain rfl := ih.uniq ih'
      rw [f t']
end Ev
namespace Ev
open PySem L2 PySem.Spec PyProof.Rows
abbrev sHalv : Stmt := top 51
abbrev sHalvS : Stmt := top 57
abbrev sTall : Stmt := top 58
def spHalv (d : Nat) : Sp := fun vs H Q _ => ∃ m : Nat, vs = [.int (m : Int)] ∧ m < 2 ^ d ∧ ∀ (v : V) (H' : Hp), Same H H' → ShAt H' (hv m) v → Q v H'
def spHalvS : Sp := fun vs H Q _ => ∃ m : Nat, vs = [.int (m : Int)] ∧ m ≤ 2000 ∧ ∀ (v : V) (H' : Hp), Same H H' → ShAt H' (hv m) v → Q v H'
def spTallS (Ct Cn : Addr) : Sp := fun vs H Q _ => ∃ (r : Addr) (row : Row) (m : Int), vs = [.ref r, .int m] ∧ ObjAt Ct Cn H r row ∧ row.ok ∧ 0 ≤ m ∧ m ≤ 2000 ∧ ∀ (v : V) (s : Sh) (H' : Hp), Same H H' → Tall row.p row.q row.k (m + 1) s → ShAt H' s v → Q v H'
/-- the shape whose heavy sides are taken away one by one -/
def build (s : Sh) : List Int → Sh
  | [] => s
  | y :: r => .n (build s r) (hv (y - 1).toNat)
theorem build_snoc (s : Sh) (y : Int) : ∀ r : List Int, build s (r ++ [y]) = build (.n s (hv (y - 1).toNat)) r
  | [] => rfl
  | z :: r => by show Sh.n (build s (r ++ [y])) _ = Sh.n _ _; rw [build_snoc s y r]
section
variable {P : Program} {w : World} {K : PySem.W.Frag} {mg : Str → Option Value} {base : Heap}
theorem scHalv : FnScope ["many", "left", "right", "side"] ["many"] (defScope sHalv) := ⟨rfl, rfl, rfl, by decide +kernel, rfl, by decide +kernel, by decide +kernel⟩
theorem half_a (m : Nat) : (m : Int).fdiv 2 = ((m / 2 : Nat) : Int) := by rw [Int.fdiv_eq_ediv_of_nonneg _ (by decide)]; omega
theorem half_b {m : Nat} (h : m ≠ 0) : (m : Int) - 1 - (m : Int).fdiv 2 = (((m - 1) / 2 : Nat) : Int) := by rw [half_a]; omega
theorem ok_halv {f : Addr} {fd : FuncData} (F : Fun K "halves_of" "halves_of" sHalv f fd) (gS : mg "halves_of" = some (.ref f)) (bS : Binds K fd ["many"] []) : ∀ d : Nat, FnOk P w K mg base CX0 (1 + d) f fd ["many"] (spHalv d)
  | 0 => by
    refine F.ok scHalv (fun vs H Q E h => ?_) (fun cdv A outer s H vs Q E hr h => ?_)
    · obtain ⟨m, rfl, _⟩ := h
      rfl
    · obtain ⟨m, rfl, hm, kk⟩ := h
      obtain rfl : m = 0 := by have : m < 1 := hm; omega
      refine ⟨_, pss_cons (ps_if (pt_cmpR op_eq (pv 0) pe_int (nomark _)) (pss_one (ps_ret (pe_tup pa_nil))) pss_nil) (pss_cons ps_never (pss_cons ps_never (pss_one ps_never))), ?_⟩
      refine ⟨_, rfl, rfl, _, rfl, ite2 (fun _ => ⟨(by show 0 ≤ sizeLine; decide), fun a na => ?_⟩) (fun z => absurd (decide_eq_true rfl) z)⟩
      exact kk _ _ (same_new na) (by rw [hv_zero]; exact ⟨a, rfl, upd_same⟩)
  | d + 1 => by
    have GS := ok_halv F gS bS d
    refine F.ok scHalv (fun vs H Q E h => ?_) (fun cdv A outer s H vs Q E hr h => ?_)
    · obtain ⟨m, rfl, _⟩ := h
      rfl
    · obtain ⟨m, rfl, hm, kk⟩ := h
      have hrd : Room (1 + d) _ := hr
      have p2 : 2 ^ (d + 1) = 2 ^ d * 2 := Nat.pow_succ ..
      refine ⟨_, pss_cons (ps_if (pt_cmpR op_eq (pv 0) pe_int (nomark _)) (pss_one (ps_ret (pe_tup pa_nil))) pss_nil)
        (pss_cons (ps_par (i := 1) (j := 2) rfl scHalv.nd rfl rfl (by decide) rfl rfl (pa_cons (pe_op op_fdivN (pv 0) pe_int) (pa_cons (pe_op op_sub (pe_op op_sub (pv 0) pe_int) (pe_op op_fdivN (pv 0) pe_int)) pa_nil)) (by rfl))
        (pss_cons (ps_set (i := 3) scHalv.nd rfl (.inl rfl) (pe_call GS hrd (by rfl) gS F.kp bS .nil pass0 (pa_cons (pv 1) pa_nil)))
        (pss_one (ps_ret (pe_tup (pa_cons (pv 3) (pa_cons (pe_ifExp (pt_cmpR op_eq (pv 2) (pv 1) (nomark _)) (pv 3) (pe_call GS hrd (by rfl) gS F.kp bS .nil pass0 (pa_cons (pv 2) pa_nil))) pa_nil))))))), ?_⟩
      refine ⟨_, rfl, rfl, _, rfl, ite2 (fun e => ⟨(by show 0 ≤ sizeLine; decide), fun a na => ?_⟩) (fun e => ?_)⟩
      · have e0 : (m : Int) = 0 := V.int.inj (of_decide_eq_true e)
        obtain rfl : m = 0 := by omega
        exact kk _ _ (same_new na) (by rw [hv_zero]; exact ⟨a, rfl, upd_same⟩)
      · have m0 : m ≠ 0 := fun z => e (decide_eq_true (by subst z; rfl))
        refine ⟨_, rfl, _, _, rfl, rfl, ⟨by decide, by decide⟩, _, rfl, _, _, rfl, rfl, _, rfl, _, _, rfl, rfl, ⟨by decide, by decide⟩, _, _, rfl, rfl, _, _, rfl, ?_⟩
        refine ⟨_, rfl, m / 2, (by show [V.int ((m : Int).fdiv 2)] = _; rw [half_a]), by omega, fun v1 H1 s1 h1 => ?_⟩
        refine ⟨_, rfl, _, rfl, _, rfl, rfl, _, rfl, ite2 (fun e1 => ?_) (fun e1 => ?_)⟩
        · have e2 : (m : Int) - 1 - (m : Int).fdiv 2 = (m : Int).fdiv 2 := V.int.inj (of_decide_eq_true e1)
          rw [half_b m0, half_a] at e2
          have e3 : (m - 1) / 2 = m / 2 := by omega
          refine ⟨_, rfl, (by show 2 ≤ sizeLine; decide), fun a na => ?_⟩
          have sn := same_new (o := .tup [v1, v1]) na
          refine kk _ _ (s1.trans sn) ?_
          rw [hv_pos m0, e3]
          exact ⟨a, _, _, rfl, upd_same, h1.keep sn, h1.keep sn⟩
        · refine ⟨_, rfl, (m - 1) / 2, (by show [V.int ((m : Int) - 1 - (m : Int).fdiv 2)] = _; rw [half_b m0]), by omega, fun v2 H2 s2 h2 => ⟨(by show 2 ≤ sizeLine; decide), fun a na => ?_⟩⟩
          have sn := same_new (o := .tup [v1, v2]) na
          refine kk _ _ ((s1.trans s2).trans sn) ?_
          rw [hv_pos m0]
          exact ⟨a, _, _, rfl, upd_same, (h1.keep s2).keep sn, h2.keep sn⟩
theorem scHalvS : FnScope ["keys"] ["keys"] (defScope sHalvS) := ⟨rfl, rfl, rfl, by decide +kernel, rfl, by decide +kernel, by decide +kernel⟩
theorem ok_halvS {f : Addr} {fd : FuncData} (F : Fun K "halves_shape" "halves_shape" sHalvS f fd) (D1 : Df P w K mg base 3 "need_number" ["value", "most"] spNeedN) (D2 : Df P w K mg base 12 "halves_of" ["many"] (spHalv 11)) {t : Tok} (gM : mg "MOST_SHAPE_KEYS" = some (.int 2000 t)) : FnOk P w K mg base CX0 13 f fd ["keys"] spHalvS := by
  obtain ⟨f1, fd1, G1, g1, k1, b1⟩ := D1.ex
  obtain ⟨f2, fd2, G2, g2, k2, b2⟩ := D2.ex
  refine F.ok scHalvS (fun vs H Q E h => ?_) (fun cdv A outer s H vs Q E hr h => ?_)
  · obtain ⟨m, rfl, _⟩ := h
    rfl
  · obtain ⟨m, rfl, hm, kk⟩ := h
    refine ⟨_, pss_cons (ps_expr (pe_call G1 (hr.mono (by decide)) (by rfl) g1 k1 b1 .nil pass0 (pa_cons (pv 0) (pa_cons (pe_glob (v := .int 2000) rfl gM ⟨_, rfl⟩) pa_nil))))
      (pss_one (ps_ret (pe_call G2 hr (by rfl) g2 k2 b2 .nil pass0 (pa_cons (pv 0) pa_nil)))), ?_⟩
    exact ⟨_, rfl, _, _, rfl, by omega, by omega, _, rfl, m, rfl, Nat.lt_of_le_of_lt hm (by decide), kk⟩
theorem scTall : FnScope ["rule", "keys", "weight", "least", "rests", "half", "left", "shape", "rest"] ["rule", "keys"] (defScope sTall) := ⟨rfl, rfl, rfl, by decide +kernel, rfl, by decide +kernel, by decide +kernel⟩
theorem wl_last (p q k : Int) (n : Nat) : atI (wl p q k n) (-1) = some (.int (Wt p q k n)) := by
  unfold wl
  rw [List.range_succ, List.map_append]
  exact atI_last _ _
theorem atI_last2 {α : Type} (xs : List α) (u v : α) : atI (xs ++ [u, v]) (-2) = some u := by
  have hl : (xs ++ [u, v]).length = xs.length + 2 := by simp
  have e : ixN (xs ++ [u, v]).length (-2) = some xs.length := by
    unfold ixN
    rw [if_neg (by omega), hl]
    simp
    omega
  unfold atI
  rw [e]
  simp
theorem wl_last2 (p q k : Int) (n : Nat) : atI (wl p q k (n + 1)) (-2) = some (.int (Wt p q k n)) := by
  unfold wl
  rw [List.range_succ, List.range_succ, List.map_append, List.map_append, List.append_assoc]
  exact atI_last2 _ _ _
theorem wl_drop (p q k : Int) (n : Nat) : (wl p q k (n + 1)).dropLast = wl p q k n := by
  rw [← wl_succ, List.dropLast_concat]
theorem ok_tall {f Ct Cn : Addr} {fd : FuncData} (F : Fun K "tall_shape" "tall_shape" sTall f fd) (D1 : Df P w K mg base 1 "need_rule" ["value"] (spNeedR Ct Cn)) (D2 : Df P w K mg base 3 "need_number" ["value", "most"] spNeedN) (D3 : Df P w K mg base 2 "least_weights" ["rule", "most"] (spLW Ct Cn))
    (D4 : Df P w K mg base 12 "halves_of" ["many"] (spHalv 11)) {t : Tok} (gM : mg "MOST_SHAPE_KEYS" = some (.int 2000 t)) : FnOk P w K mg base CX0 13 f fd ["rule", "keys"] (spTallS Ct Cn) := by
  obtain ⟨f1, fd1, G1, g1, k1, b1⟩ := D1.ex
  obtain ⟨f2, fd2, G2, g2, k2, b2⟩ := D2.ex
  obtain ⟨f3, fd3, G3, g3, k3, b3⟩ := D3.ex
  obtain ⟨f4, fd4, G4, g4, k4, b4⟩ := D4.ex
  refine F.ok scTall (fun vs H Q E h => ?_) (fun cdv A outer s H vs Q E hr h => ?_)
  · obtain ⟨r, row, m, rfl, _⟩ := h
    rfl
  · obtain ⟨r, row, m, rfl, ob, ok, m1, m2, kk⟩ := h
    have hr1 : Room 1 _ := hr.mono (by decide)
    have hr2 : Room 2 _ := hr.mono (by decide)
    have hr3 : Room 3 _ := hr.mono (by decide)
    refine ⟨_, pss_cons (ps_expr (pe_call G1 hr1 (by rfl) g1 k1 b1 .nil pass0 (pa_cons (pv 0) pa_nil)))
      (pss_cons (ps_expr (pe_call G2 hr3 (by rfl) g2 k2 b2 .nil pass0 (pa_cons (pv 1) (pa_cons (pe_glob (v := .int 2000) rfl gM ⟨_, rfl⟩) pa_nil))))
      (pss_cons (ps_set (i := 2) scTall.nd rfl (.inl rfl) (pe_op op_add (pv 1) pe_int))
      (pss_cons (ps_set (i := 3) scTall.nd rfl (.inl rfl) (pe_call G3 hr2 (by rfl) g3 k3 b3 .nil pass0 (pa_cons (pv 0) (pa_cons (pv 2) pa_nil))))
      (pss_cons (ps_set (i := 4) scTall.nd rfl (.inl rfl) (pe_lst pa_nil))
      (pss_cons (ps_while PassesOwn.never (pt_cmpR op_gt (pv 2) pe_int (nomark _))
        (pss_cons (ps_while PassesOwn.never (pt_cmpR op_gt (pe_ix ix_list (pv 3) (pe_un un_neg pe_int) (fun _ _ => rfl)) (pv 2) (nomark _))
          (pss_one (ps_expr (pe_bm0 PySem.F.plainAttrs_list PySem.F.slot_list_pop PySem.F.type_list_pop mt_pop (pv 3)))))
        (pss_cons (ps_set (i := 5) scTall.nd rfl (.inl rfl) (pe_op op_fdivN (pe_op op_add (pv 2) pe_int) pe_int))
        (pss_cons (ps_set (i := 6) scTall.nd rfl (.inl rfl) (pe_ifExp (pt_cmpR op_gt (pv 5) (pe_ix ix_list (pv 3) (pe_un un_neg pe_int) (fun _ _ => rfl)) (nomark _)) (pv 5) (pe_ix ix_list (pv 3) (pe_un un_neg pe_int) (fun _ _ => rfl))))
        (pss_cons (ps_expr (pe_bm PySem.F.plainAttrs_list PySem.F.slot_list_append PySem.F.type_list_append mt_append (pv 4) (pa_cons (pe_op op_sub (pv 2) (pv 6)) pa_nil)))
        (pss_one (ps_set (i := 2) scTall.nd rfl (.inl rfl) (pv 6))))))))
      (pss_cons (ps_set (i := 7) scTall.nd rfl (.inl rfl) (pe_tup pa_nil))
      (pss_cons (ps_for PassesOwn.never rfl (pi_list (pe_revL (pv 4))) (pg_name (i := 8) scTall.nd rfl (.inl rfl))
        (pss_one (ps_set (i := 7) scTall.nd rfl (.inl rfl) (pe_tup (pa_cons (pv 7) (pa_cons (pe_call G4 hr (by rfl) g4 k4 b4 .nil pass0 (pa_cons (pe_op op_sub (pv 8) pe_int) pa_nil)) pa_nil))))))
      (pss_one (ps_ret (pv 7)))))))))), ?_⟩
    have okn := Row.okN ok
    refine ⟨_, rfl, r, row, rfl, ob, _, rfl, _, _, rfl, m1, m2, _, rfl, _, _, rfl, rfl, ?_⟩
    refine ⟨_, rfl, _, rfl, r, row, _, rfl, ob, ok, by omega, Int.le_trans (show m + 1 ≤ 2001 by omega) (by decide), fun l n H1 nl s1 hl ih => ?_⟩
    refine ⟨(by show 0 ≤ sizeLine; decide), fun b nb => ?_⟩
    have nbH : H b = none := s1.free nb
    have lb : l ≠ b := ne_of_none hl nb
    have s2 : Same H (upd H1 b (.lst [])) := s1.trans (same_new nb)
    have hl2 : upd H1 b (.lst []) l = some (.lst (wl row.p row.q row.k n)) := same_new nb _ _ hl
    have hb2 : upd H1 b (.lst []) b = some (.lst (([] : List Int).map V.int)) := upd_same
    generalize upd H1 b (.lst []) = H2 at s2 hl2 hb2 ⊢
    refine ⟨fun μ σ H' => ∃ (wt : Int) (ys : List Int) (g : Nat) (v5 v6 : Option V), σ = [some (.ref r), some (.int m), some (.int wt), some (.ref l), some (.ref b), v5, v6, none, none] ∧ 1 ≤ wt ∧ wt ≤ m + 1 ∧ H' l = some (.lst (wl row.p row.q row.k g)) ∧ H' b = some (.lst (ys.map V.int)) ∧ Same H H' ∧
      wt < Wt row.p row.q row.k (g + 1) ∧ (∀ s, Tall row.p row.q row.k wt s → Tall row.p row.q row.k (m + 1) (build s ys)) ∧ (∀ y ∈ ys, 1 ≤ y ∧ y ≤ 2001) ∧ (ys.length : Int) + wt ≤ m + 1 ∧ μ = wt.toNat,
      ⟨_, m + 1, [], n, none, none, rfl, by omega, by omega, hl2, hb2, s2, ih.2, fun s h => h, (fun y hy => by cases hy), (by simp), rfl⟩, ?_⟩
    rintro μ σ H' ⟨wt, ys, g, v5, v6, rfl, w1, w2, hl', hb', sm, wg, tl, yb, yl, rfl⟩
    refine ⟨_, rfl, _, _, rfl, rfl, _, rfl, ite2 (fun e => ?_) (fun e => ?_)⟩
    · have e : 1 < wt := of_decide_eq_true e
      refine ⟨fun σ' H3 => ∃ (wt' : Int) (ys : List Int) (g : Nat) (v5 v6 : Option V), σ' = [some (.ref r), some (.int m), some (.int wt'), some (.ref l), some (.ref b), v5, v6, none, none] ∧ 1 ≤ wt' ∧ wt' ≤ m + 1 ∧ H3 l = some (.lst (wl row.p row.q row.k g)) ∧ H3 b = some (.lst (ys.map V.int)) ∧ Same H H3 ∧
        wt' < Wt row.p row.q row.k (g + 1) ∧ (∀ s, Tall row.p row.q row.k wt' s → Tall row.p row.q row.k (m + 1) (build s ys)) ∧ (∀ y ∈ ys, 1 ≤ y ∧ y ≤ 2001) ∧ (ys.length : Int) + wt' ≤ m + 1 ∧ wt' < wt, fun σ' H3 ⟨wt', ys, g, v5, v6, q1, q2, q3, q4, q5, q6, q7, q8, q9, q10, q11⟩ => ⟨_, ?_, wt', ys, g, v5, v6, q1, q2, q3, q4, q5, q6, q7, q8, q9, q10, rfl⟩, ?_⟩
      · omega
      refine ⟨fun μ σ H3 => ∃ g : Nat, σ = [some (.ref r), some (.int m), some (.int wt), some (.ref l), some (.ref b), v5, v6, none, none] ∧ H3 l = some (.lst (wl row.p row.q row.k g)) ∧ H3 b = some (.lst (ys.map V.int)) ∧ Same H H3 ∧ wt < Wt row.p row.q row.k (g + 1) ∧ μ = g, ⟨_, g, rfl, hl', hb', sm, wg, rfl⟩, ?_⟩
      rintro μ σ H3 ⟨g, rfl, hl3, hb3, sm3, wg3, rfl⟩
      refine ⟨_, rfl, _, rfl, l, _, _, _, rfl, rfl, SqL.of hl3, wl_last _ _ _ _, _, rfl, _, _, rfl, rfl, _, rfl, ite2 (fun e1 => ?_) (fun e1 => ?_)⟩
      · have e1 : wt < Wt row.p row.q row.k μ := of_decide_eq_true e1
        cases μ with
        | zero => have : wt < 1 := e1; omega
        | succ g =>
          refine ⟨fun σ' H4 => σ' = [some (.ref r), some (.int m), some (.int wt), some (.ref l), some (.ref b), v5, v6, none, none] ∧ H4 l = some (.lst (wl row.p row.q row.k g)) ∧ H4 b = some (.lst (ys.map V.int)) ∧ Same H H4, fun σ' H4 ⟨q1, q2, q3, q4⟩ => ⟨g, by omega, g, q1, q2, q3, q4, e1, rfl⟩, ?_⟩
          refine ⟨_, rfl, .inl ⟨rfl, _, SqL.of hl3⟩, l, _, _, rfl, rfl, hl3, (by rw [wl_len]; exact wl_get _ _ _ (Nat.le_refl _)), rfl, ?_, ?_, ?_⟩
          · rw [upd_same, wl_drop]
          · rw [upd_ne lb.symm]; exact hb3
          · exact fun c o q => by rw [upd_ne (ne_of_none q nl)]; exact sm3 _ _ q
      · have e1 : ¬ (wt < Wt row.p row.q row.k μ) := fun z => e1 (decide_eq_true z)
        have ih3 : IsH row.p row.q row.k wt μ := ⟨by omega, wg3⟩
        have hp := isH_pos okn (show 2 ≤ wt by omega) ih3
        obtain ⟨g, rfl⟩ : ∃ g, μ = g + 1 := ⟨μ - 1, by omega⟩
        obtain ⟨f1, f2, f3, f4, f5⟩ := hvy_facts okn (show 2 ≤ wt by omega) ih3
        have half : (wt + 1).fdiv 2 = (wt + 1) / 2 := Int.fdiv_eq_ediv_of_nonneg _ (by decide)
        have fin : ∀ (x : Int) (v5 : Option V), x = hvy row.p row.q row.k wt (g + 1) → ∃ (wt' : Int) (ys' : List Int) (g' : Nat) (v5' v6' : Option V), [some (.ref r), some (.int m), some (.int x), some (.ref l), some (.ref b), v5, some (.int x), none, none] = [some (.ref r), some (.int m), some (.int wt'), some (.ref l), some (.ref b), v5', v6', none, none] ∧ 1 ≤ wt' ∧ wt' ≤ m + 1 ∧ upd H3 b (.lst (ys.map V.int ++ [.int (wt - x)])) l = some (.lst (wl row.p row.q row.k g')) ∧ upd H3 b (.lst (ys.map V.int ++ [.int (wt - x)])) b = some (.lst (ys'.map V.int)) ∧ Same H (upd H3 b (.lst (ys.map V.int ++ [.int (wt - x)]))) ∧
            wt' < Wt row.p row.q row.k (g' + 1) ∧ (∀ s, Tall row.p row.q row.k wt' s → Tall row.p row.q row.k (m + 1) (build s ys')) ∧ (∀ y ∈ ys', 1 ≤ y ∧ y ≤ 2001) ∧ (ys'.length : Int) + wt' ≤ m + 1 ∧ wt' < wt := by
          rintro _ v5 rfl
          refine ⟨_, ys ++ [wt - hvy row.p row.q row.k wt (g + 1)], g + 1, _, _, rfl, f2, by omega, ?_, ?_, ?_, ?_, ?_, ?_, ?_, by omega⟩
          · rw [upd_ne lb]; exact hl3
          · rw [upd_same, List.map_append]; rfl
          · exact fun c o q => by rw [upd_ne (ne_of_none q nbH)]; exact sm3 _ _ q
          · have := f1.2
            have := Wt_mono row.p row.q row.k (show g + 1 - 1 + 1 ≤ g + 1 + 1 by omega)
            omega
          · intro s ts
            rw [build_snoc]
            exact tl _ (Tall.more (by omega) ih3 ts)
          · intro y hy
            rcases List.mem_append.mp hy with h | h
            · exact yb y h
            · obtain rfl := List.mem_singleton.mp h
              exact ⟨by omega, by omega⟩
          · rw [List.length_append, List.length_singleton]
            omega
        have lts : (ys.map V.int).length < sizeLine := by
          rw [List.length_map]
          exact Nat.lt_of_le_of_lt (show ys.length ≤ 2001 by omega) (by decide)
        refine ⟨_, rfl, _, _, rfl, rfl, _, _, rfl, rfl, ⟨by decide, by decide⟩, ?_⟩
        refine ⟨_, rfl, _, rfl, _, rfl, l, _, _, _, rfl, rfl, SqL.of hl3, wl_last2 _ _ _ _, _, _, rfl, rfl, _, rfl, ite2 (fun e2 => ?_) (fun e2 => ?_)⟩
        · have e2 : Wt row.p row.q row.k g < (wt + 1).fdiv 2 := of_decide_eq_true e2
          refine ⟨_, rfl, _, rfl, .inl ⟨rfl, _, SqL.of hb3⟩, _, rfl, _, rfl, _, _, rfl, rfl, b, _, _, rfl, rfl, hb3, lts, _, rfl, ?_⟩
          refine fin _ _ ?_
          rw [half] at e2 ⊢
          show _ = if Wt row.p row.q row.k g < (wt + 1) / 2 then (wt + 1) / 2 else Wt row.p row.q row.k g
          rw [if_pos e2]
        · have e2 : ¬ (Wt row.p row.q row.k g < (wt + 1).fdiv 2) := fun z => e2 (decide_eq_true z)
          refine ⟨_, rfl, _, rfl, l, _, _, _, rfl, rfl, SqL.of hl3, wl_last2 _ _ _ _, _, rfl, .inl ⟨rfl, _, SqL.of hb3⟩, _, rfl, _, rfl, _, _, rfl, rfl, b, _, _, rfl, rfl, hb3, lts, _, rfl, ?_⟩
          refine fin _ _ ?_
          rw [half] at e2
          show _ = if Wt row.p row.q row.k g < (wt + 1) / 2 then (wt + 1) / 2 else Wt row.p row.q row.k g
          rw [if_neg e2]
    · have e : ¬ (1 < wt) := fun z => e (decide_eq_true z)
      obtain rfl : wt = 1 := by omega
      have tal := tl _ Tall.one
      refine ⟨(by show 0 ≤ sizeLine; decide), fun a0 na0 => ?_⟩
      have sa := same_new (o := .tup []) na0
      have hb4 := sa _ _ hb'
      refine ⟨_, rfl, b, _, rfl, SqL.of hb4, fun rv nrv => ⟨rv, rfl, ⟨_, SqL.of upd_same⟩, ?_⟩⟩
      have sr := same_new (o := .lst (ys.map V.int).reverse) nrv
      have hrv : upd (upd H' a0 (.tup [])) rv (.lst (ys.map V.int).reverse) rv = some (.lst (ys.map V.int).reverse) := upd_same
      have ha0 := sr _ _ (upd_same (H := H') (a := a0) (o := .tup []))
      have sm4 := (sm.trans sa).trans sr
      generalize upd (upd H' a0 (.tup [])) rv (.lst (ys.map V.int).reverse) = H4 at hrv ha0 sm4 ⊢
      have rlen : ((ys.map V.int).reverse).length = ys.length := by rw [List.length_reverse, List.length_map]
      refine for_list (K := K) (a := rv) (xs := (ys.map V.int).reverse) (fun i σ H5 => ∃ (v : V) (v8 : Option V), σ = [some (.ref r), some (.int m), some (.int 1), some (.ref l), some (.ref b), v5, v6, some v, v8] ∧ ShAt H5 (build .e (ys.drop (ys.length - i))) v ∧ Same H4 H5)
        ⟨.ref a0, none, rfl, (by rw [Nat.sub_zero, List.drop_length]; exact ⟨a0, rfl, ha0⟩), Same.refl _⟩ (fun i σ H5 _ ⟨_, _, _, _, s5⟩ => SqL.of (s5 _ _ hrv)) ?_ ?_
      · rintro i x σ H5 hx ⟨v, v8, rfl, hsh, s5⟩
        have il : i < ys.length := by have := (List.getElem?_eq_some_iff.mp hx).1; omega
        have hx' : x = .int ys[ys.length - 1 - i] := by
          rw [List.getElem?_reverse (by rw [List.length_map]; exact il), List.length_map, List.getElem?_map, List.getElem?_eq_getElem (by omega)] at hx
          exact (Option.some.inj hx).symm
        subst hx'
        have yb' := yb _ (List.getElem_mem (show ys.length - 1 - i < ys.length by omega))
        have ed : ys.drop (ys.length - (i + 1)) = ys[ys.length - 1 - i] :: ys.drop (ys.length - i) := by
          rw [show ys.length - (i + 1) = ys.length - 1 - i by omega, List.drop_eq_getElem_cons (by omega), show ys.length - 1 - i + 1 = ys.length - i by omega]
        generalize ys[ys.length - 1 - i] = y at yb' ed
        have ey : y - 1 = ((y - 1).toNat : Int) := by omega
        refine ⟨_, rfl, _, rfl, _, _, rfl, rfl, (y - 1).toNat, (by show [V.int (y - 1)] = _; rw [← ey]), Nat.lt_of_le_of_lt (show (y - 1).toNat ≤ 2000 by omega) (by decide), fun v2 H6 s6 h6 => ⟨(by show 2 ≤ sizeLine; decide), fun a na => ?_⟩⟩
        have sn := same_new (o := .tup [v, v2]) na
        refine ⟨.ref a, _, rfl, ?_, (s5.trans s6).trans sn⟩
        rw [ed]
        exact ⟨a, _, _, rfl, upd_same, (hsh.keep s6).keep sn, h6.keep sn⟩
      · rintro σ H5 ⟨v, v8, rfl, hsh, s5⟩
        rw [rlen, Nat.sub_self, List.drop_zero] at hsh
        exact ⟨_, rfl, kk v _ H5 (sm4.trans s5) tal hsh⟩
end
end Ev
namespace Ev
open PySem L2 PySem.Spec PyProof.Rows
abbrev sLHalv : Stmt := top 73
abbrev sLTall : Stmt := top 74
def spLTall (d : Nat) : Sp := fun vs H Q _ => ∃ (l : Addr) (p q k wt : Int), vs = [.ref l, .int wt] ∧ RowAt H l p q k ∧ okN p q k ∧ 1 ≤ wt ∧ wt ≤ 2001 ∧ (∀ h, IsH p q k wt h → h ≤ d) ∧ ∀ (v : V) (s : Sh) (H' : Hp), Same H H' → Tall p q k wt s → ShAt H' s v → Q v H'
theorem pe_never {X : Cx} {e : Expr} : PE X e (fun _ _ _ => False) := ⟨fun _ _ _ _ _ _ h => h.elim⟩
section
variable {P : Program} {w : World} {K : PySem.W.Frag} {mg : Str → Option Value} {base : Heap}
theorem scLHalv : FnScope ["_law_many"] ["_law_many"] (defScope sLHalv) := ⟨rfl, rfl, rfl, by decide +kernel, rfl, by decide +kernel, by decide +kernel⟩
theorem half_c {m : Nat} (h : m ≠ 0) : ((m : Int) - 1).fdiv 2 = (((m - 1) / 2 : Nat) : Int) := by rw [Int.fdiv_eq_ediv_of_nonneg _ (by decide)]; omega
theorem ok_lhalv {f : Addr} {fd : FuncData} (F : Fun K "_law_halves" "_law_halves" sLHalv f fd) (gS : mg "_law_halves" = some (.ref f)) (bS : Binds K fd ["_law_many"] []) : ∀ d : Nat, FnOk P w K mg base CX0 (1 + d) f fd ["_law_many"] (spHalv d)
  | 0 => by
    refine F.ok scLHalv (fun vs H Q E h => ?_) (fun cdv A outer s H vs Q E hr h => ?_)
    · obtain ⟨m, rfl, _⟩ := h
      rfl
    · obtain ⟨m, rfl, hm, kk⟩ := h
      obtain rfl : m = 0 := by have : m < 1 := hm; omega
      refine ⟨_, pss_one (ps_ret (pe_ifExp (pt_cmpR op_eq (pv 0) pe_int (nomark _)) (pe_tup pa_nil) pe_never)), ?_⟩
      refine ⟨_, rfl, rfl, _, rfl, ite2 (fun _ => ⟨(by show 0 ≤ sizeLine; decide), fun a na => ?_⟩) (fun z => absurd (decide_eq_true rfl) z)⟩
      exact kk _ _ (same_new na) (by rw [hv_zero]; exact ⟨a, rfl, upd_same⟩)
  | d + 1 => by
    have GS := ok_lhalv F gS bS d
    refine F.ok scLHalv (fun vs H Q E h => ?_) (fun cdv A outer s H vs Q E hr h => ?_)
    · obtain ⟨m, rfl, _⟩ := h
      rfl
    · obtain ⟨m, rfl, hm, kk⟩ := h
      have hrd : Room (1 + d) _ := hr
      have p2 : 2 ^ (d + 1) = 2 ^ d * 2 := Nat.pow_succ ..
      refine ⟨_, pss_one (ps_ret (pe_ifExp (pt_cmpR op_eq (pv 0) pe_int (nomark _)) (pe_tup pa_nil)
        (pe_tup (pa_cons (pe_call GS hrd (by rfl) gS F.kp bS .nil pass0 (pa_cons (pe_op op_fdivN (pv 0) pe_int) pa_nil)) (pa_cons (pe_call GS hrd (by rfl) gS F.kp bS .nil pass0 (pa_cons (pe_op op_fdivN (pe_op op_sub (pv 0) pe_int) pe_int) pa_nil)) pa_nil))))), ?_⟩
      refine ⟨_, rfl, rfl, _, rfl, ite2 (fun e => ⟨(by show 0 ≤ sizeLine; decide), fun a na => ?_⟩) (fun e => ?_)⟩
      · have e0 : (m : Int) = 0 := V.int.inj (of_decide_eq_true e)
        obtain rfl : m = 0 := by omega
        exact kk _ _ (same_new na) (by rw [hv_zero]; exact ⟨a, rfl, upd_same⟩)
      · have m0 : m ≠ 0 := fun z => e (decide_eq_true (by subst z; rfl))
        refine ⟨_, rfl, _, _, rfl, rfl, ⟨by decide, by decide⟩, m / 2, (by show [V.int ((m : Int).fdiv 2)] = _; rw [half_a]), by omega, fun v1 H1 s1 h1 => ?_⟩
        refine ⟨_, rfl, _, _, rfl, rfl, _, _, rfl, rfl, ⟨by decide, by decide⟩, (m - 1) / 2, (by show [V.int (((m : Int) - 1).fdiv 2)] = _; rw [half_c m0]), by omega, fun v2 H2 s2 h2 => ⟨(by show 2 ≤ sizeLine; decide), fun a na => ?_⟩⟩
        have sn := same_new (o := .tup [v1, v2]) na
        refine kk _ _ ((s1.trans s2).trans sn) ?_
        rw [hv_pos m0]
        exact ⟨a, _, _, rfl, upd_same, (h1.keep s2).keep sn, h2.keep sn⟩
theorem scLTall : FnScope ["_law_some", "_law_weight", "_law_below", "_law_least_so", "_law_heavy"] ["_law_some", "_law_weight"] (defScope sLTall) := ⟨rfl, rfl, rfl, by decide +kernel, rfl, by decide +kernel, by decide +kernel⟩
theorem ok_ltall {f : Addr} {fd : FuncData} (F : Fun K "_law_tall" "_law_tall" sLTall f fd) (T : Blt mg) (gS : mg "_law_tall" = some (.ref f)) (bS : Binds K fd ["_law_some", "_law_weight"] [])
    (D1 : Df P w K mg base 2 "_law_least" ["_law_some", "_law_y"] spLLeast) (D2 : Df P w K mg base 12 "_law_halves" ["_law_many"] (spHalv 11)) : ∀ d : Nat, FnOk P w K mg base CX0 (13 + d) f fd ["_law_some", "_law_weight"] (spLTall d)
  | 0 => by
    refine F.ok scLTall (fun vs H Q E h => ?_) (fun cdv A outer s H vs Q E hr h => ?_)
    · obtain ⟨l, p, q, k, wt, rfl, _⟩ := h
      rfl
    · obtain ⟨l, p, q, k, wt, rfl, hl, o, w1, w2, hd, kk⟩ := h
      have e1 : wt = 1 := by
        obtain ⟨h, ih⟩ := isH_ex (p := p) (q := q) (k := k) (wt - 1).toNat
        rw [show (((wt - 1).toNat : Nat) : Int) + 1 = wt by omega] at ih
        by_cases z : 2 ≤ wt
        · have := isH_pos o z ih
          have := hd h ih
          omega
        · omega
      subst e1
      refine ⟨_, pss_cons (ps_if (pt_cmpR op_eq (pv 1) pe_int (nomark _)) (pss_one (ps_ret (pe_tup pa_nil))) pss_nil) (pss_cons ps_never (pss_cons ps_never (pss_cons ps_never (pss_one ps_never)))), ?_⟩
      refine ⟨_, rfl, rfl, _, rfl, ite2 (fun _ => ⟨(by show 0 ≤ sizeLine; decide), fun a na => ?_⟩) (fun z => absurd (decide_eq_true rfl) z)⟩
      exact kk _ _ _ (same_new na) Tall.one ⟨a, rfl, upd_same⟩
  | d + 1 => by
    obtain ⟨f1, fd1, G1, g1, k1, b1⟩ := D1.ex
    obtain ⟨f2, fd2, G2, g2, k2, b2⟩ := D2.ex
    have GS := ok_ltall F T gS bS D1 D2 d
    refine F.ok scLTall (fun vs H Q E h => ?_) (fun cdv A outer s H vs Q E hr h => ?_)
    · obtain ⟨l, p, q, k, wt, rfl, _⟩ := h
      rfl
    · obtain ⟨l, p, q, k, wt, rfl, hl, o, w1, w2, hd, kk⟩ := h
      have hr2 : Room 2 _ := hr.mono (show 2 ≤ 13 + d by omega)
      have hr12 : Room 12 _ := hr.mono (show 12 ≤ 13 + d by omega)
      have hrd : Room (13 + d) _ := hr
      refine ⟨_, pss_cons (ps_if (pt_cmpR op_eq (pv 1) pe_int (nomark _)) (pss_one (ps_ret (pe_tup pa_nil))) pss_nil)
        (pss_cons (ps_asg (pe_tup (pa_cons pe_int (pa_cons pe_int pa_nil))) (pg_tup (by rfl) (pgs_cons (pg_name (i := 2) scLTall.nd rfl (.inl rfl)) (pgs_cons (pg_name (i := 3) scLTall.nd rfl (.inl rfl)) pgs_nil))))
        (pss_cons (ps_while PassesOwn.never (pt_cmpR op_le (pe_op op_add (pv 3) (pe_call G1 hr2 (by rfl) g1 k1 b1 .nil pass0 (pa_cons (pv 0) (pa_cons (pv 3) pa_nil)))) (pv 1) (nomark _))
          (pss_one (ps_par (i := 2) (j := 3) rfl scLTall.nd rfl rfl (by decide) rfl rfl (pa_cons (pv 3) (pa_cons (pe_op op_add (pv 3) (pe_call G1 hr2 (by rfl) g1 k1 b1 .nil pass0 (pa_cons (pv 0) (pa_cons (pv 3) pa_nil)))) pa_nil)) (by rfl))))
        (pss_cons (ps_set (i := 4) scLTall.nd rfl (.inl rfl) (pe_callB (call_max2 rfl) (by rfl) T.max (by decide +kernel) (pa_cons (pe_callTy call_int1 (by rfl) T.int (by decide +kernel) (pa_cons (pv 2) pa_nil)) (pa_cons (pe_op op_fdivN (pe_callTy call_int1 (by rfl) T.int (by decide +kernel) (pa_cons (pe_op op_add (pv 1) pe_int) pa_nil)) pe_int) pa_nil))))
        (pss_one (ps_ret (pe_tup (pa_cons (pe_call GS hrd (by rfl) gS F.kp bS .nil pass0 (pa_cons (pv 0) (pa_cons (pv 4) pa_nil))) (pa_cons (pe_call G2 hr12 (by rfl) g2 k2 b2 .nil pass0 (pa_cons (pe_op op_sub (pe_op op_sub (pv 1) (pv 4)) pe_int) pa_nil)) pa_nil)))))))), ?_⟩
      refine ⟨_, rfl, rfl, _, rfl, ite2 (fun e => ⟨(by show 0 ≤ sizeLine; decide), fun a na => ?_⟩) (fun e => ?_)⟩
      · obtain rfl : wt = 1 := V.int.inj (of_decide_eq_true e)
        exact kk _ _ _ (same_new na) Tall.one ⟨a, rfl, upd_same⟩
      · have wne : wt ≠ 1 := fun z => e (decide_eq_true (by rw [z]))
        refine ⟨(by show 2 ≤ sizeLine; decide), fun tp ntp => ⟨tp, _, rfl, SqT.of upd_same, rfl, _, _, rfl, _, _, rfl, rfl, ?_⟩⟩
        have s1 : Same H (upd H tp (.tup [.int 1, .int 2])) := same_new ntp
        generalize upd H tp (.tup [.int 1, .int 2]) = H1 at s1 ⊢
        have e1 := Wt_one o
        refine ⟨fun μ σ H' => ∃ n : Nat, σ = [some (.ref l), some (.int wt), some (.int (Wt p q k n)), some (.int (Wt p q k (n + 1))), none] ∧ H' = H1 ∧ Wt p q k (n + 1) ≤ wt ∧ μ = (wt - Wt p q k n).toNat, ⟨_, 0, (by rw [show Wt p q k (0 + 1) = 2 from e1]; rfl), rfl, (by rw [show Wt p q k (0 + 1) = 2 from e1]; omega), rfl⟩, ?_⟩
        rintro μ σ H' ⟨n, rfl, rfl, wm, rfl⟩
        have wg := Wt_ge p q k (n + 1)
        have wl1 := Wt_lt p q k n
        refine ⟨_, rfl, _, rfl, _, rfl, l, p, q, k, _, rfl, hl.keep s1, o, by omega, _, _, rfl, rfl, _, rfl, _, _, rfl, rfl, _, rfl, ite2 (fun e => ?_) (fun e => ?_)⟩
        · have e : Wt p q k (n + 1 + 1) ≤ wt := of_decide_eq_true e
          refine ⟨fun σ' H2 => σ' = [some (.ref l), some (.int wt), some (.int (Wt p q k (n + 1))), some (.int (Wt p q k (n + 1 + 1))), none] ∧ H2 = H', fun σ' H2 ⟨q1, q2⟩ => ⟨_, ?_, n + 1, q1, q2, e, rfl⟩, ?_⟩
          · omega
          · exact ⟨_, rfl, _, rfl, _, rfl, _, rfl, l, p, q, k, _, rfl, hl.keep s1, o, by omega, _, _, rfl, rfl, _, _, rfl, rfl, rfl⟩
        · have e : ¬ (Wt p q k (n + 1 + 1) ≤ wt) := fun z => e (decide_eq_true z)
          have ih : IsH p q k wt (n + 1) := ⟨wm, by omega⟩
          obtain ⟨f1, f2, f3, f4, f5⟩ := hvy_facts o (show 2 ≤ wt by omega) ih
          have hdn := hd _ ih
          have half : (wt + 1).fdiv 2 = (wt + 1) / 2 := Int.fdiv_eq_ediv_of_nonneg _ (by decide)
          have eh : (if (wt + 1).fdiv 2 > Wt p q k n then (wt + 1).fdiv 2 else Wt p q k n) = hvy p q k wt (n + 1) := by
            rw [half]; rfl
          refine ⟨_, rfl, .inl ⟨_, rfl, _, rfl, _, _, rfl, rfl, .inl ⟨_, rfl, _, _, rfl, rfl, ⟨by decide, by decide⟩, _, _, rfl, ?_⟩⟩⟩
          refine ⟨_, rfl, _, rfl, l, p, q, k, hvy p q k wt (n + 1), (by show [V.ref l, V.int (if (wt + 1).fdiv 2 > Wt p q k n then (wt + 1).fdiv 2 else Wt p q k n)] = _; rw [eh]), hl.keep s1, o, f2, by omega, fun h' ih' => by have := ih'.uniq f1; omega, fun v1 sh1 H3 s3 t3 h3 => ?_⟩
          refine ⟨_, rfl, _, rfl, _, _, rfl, rfl, _, _, rfl, rfl, (wt - hvy p q k wt (n + 1) - 1).toNat, (by show [V.int (wt - (if (wt + 1).fdiv 2 > Wt p q k n then (wt + 1).fdiv 2 else Wt p q k n) - 1)] = _; rw [eh, show (((wt - hvy p q k wt (n + 1) - 1).toNat : Nat) : Int) = wt - hvy p q k wt (n + 1) - 1 by omega]), Nat.lt_of_le_of_lt (show _ ≤ 2000 by omega) (by decide), fun v2 H4 s4 h4 => ⟨(by show 2 ≤ sizeLine; decide), fun a na => ?_⟩⟩
          have sn := same_new (o := .tup [v1, v2]) na
          refine kk _ _ _ ((s1.trans (s3.trans s4)).trans sn) (Tall.more (by omega) ih t3) ?_
          exact ⟨a, _, _, rfl, upd_same, (h3.keep s4).keep sn, h4.keep sn⟩
end
end Ev
namespace Ev
open PySem L2 PySem.Spec PyProof.Rows
abbrev sRight : Stmt := top 75
def Sh.data : Sh → PyData
  | .e => .tuple []
  | .n l r => .tuple [l.data, r.data]
theorem sh_dp {K : PySem.W.Frag} {H : Hp} : ∀ {s : Sh} {v : V}, ShAt H s v → Dp K H v s.data
  | .e, v, ⟨a, e1, e2⟩ => by subst e1; exact .tup (SqT.of e2) .nil
  | .n l r, v, ⟨a, x, y, e1, e2, e3, e4⟩ => by subst e1; exact .tup (SqT.of e2) (.cons (sh_dp e3) (.cons (sh_dp e4) .nil))
theorem sh_lay : ∀ s : Sh, s.data.canLay0 = true
  | .e => by simp [Sh.data, PyData.canLay0, PyData.canLayAll0]
  | .n l r => by simp [Sh.data, PyData.canLay0, PyData.canLayAll0, sh_lay l, sh_lay r]
theorem sh_depth : ∀ s : Sh, s.data.depth ≤ s.deep + 1
  | .e => by simp [Sh.data, PyData.depth, PyData.depthAll]
  | .n l r => by
    have := sh_depth l
    have := sh_depth r
    simp only [Sh.data, PyData.depth, PyData.depthAll, Sh.deep]
    omega
theorem sh_shaped {s : Sh} (h : s.deep ≤ 60) : SeqAt.shaped s.data = true := by
  unfold SeqAt.shaped
  rw [Bool.and_eq_true]
  have := sh_depth s
  exact ⟨sh_lay s, decide_eq_true (by omega)⟩
theorem sh_self : ∀ s : Sh, PyData.eqv s.data s.data = true
  | .e => by simp [Sh.data, PyData.eqv, PyData.eqvAll]
  | .n l r => by simp [Sh.data, PyData.eqv, PyData.eqvAll, sh_self l, sh_self r]
theorem pair_self (a b : Int) : PyData.eqv (.list ([a, b].map PyData.int)) (.list ([a, b].map PyData.int)) = true := by simp [PyData.eqv, PyData.eqvAll]
def spLRight : Sp := fun vs H Q _ => ∃ (p L : Addr) (B m : Int), vs = [.ref p, .int m] ∧ 0 ≤ m ∧ m ≤ 2000 ∧ B ≤ 500000 ∧ Pen L H p B ∧ ∀ H' : Hp, But p H H' → Pen L H' p (B + 10) → Q (.bl true) H'
section
variable {P : Program} {w : World} {K : PySem.W.Frag} {mg : Str → Option Value} {base : Heap}
theorem scRight : FnScope ["_law_pen_here", "_law_many", "_law_some", "_law_rule_so", "_law_low", "_law_high"] ["_law_pen_here", "_law_many"] (defScope sRight) := ⟨rfl, rfl, rfl, by decide +kernel, rfl, by decide +kernel, by decide +kernel⟩
theorem ok_lright {f Ct Cn : Addr} {fd : FuncData} {NS : Hp → V → Prop} (F : Fun K "_law_right" "_law_right" sRight f fd)
    (D1 : Df P w K mg base 1 "_law_draw" ["_law_pen_here", "_law_many"] spDraw) (D3 : Df P w K mg base 3 "_law_numbers" ["_law_pen_here"] spNums)
    (D4 : Df P w K mg base 8 "_law_rule" ["_law_some", "_law_is_turn"] (spRule Ct Cn)) (D5 : Df P w K mg base 13 "halves_shape" ["keys"] spHalvS) (D6 : Df P w K mg base 13 "tall_shape" ["rule", "keys"] (spTallS Ct Cn))
    (D7 : Df P w K mg base 12 "_law_halves" ["_law_many"] (spHalv 11)) (D8 : Df P w K mg base 60 "_law_tall" ["_law_some", "_law_weight"] (spLTall 47))
    (D9 : Df P w K mg base 4 "keys_of" ["shape"] spKeysOf) (D10 : Df P w K mg base 4 "height_of" ["shape"] spHeightOf) (D11 : Df P w K mg base 4 "is_fair" ["rule", "shape"] (spIsFair Ct Cn NS))
    (D12 : Df P w K mg base 4 "least_height" ["keys"] spLH) (D13 : Df P w K mg base 4 "greatest_height" ["rule", "keys"] (spGH Ct Cn)) :
    FnOk P w K mg base CX0 61 f fd ["_law_pen_here", "_law_many"] spLRight := by
  obtain ⟨f1, fd1, G1, g1, k1, b1⟩ := D1.ex
  obtain ⟨f3, fd3, G3, g3, k3, b3⟩ := D3.ex
  obtain ⟨f4, fd4, G4, g4, k4, b4⟩ := D4.ex
  obtain ⟨f5, fd5, G5, g5, k5, b5⟩ := D5.ex
  obtain ⟨f6, fd6, G6, g6, k6, b6⟩ := D6.ex
  obtain ⟨f7, fd7, G7, g7, k7, b7⟩ := D7.ex
  obtain ⟨f8, fd8, G8, g8, k8, b8⟩ := D8.ex
  obtain ⟨f9, fd9, G9, g9, k9, b9⟩ := D9.ex
  obtain ⟨f10, fd10, G10, g10, k10, b10⟩ := D10.ex
  obtain ⟨f11, fd11, G11, g11, k11, b11⟩ := D11.ex
  obtain ⟨f12, fd12, G12, g12, k12, b12⟩ := D12.ex
  obtain ⟨f13, fd13, G13, g13, k13, b13⟩ := D13.ex
  refine F.ok scRight (fun vs H Q E h => ?_) (fun cdv A outer s H vs Q E hr h => ?_)
  · obtain ⟨p, L, B, m, rfl, _⟩ := h
    rfl
  · obtain ⟨p, L, B, m, rfl, m0, m2, hB, hp, kk⟩ := h
    have hr1 : Room 1 _ := hr.mono (by decide)
    have hr3 : Room 3 _ := hr.mono (by decide)
    have hr4 : Room 4 _ := hr.mono (by decide)
    have hr8 : Room 8 _ := hr.mono (by decide)
    have hr12 : Room 12 _ := hr.mono (by decide)
    have hr13 : Room 13 _ := hr.mono (by decide)
    refine ⟨_, pss_cons (ps_set (i := 2) scRight.nd rfl (.inl rfl) (pe_call G3 hr3 (by rfl) g3 k3 b3 .nil pass0 (pa_cons (pv 0) pa_nil)))
      (pss_cons (ps_set (i := 3) scRight.nd rfl (.inl rfl) (pe_call G4 hr8 (by rfl) g4 k4 b4 .nil pass0 (pa_cons (pv 2) (pa_cons (pe_cmpR op_eq (pe_call G1 hr1 (by rfl) g1 k1 b1 .nil pass0 (pa_cons (pv 0) (pa_cons pe_int pa_nil))) pe_int (nomark _)) pa_nil))))
      (pss_cons (ps_par (i := 4) (j := 5) rfl scRight.nd rfl rfl (by decide) rfl rfl (pa_cons (pe_call G5 hr13 (by rfl) g5 k5 b5 .nil pass0 (pa_cons (pv 1) pa_nil)) (pa_cons (pe_call G6 hr13 (by rfl) g6 k6 b6 .nil pass0 (pa_cons (pv 3) (pa_cons (pv 1) pa_nil))) pa_nil)) (by rfl))
      (pss_cons (ps_if (PW.pt (pw_or (pt_cmpR (op_neD hr.units) (pv 4) (pe_call G7 hr12 (by rfl) g7 k7 b7 .nil pass0 (pa_cons (pv 1) pa_nil)) (nomark _))
          (pw_or1 (pt_cmpR (op_neD hr.units) (pv 5) (pe_call G8 hr (by rfl) g8 k8 b8 .nil pass0 (pa_cons (pv 2) (pa_cons (pe_op op_add (pv 1) pe_int) pa_nil))) (nomark _))))) (pss_one (ps_ret pe_bl)) pss_nil)
      (pss_cons (ps_if (PW.pt (pw_or (pt_cmpR (op_neD hr.units) (pe_lst (pa_cons (pe_call G9 hr4 (by rfl) g9 k9 b9 .nil pass0 (pa_cons (pv 4) pa_nil)) (pa_cons (pe_call G9 hr4 (by rfl) g9 k9 b9 .nil pass0 (pa_cons (pv 5) pa_nil)) pa_nil))) (pe_lst (pa_cons (pv 1) (pa_cons (pv 1) pa_nil))) (nomark _))
          (pw_or (pt_not (pt_val (pe_call G11 hr4 (by rfl) g11 k11 b11 .nil pass0 (pa_cons (pv 3) (pa_cons (pv 4) pa_nil))))) (pw_or1 (pt_not (pt_val (pe_call G11 hr4 (by rfl) g11 k11 b11 .nil pass0 (pa_cons (pv 3) (pa_cons (pv 5) pa_nil))))))))) (pss_one (ps_ret pe_bl)) pss_nil)
      (pss_one (ps_ret (pe_cmpR (op_eqD hr.units) (pe_lst (pa_cons (pe_call G10 hr4 (by rfl) g10 k10 b10 .nil pass0 (pa_cons (pv 4) pa_nil)) (pa_cons (pe_call G10 hr4 (by rfl) g10 k10 b10 .nil pass0 (pa_cons (pv 5) pa_nil)) pa_nil)))
        (pe_lst (pa_cons (pe_call G12 hr4 (by rfl) g12 k12 b12 .nil pass0 (pa_cons (pv 1) pa_nil)) (pa_cons (pe_call G13 hr4 (by rfl) g13 k13 b13 .nil pass0 (pa_cons (pv 3) (pa_cons (pv 1) pa_nil))) pa_nil))) (nomark _)))))))), ?_⟩
    obtain ⟨mm, rfl⟩ := Int.eq_ofNat_of_zero_le m0
    have mb : mm ≤ 2000 := by omega
    refine ⟨_, rfl, p, L, B, rfl, by omega, hp, fun la pp q k t s' c H1 okn okt nla hla t1 p1 => ?_⟩
    refine ⟨_, rfl, _, rfl, p, L, _, _, rfl, by decide, by decide, by omega, p1, fun d2 H2 t2 p2 a2 c2 => ?_⟩
    have hla2 : H2 la = some (.tup (Row.tn pp q k t s' c).vs) := by
      obtain ⟨xs, e1⟩ := p1.some
      exact t2 _ _ (ne_of hla e1 (by intro z; cases z)) hla
    refine ⟨rfl, la, pp, q, k, t, s', c, _, rfl, hla2, okn, okt, fun r H3 row s3 ob ok3 e1 e2 e3 => ?_⟩
    subst e1 e2 e3
    have p3 := p2.keep s3
    have bt3 : But p H H3 := t1.trans (t2.trans (Same.but s3))
    have rla3 : RowAt H3 la row.p row.q row.k := ⟨t, s', c, s3 _ _ hla2⟩
    refine ⟨_, rfl, mm, rfl, mb, fun v1 H4 s4 h1 => ?_⟩
    refine ⟨_, rfl, _, rfl, r, row, _, rfl, ob.keep s4, ok3, by omega, by omega, fun v2 sh H5 s5 tl h2 => ⟨_, _, rfl, ?_⟩⟩
    have h1' := h1.keep s5
    have s35 := s4.trans s5
    obtain ⟨hh, ihh⟩ := isH_ex (p := row.p) (q := row.q) (k := row.k) mm
    have hlow := ihh.low okn (by omega)
    obtain ⟨z1, z2, z3, z4⟩ := tl.facts okn
    have dsh := z4 _ ihh
    have dhv := hv_deep mm mm (Nat.le_refl _)
    have bhv : Builtin.Int.intBits (mm : Int) ≤ hh := bits_isH okn (by omega) ihh
    have shp1 : SeqAt.shaped (hv mm).data = true := sh_shaped (by omega)
    have shp2 : SeqAt.shaped sh.data = true := sh_shaped (by omega)
    have manys : sh.many = mm := by
      have := wt_many sh
      omega
    refine ⟨_, rfl, _, rfl, mm, rfl, Nat.lt_of_le_of_lt mb (by decide), fun v3 H6 s6 h3 => ?_⟩
    refine ⟨_, _, sh_dp (h1'.keep s6), sh_dp h3, shp1, shp1, _, rfl, ?_⟩
    rw [sh_self]
    refine iteF ?_
    have s36 := s35.trans s6
    refine ⟨_, rfl, _, rfl, _, rfl, _, _, rfl, rfl, la, row.p, row.q, row.k, _, rfl, rla3.keep s36, okn, by omega, by omega, fun h ih => by have := ih.uniq ihh; omega, fun v4 sh4 H7 s7 tl4 h4 => ?_⟩
    obtain rfl := tl.uniq tl4
    refine ⟨_, _, sh_dp ((h2.keep s6).keep s7), sh_dp h4, shp2, shp2, _, rfl, ?_⟩
    rw [sh_self]
    refine iteF ?_
    have s37 := s36.trans s7
    have h1a := (h1'.keep s6).keep s7
    have h2a := (h2.keep s6).keep s7
    have m1 := hv_many mm mm (Nat.le_refl _)
    refine ⟨_, rfl, v1, hv mm, rfl, h1a, by omega, fun H8 s8 => ?_⟩
    rw [m1]
    refine ⟨_, rfl, v2, sh, rfl, h2a.keep s8, by omega, fun H9 s9 => ?_⟩
    rw [manys]
    have s39 := (s37.trans s8).trans s9
    refine ⟨(by show 2 ≤ sizeLine; decide), fun l1 nl1 => ?_⟩
    have sl1 := same_new (o := .lst [.int (mm : Int), .int (mm : Int)]) nl1
    refine ⟨_, rfl, _, rfl, (by show 2 ≤ sizeLine; decide), fun l2 nl2 => ?_⟩
    have sl2 := same_new (o := .lst [.int (mm : Int), .int (mm : Int)]) nl2
    refine ⟨_, _, .lst (SqL.of (sl2 _ _ upd_same)) (dpInts [(mm : Int), mm]), .lst (SqL.of upd_same) (dpInts [(mm : Int), mm]), sh_ints [(mm : Int), mm], sh_ints [(mm : Int), mm], _, rfl, ?_⟩
    rw [pair_self]
    refine iteF ?_
    have s3a := (s39.trans sl1).trans sl2
    have h1b := ((h1a.keep (s8.trans s9)).keep sl1).keep sl2
    have h2b := ((h2a.keep (s8.trans s9)).keep sl1).keep sl2
    generalize upd (upd H9 l1 (.lst [.int (mm : Int), .int (mm : Int)])) l2 (.lst [.int (mm : Int), .int (mm : Int)]) = HA at s3a h1b h2b ⊢
    refine ⟨_, rfl, _, rfl, r, row, v1, rfl, ob.keep s3a, ok3, .inl ⟨hv mm, h1b, by omega, fun HB sB => ⟨_, rfl, ?_⟩⟩⟩
    rw [hv_fair okn mm mm (Nat.le_refl _)]
    refine iteF ?_
    refine ⟨_, rfl, _, rfl, r, row, v2, rfl, (ob.keep s3a).keep sB, ok3, .inl ⟨sh, h2b.keep sB, by omega, fun HC sC => ⟨_, rfl, ?_⟩⟩⟩
    rw [z3]
    refine iteF ?_
    have s3c := (s3a.trans sB).trans sC
    refine ⟨_, rfl, v1, hv mm, rfl, (h1b.keep sB).keep sC, by omega, fun HD sD => ?_⟩
    rw [ht_deep, dhv]
    refine ⟨_, rfl, v2, sh, rfl, ((h2b.keep sB).keep sC).keep sD, by omega, fun HE sE => ?_⟩
    rw [ht_deep, dsh]
    refine ⟨(by show 2 ≤ sizeLine; decide), fun l3 nl3 => ?_⟩
    have sl3 := same_new (o := .lst [.int (Builtin.Int.intBits (mm : Int) : Nat), .int (hh : Int)]) nl3
    have s3f := ((s3c.trans sD).trans sE).trans sl3
    refine ⟨_, rfl, _, rfl, by omega, Int.le_trans m2 (by decide), _, rfl, _, rfl, r, row, _, rfl, ob.keep s3f, ok3, by omega, Int.le_trans m2 (by decide), fun n HG sG ihn => ?_⟩
    obtain rfl := ihn.uniq ihh
    refine ⟨(by show 2 ≤ sizeLine; decide), fun l4 nl4 => ?_⟩
    have sl4 := same_new (o := .lst [.int (Builtin.Int.intBits (mm : Int) : Nat), .int (n : Int)]) nl4
    refine ⟨_, _, .lst (SqL.of (sl4 _ _ (sG _ _ upd_same))) (dpInts [((Builtin.Int.intBits (mm : Int) : Nat) : Int), (n : Int)]), .lst (SqL.of upd_same) (dpInts [((Builtin.Int.intBits (mm : Int) : Nat) : Int), (n : Int)]), sh_ints _, sh_ints _, ?_⟩
    refine (congrArg (fun b => Q (.bl b) _) (pair_self _ _)).mpr ?_
    have sall := (s3f.trans sG).trans sl4
    exact kk _ (bt3.trans (Same.but sall)) ((p3.keep sall).mono (by omega))
end
end Ev
namespace Ev
open PySem L2 PySem.Spec PyProof.Rows
/-! ### a def called by keywords alone -/
section
variable {X : Cx}
def tCallK0 (sp : Sp) (gV : List V → List V → List V) (E : XK) (tk : TA) : TE := fun σ H Q => tk σ H fun zs H2 => sp (gV [] zs) H2 Q E
theorem pe_callK0 {CX : CXT} {k : Nat} {f : Addr} {fd : FuncData} {ps ks : List Str} {sp : Sp} {E : XK} {x : Str} {p pos : Pos} {kws : List Keyword} {tk : TA} {g : List Value → List Value → List Value} {gV : List V → List V → List V}
    (F : FnOk X.prog X.w X.K X.mg X.base CX k f fd ps sp) (hr : Room k X.A) (hg : Gl X x) (hm : X.mg x = some (.ref f)) (hk : PySem.W.keepIn X.K (.ref f) = true) (hb : KBinds X.K fd ps ks g gV) (hx : Passes CX X E)
    (hkw : PK X kws tk) (hall : (backToKw pos (keywordEach kws X.env)).all (·.1.isSome) = true := by rfl) (hks : (backToKw pos (keywordEach kws X.env)).filterMap (·.1) = ks := by rfl)
    (hdb : (x == ("__debug__" : Str)) = false := by decide)
    (hpl : ((backTo pos (starEach [] X.env)).any (·.1) || (backToKw pos (keywordEach kws X.env)).any (·.1.isNone)) = false := by rfl) :
    PE X (.Call (.Name x p) [] kws pos) (tCallK0 sp gV E tk) := by
  refine ⟨fun pins s σ H Q I h => ?_⟩
  refine wpAny_Call_Name_kw (ld_glob I hg hm ?_ hdb)
  refine PySem.W.callWith_KW0 (first := []) (h₀ := X.base) I.ok.mod.kin hk hall ?_ hpl
  refine thn (hkw.run pos pins s σ H _ I h) fun ws s2 ⟨zs, H2, I2, rz, q2⟩ => ⟨I2.kIn, ?_⟩
  rw [hks]
  exact run_fnk (us := []) (vs := []) F hr hb hx I2 .nil rz q2
end
def gK {α : Type} : List α → List α → List α
  | [], [a] => [a]
  | _, _ => []
theorem gK_rel {vs zs : List V} {us ws : List Value} (r1 : Vals vs us) (r2 : Vals zs ws) : Vals (gK vs zs) (gK us ws) := by
  cases r1 with
  | cons a t => exact .nil
  | nil =>
    cases r2 with
    | nil => exact .nil
    | cons a t =>
      cases t with
      | nil => exact .cons a .nil
      | cons b t => exact .nil
theorem gK_len {α : Type} {us ws : List α} (h : (gK us ws).length = 1) : ∃ a, us = [] ∧ ws = [a] := by
  match us, ws, h with
  | [], [a], _ => exact ⟨a, rfl, rfl⟩
def gG {α : Type} : List α → List α → List α
  | [], [a, b] => [b, a]
  | _, _ => []
theorem gG_rel {vs zs : List V} {us ws : List Value} (r1 : Vals vs us) (r2 : Vals zs ws) : Vals (gG vs zs) (gG us ws) := by
  cases r1 with
  | cons a t => exact .nil
  | nil =>
    cases r2 with
    | nil => exact .nil
    | cons a t =>
      cases t with
      | nil => exact .nil
      | cons b t =>
        cases t with
        | nil => exact .cons b (.cons a .nil)
        | cons d t => exact .nil
theorem gG_len {α : Type} {us ws : List α} (h : (gG us ws).length = 2) : ∃ a b, us = [] ∧ ws = [a, b] := by
  match us, ws, h with
  | [], [a, b], _ => exact ⟨a, b, rfl, rfl⟩
/-- a def that stands under its name, called by place and by keywords -/
structure DfK (P : Program) (w : World) (K : PySem.W.Frag) (mg : Str → Option Value) (base : Heap) (k : Nat) (x : Str) (ps ks : List Str) (g : List Value → List Value → List Value) (gV : List V → List V → List V) (sp : Sp) : Prop where
  ex : ∃ (f : Addr) (fd : FuncData), FnOk P w K mg base CX0 k f fd ps sp ∧ mg x = some (.ref f) ∧ PySem.W.keepIn K (.ref f) = true ∧ Binds K fd ps [] ∧ KBinds K fd ps ks g gV
def spPen (K : PySem.W.Frag) : Sp := fun vs H Q _ => ∃ (a : Addr) (ns : List Int), vs = [.ref a] ∧ SqL K H a (ns.map V.int) ∧ ns.length ≤ 63 ∧
  ∀ (p L : Addr) (H' : Hp), H p = none → Same H H' → Pen L H' p 0 → Q (.ref p) H'
def spLaw (K : PySem.W.Frag) : Sp := fun vs H Q _ => ∃ (a : Addr) (ns : List Int), vs = [.ref a] ∧ SqL K H a (ns.map V.int) ∧ ns.length ≤ 63 ∧ ∀ H', Q (.bl true) H'
theorem But.tup {L p a : Addr} {H H' : Hp} {B : Int} {xs : List V} (h : H a = some (.tup xs)) (pn : Pen L H p B) (t : But p H H') : H' a = some (.tup xs) := by
  obtain ⟨ys, e⟩ := pn.some
  exact t _ _ (ne_of h e (by intro z; cases z)) h
theorem Pen.put {L p D : Addr} {H : Hp} {B : Int} {o : HO} (h : Pen L H p B) (d1 : D ≠ p) (d2 : D ≠ L) : Pen L (upd H D o) p B := by
  obtain ⟨ns, t, c, h1, h2, h3⟩ := h
  exact ⟨ns, t, c, by rw [upd_ne d1.symm]; exact h1, by rw [upd_ne d2.symm]; exact h2, h3⟩
theorem Pen.neL {L p D : Addr} {H : Hp} {B : Int} (h : Pen L H p B) (n : H D = none) : D ≠ L := by
  obtain ⟨ns, t, c, h1, h2, h3⟩ := h
  exact (ne_of_none h2 n).symm
theorem cut_ints (ns : List Int) (h : Int) : ∃ ms : List Int, cutV (ns.map V.int) none (some h) = ms.map V.int ∧ ms.length ≤ ns.length := by
  unfold cutV
  generalize HT.sIx (ns.map V.int).length 0 none = x
  generalize HT.sIx (ns.map V.int).length (ns.map V.int).length (some h) - x = y
  refine ⟨(ns.drop x).take y, ?_, ?_⟩
  · rw [List.map_take, List.map_drop]
  · rw [List.length_take, List.length_drop]; omega

instance (p q k m : Int) (h : Nat) : Decidable (IsH p q k m h) := inferInstanceAs (Decidable (_ ∧ _))
def sh1 : Sh := .n .e .e
def sh2 : Sh := .n (.n .e .e) .e
def sh3 : Sh := .n (.n (.n .e .e) .e) .e
theorem hv_one : hv 1 = sh1 := by
  rw [hv_pos (by decide)]
  show Sh.n (hv 0) (hv 0) = sh1
  rw [hv_zero]
  rfl
theorem tall_two {p q k : Int} (i : IsH p q k 2 1) (e : hvy p q k 2 1 = 1) : Tall p q k 2 sh1 := by
  have t := Tall.more (p := p) (q := q) (k := k) (w := 2) (h := 1) (s := .e) (by decide) i (by rw [e]; exact Tall.one)
  rw [e, show ((2 : Int) - 1 - 1).toNat = 0 from rfl, hv_zero] at t
  exact t
theorem tall_three {p q k : Int} (i : IsH p q k 3 2) (e : hvy p q k 3 2 = 2) (t2 : Tall p q k 2 sh1) : Tall p q k 3 sh2 := by
  have t := Tall.more (p := p) (q := q) (k := k) (w := 3) (h := 2) (s := sh1) (by decide) i (by rw [e]; exact t2)
  rw [e, show ((3 : Int) - 2 - 1).toNat = 0 from rfl, hv_zero] at t
  exact t
theorem tall_four {p q k : Int} (i : IsH p q k 4 3) (e : hvy p q k 4 3 = 3) (t3 : Tall p q k 3 sh2) : Tall p q k 4 sh3 := by
  have t := Tall.more (p := p) (q := q) (k := k) (w := 4) (h := 3) (s := sh2) (by decide) i (by rw [e]; exact t3)
  rw [e, show ((4 : Int) - 3 - 1).toNat = 0 from rfl, hv_zero] at t
  exact t
theorem tall_a : Tall 6 1 6 (2 + 1) sh2 := tall_three (by decide +kernel) (by decide +kernel) (tall_two (by decide +kernel) (by decide +kernel))
theorem tall_b : Tall 3 1 0 (3 + 1) sh3 := tall_four (by decide +kernel) (by decide +kernel) (tall_three (by decide +kernel) (by decide +kernel) (tall_two (by decide +kernel) (by decide +kernel)))
section
variable {P : Program} {w : World} {K : PySem.W.Frag} {mg : Str → Option Value} {base : Heap}
theorem scPen : FnScope ["_law_script"] ["_law_script"] (defScope sPen) := ⟨rfl, rfl, rfl, by decide +kernel, rfl, by decide +kernel, by decide +kernel⟩
theorem ok_pen {f : Addr} {fd : FuncData} (F : Fun K "_law_pen" "_law_pen" sPen f fd) (T : Blt mg) : FnOk P w K mg base CX0 1 f fd ["_law_script"] (spPen K) := by
  refine F.ok scPen (fun vs H Q E h => ?_) (fun cdv A outer s H vs Q E hr h => ?_)
  · obtain ⟨a, ns, rfl, _⟩ := h
    rfl
  · obtain ⟨a, ns, rfl, hS, hlen, kk⟩ := h
    refine ⟨_, pss_one (ps_ret (pe_lst (pa_cons (pe_callTy call_list_of (by rfl) T.list (by decide +kernel) (pa_cons (pe_slice sl_list (pv 0) po_none (po_some pe_int)) pa_nil)) (pa_cons pe_int (pa_cons pe_int pa_nil))))), ?_⟩
    refine ⟨_, rfl, _, rfl, a, _, rfl, hS, fun l1 nl1 => ⟨l1, _, rfl, .inl (SqL.of upd_same), fun l2 nl2 => ⟨(by show 3 ≤ sizeLine; decide), fun p np => ?_⟩⟩⟩
    obtain ⟨ms, e1, e2⟩ := cut_ints ns 63
    rw [e1] at nl2 np ⊢
    have s1 : Same H (upd (upd H l1 (.lst (ms.map V.int))) l2 (.lst (ms.map V.int))) := (same_new nl1).trans (same_new nl2)
    have s2 := s1.trans (same_new (o := .lst [.ref l2, .int 0, .int 0]) np)
    refine kk p l2 _ ?_ s2 ⟨ms, 0, 0, upd_same, by rw [upd_ne (ne_of_none upd_same np)]; exact upd_same, ne_of_none upd_same np, by omega, by decide, by decide, by decide⟩
    cases z : H p with
    | none => rfl
    | some o => rw [s1 _ _ z] at np; cases np
theorem scLaw : FnScope ["_law_script", "_law_pen_here", "_law_turn"] ["_law_script"] (defScope sLaw) := ⟨rfl, rfl, rfl, by decide +kernel, rfl, by decide +kernel, by decide +kernel⟩
theorem sh_pair_self (a b : Sh) : PyData.eqv (.list [a.data, b.data]) (.list [a.data, b.data]) = true := by simp [PyData.eqv, PyData.eqvAll, sh_self]
theorem sh_pair_shaped {a b : Sh} (ha : a.deep ≤ 50) (hb : b.deep ≤ 50) : SeqAt.shaped (.list [a.data, b.data]) = true := by
  unfold SeqAt.shaped
  rw [Bool.and_eq_true]
  have := sh_depth a
  have := sh_depth b
  refine ⟨by simp [PyData.canLay0, PyData.canLayAll0, sh_lay], decide_eq_true ?_⟩
  simp only [PyData.depth, PyData.depthAll]
  omega
theorem ok_law {f Ct Cn fT : Addr} {fd fdT : FuncData} (F : Fun K "law" "law" sLaw f fd) (T : Blt mg) (gT : mg "TryRule" = some (.ref Ct)) (MT : Mk K Ct fT)
    (GT : FnOk P w K mg base CX0 6 fT fdT ["self", "times", "plus"] (spTryInit Ct)) {ds : List Value} (bT : Binds K fdT ["self", "times", "plus"] ds) (dT : Vals [V.int 0] ds) (bT0 : Binds K fdT ["self", "times", "plus"] [])
    (D1 : Df P w K mg base 1 "_law_pen" ["_law_script"] (spPen K)) (D2 : Df P w K mg base 1 "_law_draw" ["_law_pen_here", "_law_many"] spDraw) (D3 : Df P w K mg base 2 "_law_pick" ["_law_pen_here", "_law_some"] spPick) (D4 : Df P w K mg base 61 "_law_right" ["_law_pen_here", "_law_many"] spLRight)
    (D5 : DfK P w K mg base 13 "halves_shape" ["keys"] ["keys"] gK gK spHalvS) (D6 : DfK P w K mg base 13 "tall_shape" ["rule", "keys"] ["keys", "rule"] gG gG (spTallS Ct Cn)) :
    FnOk P w K mg base CX0 62 f fd ["_law_script"] (spLaw K) := by
  obtain ⟨f1, fd1, G1, g1, k1, b1⟩ := D1.ex
  obtain ⟨f2, fd2, G2, g2, k2, b2⟩ := D2.ex
  obtain ⟨f3, fd3, G3, g3, k3, b3⟩ := D3.ex
  obtain ⟨f4, fd4, G4, g4, k4, b4⟩ := D4.ex
  obtain ⟨f5, fd5, G5, g5, k5, b5, bk5⟩ := D5.ex
  obtain ⟨f6, fd6, G6, g6, k6, b6, bk6⟩ := D6.ex
  refine F.ok scLaw (fun vs H Q E h => ?_) (fun cdv A outer s H vs Q E hr h => ?_)
  · obtain ⟨a, ns, rfl, _⟩ := h
    rfl
  · obtain ⟨a, ns, rfl, hS, hlen, kk⟩ := h
    have hr1 : Room 1 _ := hr.mono (by decide)
    have hr2 : Room 2 _ := hr.mono (by decide)
    have hr7 : Room 7 _ := hr.mono (by decide)
    have hr13 : Room 13 _ := hr.mono (by decide)
    refine ⟨_, pss_cons (ps_set (i := 1) scLaw.nd rfl (.inl rfl) (pe_call G1 hr1 (by rfl) g1 k1 b1 .nil pass0 (pa_cons (pv 0) pa_nil)))
      (pss_cons (ps_for PassesOwn.never rfl (pi_range1 (by rfl) T.range (pa_cons pe_int pa_nil)) (pg_name (i := 2) scLaw.nd rfl (.inl rfl))
        (pss_one (ps_if (pt_not (pt_val (pe_call G4 hr (by rfl) g4 k4 b4 .nil pass0 (pa_cons (pv 1) (pa_cons (pe_call G3 hr2 (by rfl) g3 k3 b3 .nil pass0 (pa_cons (pv 1) (pa_cons (pe_lst (pa_cons (pv 2) (pa_cons (pe_call G2 hr1 (by rfl) g2 k2 b2 .nil pass0 (pa_cons (pv 1) (pa_cons pe_int pa_nil))) (pa_cons (pe_call G2 hr1 (by rfl) g2 k2 b2 .nil pass0 (pa_cons (pv 1) (pa_cons pe_int pa_nil))) pa_nil)))) pa_nil))) pa_nil))))) (pss_one (ps_ret pe_bl)) pss_nil)))
      (pss_cons (ps_if (pt_not (pt_val (pe_call G4 hr (by rfl) g4 k4 b4 .nil pass0 (pa_cons (pv 1) (pa_cons (pe_call G3 hr2 (by rfl) g3 k3 b3 .nil pass0 (pa_cons (pv 1) (pa_cons (pe_lst (pa_cons pe_int (pa_cons pe_int (pa_cons pe_int (pa_cons pe_int (pa_cons pe_int pa_nil)))))) pa_nil))) pa_nil))))) (pss_one (ps_ret pe_bl)) pss_nil)
      (pss_cons (ps_if (pt_cmpR (op_neD hr.units) (pe_lst (pa_cons (pe_callK0 G5 hr13 (by rfl) g5 k5 bk5 (E := E0) pass0 (pk_cons pe_int pk_nil)) (pa_cons (pe_callK0 G6 hr13 (by rfl) g6 k6 bk6 (E := E0) pass0 (pk_cons pe_int (pk_cons (pe_make MT GT hr7 (by rfl) gT bT0 .nil pass0 (pa_cons (pe_tup (pa_cons pe_int (pa_cons pe_int pa_nil))) (pa_cons pe_int pa_nil))) pk_nil))) pa_nil)))
          (pe_lst (pa_cons (pe_tup (pa_cons (pe_tup pa_nil) (pa_cons (pe_tup pa_nil) pa_nil))) (pa_cons (pe_tup (pa_cons (pe_tup (pa_cons (pe_tup pa_nil) (pa_cons (pe_tup pa_nil) pa_nil))) (pa_cons (pe_tup pa_nil) pa_nil))) pa_nil))) (nomark _)) (pss_one (ps_ret pe_bl)) pss_nil)
      (pss_one (ps_ret (pe_cmpR (op_eqD hr.units) (pe_call G6 hr13 (by rfl) g6 k6 b6 .nil pass0 (pa_cons (pe_make MT GT hr7 (by rfl) gT bT dT pass0 (pa_cons (pe_tup (pa_cons pe_int (pa_cons pe_int pa_nil))) pa_nil)) (pa_cons pe_int pa_nil)))
          (pe_tup (pa_cons (pe_tup (pa_cons (pe_tup (pa_cons (pe_tup pa_nil) (pa_cons (pe_tup pa_nil) pa_nil))) (pa_cons (pe_tup pa_nil) pa_nil))) (pa_cons (pe_tup pa_nil) pa_nil))) (nomark _))))))), ?_⟩
    refine ⟨_, rfl, a, ns, rfl, hS, hlen, fun p L H1 np s1 pn0 => ?_⟩
    refine ⟨8, rfl, by decide, by decide, for_range (n := 8) (fun i σ H2 => ∃ v2 : Option V, σ = [some (.ref a), some (.ref p), v2] ∧ Pen L H2 p (100 * (i : Int)))
      ⟨none, rfl, pn0.mono (by decide)⟩ ?_ ?_⟩
    · rintro i σ H2 hi ⟨v2, rfl, pn⟩
      refine ⟨_, rfl, _, rfl, _, rfl, _, rfl, p, L, _, _, rfl, by decide, by decide, by omega, pn, fun d1 H3 t3 p3 a3 c3 => ?_⟩
      refine ⟨_, rfl, p, L, _, _, rfl, by decide, by decide, by omega, p3, fun d2 H4 t4 p4 a4 c4 => ?_⟩
      refine ⟨(by show 3 ≤ sizeLine; decide), fun l nl => ⟨p, l, L, _, _, rfl, upd_same, p4.ne nl, (by show 1 ≤ 3; decide), (by show 3 ≤ 1000; decide), by omega, p4.new nl, fun kv H5 m5 t5 p5 => ?_⟩⟩
      obtain ⟨m, rfl, m0, m1⟩ : ∃ m : Int, kv = .int m ∧ 0 ≤ m ∧ m ≤ 2000 := by
        simp only [List.mem_cons, List.not_mem_nil, or_false] at m5
        rcases m5 with e | e | e
        · exact ⟨_, e, by omega, by omega⟩
        · exact ⟨_, e, by omega, by omega⟩
        · exact ⟨_, e, by omega, by omega⟩
      refine ⟨p, L, _, m, rfl, m0, m1, by omega, p5, fun H6 t6 p6 => ⟨true, rfl, iteF ?_⟩⟩
      exact ⟨_, rfl, p6.mono (by omega)⟩
    · rintro σ H2 ⟨v2, rfl, pn⟩
      refine ⟨_, rfl, _, rfl, (by show 5 ≤ sizeLine; decide), fun l nl => ⟨p, l, L, _, _, rfl, upd_same, pn.ne nl, (by show 1 ≤ 5; decide), (by show 5 ≤ 1000; decide), by omega, pn.new nl, fun kv H5 m5 t5 p5 => ?_⟩⟩
      obtain ⟨m, rfl, m0, m1⟩ : ∃ m : Int, kv = .int m ∧ 0 ≤ m ∧ m ≤ 2000 := by
        simp only [List.mem_cons, List.not_mem_nil, or_false] at m5
        rcases m5 with e | e | e | e | e <;> exact ⟨_, e, by decide, by decide⟩
      refine ⟨p, L, _, m, rfl, m0, m1, by omega, p5, fun H6 t6 p6 => ⟨true, rfl, iteF ?_⟩⟩
      -- what is told of one and of two keys
      refine ⟨1, rfl, by decide, fun v1 H7 s7 h1 => ?_⟩
      rw [hv_one] at h1
      refine ⟨(by show 2 ≤ sizeLine; decide), fun tp ntp => fun x dx nx ndx nex => ?_⟩
      have g1 : upd H7 tp (.tup [.int 6, .int 1]) tp = some (.tup [.int 6, .int 1]) := upd_same
      have sg : Same H7 (upd H7 tp (.tup [.int 6, .int 1])) := same_new ntp
      generalize upd H7 tp (.tup [.int 6, .int 1]) = H8 at g1 sg nx ndx ⊢
      have keep : ∀ (o1 o2 : HO) (b : Addr) (u : HO), H8 b = some u → upd (upd H8 dx o1) x o2 b = some u := fun o1 o2 b u e => by
        rw [upd_ne (ne_of_none e nx), upd_ne (ne_of_none e ndx)]; exact e
      refine ⟨x, dx, tp, 6, 1, 6, rfl, upd_same, keep _ _ _ _ g1, by decide, by decide, by decide, by decide, by decide, by decide, fun H9 t9 hx9 => ⟨rfl, ?_⟩⟩
      have s89 : Same H8 H9 := fun b u e => t9 _ _ (ne_of_none e nx) (keep _ _ _ _ e)
      have ob9 : ObjAt Ct Cn H9 x (.tr 6 1 6) := ⟨dx, tp, hx9, s89 _ _ g1⟩
      have ok9 : (Row.tr 6 1 6).ok := ⟨by decide, by decide, by decide, by decide, by decide, by decide⟩
      refine ⟨x, .tr 6 1 6, 2, rfl, ob9, ok9, by decide, by decide, fun v2 sA HA sA9 tA hA => ?_⟩
      obtain rfl := tall_a.uniq tA
      have h1A := ((h1.keep sg).keep s89).keep sA9
      refine ⟨(by show 2 ≤ sizeLine; decide), fun l1 nl1 => ?_⟩
      have sl1 := same_new (o := .lst [v1, v2]) nl1
      have hl1 : upd HA l1 (.lst [v1, v2]) l1 = some (.lst [v1, v2]) := upd_same
      have h1B := h1A.keep sl1
      have hAB := hA.keep sl1
      generalize upd HA l1 (.lst [v1, v2]) = HB at hl1 h1B hAB ⊢
      refine ⟨(by show 0 ≤ sizeLine; decide), fun a1 n1 => ⟨(by show 0 ≤ sizeLine; decide), fun a2 n2 => ⟨(by show 2 ≤ sizeLine; decide), fun a3 n3 => ?_⟩⟩⟩
      have i1 := same_new (o := .tup []) n1
      have i2 := same_new (o := .tup []) n2
      have i3 := same_new (o := .tup [.ref a1, .ref a2]) n3
      have lit1 : ShAt (upd (upd (upd HB a1 (.tup [])) a2 (.tup [])) a3 (.tup [.ref a1, .ref a2])) sh1 (.ref a3) := ⟨a3, _, _, rfl, upd_same, ⟨a1, rfl, i3 _ _ (i2 _ _ upd_same)⟩, ⟨a2, rfl, i3 _ _ upd_same⟩⟩
      have sC := (i1.trans i2).trans i3
      generalize upd (upd (upd HB a1 (.tup [])) a2 (.tup [])) a3 (.tup [.ref a1, .ref a2]) = HC at lit1 sC ⊢
      refine ⟨(by show 0 ≤ sizeLine; decide), fun b1 m1' => ⟨(by show 0 ≤ sizeLine; decide), fun b2 m2' => ⟨(by show 2 ≤ sizeLine; decide), fun b3 m3' => ⟨(by show 0 ≤ sizeLine; decide), fun b4 m4' => ⟨(by show 2 ≤ sizeLine; decide), fun b5 m5' => ?_⟩⟩⟩⟩⟩
      have j1 := same_new (o := .tup []) m1'
      have j2 := same_new (o := .tup []) m2'
      have j3 := same_new (o := .tup [.ref b1, .ref b2]) m3'
      have j4 := same_new (o := .tup []) m4'
      have j5 := same_new (o := .tup [.ref b3, .ref b4]) m5'
      have lit2 : ShAt (upd (upd (upd (upd (upd HC b1 (.tup [])) b2 (.tup [])) b3 (.tup [.ref b1, .ref b2])) b4 (.tup [])) b5 (.tup [.ref b3, .ref b4])) sh2 (.ref b5) :=
        ⟨b5, _, _, rfl, upd_same, ⟨b3, _, _, rfl, j5 _ _ (j4 _ _ upd_same), ⟨b1, rfl, j5 _ _ (j4 _ _ (j3 _ _ (j2 _ _ upd_same)))⟩, ⟨b2, rfl, j5 _ _ (j4 _ _ (j3 _ _ upd_same))⟩⟩, ⟨b4, rfl, j5 _ _ upd_same⟩⟩
      have sD := (((j1.trans j2).trans j3).trans j4).trans j5
      have lit1' := lit1.keep sD
      have sBD := sC.trans sD
      generalize upd (upd (upd (upd (upd HC b1 (.tup [])) b2 (.tup [])) b3 (.tup [.ref b1, .ref b2])) b4 (.tup [])) b5 (.tup [.ref b3, .ref b4]) = HD at lit2 lit1' sBD ⊢
      refine ⟨(by show 2 ≤ sizeLine; decide), fun l2 nl2 => ?_⟩
      have sl2 := same_new (o := .lst [.ref a3, .ref b5]) nl2
      refine ⟨_, _, .lst (SqL.of (sl2 _ _ (sBD _ _ hl1))) (.cons (sh_dp ((h1B.keep sBD).keep sl2)) (.cons (sh_dp ((hAB.keep sBD).keep sl2)) .nil)), .lst (SqL.of upd_same) (.cons (sh_dp (lit1'.keep sl2)) (.cons (sh_dp (lit2.keep sl2)) .nil)), sh_pair_shaped (by decide) (by decide), sh_pair_shaped (by decide) (by decide), _, rfl, ?_⟩
      rw [sh_pair_self]
      refine iteF ?_
      generalize upd HD l2 (.lst [.ref a3, .ref b5]) = HE
      -- what is told of three keys
      refine ⟨(by show 2 ≤ sizeLine; decide), fun tq ntq => fun y dy ny ndy ney => ?_⟩
      have q1 : upd HE tq (.tup [.int 3, .int 1]) tq = some (.tup [.int 3, .int 1]) := upd_same
      generalize upd HE tq (.tup [.int 3, .int 1]) = HF at q1 ny ndy ⊢
      have keep2 : ∀ (o1 o2 : HO) (b : Addr) (u : HO), HF b = some u → upd (upd HF dy o1) y o2 b = some u := fun o1 o2 b u e => by
        rw [upd_ne (ne_of_none e ny), upd_ne (ne_of_none e ndy)]; exact e
      refine ⟨y, dy, tq, 3, 1, 0, rfl, upd_same, keep2 _ _ _ _ q1, by decide, by decide, by decide, by decide, by decide, by decide, fun HG tG hyG => ⟨rfl, ?_⟩⟩
      have obG : ObjAt Ct Cn HG y (.tr 3 1 0) := ⟨dy, tq, hyG, tG _ _ (ne_of_none q1 ny) (keep2 _ _ _ _ q1)⟩
      have okG : (Row.tr 3 1 0).ok := ⟨by decide, by decide, by decide, by decide, by decide, by decide⟩
      refine ⟨y, .tr 3 1 0, 3, rfl, obG, okG, by decide, by decide, fun v3 sB HI sI tB hB => ?_⟩
      obtain rfl := tall_b.uniq tB
      refine ⟨(by show 0 ≤ sizeLine; decide), fun c1 o1 => ⟨(by show 0 ≤ sizeLine; decide), fun c2 o2 => ⟨(by show 2 ≤ sizeLine; decide), fun c3 o3 => ⟨(by show 0 ≤ sizeLine; decide), fun c4 o4 => ⟨(by show 2 ≤ sizeLine; decide), fun c5 o5 => ⟨(by show 0 ≤ sizeLine; decide), fun c6 o6 => ⟨(by show 2 ≤ sizeLine; decide), fun c7 o7 => ?_⟩⟩⟩⟩⟩⟩⟩
      have u1 := same_new (o := .tup []) o1
      have u2 := same_new (o := .tup []) o2
      have u3 := same_new (o := .tup [.ref c1, .ref c2]) o3
      have u4 := same_new (o := .tup []) o4
      have u5 := same_new (o := .tup [.ref c3, .ref c4]) o5
      have u6 := same_new (o := .tup []) o6
      have u7 := same_new (o := .tup [.ref c5, .ref c6]) o7
      have lit3 : ShAt (upd (upd (upd (upd (upd (upd (upd HI c1 (.tup [])) c2 (.tup [])) c3 (.tup [.ref c1, .ref c2])) c4 (.tup [])) c5 (.tup [.ref c3, .ref c4])) c6 (.tup [])) c7 (.tup [.ref c5, .ref c6])) sh3 (.ref c7) :=
        ⟨c7, _, _, rfl, upd_same, ⟨c5, _, _, rfl, u7 _ _ (u6 _ _ upd_same), ⟨c3, _, _, rfl, u7 _ _ (u6 _ _ (u5 _ _ (u4 _ _ upd_same))), ⟨c1, rfl, u7 _ _ (u6 _ _ (u5 _ _ (u4 _ _ (u3 _ _ (u2 _ _ upd_same)))))⟩, ⟨c2, rfl, u7 _ _ (u6 _ _ (u5 _ _ (u4 _ _ (u3 _ _ upd_same))))⟩⟩, ⟨c4, rfl, u7 _ _ (u6 _ _ (u5 _ _ upd_same))⟩⟩, ⟨c6, rfl, u7 _ _ upd_same⟩⟩
      have sJ := (((((u1.trans u2).trans u3).trans u4).trans u5).trans u6).trans u7
      refine ⟨_, _, sh_dp (hB.keep sJ), sh_dp lit3, sh_shaped (by decide), sh_shaped (by decide), ?_⟩
      show Q (.bl (PyData.eqv sh3.data sh3.data)) _
      rw [sh_self]
      exact kk _
end
end Ev
namespace Ev
open PySem L2 PySem.Spec PyProof.Rows
def tot : List Sh → Nat
  | [] => 0
  | s :: r => 1 + 2 * s.many + tot r
theorem tot_app : ∀ a b : List Sh, tot (a ++ b) = tot a + tot b
  | [], b => by simp [tot]
  | s :: r, b => by simp only [List.cons_append, tot, tot_app r b]; omega
/-- the parts gone through so far -/
structure Part (s : Sh) (P : List Sh) (j : Nat) : Prop where
  z : P[0]? = some s
  le : j ≤ P.length
  len : P.length = 1 + 2 * cn P j
  lt : ∀ i, i < j → i < 1 + 2 * cn P i
  kid : ∀ i l r, i < j → P[i]? = some (.n l r) → P[1 + 2 * cn P i]? = some l ∧ P[2 + 2 * cn P i]? = some r
  sum : j + tot (P.drop j) = 1 + 2 * s.many
theorem Part.first (s : Sh) : Part s [s] 0 := ⟨rfl, by simp, by simp [cn], fun i h => by omega, fun i l r h => by omega, by simp [tot]⟩
theorem Part.skip {s : Sh} {P : List Sh} {j : Nat} (h : Part s P j) (e : P[j]? = some .e) : Part s P (j + 1) := by
  have jl := (List.getElem?_eq_some_iff.mp e).1
  have c := cn_succ e
  have c : cn P (j + 1) = cn P j := c
  have dr : P.drop j = .e :: P.drop (j + 1) := by
    obtain ⟨_, e'⟩ := List.getElem?_eq_some_iff.mp e
    rw [List.drop_eq_getElem_cons jl, e']
  have sm := h.sum
  rw [dr] at sm
  refine ⟨h.z, jl, by rw [c]; exact h.len, fun i hi => ?_, fun i l r hi ei => ?_, by simp only [tot, Sh.many] at sm; omega⟩
  · by_cases z : i < j
    · exact h.lt i z
    · obtain rfl : i = j := by omega
      have := h.len; omega
  · by_cases z : i < j
    · exact h.kid i l r z ei
    · obtain rfl : i = j := by omega
      rw [e] at ei; cases ei
theorem Part.grow {s : Sh} {P : List Sh} {j : Nat} {l r : Sh} (h : Part s P j) (e : P[j]? = some (.n l r)) : Part s (P ++ [l, r]) (j + 1) := by
  have jl := (List.getElem?_eq_some_iff.mp e).1
  have c := cn_succ e
  have c : cn P (j + 1) = cn P j + 1 := c
  have ca : ∀ i, i ≤ P.length → cn (P ++ [l, r]) i = cn P i := fun i hi => cn_app P [l, r] hi
  have dr : P.drop j = .n l r :: P.drop (j + 1) := by
    obtain ⟨_, e'⟩ := List.getElem?_eq_some_iff.mp e
    rw [List.drop_eq_getElem_cons jl, e']
  have sm := h.sum
  rw [dr] at sm
  have ln := h.len
  refine ⟨?_, ?_, ?_, fun i hi => ?_, fun i l' r' hi ei => ?_, ?_⟩
  · rw [List.getElem?_append_left (by omega)]; exact h.z
  · rw [List.length_append]; simp; omega
  · rw [ca _ jl, c, List.length_append]; simp; omega
  · rw [ca _ (by omega)]
    by_cases z : i < j
    · exact h.lt i z
    · obtain rfl : i = j := by omega
      omega
  · rw [ca _ (by omega)]
    rw [List.getElem?_append_left (by omega)] at ei
    by_cases z : i < j
    · obtain ⟨k1, k2⟩ := h.kid i l' r' z ei
      have b1 := (List.getElem?_eq_some_iff.mp k1).1
      have b2 := (List.getElem?_eq_some_iff.mp k2).1
      rw [List.getElem?_append_left b1, List.getElem?_append_left b2]
      exact ⟨k1, k2⟩
    · obtain rfl : i = j := by omega
      rw [e] at ei
      cases ei
      rw [List.getElem?_append_right (by omega), List.getElem?_append_right (by omega), show 1 + 2 * cn P i - P.length = 0 by omega, show 2 + 2 * cn P i - P.length = 1 by omega]
      exact ⟨rfl, rfl⟩
  · rw [List.drop_append_of_le_length (by omega), tot_app]
    simp only [tot, Sh.many] at sm ⊢
    omega
theorem Part.clo {s : Sh} {P : List Sh} (h : Part s P P.length) : Clo P ∧ P[0]? = some s ∧ P.length = 1 + 2 * s.many := by
  refine ⟨⟨h.len, h.lt, fun i l r e => h.kid i l r (List.getElem?_eq_some_iff.mp e).1 e⟩, h.z, ?_⟩
  have := h.sum
  rw [List.drop_length] at this
  exact this
theorem VP.snoc2 {H : Hp} {P : List Sh} {xs : List V} {l r : Sh} {x y : V} (h : VP H P xs) (hx : ShAt H l x) (hy : ShAt H r y) : VP H (P ++ [l, r]) (xs ++ [x, y]) := by
  refine ⟨by rw [List.length_append, List.length_append, h.1]; rfl, fun i s e => ?_⟩
  by_cases z : i < P.length
  · rw [List.getElem?_append_left z] at e
    obtain ⟨v, e1, e2⟩ := h.2 i s e
    exact ⟨v, by rw [List.getElem?_append_left (by rw [h.1]; exact z)]; exact e1, e2⟩
  · rw [List.getElem?_append_right (by omega)] at e
    rw [List.getElem?_append_right (by rw [h.1]; omega), h.1]
    match i - P.length, e with
    | 0, e => cases e; exact ⟨x, rfl, hx⟩
    | 1, e => cases e; exact ⟨y, rfl, hy⟩
    | n + 2, e => simp at e
section
variable {P : Program} {w : World} {K : PySem.W.Frag} {mg : Str → Option Value} {base : Heap}
theorem scJointsOf : FnScope ["shape", "parts", "found", "at", "part", "left", "right"] ["shape"] (defScope sJointsOf) := ⟨rfl, rfl, rfl, by decide +kernel, rfl, by decide +kernel, by decide +kernel⟩
theorem jf_succ (P : List Sh) (i : Nat) : jf P (i + 1) = jf P i ++ (match P[i]? with
    | some (.n _ _) => [i]
    | _ => []) := rfl
theorem jf_le (P : List Sh) : ∀ i : Nat, (jf P i).length ≤ i
  | 0 => Nat.le_refl _
  | i + 1 => by
    have := jf_le P i
    unfold jf
    rw [List.length_append]
    split <;> simp <;> omega
theorem ok_jointsOf {f : Addr} {fd : FuncData} {k : Nat} (F : Fun K "joints_of" "joints_of" sJointsOf f fd) (T : Blt mg) : FnOk P w K mg base CX0 (k + 1) f fd ["shape"] (spJoints fun _ _ => False) := by
  refine F.ok scJointsOf (fun vs H Q E h => ?_) (fun cdv A outer s H vs Q E hr h => ?_)
  · obtain ⟨v, rfl, _⟩ := h
    rfl
  · obtain ⟨v, rfl, ⟨sh, hs, hm, kk⟩ | ⟨z, _⟩⟩ := h
    rotate_left
    · exact z.elim
    refine ⟨_, pss_cons (ps_set (i := 1) scJointsOf.nd rfl (.inl rfl) (pe_lst (pa_cons (pv 0) pa_nil)))
      (pss_cons (ps_set (i := 2) scJointsOf.nd rfl (.inl rfl) (pe_lst pa_nil))
      (pss_cons (ps_set (i := 3) scJointsOf.nd rfl (.inl rfl) pe_int)
      (pss_cons (ps_while PassesOwn.never (pt_cmpR op_lt (pv 3) (pe_callB call_len_seq (by rfl) T.len PySem.boot_len (pa_cons (pv 1) pa_nil)) (nomark _))
        (pss_cons (ps_set (i := 4) scJointsOf.nd rfl (.inl rfl) (pe_ix ix_list (pv 1) (pv 3) (fun _ _ => rfl)))
        (pss_cons (ps_if (pt_not (pt_val (pe_callB call_isi (by rfl) T.isi (by decide +kernel) (pa_cons (pv 4) (pa_cons (pe_bltn (v := .ty "tuple") (by rfl) T.tuple (by decide +kernel) rfl) pa_nil)))))
          (pss_one (ps_ret pe_non)) pss_nil)
        (pss_cons (ps_if (pt_cmpR op_eq (pe_callB call_len_seq (by rfl) T.len PySem.boot_len (pa_cons (pv 4) pa_nil)) pe_int (nomark _))
          (pss_cons (ps_asg (pv 4) (pg_tup (by rfl) (pgs_cons (pg_name (i := 5) scJointsOf.nd rfl (.inl rfl)) (pgs_cons (pg_name (i := 6) scJointsOf.nd rfl (.inl rfl)) pgs_nil))))
          (pss_cons (ps_expr (pe_bm PySem.F.plainAttrs_list PySem.F.slot_list_append PySem.F.type_list_append mt_append (pv 2) (pa_cons (pe_tup (pa_cons (pv 3) (pa_cons (pe_callB call_len_seq (by rfl) T.len PySem.boot_len (pa_cons (pv 1) pa_nil)) pa_nil))) pa_nil)))
          (pss_cons (ps_expr (pe_bm PySem.F.plainAttrs_list PySem.F.slot_list_append PySem.F.type_list_append mt_append (pv 1) (pa_cons (pv 5) pa_nil)))
          (pss_one (ps_expr (pe_bm PySem.F.plainAttrs_list PySem.F.slot_list_append PySem.F.type_list_append mt_append (pv 1) (pa_cons (pv 6) pa_nil))))))) (pss_one (ps_if (pt_cmpR op_gt (pe_callB call_len_seq (by rfl) T.len PySem.boot_len (pa_cons (pv 4) pa_nil)) pe_int (nomark _))
            (pss_one (ps_ret pe_non)) pss_nil)))
        (pss_one (ps_aug (i := 3) scJointsOf.nd rfl (.inl rfl) pe_int ip_add))))))
      (pss_one (ps_ret (pv 2)))))), ?_⟩
    refine ⟨_, rfl, (by show 1 ≤ sizeLine; decide), fun l nl => ?_⟩
    have s1 : Same H (upd H l (.lst [v])) := same_new nl
    have hl : upd H l (.lst [v]) l = some (.lst [v]) := upd_same
    generalize upd H l (.lst [v]) = H1 at s1 hl ⊢
    refine ⟨(by show 0 ≤ sizeLine; decide), fun m nm1 => ?_⟩
    have s2 : Same H1 (upd H1 m (.lst [])) := same_new nm1
    have hm2 : upd H1 m (.lst []) m = some (.lst []) := upd_same
    have nlm : l ≠ m := ne_of_none hl nm1
    have nmH : H m = none := by
      cases z : H m with
      | none => rfl
      | some o => rw [s1 _ _ z] at nm1; cases nm1
    generalize upd H1 m (.lst []) = H2 at s2 hm2 ⊢
    refine ⟨fun μ σ H' => ∃ (j : Nat) (P : List Sh) (xs : List V) (ts : List Addr) (v4 v5 v6 : Option V), σ = [some v, some (.ref l), some (.ref m), some (.int (j : Int)), v4, v5, v6] ∧ H' l = some (.lst xs) ∧ H' m = some (.lst (ts.map V.ref)) ∧ Prs H' P ts (jf P j) ∧ VP H' P xs ∧ Part sh P j ∧ Same H H' ∧ μ = 1 + 2 * sh.many - j,
      ⟨_, 0, [sh], [v], [], none, none, none, rfl, s2 _ _ hl, hm2, .nil, ⟨rfl, fun i s e => ?_⟩, Part.first sh, s1.trans s2, rfl⟩, ?_⟩
    · match i, e with
      | 0, e => cases e; exact ⟨v, rfl, (hs.keep s1).keep s2⟩
      | i + 1, e => simp at e
    clear s1 s2 hl hm2 nm1
    rintro μ σ H' ⟨j, P, xs, ts, v4, v5, v6, rfl, hl', hm', pr, vp, pt, sm, rfl⟩
    have hx := vp.1
    refine ⟨_, rfl, _, rfl, l, _, rfl, .inl (SqL.of hl'), _, _, rfl, rfl, _, rfl, ite2 (fun e => ?_) (fun e => ?_)⟩
    · have e : (j : Int) < (xs.length : Nat) := of_decide_eq_true e
      have jl : j < P.length := by omega
      have sum := pt.sum
      have jb : P.length ≤ 6001 := by
        have : ∀ L : List Sh, L.length ≤ tot L := fun L => by
          induction L with
          | nil => exact Nat.le_refl _
          | cons a r ih => simp only [List.length_cons, tot]; omega
        have := this (P.drop j)
        rw [List.length_drop] at this
        omega
      have dr : tot (P.drop j) ≥ 1 := by rw [List.drop_eq_getElem_cons jl]; simp only [tot]; omega
      obtain ⟨x, ex, sx⟩ := vp.2 j _ (List.getElem?_eq_getElem jl)
      have el : P[j]? = some P[j] := List.getElem?_eq_getElem jl
      refine ⟨fun σ' H3 => ∃ (P : List Sh) (xs : List V) (ts : List Addr) (v4 v5 v6 : Option V), σ' = [some v, some (.ref l), some (.ref m), some (.int ((j + 1 : Nat) : Int)), v4, v5, v6] ∧ H3 l = some (.lst xs) ∧ H3 m = some (.lst (ts.map V.ref)) ∧ Prs H3 P ts (jf P (j + 1)) ∧ VP H3 P xs ∧ Part sh P (j + 1) ∧ Same H H3, fun σ' H3 ⟨P, xs, ts, v4, v5, v6, q1, q2, q3, q4, q5, q6, q7⟩ => ⟨_, ?_, j + 1, P, xs, ts, v4, v5, v6, q1, q2, q3, q4, q5, q6, q7, rfl⟩, ?_⟩
      · omega
      refine ⟨_, rfl, _, rfl, l, _, _, _, rfl, rfl, SqL.of hl', atI_nat ex, ?_⟩
      obtain ⟨b, ys, rfl, hb, ly⟩ := sx.tup
      refine ⟨_, rfl, _, _, _, _, true, rfl, .ty _, .base (.tup hb), kit_ty (by decide +kernel), true, rfl, iteF ?_⟩
      refine ⟨_, rfl, b, _, rfl, .inr (SqT.of hb), rfl, _, rfl, ?_⟩
      cases hs' : P[j] with
      | e =>
        rw [hs'] at el ly
        have y0 : ys = [] := List.eq_nil_of_length_eq_zero ly
        subst y0
        refine ite2 (fun e => absurd (of_decide_eq_true e) (by intro z; injection z with z; exact absurd z (by decide))) (fun _ => ?_)
        refine ⟨_, rfl, b, _, rfl, .inr (SqT.of hb), _, _, rfl, rfl, _, rfl, ite2 (fun e => absurd (of_decide_eq_true e) (by decide)) (fun _ => ?_)⟩
        refine ⟨_, rfl, _, _, rfl, rfl, P, xs, ts, _, _, _, rfl, hl', hm', ?_, vp, pt.skip el, sm⟩
        unfold jf
        rw [el]
        simpa using pr
      | n l' r' =>
        rw [hs'] at el sx
        obtain ⟨b', x', y', eb, hb', hx', hy'⟩ := sx
        cases eb
        rw [hb'] at hb
        cases hb
        refine ite2 (fun _ => ?_) (fun e => absurd (decide_eq_true rfl) e)
        refine ⟨_, rfl, b, _, rfl, SqT.of hb', rfl, _, _, rfl, _, _, rfl, rfl, ?_⟩
        refine ⟨_, rfl, .inl ⟨rfl, _, SqL.of hm'⟩, _, rfl, _, rfl, l, _, rfl, .inl (SqL.of hl'), (by show 2 ≤ sizeLine; decide), fun t nt => ?_⟩
        have s3 : Same H' (upd H' t (.tup [.int (j : Int), .int ((xs.length : Nat) : Int)])) := same_new nt
        have ht : upd H' t (.tup [.int (j : Int), .int ((xs.length : Nat) : Int)]) t = some (prO P j) := by
          rw [upd_same]
          unfold prO
          rw [← pt.len, ← hx]
        generalize upd H' t (.tup [.int (j : Int), .int ((xs.length : Nat) : Int)]) = H3 at s3 ht ⊢
        have lts : ts.length < sizeLine := by
          have e := pr.length
          have := jf_le P j
          exact Nat.lt_of_le_of_lt (show ts.length ≤ 6001 by omega) (by decide)
        refine ⟨m, _, _, rfl, rfl, s3 _ _ hm', (by rw [List.length_map]; exact lts), ?_⟩
        have hl3 := s3 _ _ hl'
        have pr3 := Prs.snoc (pr.keep (Same.tupk s3)) ht
        have vp3 := vp.keep (Same.tupk s3)
        have hx3 := (hx'.keep s3); have hy3 := (hy'.keep s3)
        have tk4 : TupK H3 (upd H3 m (.lst (ts.map V.ref ++ [.ref t]))) := fun c zs e => by rw [upd_ne (ne_of e (s3 _ _ hm') (by intro z; cases z))]; exact e
        have hl4 : upd H3 m (.lst (ts.map V.ref ++ [.ref t])) l = some (.lst xs) := by rw [upd_ne nlm]; exact hl3
        have hm4 : upd H3 m (.lst (ts.map V.ref ++ [.ref t])) m = some (.lst ((ts ++ [t]).map V.ref)) := by rw [upd_same, List.map_append]; rfl
        have sm4 : Same H (upd H3 m (.lst (ts.map V.ref ++ [.ref t]))) := fun c o q => by rw [upd_ne (ne_of_none q nmH)]; exact s3 _ _ (sm _ _ q)
        generalize upd H3 m (.lst (ts.map V.ref ++ [.ref t])) = H4 at tk4 hl4 hm4 sm4 ⊢
        refine ⟨_, rfl, .inl ⟨rfl, _, SqL.of hl4⟩, _, rfl, l, _, _, rfl, rfl, hl4, Nat.lt_of_le_of_lt (show xs.length ≤ 6001 by omega) (by decide), ?_⟩
        have hl5 : upd H4 l (.lst (xs ++ [x'])) l = some (.lst (xs ++ [x'])) := upd_same
        refine ⟨_, rfl, .inl ⟨rfl, _, SqL.of hl5⟩, _, rfl, l, _, _, rfl, rfl, hl5, Nat.lt_of_le_of_lt (show (xs ++ [x']).length ≤ 6003 by rw [List.length_append]; show xs.length + 1 ≤ 6003; omega) (by decide), ?_⟩
        have tk6 : TupK H4 (upd (upd H4 l (.lst (xs ++ [x']))) l (.lst (xs ++ [x'] ++ [y']))) := fun c zs e => by
          have := ne_of e hl4 (by intro z; cases z)
          rw [upd_ne this, upd_ne this]; exact e
        have tk := tk4.trans tk6
        refine ⟨_, rfl, _, _, rfl, rfl, P ++ [l', r'], xs ++ [x', y'], ts ++ [t], _, _, _, rfl, ?_, ?_, ?_, ?_, pt.grow el, ?_⟩
        · rw [upd_same, List.append_assoc]; rfl
        · rw [upd_ne nlm.symm, upd_ne nlm.symm]; exact hm4
        · have ej : jf (P ++ [l', r']) (j + 1) = jf P j ++ [j] := by
            rw [jf_succ, jf_app P _ j (by omega), List.getElem?_append_left jl, el]
          rw [ej]
          have e1 : prO (P ++ [l', r']) = fun i => prO (P ++ [l', r']) i := rfl
          have prA : ∀ {ts : List Addr} {js : List Nat}, Prs H3 P ts js → (∀ i ∈ js, i ≤ P.length) → Prs H3 (P ++ [l', r']) ts js := by
            intro ts js h
            induction h with
            | nil => exact fun _ => .nil
            | cons x t ih =>
              intro hj
              refine .cons ?_ (ih fun i hi => hj i (List.mem_cons_of_mem _ hi))
              unfold prO
              rw [cn_app P _ (hj _ List.mem_cons_self)]
              exact x
          refine (prA pr3 fun i hi => ?_).keep tk
          have jfm : ∀ n, ∀ i ∈ jf P n, i < n := by
            intro n
            induction n with
            | zero => intro i hi; cases hi
            | succ n ih =>
              intro i hi
              unfold jf at hi
              rw [List.mem_append] at hi
              rcases hi with hi | hi
              · have := ih i hi; omega
              · split at hi
                · obtain rfl := List.mem_singleton.mp hi; omega
                · cases hi
          rcases List.mem_append.mp hi with hi | hi
          · have := jfm j i hi; omega
          · obtain rfl := List.mem_singleton.mp hi; omega
        · exact VP.snoc2 (vp3.keep tk) (hx3.tupk tk) (hy3.tupk tk)
        · exact fun c o q => by
            have := ne_of_none q nl
            rw [upd_ne this, upd_ne this]; exact sm4 _ _ q
    · have e : ¬ ((j : Int) < (xs.length : Nat)) := fun z => e (decide_eq_true z)
      have jl := pt.le
      obtain rfl : j = P.length := by omega
      obtain ⟨c1, c2, c3⟩ := pt.clo
      exact ⟨_, rfl, kk m P ts H' nmH sm hm' pr c1 c2 c3⟩
end
end Ev
namespace Ev
open PySem L2 PySem.Spec PyProof.Rows
theorem kit_cls' {K : PySem.W.Frag} {t : Value} {C : Addr} (h1 : PySem.W.isClsIn K C = true) (h2 : PySem.W.typeIn K (.ref C) = some (.type "type")) (h3 : PySem.W.subIn K t (.ref C) = some true) : PySem.W.kitCls K t (.ref C) = some true := by
  have h1 : (PySem.W.clsIn K C).isSome = true := h1
  unfold PySem.W.kitCls
  simp only [h1, h2, h3]
  decide
theorem kit_own {K : PySem.W.Frag} {t : Value} {C : Addr} (h1 : PySem.W.isClsIn K C = true) (h2 : PySem.W.typeIn K (.ref C) = some (.type "type")) (h3 : PySem.W.subIn K t (.ref C) = some true) : PySem.W.kitOne K t (.ref C) = some true := by
  unfold PySem.W.kitOne
  split
  · rfl
  · exact kit_cls' h1 h2 h3
theorem kb_gK {K : PySem.W.Frag} {x qual y : Str} {st : Stmt} {f : Addr} {fd : FuncData} (F : Fun K x qual st f fd)
    (h : ∀ (kV doc pm : Value) (an : Option Addr) (cdv ct a : Value), bindArgs (PySem.W.fnOf x qual (defArgs st) (defBody st) (defScope st) .none kV doc pm an cdv ct) ⟨[], [(y, a)]⟩ = pure [(y, a)]) : KBinds K fd [y] [y] gK gK := by
  obtain ⟨oc, od, kV, doc, pm, an, cdv, ct, osl, rfl, lk, hcd⟩ := F.ex
  refine ⟨fun s us ws _ hl => ?_, gK_rel⟩
  obtain ⟨a, rfl, rfl⟩ := gK_len hl
  exact .of_eq (h _ _ _ _ _ _ _)
theorem kb_gG {K : PySem.W.Frag} {x qual : Str} {st : Stmt} {f : Addr} {fd : FuncData} (F : Fun K x qual st f fd)
    (h : ∀ (kV doc pm : Value) (an : Option Addr) (cdv ct a b : Value), bindArgs (PySem.W.fnOf x qual (defArgs st) (defBody st) (defScope st) .none kV doc pm an cdv ct) ⟨[], (["keys", "rule"] : List Str).zip [a, b]⟩ = pure ((["rule", "keys"] : List Str).zip [b, a])) : KBinds K fd ["rule", "keys"] ["keys", "rule"] gG gG := by
  obtain ⟨oc, od, kV, doc, pm, an, cdv, ct, osl, rfl, lk, hcd⟩ := F.ex
  refine ⟨fun s us ws _ hl => ?_, gG_rel⟩
  obtain ⟨a, b, rfl, rfl⟩ := gG_len hl
  exact .of_eq (h _ _ _ _ _ _ _ _)
set_option maxHeartbeats 4000000 in
theorem all_mk {l : PySem.W.OpenLaw} {w : World} {K : PySem.W.Frag} {h : Heap} {mg : Str → Option Value} {f0 f1 f2 f3 f4 f5 f6 f7 f8 f9 f10 f11 f12 f13 f14 f15 f16 f17 f18 f19 f20 f21 f22 f23 f24 f25 f26 f27 f28 f29 f30 f31 f32 f33 f34 f35 f36 Ct Cn CW T70 f70 T73 f73 fa : Addr} {od0 an0 od1 an1 od2 an2 od3 an3 od4 an4 od5 an5 od6 an6 od7 an7 od8 an8 od9 an9 od10 an10 od11 an11 od12 an12 od13 an13 od14 an14 od15 an15 od16 an16 od17 an17 od18 an18 od19 an19 od20 an20 od21 an21 od22 an22 od23 an23 od24 an24 od25 an25 od26 an26 od27 an27 od28 an28 od29 an29 od30 an30 od31 an31 od32 an32 od33 an33 od34 an34 od35 an35 od36 an36 td70 od70 an70 td73 od73 an73 : Option Addr} {sl0 sl1 sl2 sl3 sl4 sl5 sl6 sl7 sl8 sl9 sl10 sl11 sl12 sl13 sl14 sl15 sl16 sl17 sl18 sl19 sl20 sl21 sl22 sl23 sl24 sl25 sl26 sl27 sl28 sl29 sl30 sl31 sl32 sl33 sl34 sl35 sl36 ts70 sl70 ts73 sl73 : Array (Option Value)} {oc0 kV0 dc0 pm0 cd0 ct0 oc1 kV1 dc1 pm1 cd1 ct1 oc2 kV2 dc2 pm2 cd2 ct2 oc3 kV3 dc3 pm3 cd3 ct3 oc4 kV4 dc4 pm4 cd4 ct4 oc5 kV5 dc5 pm5 cd5 ct5 oc6 kV6 dc6 pm6 cd6 ct6 oc7 kV7 dc7 pm7 cd7 ct7 oc8 kV8 dc8 pm8 cd8 ct8 oc9 kV9 dc9 pm9 cd9 ct9 oc10 kV10 dc10 pm10 cd10 ct10 oc11 kV11 dc11 pm11 cd11 ct11 oc12 kV12 dc12 pm12 cd12 ct12 oc13 kV13 dc13 pm13 cd13 ct13 oc14 kV14 dc14 pm14 cd14 ct14 oc15 kV15 dc15 pm15 cd15 ct15 oc16 kV16 dc16 pm16 cd16 ct16 oc17 kV17 dc17 pm17 cd17 ct17 oc18 kV18 dc18 pm18 cd18 ct18 oc19 kV19 dc19 pm19 cd19 ct19 oc20 kV20 dc20 pm20 cd20 ct20 oc21 kV21 dc21 pm21 cd21 ct21 oc22 kV22 dc22 pm22 cd22 ct22 oc23 kV23 dc23 pm23 cd23 ct23 oc24 kV24 dc24 pm24 cd24 ct24 oc25 kV25 dc25 pm25 cd25 ct25 oc26 kV26 dc26 pm26 cd26 ct26 oc27 kV27 dc27 pm27 cd27 ct27 oc28 kV28 dc28 pm28 cd28 ct28 oc29 kV29 dc29 pm29 cd29 ct29 oc30 kV30 dc30 pm30 cd30 ct30 oc31 kV31 dc31 pm31 cd31 ct31 oc32 kV32 dc32 pm32 cd32 ct32 oc33 kV33 dc33 pm33 cd33 ct33 oc34 kV34 dc34 pm34 cd34 ct34 oc35 kV35 dc35 pm35 cd35 ct35 oc36 kV36 dc36 pm36 cd36 ct36 tc70 oc70 kV70 dc70 pm70 cd70 ct70 tc73 oc73 kV73 dc73 pm73 cd73 ct73 : Value} {tt70 tt73 tW tP tT tM tS : Tok} {tn70 tn73 : Nat} (X : K.In h) (G : h.Ns mainGlobals mg) (hfa : mg "law" = some (.ref fa))
    (a0 : PySem.W.nsIn K mainGlobals "is_integer" = some (some (.ref f0)))
    (l0 : K.lookup f0 = some ⟨oc0, od0, .func (PySem.W.fnOf "is_integer" "is_integer" (defArgs sIsInt) (defBody sIsInt) (defScope sIsInt) .none kV0 dc0 pm0 an0 cd0 ct0), sl0⟩)
    (c0 : PySem.W.codeIn K cd0 "is_integer" = true)
    (k0 : PySem.W.keepIn K (.ref f0) = true)
    (a1 : PySem.W.nsIn K mainGlobals "is_within" = some (some (.ref f1)))
    (l1 : K.lookup f1 = some ⟨oc1, od1, .func (PySem.W.fnOf "is_within" "is_within" (defArgs sWithin) (defBody sWithin) (defScope sWithin) .none kV1 dc1 pm1 an1 cd1 ct1), sl1⟩)
    (c1 : PySem.W.codeIn K cd1 "is_within" = true)
    (k1 : PySem.W.keepIn K (.ref f1) = true)
    (a2 : PySem.W.nsIn K mainGlobals "least_beside" = some (some (.ref f2)))
    (l2 : K.lookup f2 = some ⟨oc2, od2, .func (PySem.W.fnOf "least_beside" "least_beside" (defArgs sLeastB) (defBody sLeastB) (defScope sLeastB) .none kV2 dc2 pm2 an2 cd2 ct2), sl2⟩)
    (c2 : PySem.W.codeIn K cd2 "least_beside" = true)
    (k2 : PySem.W.keepIn K (.ref f2) = true)
    (a3 : PySem.W.nsIn K mainGlobals "need_rule" = some (some (.ref f3)))
    (l3 : K.lookup f3 = some ⟨oc3, od3, .func (PySem.W.fnOf "need_rule" "need_rule" (defArgs sNeedR) (defBody sNeedR) (defScope sNeedR) .none kV3 dc3 pm3 an3 cd3 ct3), sl3⟩)
    (c3 : PySem.W.codeIn K cd3 "need_rule" = true)
    (k3 : PySem.W.keepIn K (.ref f3) = true)
    (a4 : PySem.W.nsIn K mainGlobals "is_pair" = some (some (.ref f4)))
    (l4 : K.lookup f4 = some ⟨oc4, od4, .func (PySem.W.fnOf "is_pair" "is_pair" (defArgs sPair) (defBody sPair) (defScope sPair) .none kV4 dc4 pm4 an4 cd4 ct4), sl4⟩)
    (c4 : PySem.W.codeIn K cd4 "is_pair" = true)
    (k4 : PySem.W.keepIn K (.ref f4) = true)
    (a5 : PySem.W.nsIn K mainGlobals "is_times" = some (some (.ref f5)))
    (l5 : K.lookup f5 = some ⟨oc5, od5, .func (PySem.W.fnOf "is_times" "is_times" (defArgs sTimes) (defBody sTimes) (defScope sTimes) .none kV5 dc5 pm5 an5 cd5 ct5), sl5⟩)
    (c5 : PySem.W.codeIn K cd5 "is_times" = true)
    (k5 : PySem.W.keepIn K (.ref f5) = true)
    (a6 : PySem.W.nsIn K mainGlobals "is_plus" = some (some (.ref f6)))
    (l6 : K.lookup f6 = some ⟨oc6, od6, .func (PySem.W.fnOf "is_plus" "is_plus" (defArgs sPlus) (defBody sPlus) (defScope sPlus) .none kV6 dc6 pm6 an6 cd6 ct6), sl6⟩)
    (c6 : PySem.W.codeIn K cd6 "is_plus" = true)
    (k6 : PySem.W.keepIn K (.ref f6) = true)
    (a7 : PySem.W.nsIn K mainGlobals "is_turn" = some (some (.ref f7)))
    (l7 : K.lookup f7 = some ⟨oc7, od7, .func (PySem.W.fnOf "is_turn" "is_turn" (defArgs sTurn) (defBody sTurn) (defScope sTurn) .none kV7 dc7 pm7 an7 cd7 ct7), sl7⟩)
    (c7 : PySem.W.codeIn K cd7 "is_turn" = true)
    (k7 : PySem.W.keepIn K (.ref f7) = true)
    (a8 : PySem.W.nsIn K mainGlobals "need_times" = some (some (.ref f8)))
    (l8 : K.lookup f8 = some ⟨oc8, od8, .func (PySem.W.fnOf "need_times" "need_times" (defArgs sNeedT) (defBody sNeedT) (defScope sNeedT) .none kV8 dc8 pm8 an8 cd8 ct8), sl8⟩)
    (c8 : PySem.W.codeIn K cd8 "need_times" = true)
    (k8 : PySem.W.keepIn K (.ref f8) = true)
    (a9 : PySem.W.nsIn K mainGlobals "has_halves" = some (some (.ref f9)))
    (l9 : K.lookup f9 = some ⟨oc9, od9, .func (PySem.W.fnOf "has_halves" "has_halves" (defArgs sHalves) (defBody sHalves) (defScope sHalves) .none kV9 dc9 pm9 an9 cd9 ct9), sl9⟩)
    (c9 : PySem.W.codeIn K cd9 "has_halves" = true)
    (k9 : PySem.W.keepIn K (.ref f9) = true)
    (a10 : PySem.W.nsIn K mainGlobals "need_halves" = some (some (.ref f10)))
    (l10 : K.lookup f10 = some ⟨oc10, od10, .func (PySem.W.fnOf "need_halves" "need_halves" (defArgs sNeedH) (defBody sNeedH) (defScope sNeedH) .none kV10 dc10 pm10 an10 cd10 ct10), sl10⟩)
    (c10 : PySem.W.codeIn K cd10 "need_halves" = true)
    (k10 : PySem.W.keepIn K (.ref f10) = true)
    (a11 : PySem.W.nsIn K mainGlobals "greatest_height" = some (some (.ref f11)))
    (l11 : K.lookup f11 = some ⟨oc11, od11, .func (PySem.W.fnOf "greatest_height" "greatest_height" (defArgs sGH) (defBody sGH) (defScope sGH) .none kV11 dc11 pm11 an11 cd11 ct11), sl11⟩)
    (c11 : PySem.W.codeIn K cd11 "greatest_height" = true)
    (k11 : PySem.W.keepIn K (.ref f11) = true)
    (a12 : PySem.W.nsIn K mainGlobals "least_height" = some (some (.ref f12)))
    (l12 : K.lookup f12 = some ⟨oc12, od12, .func (PySem.W.fnOf "least_height" "least_height" (defArgs sLH) (defBody sLH) (defScope sLH) .none kV12 dc12 pm12 an12 cd12 ct12), sl12⟩)
    (c12 : PySem.W.codeIn K cd12 "least_height" = true)
    (k12 : PySem.W.keepIn K (.ref f12) = true)
    (a13 : PySem.W.nsIn K mainGlobals "need_number" = some (some (.ref f13)))
    (l13 : K.lookup f13 = some ⟨oc13, od13, .func (PySem.W.fnOf "need_number" "need_number" (defArgs sNeedN) (defBody sNeedN) (defScope sNeedN) .none kV13 dc13 pm13 an13 cd13 ct13), sl13⟩)
    (c13 : PySem.W.codeIn K cd13 "need_number" = true)
    (k13 : PySem.W.keepIn K (.ref f13) = true)
    (a14 : PySem.W.nsIn K mainGlobals "least_weights" = some (some (.ref f14)))
    (l14 : K.lookup f14 = some ⟨oc14, od14, .func (PySem.W.fnOf "least_weights" "least_weights" (defArgs sLW) (defBody sLW) (defScope sLW) .none kV14 dc14 pm14 an14 cd14 ct14), sl14⟩)
    (c14 : PySem.W.codeIn K cd14 "least_weights" = true)
    (k14 : PySem.W.keepIn K (.ref f14) = true)
    (a15 : PySem.W.nsIn K mainGlobals "are_fair" = some (some (.ref f15)))
    (l15 : K.lookup f15 = some ⟨oc15, od15, .func (PySem.W.fnOf "are_fair" "are_fair" (defArgs sFair) (defBody sFair) (defScope sFair) .none kV15 dc15 pm15 an15 cd15 ct15), sl15⟩)
    (c15 : PySem.W.codeIn K cd15 "are_fair" = true)
    (k15 : PySem.W.keepIn K (.ref f15) = true)
    (a16 : PySem.W.nsIn K mainGlobals "joints_of" = some (some (.ref f16)))
    (l16 : K.lookup f16 = some ⟨oc16, od16, .func (PySem.W.fnOf "joints_of" "joints_of" (defArgs sJointsOf) (defBody sJointsOf) (defScope sJointsOf) .none kV16 dc16 pm16 an16 cd16 ct16), sl16⟩)
    (c16 : PySem.W.codeIn K cd16 "joints_of" = true)
    (k16 : PySem.W.keepIn K (.ref f16) = true)
    (a17 : PySem.W.nsIn K mainGlobals "are_joints_fair" = some (some (.ref f17)))
    (l17 : K.lookup f17 = some ⟨oc17, od17, .func (PySem.W.fnOf "are_joints_fair" "are_joints_fair" (defArgs sAreJointsFair) (defBody sAreJointsFair) (defScope sAreJointsFair) .none kV17 dc17 pm17 an17 cd17 ct17), sl17⟩)
    (c17 : PySem.W.codeIn K cd17 "are_joints_fair" = true)
    (k17 : PySem.W.keepIn K (.ref f17) = true)
    (a18 : PySem.W.nsIn K mainGlobals "weights_of" = some (some (.ref f18)))
    (l18 : K.lookup f18 = some ⟨oc18, od18, .func (PySem.W.fnOf "weights_of" "weights_of" (defArgs sWeightsOf) (defBody sWeightsOf) (defScope sWeightsOf) .none kV18 dc18 pm18 an18 cd18 ct18), sl18⟩)
    (c18 : PySem.W.codeIn K cd18 "weights_of" = true)
    (k18 : PySem.W.keepIn K (.ref f18) = true)
    (a19 : PySem.W.nsIn K mainGlobals "halves_of" = some (some (.ref f19)))
    (l19 : K.lookup f19 = some ⟨oc19, od19, .func (PySem.W.fnOf "halves_of" "halves_of" (defArgs sHalv) (defBody sHalv) (defScope sHalv) .none kV19 dc19 pm19 an19 cd19 ct19), sl19⟩)
    (c19 : PySem.W.codeIn K cd19 "halves_of" = true)
    (k19 : PySem.W.keepIn K (.ref f19) = true)
    (a20 : PySem.W.nsIn K mainGlobals "halves_shape" = some (some (.ref f20)))
    (l20 : K.lookup f20 = some ⟨oc20, od20, .func (PySem.W.fnOf "halves_shape" "halves_shape" (defArgs sHalvS) (defBody sHalvS) (defScope sHalvS) .none kV20 dc20 pm20 an20 cd20 ct20), sl20⟩)
    (c20 : PySem.W.codeIn K cd20 "halves_shape" = true)
    (k20 : PySem.W.keepIn K (.ref f20) = true)
    (a21 : PySem.W.nsIn K mainGlobals "tall_shape" = some (some (.ref f21)))
    (l21 : K.lookup f21 = some ⟨oc21, od21, .func (PySem.W.fnOf "tall_shape" "tall_shape" (defArgs sTall) (defBody sTall) (defScope sTall) .none kV21 dc21 pm21 an21 cd21 ct21), sl21⟩)
    (c21 : PySem.W.codeIn K cd21 "tall_shape" = true)
    (k21 : PySem.W.keepIn K (.ref f21) = true)
    (a22 : PySem.W.nsIn K mainGlobals "keys_of" = some (some (.ref f22)))
    (l22 : K.lookup f22 = some ⟨oc22, od22, .func (PySem.W.fnOf "keys_of" "keys_of" (defArgs sKeysOf) (defBody sKeysOf) (defScope sKeysOf) .none kV22 dc22 pm22 an22 cd22 ct22), sl22⟩)
    (c22 : PySem.W.codeIn K cd22 "keys_of" = true)
    (k22 : PySem.W.keepIn K (.ref f22) = true)
    (a23 : PySem.W.nsIn K mainGlobals "height_of" = some (some (.ref f23)))
    (l23 : K.lookup f23 = some ⟨oc23, od23, .func (PySem.W.fnOf "height_of" "height_of" (defArgs sHeightOf) (defBody sHeightOf) (defScope sHeightOf) .none kV23 dc23 pm23 an23 cd23 ct23), sl23⟩)
    (c23 : PySem.W.codeIn K cd23 "height_of" = true)
    (k23 : PySem.W.keepIn K (.ref f23) = true)
    (a24 : PySem.W.nsIn K mainGlobals "is_fair" = some (some (.ref f24)))
    (l24 : K.lookup f24 = some ⟨oc24, od24, .func (PySem.W.fnOf "is_fair" "is_fair" (defArgs sIsFair) (defBody sIsFair) (defScope sIsFair) .none kV24 dc24 pm24 an24 cd24 ct24), sl24⟩)
    (c24 : PySem.W.codeIn K cd24 "is_fair" = true)
    (k24 : PySem.W.keepIn K (.ref f24) = true)
    (a25 : PySem.W.nsIn K mainGlobals "need_joints" = some (some (.ref f25)))
    (l25 : K.lookup f25 = some ⟨oc25, od25, .func (PySem.W.fnOf "need_joints" "need_joints" (defArgs sNeedJoints) (defBody sNeedJoints) (defScope sNeedJoints) .none kV25 dc25 pm25 an25 cd25 ct25), sl25⟩)
    (c25 : PySem.W.codeIn K cd25 "need_joints" = true)
    (k25 : PySem.W.keepIn K (.ref f25) = true)
    (a26 : PySem.W.nsIn K mainGlobals "_law_pen" = some (some (.ref f26)))
    (l26 : K.lookup f26 = some ⟨oc26, od26, .func (PySem.W.fnOf "_law_pen" "_law_pen" (defArgs sPen) (defBody sPen) (defScope sPen) .none kV26 dc26 pm26 an26 cd26 ct26), sl26⟩)
    (c26 : PySem.W.codeIn K cd26 "_law_pen" = true)
    (k26 : PySem.W.keepIn K (.ref f26) = true)
    (a27 : PySem.W.nsIn K mainGlobals "_law_draw" = some (some (.ref f27)))
    (l27 : K.lookup f27 = some ⟨oc27, od27, .func (PySem.W.fnOf "_law_draw" "_law_draw" (defArgs sDraw) (defBody sDraw) (defScope sDraw) .none kV27 dc27 pm27 an27 cd27 ct27), sl27⟩)
    (c27 : PySem.W.codeIn K cd27 "_law_draw" = true)
    (k27 : PySem.W.keepIn K (.ref f27) = true)
    (a28 : PySem.W.nsIn K mainGlobals "_law_pick" = some (some (.ref f28)))
    (l28 : K.lookup f28 = some ⟨oc28, od28, .func (PySem.W.fnOf "_law_pick" "_law_pick" (defArgs sPick) (defBody sPick) (defScope sPick) .none kV28 dc28 pm28 an28 cd28 ct28), sl28⟩)
    (c28 : PySem.W.codeIn K cd28 "_law_pick" = true)
    (k28 : PySem.W.keepIn K (.ref f28) = true)
    (a29 : PySem.W.nsIn K mainGlobals "_law_numbers" = some (some (.ref f29)))
    (l29 : K.lookup f29 = some ⟨oc29, od29, .func (PySem.W.fnOf "_law_numbers" "_law_numbers" (defArgs sNums) (defBody sNums) (defScope sNums) .none kV29 dc29 pm29 an29 cd29 ct29), sl29⟩)
    (c29 : PySem.W.codeIn K cd29 "_law_numbers" = true)
    (k29 : PySem.W.keepIn K (.ref f29) = true)
    (a30 : PySem.W.nsIn K mainGlobals "_law_rule" = some (some (.ref f30)))
    (l30 : K.lookup f30 = some ⟨oc30, od30, .func (PySem.W.fnOf "_law_rule" "_law_rule" (defArgs sRule) (defBody sRule) (defScope sRule) .none kV30 dc30 pm30 an30 cd30 ct30), sl30⟩)
    (c30 : PySem.W.codeIn K cd30 "_law_rule" = true)
    (k30 : PySem.W.keepIn K (.ref f30) = true)
    (a31 : PySem.W.nsIn K mainGlobals "_law_top" = some (some (.ref f31)))
    (l31 : K.lookup f31 = some ⟨oc31, od31, .func (PySem.W.fnOf "_law_top" "_law_top" (defArgs sTop) (defBody sTop) (defScope sTop) .none kV31 dc31 pm31 an31 cd31 ct31), sl31⟩)
    (c31 : PySem.W.codeIn K cd31 "_law_top" = true)
    (k31 : PySem.W.keepIn K (.ref f31) = true)
    (a32 : PySem.W.nsIn K mainGlobals "_law_least" = some (some (.ref f32)))
    (l32 : K.lookup f32 = some ⟨oc32, od32, .func (PySem.W.fnOf "_law_least" "_law_least" (defArgs sLeast) (defBody sLeast) (defScope sLeast) .none kV32 dc32 pm32 an32 cd32 ct32), sl32⟩)
    (c32 : PySem.W.codeIn K cd32 "_law_least" = true)
    (k32 : PySem.W.keepIn K (.ref f32) = true)
    (a33 : PySem.W.nsIn K mainGlobals "_law_halves" = some (some (.ref f33)))
    (l33 : K.lookup f33 = some ⟨oc33, od33, .func (PySem.W.fnOf "_law_halves" "_law_halves" (defArgs sLHalv) (defBody sLHalv) (defScope sLHalv) .none kV33 dc33 pm33 an33 cd33 ct33), sl33⟩)
    (c33 : PySem.W.codeIn K cd33 "_law_halves" = true)
    (k33 : PySem.W.keepIn K (.ref f33) = true)
    (a34 : PySem.W.nsIn K mainGlobals "_law_tall" = some (some (.ref f34)))
    (l34 : K.lookup f34 = some ⟨oc34, od34, .func (PySem.W.fnOf "_law_tall" "_law_tall" (defArgs sLTall) (defBody sLTall) (defScope sLTall) .none kV34 dc34 pm34 an34 cd34 ct34), sl34⟩)
    (c34 : PySem.W.codeIn K cd34 "_law_tall" = true)
    (k34 : PySem.W.keepIn K (.ref f34) = true)
    (a35 : PySem.W.nsIn K mainGlobals "_law_right" = some (some (.ref f35)))
    (l35 : K.lookup f35 = some ⟨oc35, od35, .func (PySem.W.fnOf "_law_right" "_law_right" (defArgs sRight) (defBody sRight) (defScope sRight) .none kV35 dc35 pm35 an35 cd35 ct35), sl35⟩)
    (c35 : PySem.W.codeIn K cd35 "_law_right" = true)
    (k35 : PySem.W.keepIn K (.ref f35) = true)
    (a36 : PySem.W.nsIn K mainGlobals "law" = some (some (.ref f36)))
    (l36 : K.lookup f36 = some ⟨oc36, od36, .func (PySem.W.fnOf "law" "law" (defArgs sLaw) (defBody sLaw) (defScope sLaw) .none kV36 dc36 pm36 an36 cd36 ct36), sl36⟩)
    (c36 : PySem.W.codeIn K cd36 "law" = true)
    (k36 : PySem.W.keepIn K (.ref f36) = true)
    (aCt : PySem.W.nsIn K mainGlobals "TryRule" = some (some (.ref Ct)))
    (aCn : PySem.W.nsIn K mainGlobals "TurnRule" = some (some (.ref Cn)))
    (aCW : PySem.W.nsIn K mainGlobals "WeightRule" = some (some (.ref CW)))
    (pgCt : PySem.W.plainGet K Ct Str.empty = true)
    (hdCt : PySem.W.hasDictIn K Ct = true)
    (poCt : PySem.W.plainOver K Ct = true)
    (saCt : PySem.W.findIn K (.ref Ct) "__setattr__" = some (some (.builtin "object.__setattr__")))
    (mkCt : PySem.W.makesIn K Ct = true)
    (kcCt : PySem.W.keepIn K (.ref Ct) = true)
    (n0Ct : PySem.W.findIn K (.ref Ct) "times" = some none)
    (n1Ct : PySem.W.findIn K (.ref Ct) "plus" = some none)
    (n2Ct : PySem.W.findIn K (.ref Ct) "turn" = some none)
    (n3Ct : PySem.W.findIn K (.ref Ct) "turn_plus" = some none)
    (hcCt : PySem.W.findIn K (.ref Ct) "__class__" = some (some (.builtin "object.__class__")))
    (moCt : PySem.W.mroIn K Ct (.type "object") = some true)
    (suCt : PySem.W.subIn K (.ref Ct) (.ref CW) = some true)
    (pgCn : PySem.W.plainGet K Cn Str.empty = true)
    (hdCn : PySem.W.hasDictIn K Cn = true)
    (poCn : PySem.W.plainOver K Cn = true)
    (saCn : PySem.W.findIn K (.ref Cn) "__setattr__" = some (some (.builtin "object.__setattr__")))
    (mkCn : PySem.W.makesIn K Cn = true)
    (kcCn : PySem.W.keepIn K (.ref Cn) = true)
    (n0Cn : PySem.W.findIn K (.ref Cn) "times" = some none)
    (n1Cn : PySem.W.findIn K (.ref Cn) "plus" = some none)
    (n2Cn : PySem.W.findIn K (.ref Cn) "turn" = some none)
    (n3Cn : PySem.W.findIn K (.ref Cn) "turn_plus" = some none)
    (hcCn : PySem.W.findIn K (.ref Cn) "__class__" = some (some (.builtin "object.__class__")))
    (moCn : PySem.W.mroIn K Cn (.type "object") = some true)
    (suCn : PySem.W.subIn K (.ref Cn) (.ref CW) = some true)
    (icCW : PySem.W.isClsIn K CW = true)
    (ttCW : PySem.W.typeIn K (.ref CW) = some (.type "type"))
    (ikn : PySem.W.specialIn K (.builtin "object.__class__") "__get__" = some (some (.builtin "getset_descriptor.__get__")))
    (ikt : PySem.W.takesIn K (.builtin "object.__class__") = some true)
    (m70 : PySem.W.findIn K (.ref Ct) "__init__" = some (some (.ref f70)))
    (i70 : PySem.W.isFn K (.ref f70) = true)
    (l70 : K.lookup f70 = some ⟨oc70, od70, .func (PySem.W.fnOf "__init__" "TryRule.__init__" (defArgs sTryInit) (defBody sTryInit) (defScope sTryInit) (.ref T70) kV70 dc70 pm70 an70 cd70 ct70), sl70⟩)
    (c70 : PySem.W.codeIn K cd70 "TryRule.__init__" = true)
    (k70 : PySem.W.keepIn K (.ref f70) = true)
    (t70 : K.lookup T70 = some ⟨tc70, td70, .seq #[Value.int 0 tt70] tn70, ts70⟩)
    (m73 : PySem.W.findIn K (.ref Cn) "__init__" = some (some (.ref f73)))
    (i73 : PySem.W.isFn K (.ref f73) = true)
    (l73 : K.lookup f73 = some ⟨oc73, od73, .func (PySem.W.fnOf "__init__" "TurnRule.__init__" (defArgs sTurnInit) (defBody sTurnInit) (defScope sTurnInit) (.ref T73) kV73 dc73 pm73 an73 cd73 ct73), sl73⟩)
    (c73 : PySem.W.codeIn K cd73 "TurnRule.__init__" = true)
    (k73 : PySem.W.keepIn K (.ref f73) = true)
    (t73 : K.lookup T73 = some ⟨tc73, td73, .seq #[Value.int 0 tt73] tn73, ts73⟩)
    (rdW : PySem.W.readsIn K CW (.type "type") = true)
    (gaW : PySem.W.specialIn K (.ref CW) "__getattribute__" = some (some (.builtin "type.__getattribute__")))
    (cvW : PySem.W.findCls K (.ref CW) (.type "type") "MOST" = some (.val (.int 6 tW)))
    (hgP : PySem.W.nsIn K mainGlobals "MOST_PLUS" = some (some (.int 6 tP)))
    (hgT : PySem.W.nsIn K mainGlobals "MOST_TURN" = some (some (.int 8 tT)))
    (hgK : PySem.W.nsIn K mainGlobals "MOST_KEYS" = some (some (.int (10 ^ 30) tM)))
    (hgS : PySem.W.nsIn K mainGlobals "MOST_SHAPE_KEYS" = some (some (.int 2000 tS)))
    (zint : PySem.W.nsIn K mainGlobals "int" = some none)
    (zlen : PySem.W.nsIn K mainGlobals "len" = some none)
    (zabs : PySem.W.nsIn K mainGlobals "abs" = some none)
    (zlist : PySem.W.nsIn K mainGlobals "list" = some none)
    (zmin : PySem.W.nsIn K mainGlobals "min" = some none)
    (zmax : PySem.W.nsIn K mainGlobals "max" = some none)
    (zisinstance : PySem.W.nsIn K mainGlobals "isinstance" = some none)
    (zbool : PySem.W.nsIn K mainGlobals "bool" = some none)
    (ztuple : PySem.W.nsIn K mainGlobals "tuple" = some none)
    (zall : PySem.W.nsIn K mainGlobals "all" = some none)
    (zrange : PySem.W.nsIn K mainGlobals "range" = some none)
    (zrepr : PySem.W.nsIn K mainGlobals "repr" = some none) :
    ∃ fd : FuncData, (∀ (s : Shared) (v : Value), BindsTo s fd ⟨[v], []⟩ [("_law_script", v)]) ∧ ∀ base : Heap, K.In base → base.Ns mainGlobals mg → FnOk l.prog w K mg base CX0 62 fa fd ["_law_script"] (spLaw K) := by
  have e := hfa.symm.trans (PySem.W.mg_of X G a36)
  cases e
  have F0 := fun_mk (st := sIsInt) l0 c0 k0
  have b0 := F0.binds (ps := ["value"]) fun _ _ _ _ _ _ us hl => match us, hl with | [_], _ => rfl
  have F1 := fun_mk (st := sWithin) l1 c1 k1
  have b1 := F1.binds (ps := ["value", "least", "most"]) fun _ _ _ _ _ _ us hl => match us, hl with | [_, _, _], _ => rfl
  have F2 := fun_mk (st := sLeastB) l2 c2 k2
  have b2 := F2.binds (ps := ["rule", "y"]) fun _ _ _ _ _ _ us hl => match us, hl with | [_, _], _ => rfl
  have F3 := fun_mk (st := sNeedR) l3 c3 k3
  have b3 := F3.binds (ps := ["value"]) fun _ _ _ _ _ _ us hl => match us, hl with | [_], _ => rfl
  have F4 := fun_mk (st := sPair) l4 c4 k4
  have b4 := F4.binds (ps := ["value", "most"]) fun _ _ _ _ _ _ us hl => match us, hl with | [_, _], _ => rfl
  have F5 := fun_mk (st := sTimes) l5 c5 k5
  have b5 := F5.binds (ps := ["value"]) fun _ _ _ _ _ _ us hl => match us, hl with | [_], _ => rfl
  have F6 := fun_mk (st := sPlus) l6 c6 k6
  have b6 := F6.binds (ps := ["value"]) fun _ _ _ _ _ _ us hl => match us, hl with | [_], _ => rfl
  have F7 := fun_mk (st := sTurn) l7 c7 k7
  have b7 := F7.binds (ps := ["value"]) fun _ _ _ _ _ _ us hl => match us, hl with | [_], _ => rfl
  have F8 := fun_mk (st := sNeedT) l8 c8 k8
  have b8 := F8.binds (ps := ["times", "plus"]) fun _ _ _ _ _ _ us hl => match us, hl with | [_, _], _ => rfl
  have F9 := fun_mk (st := sHalves) l9 c9 k9
  have b9 := F9.binds (ps := ["times", "plus"]) fun _ _ _ _ _ _ us hl => match us, hl with | [_, _], _ => rfl
  have F10 := fun_mk (st := sNeedH) l10 c10 k10
  have b10 := F10.binds (ps := ["times", "plus"]) fun _ _ _ _ _ _ us hl => match us, hl with | [_, _], _ => rfl
  have F11 := fun_mk (st := sGH) l11 c11 k11
  have b11 := F11.binds (ps := ["rule", "keys"]) fun _ _ _ _ _ _ us hl => match us, hl with | [_, _], _ => rfl
  have F12 := fun_mk (st := sLH) l12 c12 k12
  have b12 := F12.binds (ps := ["keys"]) fun _ _ _ _ _ _ us hl => match us, hl with | [_], _ => rfl
  have F13 := fun_mk (st := sNeedN) l13 c13 k13
  have b13 := F13.binds (ps := ["value", "most"]) fun _ _ _ _ _ _ us hl => match us, hl with | [_, _], _ => rfl
  have F14 := fun_mk (st := sLW) l14 c14 k14
  have b14 := F14.binds (ps := ["rule", "most"]) fun _ _ _ _ _ _ us hl => match us, hl with | [_, _], _ => rfl
  have F15 := fun_mk (st := sFair) l15 c15 k15
  have b15 := F15.binds (ps := ["rule", "x", "y"]) fun _ _ _ _ _ _ us hl => match us, hl with | [_, _, _], _ => rfl
  have F16 := fun_mk (st := sJointsOf) l16 c16 k16
  have b16 := F16.binds (ps := ["shape"]) fun _ _ _ _ _ _ us hl => match us, hl with | [_], _ => rfl
  have F17 := fun_mk (st := sAreJointsFair) l17 c17 k17
  have b17 := F17.binds (ps := ["rule", "joints", "weights"]) fun _ _ _ _ _ _ us hl => match us, hl with | [_, _, _], _ => rfl
  have F18 := fun_mk (st := sWeightsOf) l18 c18 k18
  have b18 := F18.binds (ps := ["joints"]) fun _ _ _ _ _ _ us hl => match us, hl with | [_], _ => rfl
  have F19 := fun_mk (st := sHalv) l19 c19 k19
  have b19 := F19.binds (ps := ["many"]) fun _ _ _ _ _ _ us hl => match us, hl with | [_], _ => rfl
  have F20 := fun_mk (st := sHalvS) l20 c20 k20
  have b20 := F20.binds (ps := ["keys"]) fun _ _ _ _ _ _ us hl => match us, hl with | [_], _ => rfl
  have F21 := fun_mk (st := sTall) l21 c21 k21
  have b21 := F21.binds (ps := ["rule", "keys"]) fun _ _ _ _ _ _ us hl => match us, hl with | [_, _], _ => rfl
  have F22 := fun_mk (st := sKeysOf) l22 c22 k22
  have b22 := F22.binds (ps := ["shape"]) fun _ _ _ _ _ _ us hl => match us, hl with | [_], _ => rfl
  have F23 := fun_mk (st := sHeightOf) l23 c23 k23
  have b23 := F23.binds (ps := ["shape"]) fun _ _ _ _ _ _ us hl => match us, hl with | [_], _ => rfl
  have F24 := fun_mk (st := sIsFair) l24 c24 k24
  have b24 := F24.binds (ps := ["rule", "shape"]) fun _ _ _ _ _ _ us hl => match us, hl with | [_, _], _ => rfl
  have F25 := fun_mk (st := sNeedJoints) l25 c25 k25
  have b25 := F25.binds (ps := ["shape"]) fun _ _ _ _ _ _ us hl => match us, hl with | [_], _ => rfl
  have F26 := fun_mk (st := sPen) l26 c26 k26
  have b26 := F26.binds (ps := ["_law_script"]) fun _ _ _ _ _ _ us hl => match us, hl with | [_], _ => rfl
  have F27 := fun_mk (st := sDraw) l27 c27 k27
  have b27 := F27.binds (ps := ["_law_pen_here", "_law_many"]) fun _ _ _ _ _ _ us hl => match us, hl with | [_, _], _ => rfl
  have F28 := fun_mk (st := sPick) l28 c28 k28
  have b28 := F28.binds (ps := ["_law_pen_here", "_law_some"]) fun _ _ _ _ _ _ us hl => match us, hl with | [_, _], _ => rfl
  have F29 := fun_mk (st := sNums) l29 c29 k29
  have b29 := F29.binds (ps := ["_law_pen_here"]) fun _ _ _ _ _ _ us hl => match us, hl with | [_], _ => rfl
  have F30 := fun_mk (st := sRule) l30 c30 k30
  have b30 := F30.binds (ps := ["_law_some", "_law_is_turn"]) fun _ _ _ _ _ _ us hl => match us, hl with | [_, _], _ => rfl
  have F31 := fun_mk (st := sTop) l31 c31 k31
  have b31 := F31.binds (ps := ["_law_some", "_law_x"]) fun _ _ _ _ _ _ us hl => match us, hl with | [_, _], _ => rfl
  have F32 := fun_mk (st := sLeast) l32 c32 k32
  have b32 := F32.binds (ps := ["_law_some", "_law_y"]) fun _ _ _ _ _ _ us hl => match us, hl with | [_, _], _ => rfl
  have F33 := fun_mk (st := sLHalv) l33 c33 k33
  have b33 := F33.binds (ps := ["_law_many"]) fun _ _ _ _ _ _ us hl => match us, hl with | [_], _ => rfl
  have F34 := fun_mk (st := sLTall) l34 c34 k34
  have b34 := F34.binds (ps := ["_law_some", "_law_weight"]) fun _ _ _ _ _ _ us hl => match us, hl with | [_, _], _ => rfl
  have F35 := fun_mk (st := sRight) l35 c35 k35
  have b35 := F35.binds (ps := ["_law_pen_here", "_law_many"]) fun _ _ _ _ _ _ us hl => match us, hl with | [_, _], _ => rfl
  have F36 := fun_mk (st := sLaw) l36 c36 k36
  have b36 := F36.binds (ps := ["_law_script"]) fun _ _ _ _ _ _ us hl => match us, hl with | [_], _ => rfl
  have T : Blt mg := ⟨PySem.W.mg_none_of X G zint, PySem.W.mg_none_of X G zlen, PySem.W.mg_none_of X G zabs, PySem.W.mg_none_of X G zlist, PySem.W.mg_none_of X G zmin, PySem.W.mg_none_of X G zmax, PySem.W.mg_none_of X G zisinstance, PySem.W.mg_none_of X G zbool, PySem.W.mg_none_of X G ztuple, PySem.W.mg_none_of X G zall, PySem.W.mg_none_of X G zrange, PySem.W.mg_none_of X G zrepr⟩
  have RT : RCls K Ct := ⟨⟨pgCt, hdCt, poCt, saCt⟩, n0Ct, n1Ct, n2Ct, n3Ct⟩
  have RN : RCls K Cn := ⟨⟨pgCn, hdCn, poCn, saCn⟩, n0Cn, n1Cn, n2Cn, n3Cn⟩
  have ik : InsK K := ⟨ikn, ikt⟩
  have KT : RK K Ct CW := ⟨RT, hcCt, moCt, kit_own icCW ttCW suCt⟩
  have KN : RK K Cn CW := ⟨RN, hcCn, moCn, kit_own icCW ttCW suCn⟩
  have D70 : FunD K "__init__" "TryRule.__init__" (defArgs sTryInit) (defBody sTryInit) (defScope sTryInit) [.int 0] [] f70 _ := ⟨⟨_, _, _, _, _, _, _, _, _, _, rfl, l70, c70, .inr ⟨by simp, T70, _, [Value.int 0 tt70], tn70, rfl, t70, rfl, .cons ⟨_, rfl⟩ .nil⟩, .inl rfl⟩, k70⟩
  have D73 : FunD K "__init__" "TurnRule.__init__" (defArgs sTurnInit) (defBody sTurnInit) (defScope sTurnInit) [.int 0] [] f73 _ := ⟨⟨_, _, _, _, _, _, _, _, _, _, rfl, l73, c73, .inr ⟨by simp, T73, _, [Value.int 0 tt73], tn73, rfl, t73, rfl, .cons ⟨_, rfl⟩ .nil⟩, .inl rfl⟩, k73⟩
  obtain ⟨ds70, v70, b70⟩ := FunD.binds1 (ps := ["self", "times", "plus"]) D70 3 1 (by simp) rfl (fun _ _ _ _ _ _ _ us its h1 h2 => match us, its, h1, h2 with | [_, _, _], [_], _, _ => ⟨_, rfl, rfl⟩)
  cases v70
  obtain ⟨ds71, v71, b71⟩ := FunD.binds1 (ps := ["self", "times", "plus"]) D70 2 0 (by simp) rfl (fun _ _ _ _ _ _ _ us its h1 h2 => match us, its, h1, h2 with | [_, _], [_], _, _ => ⟨_, rfl, rfl⟩)
  obtain ⟨its73, b73⟩ := FunD.kbindsD (ps := ["self", "times", "plus", "turn", "turn_plus"]) D73 3 ["turn", "turn_plus"] (fun us _ ws => us ++ ws) (by simp) (fun r1 _ r2 => r1.append r2)
    (fun _ _ _ _ _ _ _ us its ws h1 h2 h3 => match us, its, ws, h1, h2, h3 with | [_, _, _], [_], [_, _], _, _, _ => ⟨_, rfl, rfl⟩)
  have kbG := kb_gG (x := "tall_shape") F21 (fun _ _ _ _ _ _ _ _ => rfl)
  have kbL := kb_gK (y := "keys") F20 (fun _ _ _ _ _ _ _ => rfl)
  refine ⟨PySem.W.fnOf "law" "law" (defArgs sLaw) (defBody sLaw) (defScope sLaw) .none kV36 dc36 pm36 an36 cd36 ct36, fun s v => .of_eq rfl, fun base _ _ => ?_⟩
  have d0 : Df l.prog w K mg base 1 "is_integer" ["value"] _ := ⟨f0, _, ok_isInt F0 T, PySem.W.mg_of X G a0, F0.kp, b0⟩
  obtain ⟨_, _, GI, gI, kI, bI⟩ := d0.ex
  have d1 : Df l.prog w K mg base 2 "is_within" ["value", "least", "most"] _ := ⟨f1, _, ok_within F1 T GI gI kI bI, PySem.W.mg_of X G a1, F1.kp, b1⟩
  have d2 : Df l.prog w K mg base 1 "least_beside" ["rule", "y"] _ := ⟨f2, _, ok_leastB F2 T, PySem.W.mg_of X G a2, F2.kp, b2⟩
  have d3 : Df l.prog w K mg base 1 "need_rule" ["value"] _ := ⟨f3, _, ok_needR F3 T (PySem.W.mg_of X G aCW) KT KN ik, PySem.W.mg_of X G a3, F3.kp, b3⟩
  have d4 : Df l.prog w K mg base 3 "is_pair" ["value", "most"] _ := ⟨f4, _, ok_pair F4 T d1, PySem.W.mg_of X G a4, F4.kp, b4⟩
  have d5 : Df l.prog w K mg base 4 "is_times" ["value"] _ := ⟨f5, _, ok_times F5 d4 (PySem.W.mg_of X G aCW) ⟨rdW, gaW⟩ ⟨cvW, ⟨_, rfl⟩⟩, PySem.W.mg_of X G a5, F5.kp, b5⟩
  have d6 : Df l.prog w K mg base 3 "is_plus" ["value"] _ := ⟨f6, _, ok_plus F6 d1 (PySem.W.mg_of X G hgP), PySem.W.mg_of X G a6, F6.kp, b6⟩
  have d7 : Df l.prog w K mg base 4 "is_turn" ["value"] _ := ⟨f7, _, ok_turn F7 d4 (PySem.W.mg_of X G hgT), PySem.W.mg_of X G a7, F7.kp, b7⟩
  have d8 : Df l.prog w K mg base 5 "need_times" ["times", "plus"] _ := ⟨f8, _, ok_needT F8 d5 d6, PySem.W.mg_of X G a8, F8.kp, b8⟩
  have d9 : Df l.prog w K mg base 1 "has_halves" ["times", "plus"] _ := ⟨f9, _, ok_halves F9, PySem.W.mg_of X G a9, F9.kp, b9⟩
  have d10 : Df l.prog w K mg base 2 "need_halves" ["times", "plus"] _ := ⟨f10, _, ok_needH F10 d9, PySem.W.mg_of X G a10, F10.kp, b10⟩
  have d13 : Df l.prog w K mg base 3 "need_number" ["value", "most"] _ := ⟨f13, _, ok_needN F13 d1, PySem.W.mg_of X G a13, F13.kp, b13⟩
  have d14 : Df l.prog w K mg base 2 "least_weights" ["rule", "most"] _ := ⟨f14, _, ok_lw F14 d2 RT RN, PySem.W.mg_of X G a14, F14.kp, b14⟩
  have d11 : Df l.prog w K mg base 4 "greatest_height" ["rule", "keys"] _ := ⟨f11, _, ok_gh F11 T d3 d13 d14 (PySem.W.mg_of X G hgK), PySem.W.mg_of X G a11, F11.kp, b11⟩
  have d12 : Df l.prog w K mg base 4 "least_height" ["keys"] _ := ⟨f12, _, ok_lh F12 d13 (PySem.W.mg_of X G hgK), PySem.W.mg_of X G a12, F12.kp, b12⟩
  have d15 : Df l.prog w K mg base 1 "are_fair" ["rule", "x", "y"] _ := ⟨f15, _, ok_fair F15, PySem.W.mg_of X G a15, F15.kp, b15⟩
  have d16 : Df l.prog w K mg base 2 "joints_of" ["shape"] _ := ⟨f16, _, ok_jointsOf (k := 1) F16 T, PySem.W.mg_of X G a16, F16.kp, b16⟩
  have d16b : Df l.prog w K mg base 3 "joints_of" ["shape"] _ := ⟨f16, _, ok_jointsOf (k := 2) F16 T, PySem.W.mg_of X G a16, F16.kp, b16⟩
  have d18 : Df l.prog w K mg base 2 "weights_of" ["joints"] _ := ⟨f18, _, ok_wof F18 T, PySem.W.mg_of X G a18, F18.kp, b18⟩
  have d17 : Df l.prog w K mg base 1 "are_joints_fair" ["rule", "joints", "weights"] _ := ⟨f17, _, ok_areJF F17, PySem.W.mg_of X G a17, F17.kp, b17⟩
  have d25 : Df l.prog w K mg base 3 "need_joints" ["shape"] _ := ⟨f25, _, ok_needJ (k := 2) F25 d16, PySem.W.mg_of X G a25, F25.kp, b25⟩
  have d22 : Df l.prog w K mg base 4 "keys_of" ["shape"] _ := ⟨f22, _, ok_keysOf (k := 3) F22 T d25, PySem.W.mg_of X G a22, F22.kp, b22⟩
  have d23 : Df l.prog w K mg base 4 "height_of" ["shape"] _ := ⟨f23, _, ok_heightOf (k := 2) F23 T d25, PySem.W.mg_of X G a23, F23.kp, b23⟩
  have d24 : Df l.prog w K mg base 4 "is_fair" ["rule", "shape"] _ := ⟨f24, _, ok_isFair (k := 1) F24 T RT RN d3 d16b d18 d17, PySem.W.mg_of X G a24, F24.kp, b24⟩
  have d19 : Df l.prog w K mg base 12 "halves_of" ["many"] (spHalv 11) := ⟨f19, _, ok_halv F19 (PySem.W.mg_of X G a19) b19 11, PySem.W.mg_of X G a19, F19.kp, b19⟩
  have d20 : Df l.prog w K mg base 13 "halves_shape" ["keys"] _ := ⟨f20, _, ok_halvS F20 d13 d19 (PySem.W.mg_of X G hgS), PySem.W.mg_of X G a20, F20.kp, b20⟩
  have d21 : Df l.prog w K mg base 13 "tall_shape" ["rule", "keys"] _ := ⟨f21, _, ok_tall F21 d3 d13 d14 d19 (PySem.W.mg_of X G hgS), PySem.W.mg_of X G a21, F21.kp, b21⟩
  have e20 : DfK l.prog w K mg base 13 "halves_shape" ["keys"] ["keys"] gK gK spHalvS := ⟨f20, _, ok_halvS F20 d13 d19 (PySem.W.mg_of X G hgS), PySem.W.mg_of X G a20, F20.kp, b20, kbL⟩
  have e21 : DfK l.prog w K mg base 13 "tall_shape" ["rule", "keys"] ["keys", "rule"] gG gG (spTallS Ct Cn) := ⟨f21, _, ok_tall F21 d3 d13 d14 d19 (PySem.W.mg_of X G hgS), PySem.W.mg_of X G a21, F21.kp, b21, kbG⟩
  have d26 : Df l.prog w K mg base 1 "_law_pen" ["_law_script"] _ := ⟨f26, _, ok_pen F26 T, PySem.W.mg_of X G a26, F26.kp, b26⟩
  have d27 : Df l.prog w K mg base 1 "_law_draw" ["_law_pen_here", "_law_many"] _ := ⟨f27, _, ok_draw F27 T, PySem.W.mg_of X G a27, F27.kp, b27⟩
  have d28 : Df l.prog w K mg base 2 "_law_pick" ["_law_pen_here", "_law_some"] _ := ⟨f28, _, ok_pick F28 T d27, PySem.W.mg_of X G a28, F28.kp, b28⟩
  have d29 : Df l.prog w K mg base 3 "_law_numbers" ["_law_pen_here"] _ := ⟨f29, _, ok_nums F29 T d27 d28, PySem.W.mg_of X G a29, F29.kp, b29⟩
  have GT0 := ok_tryInit (P := l.prog) (w := w) (mg := mg) (base := base) D70 RT d8 d10
  have GN0 := ok_turnInit (P := l.prog) (w := w) (mg := mg) (base := base) D73 RN d8 d10 d7 d6
  have MTT : Mk K Ct f70 := ⟨mkCt, m70, i70, kcCt⟩
  have d30 : Df l.prog w K mg base 8 "_law_rule" ["_law_some", "_law_is_turn"] _ := ⟨f30, _, ok_rule F30 T (PySem.W.mg_of X G aCt) (PySem.W.mg_of X G aCn) MTT ⟨mkCn, m73, i73, kcCn⟩ GT0 b70 GN0 b73, PySem.W.mg_of X G a30, F30.kp, b30⟩
  have d31 : Df l.prog w K mg base 1 "_law_top" ["_law_some", "_law_x"] _ := ⟨f31, _, ok_top F31, PySem.W.mg_of X G a31, F31.kp, b31⟩
  have d32 : Df l.prog w K mg base 2 "_law_least" ["_law_some", "_law_y"] _ := ⟨f32, _, ok_least F32 d31, PySem.W.mg_of X G a32, F32.kp, b32⟩
  have d33 : Df l.prog w K mg base 12 "_law_halves" ["_law_many"] (spHalv 11) := ⟨f33, _, ok_lhalv F33 (PySem.W.mg_of X G a33) b33 11, PySem.W.mg_of X G a33, F33.kp, b33⟩
  have d34 : Df l.prog w K mg base 60 "_law_tall" ["_law_some", "_law_weight"] (spLTall 47) := ⟨f34, _, ok_ltall F34 T (PySem.W.mg_of X G a34) b34 d32 d33 47, PySem.W.mg_of X G a34, F34.kp, b34⟩
  have d35 : Df l.prog w K mg base 61 "_law_right" ["_law_pen_here", "_law_many"] _ := ⟨f35, _, ok_lright (NS := fun _ _ => False) F35 d27 d29 d30 d20 d21 d33 d34 d22 d23 d24 d12 d11, PySem.W.mg_of X G a35, F35.kp, b35⟩
  exact ok_law F36 T (PySem.W.mg_of X G aCt) MTT GT0 b71 v71 b70 d26 d27 d28 d35 e20 e21
end Ev
open PySem PySem.W PyProof.Rows
set_option maxRecDepth 100000 in
set_option maxHeartbeats 0 in
theorem PySem.Challenge.cw_evenrules_k31_tall_shapes_and_halves_holds : PySem.Challenge.rw_evenrules_k31_tall_shapes_and_halves.Holds := by
  exact hd (by
    k_fill
    refine L2.walk_of (l := PySem.Challenge.rw_evenrules_k31_tall_shapes_and_halves) (n := 63) (k := 62) (x := "_law_script") (CX := fun _ => L2.CX0) (sp := fun w => Ev.spLaw _) rfl (by decide) rfl ⟨rfl, by decide, by decide⟩ (fun w h Y => PySem.W.kIn_of Y) ?F (fun _ _ a ns hl _ hS => ⟨a, ns, rfl, hS, hl, fun _ => rfl⟩) (fun _ _ _ _ _ h => h)
    case F =>
      intro w mg fa h KX G hmg
      refine' Ev.all_mk KX G hmg ?a0 ?l0 ?c0 ?k0 ?a1 ?l1 ?c1 ?k1 ?a2 ?l2 ?c2 ?k2 ?a3 ?l3 ?c3 ?k3 ?a4 ?l4 ?c4 ?k4 ?a5 ?l5 ?c5 ?k5 ?a6 ?l6 ?c6 ?k6 ?a7 ?l7 ?c7 ?k7 ?a8 ?l8 ?c8 ?k8 ?a9 ?l9 ?c9 ?k9 ?a10 ?l10 ?c10 ?k10 ?a11 ?l11 ?c11 ?k11 ?a12 ?l12 ?c12 ?k12 ?a13 ?l13 ?c13 ?k13 ?a14 ?l14 ?c14 ?k14 ?a15 ?l15 ?c15 ?k15 ?a16 ?l16 ?c16 ?k16 ?a17 ?l17 ?c17 ?k17 ?a18 ?l18 ?c18 ?k18 ?a19 ?l19 ?c19 ?k19 ?a20 ?l20 ?c20 ?k20 ?a21 ?l21 ?c21 ?k21 ?a22 ?l22 ?c22 ?k22 ?a23 ?l23 ?c23 ?k23 ?a24 ?l24 ?c24 ?k24 ?a25 ?l25 ?c25 ?k25 ?a26 ?l26 ?c26 ?k26 ?a27 ?l27 ?c27 ?k27 ?a28 ?l28 ?c28 ?k28 ?a29 ?l29 ?c29 ?k29 ?a30 ?l30 ?c30 ?k30 ?a31 ?l31 ?c31 ?k31 ?a32 ?l32 ?c32 ?k32 ?a33 ?l33 ?c33 ?k33 ?a34 ?l34 ?c34 ?k34 ?a35 ?l35 ?c35 ?k35 ?a36 ?l36 ?c36 ?k36 ?aCt ?aCn ?aCW ?pgCt ?hdCt ?poCt ?saCt ?mkCt ?kcCt ?n0Ct ?n1Ct ?n2Ct ?n3Ct ?hcCt ?moCt ?suCt ?pgCn ?hdCn ?poCn ?saCn ?mkCn ?kcCn ?n0Cn ?n1Cn ?n2Cn ?n3Cn ?hcCn ?moCn ?suCn ?icCW ?ttCW ?ikn ?ikt ?m70 ?i70 ?l70 ?c70 ?k70 ?t70 ?m73 ?i73 ?l73 ?c73 ?k73 ?t73 ?rdW ?gaW ?cvW ?hgP ?hgT ?hgK ?hgS ?zint ?zlen ?zabs ?zlist ?zmin ?zmax ?zisinstance ?zbool ?ztuple ?zall ?zrange ?zrepr
      (case a0 => k_is)
      (case l0 => k_is)
      (case c0 => k_is)
      (case k0 => k_is)
      (case a1 => k_is)
      (case l1 => k_is)
      (case c1 => k_is)
      (case k1 => k_is)
      (case a2 => k_is)
      (case l2 => k_is)
      (case c2 => k_is)
      (case k2 => k_is)
      (case a3 => k_is)
      (case l3 => k_is)
      (case c3 => k_is)
      (case k3 => k_is)
      (case a4 => k_is)
      (case l4 => k_is)
      (case c4 => k_is)
      (case k4 => k_is)
      (case a5 => k_is)
      (case l5 => k_is)
      (case c5 => k_is)
      (case k5 => k_is)
      (case a6 => k_is)
      (case l6 => k_is)
      (case c6 => k_is)
      (case k6 => k_is)
      (case a7 => k_is)
      (case l7 => k_is)
      (case c7 => k_is)
      (case k7 => k_is)
      (case a8 => k_is)
      (case l8 => k_is)
      (case c8 => k_is)
      (case k8 => k_is)
      (case a9 => k_is)
      (case l9 => k_is)
      (case c9 => k_is)
      (case k9 => k_is)
      (case a10 => k_is)
      (case l10 => k_is)
      (case c10 => k_is)
      (case k10 => k_is)
      (case a11 => k_is)
      (case l11 => k_is)
      (case c11 => k_is)
      (case k11 => k_is)
      (case a12 => k_is)
      (case l12 => k_is)
      (case c12 => k_is)
      (case k12 => k_is)
      (case a13 => k_is)
      (case l13 => k_is)
      (case c13 => k_is)
      (case k13 => k_is)
      (case a14 => k_is)
      (case l14 => k_is)
      (case c14 => k_is)
      (case k14 => k_is)
      (case a15 => k_is)
      (case l15 => k_is)
      (case c15 => k_is)
      (case k15 => k_is)
      (case a16 => k_is)
      (case l16 => k_is)
      (case c16 => k_is)
      (case k16 => k_is)
      (case a17 => k_is)
      (case l17 => k_is)
      (case c17 => k_is)
      (case k17 => k_is)
      (case a18 => k_is)
      (case l18 => k_is)
      (case c18 => k_is)
      (case k18 => k_is)
      (case a19 => k_is)
      (case l19 => k_is)
      (case c19 => k_is)
      (case k19 => k_is)
      (case a20 => k_is)
      (case l20 => k_is)
      (case c20 => k_is)
      (case k20 => k_is)
      (case a21 => k_is)
      (case l21 => k_is)
      (case c21 => k_is)
      (case k21 => k_is)
      (case a22 => k_is)
      (case l22 => k_is)
      (case c22 => k_is)
      (case k22 => k_is)
      (case a23 => k_is)
      (case l23 => k_is)
      (case c23 => k_is)
      (case k23 => k_is)
      (case a24 => k_is)
      (case l24 => k_is)
      (case c24 => k_is)
      (case k24 => k_is)
      (case a25 => k_is)
      (case l25 => k_is)
      (case c25 => k_is)
      (case k25 => k_is)
      (case a26 => k_is)
      (case l26 => k_is)
      (case c26 => k_is)
      (case k26 => k_is)
      (case a27 => k_is)
      (case l27 => k_is)
      (case c27 => k_is)
      (case k27 => k_is)
      (case a28 => k_is)
      (case l28 => k_is)
      (case c28 => k_is)
      (case k28 => k_is)
      (case a29 => k_is)
      (case l29 => k_is)
      (case c29 => k_is)
      (case k29 => k_is)
      (case a30 => k_is)
      (case l30 => k_is)
      (case c30 => k_is)
      (case k30 => k_is)
      (case a31 => k_is)
      (case l31 => k_is)
      (case c31 => k_is)
      (case k31 => k_is)
      (case a32 => k_is)
      (case l32 => k_is)
      (case c32 => k_is)
      (case k32 => k_is)
      (case a33 => k_is)
      (case l33 => k_is)
      (case c33 => k_is)
      (case k33 => k_is)
      (case a34 => k_is)
      (case l34 => k_is)
      (case c34 => k_is)
      (case k34 => k_is)
      (case a35 => k_is)
      (case l35 => k_is)
      (case c35 => k_is)
      (case k35 => k_is)
      (case a36 => k_is)
      (case l36 => k_is)
      (case c36 => k_is)
      (case k36 => k_is)
      (case aCt => k_is)
      (case aCn => k_is)
      (case aCW => k_is)
      (case pgCt => k_is)
      (case hdCt => k_is)
      (case poCt => k_is)
      (case saCt => k_is)
      (case mkCt => k_is)
      (case kcCt => k_is)
      (case n0Ct => k_is)
      (case n1Ct => k_is)
      (case n2Ct => k_is)
      (case n3Ct => k_is)
      (case hcCt => k_is)
      (case moCt => k_is)
      (case suCt => k_is)
      (case pgCn => k_is)
      (case hdCn => k_is)
      (case poCn => k_is)
      (case saCn => k_is)
      (case mkCn => k_is)
      (case kcCn => k_is)
      (case n0Cn => k_is)
      (case n1Cn => k_is)
      (case n2Cn => k_is)
      (case n3Cn => k_is)
      (case hcCn => k_is)
      (case moCn => k_is)
      (case suCn => k_is)
      (case icCW => k_is)
      (case ttCW => k_is)
      (case ikn => k_is)
      (case ikt => k_is)
      (case m70 => k_is)
      (case i70 => k_is)
      (case l70 => k_is)
      (case c70 => k_is)
      (case k70 => k_is)
      (case t70 => k_is)
      (case m73 => k_is)
      (case i73 => k_is)
      (case l73 => k_is)
      (case c73 => k_is)
      (case k73 => k_is)
      (case t73 => k_is)
      (case rdW => k_is)
      (case gaW => k_is)
      (case cvW => k_is)
      (case hgP => k_is)
      (case hgT => k_is)
      (case hgK => k_is)
      (case hgS => k_is)
      (case zint => k_is)
      (case zlen => k_is)
      (case zabs => k_is)
      (case zlist => k_is)
      (case zmin => k_is)
      (case zmax => k_is)
      (case zisinstance => k_is)
      (case zbool => k_is)
      (case ztuple => k_is)
      (case zall => k_is)
      (case zrange => k_is)
      (case zrepr => k_is))
