import PyProof.Rows.All
import Wide.All
import OpenK.AllK
import Wide.FinOn
import HandS.ForMost
import HandS.Wide
import HandS.Codes
import HandS.IsInst
import HandS.Defaults
import HandS.MakeKw
import HandS.MakeKwOnly
import HandS.ClsMeth
import HandS.TupAny
import HandS.Style
import HandS.Conv
import HandS.WideBits
import HandS.Walk
import PySem.Challenge.RW_evenrules_k28_whole_greatest_and_least_h
open PySem PySem.W PyProof.Rows
set_option Elab.async false
set_option linter.all false
set_option maxRecDepth 100000 in
set_option maxHeartbeats 0 in
open_top hd for PySem.Challenge.rw_evenrules_k28_whole_greatest_and_least_h
set_option maxRecDepth 100000
set_option maxHeartbeats 4000000
namespace Ev
open PySem L2
def top (i : Nat) : Stmt := PySem.Challenge.pw_evenrules_k28_whole_greatest_and_least_h.main.body.getD i (.Pass ⟨0, 0, 0, 0⟩)
abbrev sDraw : Stmt := top 54
/-- all that was tracked is as it was, but at p -/
def But (p : Addr) (H H' : Hp) : Prop := ∀ b o, b ≠ p → H b = some o → H' b = some o
theorem But.refl (p : Addr) (H : Hp) : But p H H := fun _ _ _ e => e
theorem But.trans {p : Addr} {H H1 H2 : Hp} (a : But p H H1) (b : But p H1 H2) : But p H H2 := fun c o n e => b c o n (a c o n e)
theorem Same.but {p : Addr} {H H' : Hp} (a : Same H H') : But p H H' := fun c o _ e => a c o e
theorem But.upd_new {p q : Addr} {H : Hp} {o : HO} (h : H q = none) : But p H (upd H q o) := fun b u _ e => by
  rw [upd_ne (ne_of_none e h)]; exact e
theorem But.upd_at {p : Addr} {H : Hp} {o : HO} : But p H (upd H p o) := fun b u n e => by
  rw [upd_ne n]; exact e
/-- the pen: a list of a list of ints, how often it was asked, and a rest -/
def Pen (L : Addr) (H : Hp) (p : Addr) (B : Int) : Prop := ∃ (ns : List Int) (turn carry : Int),
  H p = some (.lst [.ref L, .int turn, .int carry]) ∧ H L = some (.lst (ns.map V.int)) ∧ L ≠ p ∧ ns.length ≤ 63 ∧ 0 ≤ turn ∧ turn ≤ B ∧ 0 ≤ carry
theorem Pen.keep {L : Addr} {H H' : Hp} {p : Addr} {B : Int} (h : Pen L H p B) (k : Same H H') : Pen L H' p B := by
  obtain ⟨ns, t, c, h1, h2, h3, h4, h5, h6, h7⟩ := h
  exact ⟨ns, t, c, k _ _ h1, k _ _ h2, h3, h4, h5, h6, h7⟩
theorem Pen.mono {L : Addr} {H : Hp} {p : Addr} {B B' : Int} (h : Pen L H p B) (k : B ≤ B') : Pen L H p B' := by
  obtain ⟨ns, t, c, h1, h2, h3, h4, h5, h6, h7⟩ := h
  exact ⟨ns, t, c, h1, h2, h3, h4, h5, by omega, h7⟩
def spDraw : Sp := fun vs H Q _ => ∃ (p L : Addr) (m B : Int), vs = [.ref p, .int m] ∧ 1 ≤ m ∧ m ≤ 100000000000000000000000000000 ∧ B ≤ 1000000 ∧ Pen L H p B ∧
  ∀ (d : Int) (H' : Hp), But p H H' → Pen L H' p (B + 1) → 0 ≤ d → d < m → Q (.int d) H'
theorem dpInts {K : PySem.W.Frag} {H : Hp} : ∀ ns : List Int, DpAll K H (ns.map V.int) (ns.map PyData.int)
  | [] => .nil
  | n :: r => .cons (.int n) (dpInts r)
theorem sh_ints (ns : List Int) : SeqAt.shaped (.list (ns.map PyData.int)) = true := by
  have h1 : ∀ ns : List Int, PyData.canLayAll0 (ns.map PyData.int) = true := by
    intro ns
    induction ns with
    | nil => rfl
    | cons n r ih => simp [PyData.canLayAll0, PyData.canLay0, ih]
  have h2 : ∀ ns : List Int, PyData.depthAll (ns.map PyData.int) ≤ 1 := by
    intro ns
    induction ns with
    | nil => simp [PyData.depthAll]
    | cons n r ih => simp [PyData.depthAll, PyData.depth]; omega
  unfold SeqAt.shaped
  rw [Bool.and_eq_true]
  refine ⟨by simp [PyData.canLay0, h1], decide_eq_true ?_⟩
  have := h2 ns
  simp [PyData.depth]; omega
theorem eqv_nil (ns : List Int) : PyData.eqv (.list (ns.map PyData.int)) (.list []) = ns.isEmpty := by
  cases ns <;> simp [PyData.eqv, PyData.eqvAll]
section
variable {P : Program} {w : World} {K : PySem.W.Frag} {mg : Str → Option Value} {base : Heap}
/-- built-ins that the program does not cover -/
structure Blt (mg : Str → Option Value) : Prop where
  int : mg "int" = none
  len : mg "len" = none
  abs : mg "abs" = none
  list : mg "list" = none
  min : mg "min" = none
  max : mg "max" = none
  isi : mg "isinstance" = none
  bool : mg "bool" = none
  tuple : mg "tuple" = none
  all : mg "all" = none
  range : mg "range" = none
  repr : mg "repr" = none
theorem scD : FnScope ["_law_pen_here", "_law_many", "_law_digit", "_law_at", "_law_cell", "_law_great", "_law_mixed"] ["_law_pen_here", "_law_many"] (defScope sDraw) := ⟨rfl, rfl, rfl, by decide +kernel, rfl, by decide +kernel, by decide +kernel⟩
theorem fmod_lo (a : Int) {m : Int} (h : 1 ≤ m) : 0 ≤ a.fmod m := by rw [Int.fmod_eq_emod_of_nonneg a (by omega)]; exact Int.emod_nonneg a (by omega)
theorem fmod_hi (a : Int) {m : Int} (h : 1 ≤ m) : a.fmod m < m := by rw [Int.fmod_eq_emod_of_nonneg a (by omega)]; exact Int.emod_lt_of_pos a (by omega)
theorem fdiv_lo {a m : Int} (h : 1 ≤ m) (h0 : 0 ≤ a) : 0 ≤ a.fdiv m := by rw [Int.fdiv_eq_ediv_of_nonneg a (by omega)]; exact Int.ediv_nonneg h0 (by omega)
theorem cell_at {ns : List Int} (h : ns ≠ []) (t : Int) : ∃ c : Int, atI (ns.map V.int) (t.fmod (((ns.map V.int).length : Nat) : Int)) = some (V.int c) := by
  rw [List.length_map]
  have l : 0 < ns.length := List.length_pos_iff.mpr h
  have h1 : 0 ≤ t.fmod (ns.length : Int) := fmod_lo t (by omega)
  have h2 : t.fmod (ns.length : Int) < ns.length := fmod_hi t (by omega)
  generalize t.fmod (ns.length : Int) = i at h1 h2
  obtain ⟨j, rfl⟩ := Int.eq_ofNat_of_zero_le h1
  have hj : j < ns.length := by omega
  exact ⟨ns[j], atI_nat (by rw [List.getElem?_map, List.getElem?_eq_getElem hj]; rfl)⟩
theorem mul_le_of {a b A B : Int} (a0 : 0 ≤ a) (b0 : 0 ≤ b) (ha : a ≤ A) (hb : b ≤ B) : 0 ≤ a * b ∧ a * b ≤ A * B :=
  ⟨Int.mul_nonneg a0 b0, Int.mul_le_mul ha hb b0 (by omega)⟩
theorem bound1 (c : Int) {M C D t : Int} (hM : 1 ≤ M) (hM2 : M ≤ 4294967296) (hC : 0 ≤ C ∧ C ≤ 1000000) (hD : 0 ≤ D ∧ D ≤ 1000000) (h0 : 0 ≤ t) (h1 : t ≤ 1000000) : (c.fmod M + C * t + D).natAbs < 2 ^ 64 := by
  have a1 := fmod_lo c hM
  have a2 := fmod_hi c hM
  have ⟨a3, a4⟩ := mul_le_of hC.1 h0 hC.2 h1
  omega
theorem bound2 {x C5 C6 C7 t : Int} (hx : 0 ≤ x ∧ x < 4294967296) (h5 : 0 ≤ C5 ∧ C5 ≤ 1000000) (h6 : 0 ≤ C6 ∧ C6 ≤ 1000000) (h7 : 0 ≤ C7 ∧ C7 ≤ 1000000) (h0 : 0 ≤ t) (h1 : t ≤ 1000000) :
    (x * (2 * t + C5) + C6 * t * t + C7).natAbs < 2 ^ 64 := by
  have ⟨a1, a2⟩ := mul_le_of (b := 2 * t + C5) (A := 4294967296) (B := 3000000) hx.1 (by omega) (by omega) (by omega)
  have ⟨a3, a4⟩ := mul_le_of h6.1 h0 h6.2 h1
  have ⟨a5, a6⟩ := mul_le_of a3 h0 a4 h1
  omega
theorem great_nn {c e : Int} (h : e ≤ (if c < 0 then -c else c)) (b : Bool) : 0 ≤ 2 * ((if c < 0 then -c else c) - e) + (if b = true then 1 else 0) := by
  cases b
  · rw [if_neg Bool.false_ne_true]; omega
  · rw [if_pos rfl]; omega
theorem lt64 {x : Int} (h : 0 ≤ x ∧ x < 4294967296) : -(2 ^ 64) < x ∧ x < 2 ^ 64 := ⟨by omega, by omega⟩
theorem nz {M : Int} (h : 0 < M) : M ≠ 0 := by omega
theorem divW {i m : Int} (h : 1 ≤ m) (h2 : m ≤ 100000000000000000000000000000) : CDivW i m := wide_div (b := 97) (by omega) (by omega) (by decide) (by decide)
theorem ediv_lo {a m : Int} (h : 1 ≤ m) (h0 : 0 ≤ a) : 0 ≤ a / m := Int.ediv_nonneg h0 (by omega)
theorem ok_draw {f : Addr} {fd : FuncData} (F : Fun K "_law_draw" "_law_draw" sDraw f fd) (T : Blt mg) : FnOk P w K mg base CX0 1 f fd ["_law_pen_here", "_law_many"] spDraw := by
  refine F.ok scD (fun vs H Q E h => ?_) (fun cdv A outer s H vs Q E hr h => ?_)
  · obtain ⟨p, L, m, B, rfl, _⟩ := h
    rfl
  · obtain ⟨p, L, m, B, rfl, hm, hm2, hB, ⟨ns, tn, ca, hp, hL, Lp, hlen, t0, tB, c0⟩, k⟩ := h
    have hu := hu_of hr
    refine ⟨_, pss_cons (ps_if (pt_cmpR op_gt (pe_ix ix_list (pv 0) pe_int (fun _ _ => rfl)) pe_int (nomark _))
        (pss_cons (ps_set (i := 2) scD.nd rfl (.inl rfl) (pe_op op_modN (pe_callTy call_int1 (by rfl) T.int (by decide +kernel) (pa_cons (pe_ix ix_list (pv 0) pe_int (fun _ _ => rfl)) pa_nil)) (pv 1)))
        (pss_cons (ps_asg (pe_op op_fdivW (pe_callTy call_int1 (by rfl) T.int (by decide +kernel) (pa_cons (pe_ix ix_list (pv 0) pe_int (fun _ _ => rfl)) pa_nil)) (pv 1)) (pg_sub (pv 0) pe_int set_list))
        (pss_one (ps_ret (pv 2))))) pss_nil)
      (pss_cons (ps_set (i := 3) scD.nd rfl (.inl rfl) (pe_ix ix_list (pv 0) pe_int (fun _ _ => rfl)))
      (pss_cons (ps_asg (pe_op op_add (pv 3) pe_int) (pg_sub (pv 0) pe_int set_list))
      (pss_cons (ps_set (i := 4) scD.nd rfl (.inl rfl) (pe_op op_add (pe_op op_mul pe_int (pv 3)) pe_int))
      (pss_cons (ps_if (pt_cmpR (op_neD hr.units) (pe_ix ix_list (pv 0) pe_int (fun _ _ => rfl)) (pe_lst pa_nil) (nomark _))
        (pss_one (ps_set (i := 4) scD.nd rfl (.inl rfl) (pe_ix ix_list (pe_ix ix_list (pv 0) pe_int (fun _ _ => rfl))
          (pe_op op_modN (pe_callTy call_int1 (by rfl) T.int (by decide +kernel) (pa_cons (pv 3) pa_nil)) (pe_callB call_len_seq (by rfl) T.len PySem.boot_len (pa_cons (pe_ix ix_list (pv 0) pe_int (fun _ _ => rfl)) pa_nil))) (fun _ _ => rfl)))) pss_nil)
      (pss_cons (ps_if (PW.pt (pw_and (pt_cmpR op_lt (pv 3) (pe_callB call_len_seq (by rfl) T.len PySem.boot_len (pa_cons (pe_ix ix_list (pv 0) pe_int (fun _ _ => rfl)) pa_nil)) (nomark _))
          (pw_and1 (pt_cmpR op_ge (pe_callB call_abs (by rfl) T.abs (by decide +kernel) (pa_cons (pv 4) pa_nil)) (pe_op op_pow pe_int pe_int) (nomark _)))))
        (pss_cons (ps_set (i := 5) scD.nd rfl (.inl rfl) (pe_op op_add (pe_op op_mul pe_int (pe_op op_sub (pe_callB call_abs (by rfl) T.abs (by decide +kernel) (pa_cons (pv 4) pa_nil)) (pe_op op_pow pe_int pe_int)))
            (pe_callTy call_int1 (by rfl) T.int (by decide +kernel) (pa_cons (pe_cmpR op_lt (pv 4) pe_int (nomark _)) pa_nil))))
        (pss_cons (ps_asg (pe_op op_fdivW (pe_callTy call_int1 (by rfl) T.int (by decide +kernel) (pa_cons (pv 5) pa_nil)) (pv 1)) (pg_sub (pv 0) pe_int set_list))
        (pss_one (ps_ret (pe_op op_modN (pe_callTy call_int1 (by rfl) T.int (by decide +kernel) (pa_cons (pv 5) pa_nil)) (pv 1)))))) pss_nil)
      (pss_cons (ps_set (i := 6) scD.nd rfl (.inl rfl) (pe_op op_modN (pe_callTy call_int1 (by rfl) T.int (by decide +kernel) (pa_cons (pe_op op_pow (pe_op op_add (pe_op op_add
          (pe_op op_modN (pe_callTy call_int1 (by rfl) T.int (by decide +kernel) (pa_cons (pv 4) pa_nil)) pe_int) (pe_op op_mul pe_int (pv 3))) pe_int) pe_int) pa_nil)) pe_int))
      (pss_cons (ps_set (i := 6) scD.nd rfl (.inl rfl) (pe_op op_modN (pe_callTy call_int1 (by rfl) T.int (by decide +kernel) (pa_cons (pe_op op_pow (pe_op op_add (pe_op op_add
          (pe_op op_mul (pv 6) (pe_op op_add (pe_op op_mul pe_int (pv 3)) pe_int)) (pe_op op_mul (pe_op op_mul pe_int (pv 3)) (pv 3))) pe_int) pe_int) pa_nil)) pe_int))
      (pss_one (ps_ret (pe_op op_modN (pe_callTy call_int1 (by rfl) T.int (by decide +kernel) (pa_cons (pe_op op_fdivN (pv 6) pe_int) pa_nil)) (pv 1))))))))))), ?_⟩
    have i2 : ∀ {a b c : V}, atI [a, b, c] 2 = some c := fun {a b c} => atI_nat (j := 2) rfl
    have i1 : ∀ {a b c : V}, atI [a, b, c] 1 = some b := fun {a b c} => atI_nat (j := 1) rfl
    have i0 : ∀ {a b c : V}, atI [a, b, c] 0 = some a := fun {a b c} => atI_nat (j := 0) rfl
    -- if pen[2] > 0
    refine ⟨_, rfl, p, _, 2, _, rfl, rfl, SqL.of hp, i2, _, _, rfl, rfl, _, rfl, ite2 (fun e => ?_) (fun e => ?_)⟩
    · -- digit
      refine ⟨_, rfl, p, _, 2, _, rfl, rfl, SqL.of hp, i2, .inl ⟨_, rfl, _, rfl, _, _, rfl, rfl, (by omega), ?_⟩⟩
      refine ⟨_, rfl, p, _, 2, _, rfl, rfl, SqL.of hp, i2, .inl ⟨_, rfl, _, rfl, _, _, rfl, rfl, divW hm hm2, _, rfl, p, _, _, 2, rfl, rfl, hp, rfl, ?_⟩⟩
      refine ⟨_, rfl, ?_⟩
      exact k _ _ But.upd_at ⟨ns, tn, _, upd_same, by rw [upd_ne Lp]; exact hL, Lp, hlen, t0, by omega, ediv_lo hm c0⟩ (fmod_lo _ hm) (fmod_hi _ hm)
    · -- turn
      refine ⟨_, rfl, p, _, 1, _, rfl, rfl, SqL.of hp, i1, ?_⟩
      refine ⟨_, rfl, _, _, rfl, rfl, _, rfl, p, _, _, 1, rfl, rfl, hp, rfl, ?_⟩
      have hp1 : upd H p (.lst ([V.ref L, V.int tn, V.int ca].set 1 (V.int (tn + 1)))) p = some (.lst [.ref L, .int (tn + 1), .int ca]) := upd_same
      have hL1 : upd H p (.lst ([V.ref L, V.int tn, V.int ca].set 1 (V.int (tn + 1)))) L = some (.lst (ns.map V.int)) := by rw [upd_ne Lp]; exact hL
      have b1 : But p H (upd H p (.lst ([V.ref L, V.int tn, V.int ca].set 1 (V.int (tn + 1))))) := But.upd_at
      generalize upd H p (.lst ([V.ref L, V.int tn, V.int ca].set 1 (V.int (tn + 1)))) = H1 at hp1 hL1 b1 ⊢
      -- cell = c * turn + c'
      refine ⟨_, rfl, _, _, rfl, rfl, .inl ⟨by decide, by decide⟩, _, _, rfl, rfl, ?_⟩
      -- if pen[0] != []
      refine ⟨_, rfl, p, _, 0, _, rfl, rfl, SqL.of hp1, i0, by decide, fun l hl => ?_⟩
      have n1 : p ≠ l := ne_of_none hp1 hl
      have n2 : L ≠ l := ne_of_none hL1 hl
      have hp2 : upd H1 l (.lst []) p = some (.lst [.ref L, .int (tn + 1), .int ca]) := by rw [upd_ne n1]; exact hp1
      have hL2 : upd H1 l (.lst []) L = some (.lst (ns.map V.int)) := by rw [upd_ne n2]; exact hL1
      have hl2 : upd H1 l (.lst []) l = some (.lst []) := upd_same
      have b2 : But p H (upd H1 l (.lst [])) := b1.trans (But.upd_new hl)
      clear b1 hp1 hL1
      generalize upd H1 l (.lst []) = H2 at hp2 hL2 hl2 b2
      refine ⟨_, _, .lst (SqL.of hL2) (dpInts ns), .lst (SqL.of hl2) .nil, sh_ints ns, sh_ints [], _, rfl, ?_⟩
      rw [eqv_nil]
      -- the rest, for any cell
      have hcell : ∀ c : Int, ∃ j : Int, (if c < 0 then -c else c) = j ∧ 0 ≤ j := fun c => by
        by_cases z : c < 0
        · exact ⟨_, rfl, by rw [if_pos z]; omega⟩
        · exact ⟨_, rfl, by rw [if_neg z]; omega⟩
      have fin : ∀ H' : Hp, H' p = some (.lst [.ref L, .int (tn + 1), .int ca]) → H' L = some (.lst (ns.map V.int)) → But p H H' → Pen L H' p (B + 1) := fun H' e1 e2 _ =>
        ⟨ns, tn + 1, ca, e1, e2, Lp, hlen, by omega, by omega, c0⟩
      have ht : tn ≤ 1000000 := by omega
      have hm6 : 0 ≤ 66905 * tn ∧ 66905 * tn ≤ 66905 * 1000000 := mul_le_of (by decide) t0 (Int.le_refl _) ht
      have hq : ∀ {x m : Int}, 1 ≤ m → m ≤ 4294967296 → 0 ≤ x.fmod m ∧ x.fmod m < 4294967296 := fun {x m} h1 h2 => ⟨fmod_lo x h1, by have := fmod_hi x h1; omega⟩
      cases hn : ns with
      | nil =>
        refine iteF ?_
        refine ⟨_, rfl, _, rfl, p, _, 0, _, rfl, rfl, SqL.of hp2, i0, L, _, rfl, .inl (SqL.of hL2), _, _, rfl, rfl, _, rfl, ite2 (fun e1 => ?_) (fun e1 => ?_)⟩
        · refine ⟨_, rfl, _, rfl, _, _, rfl, rfl, ⟨by decide, by decide, by decide⟩, _, _, rfl, rfl, _, rfl, ite2 (fun e2 => ?_) (fun e2 => ?_)⟩
          · refine ⟨_, rfl, _, rfl, _, _, rfl, rfl, ⟨by decide, by decide, by decide⟩, _, _, rfl, rfl, _, _, rfl, rfl, .inl ⟨by decide, by decide⟩, _, rfl, _, _, rfl, rfl, .inr ⟨_, rfl, _, _, rfl, rfl, ?_⟩⟩
            refine ⟨_, rfl, .inl ⟨_, rfl, _, rfl, _, _, rfl, rfl, divW hm hm2, _, rfl, p, _, _, 2, rfl, rfl, hp2, rfl, ?_⟩⟩
            refine ⟨_, rfl, .inl ⟨_, rfl, _, rfl, _, _, rfl, rfl, (by omega), ?_⟩⟩
            refine k _ _ (b2.trans But.upd_at) ⟨_, tn + 1, _, upd_same, by rw [upd_ne Lp]; exact hL2, Lp, hlen, by omega, by omega, ediv_lo hm ?_⟩ (fmod_lo _ hm) (fmod_hi _ hm)
            have e3 := of_decide_eq_true e2
            exact great_nn e3 _
          · skip
            refine ⟨_, rfl, .inl ⟨_, rfl, _, _, rfl, rfl, nz (by decide), _, rfl, _, _, rfl, rfl, .inl ⟨by decide, by decide⟩, _, _, rfl, rfl, _, _, rfl, rfl, _, _, rfl, rfl, ⟨by decide, by decide, bound1 _ (by decide) (by decide) (by decide) (by decide) t0 ht⟩, .inl ⟨_, rfl, _, _, rfl, rfl, nz (by decide), ?_⟩⟩⟩
            refine ⟨_, rfl, _, rfl, _, _, rfl, rfl, .inl ⟨by decide, by decide⟩, _, _, rfl, rfl, _, _, rfl, rfl, .inl ?_, _, rfl, _, _, rfl, rfl, .inl ⟨by decide, by decide⟩, _, rfl, _, _, rfl, rfl, .inl ?_, _, _, rfl, rfl, _, _, rfl, rfl, _, _, rfl, rfl, ⟨by decide, by decide, ?_⟩, .inl ⟨_, rfl, _, _, rfl, rfl, nz (by decide), ?_⟩⟩
            · exact lt64 (hq (by decide) (by decide))
            · exact ⟨by omega, by omega⟩
            · exact bound2 (hq (by decide) (by decide)) (by decide) (by decide) (by decide) t0 ht
            · refine ⟨_, rfl, _, _, rfl, rfl, ⟨by decide, by decide⟩, .inl ⟨_, rfl, _, rfl, _, _, rfl, rfl, (by omega), ?_⟩⟩
              exact k _ _ b2 (fin _ hp2 hL2 b2) (fmod_lo _ hm) (fmod_hi _ hm)
        · skip
          refine ⟨_, rfl, .inl ⟨_, rfl, _, _, rfl, rfl, nz (by decide), _, rfl, _, _, rfl, rfl, .inl ⟨by decide, by decide⟩, _, _, rfl, rfl, _, _, rfl, rfl, _, _, rfl, rfl, ⟨by decide, by decide, bound1 _ (by decide) (by decide) (by decide) (by decide) t0 ht⟩, .inl ⟨_, rfl, _, _, rfl, rfl, nz (by decide), ?_⟩⟩⟩
          refine ⟨_, rfl, _, rfl, _, _, rfl, rfl, .inl ⟨by decide, by decide⟩, _, _, rfl, rfl, _, _, rfl, rfl, .inl ?_, _, rfl, _, _, rfl, rfl, .inl ⟨by decide, by decide⟩, _, rfl, _, _, rfl, rfl, .inl ?_, _, _, rfl, rfl, _, _, rfl, rfl, _, _, rfl, rfl, ⟨by decide, by decide, ?_⟩, .inl ⟨_, rfl, _, _, rfl, rfl, nz (by decide), ?_⟩⟩
          · exact lt64 (hq (by decide) (by decide))
          · exact ⟨by omega, by omega⟩
          · exact bound2 (hq (by decide) (by decide)) (by decide) (by decide) (by decide) t0 ht
          · refine ⟨_, rfl, _, _, rfl, rfl, ⟨by decide, by decide⟩, .inl ⟨_, rfl, _, rfl, _, _, rfl, rfl, (by omega), ?_⟩⟩
            exact k _ _ b2 (fin _ hp2 hL2 b2) (fmod_lo _ hm) (fmod_hi _ hm)
      | cons n0 nr =>
        refine iteT ?_
        obtain ⟨c, hc⟩ := cell_at (ns := ns) (by rw [hn]; exact List.cons_ne_nil _ _) tn
        refine ⟨_, rfl, p, _, 0, _, rfl, rfl, SqL.of hp2, i0, _, rfl, .inl ⟨_, rfl, _, rfl, p, _, 0, _, rfl, rfl, SqL.of hp2, i0, L, _, rfl, .inl (SqL.of hL2), _, _, rfl, rfl, (by rw [List.length_map, hn, List.length_cons]; omega), L, _, _, _, rfl, rfl, SqL.of hL2, hc, ?_⟩⟩
        refine ⟨_, rfl, _, rfl, p, _, 0, _, rfl, rfl, SqL.of hp2, i0, L, _, rfl, .inl (SqL.of hL2), _, _, rfl, rfl, _, rfl, ite2 (fun e1 => ?_) (fun e1 => ?_)⟩
        · refine ⟨_, rfl, _, rfl, _, _, rfl, rfl, ⟨by decide, by decide, by decide⟩, _, _, rfl, rfl, _, rfl, ite2 (fun e2 => ?_) (fun e2 => ?_)⟩
          · refine ⟨_, rfl, _, rfl, _, _, rfl, rfl, ⟨by decide, by decide, by decide⟩, _, _, rfl, rfl, _, _, rfl, rfl, .inl ⟨by decide, by decide⟩, _, rfl, _, _, rfl, rfl, .inr ⟨_, rfl, _, _, rfl, rfl, ?_⟩⟩
            refine ⟨_, rfl, .inl ⟨_, rfl, _, rfl, _, _, rfl, rfl, divW hm hm2, _, rfl, p, _, _, 2, rfl, rfl, hp2, rfl, ?_⟩⟩
            refine ⟨_, rfl, .inl ⟨_, rfl, _, rfl, _, _, rfl, rfl, (by omega), ?_⟩⟩
            refine k _ _ (b2.trans But.upd_at) ⟨_, tn + 1, _, upd_same, by rw [upd_ne Lp]; exact hL2, Lp, hlen, by omega, by omega, ediv_lo hm ?_⟩ (fmod_lo _ hm) (fmod_hi _ hm)
            have e3 := of_decide_eq_true e2
            exact great_nn e3 _
          · skip
            refine ⟨_, rfl, .inl ⟨_, rfl, _, _, rfl, rfl, nz (by decide), _, rfl, _, _, rfl, rfl, .inl ⟨by decide, by decide⟩, _, _, rfl, rfl, _, _, rfl, rfl, _, _, rfl, rfl, ⟨by decide, by decide, bound1 _ (by decide) (by decide) (by decide) (by decide) t0 ht⟩, .inl ⟨_, rfl, _, _, rfl, rfl, nz (by decide), ?_⟩⟩⟩
            refine ⟨_, rfl, _, rfl, _, _, rfl, rfl, .inl ⟨by decide, by decide⟩, _, _, rfl, rfl, _, _, rfl, rfl, .inl ?_, _, rfl, _, _, rfl, rfl, .inl ⟨by decide, by decide⟩, _, rfl, _, _, rfl, rfl, .inl ?_, _, _, rfl, rfl, _, _, rfl, rfl, _, _, rfl, rfl, ⟨by decide, by decide, ?_⟩, .inl ⟨_, rfl, _, _, rfl, rfl, nz (by decide), ?_⟩⟩
            · exact lt64 (hq (by decide) (by decide))
            · exact ⟨by omega, by omega⟩
            · exact bound2 (hq (by decide) (by decide)) (by decide) (by decide) (by decide) t0 ht
            · refine ⟨_, rfl, _, _, rfl, rfl, ⟨by decide, by decide⟩, .inl ⟨_, rfl, _, rfl, _, _, rfl, rfl, (by omega), ?_⟩⟩
              exact k _ _ b2 (fin _ hp2 hL2 b2) (fmod_lo _ hm) (fmod_hi _ hm)
        · skip
          refine ⟨_, rfl, .inl ⟨_, rfl, _, _, rfl, rfl, nz (by decide), _, rfl, _, _, rfl, rfl, .inl ⟨by decide, by decide⟩, _, _, rfl, rfl, _, _, rfl, rfl, _, _, rfl, rfl, ⟨by decide, by decide, bound1 _ (by decide) (by decide) (by decide) (by decide) t0 ht⟩, .inl ⟨_, rfl, _, _, rfl, rfl, nz (by decide), ?_⟩⟩⟩
          refine ⟨_, rfl, _, rfl, _, _, rfl, rfl, .inl ⟨by decide, by decide⟩, _, _, rfl, rfl, _, _, rfl, rfl, .inl ?_, _, rfl, _, _, rfl, rfl, .inl ⟨by decide, by decide⟩, _, rfl, _, _, rfl, rfl, .inl ?_, _, _, rfl, rfl, _, _, rfl, rfl, _, _, rfl, rfl, ⟨by decide, by decide, ?_⟩, .inl ⟨_, rfl, _, _, rfl, rfl, nz (by decide), ?_⟩⟩
          · exact lt64 (hq (by decide) (by decide))
          · exact ⟨by omega, by omega⟩
          · exact bound2 (hq (by decide) (by decide)) (by decide) (by decide) (by decide) t0 ht
          · refine ⟨_, rfl, _, _, rfl, rfl, ⟨by decide, by decide⟩, .inl ⟨_, rfl, _, rfl, _, _, rfl, rfl, (by omega), ?_⟩⟩
            exact k _ _ b2 (fin _ hp2 hL2 b2) (fmod_lo _ hm) (fmod_hi _ hm)
end
end Ev
namespace Ev
open PySem L2
abbrev sIsInt : Stmt := top 13
abbrev sWithin : Stmt := top 14
abbrev sTryInit : Stmt := inClass (top 30) 0
abbrev sTryTurns : Stmt := inClass (top 30) 1
abbrev sTwice : Stmt := inClass (top 30) 2
abbrev sTurnInit : Stmt := inClass (top 29) 0
abbrev sTurnTurns : Stmt := inClass (top 29) 1
abbrev sGreatest : Stmt := inClass (top 28) 2
abbrev sFair : Stmt := top 31
abbrev sNeedW : Stmt := top 35
abbrev sPair : Stmt := top 36
abbrev sTimes : Stmt := top 37
abbrev sPlus : Stmt := top 38
abbrev sTurn : Stmt := top 39
abbrev sNeedT : Stmt := top 40
abbrev sHalves : Stmt := top 41
abbrev sNeedH : Stmt := top 42
def fairB (p q k x y : Int) : Bool := decide (q * y ≤ p * x + k) && decide (q * x ≤ p * y + k)
def spIsInt : Sp := fun vs H Q _ => ∃ i : Int, vs = [.int i] ∧ Q (.bl true) H
def spWithin : Sp := fun vs H Q _ => ∃ v l m : Int, vs = [.int v, .int l, .int m] ∧ l ≤ v ∧ v ≤ m ∧ Q (.bl true) H
def spNeedW : Sp := fun vs H Q _ => ∃ v : Int, vs = [.int v] ∧ 1 ≤ v ∧ v ≤ 10 ^ 60 ∧ Q .non H
def spPair (_K : PySem.W.Frag) : Sp := fun vs H Q _ => ∃ (a : Addr) (x y m : Int), vs = [.ref a, .int m] ∧ H a = some (.tup [.int x, .int y]) ∧ (1 ≤ x ∧ x ≤ m) ∧ (1 ≤ y ∧ y ≤ m) ∧ ∀ H', Same H H' → Q (.bl true) H'
def spTimes (_K : PySem.W.Frag) : Sp := fun vs H Q _ => ∃ (a : Addr) (p q : Int), vs = [.ref a] ∧ H a = some (.tup [.int p, .int q]) ∧ 1 ≤ q ∧ q ≤ p ∧ p ≤ 6 ∧ ∀ H', Same H H' → Q (.bl true) H'
def spPlus : Sp := fun vs H Q _ => ∃ k : Int, vs = [.int k] ∧ -6 ≤ k ∧ k ≤ 6 ∧ Q (.bl true) H
def spTurn (_K : PySem.W.Frag) : Sp := fun vs H Q _ => ∃ (a : Addr) (p q : Int), vs = [.ref a] ∧ H a = some (.tup [.int p, .int q]) ∧ (1 ≤ p ∧ p ≤ 8) ∧ (1 ≤ q ∧ q ≤ 8) ∧ ∀ H', Same H H' → Q (.bl true) H'
def spNeedT (_K : PySem.W.Frag) : Sp := fun vs H Q _ => ∃ (a : Addr) (p q k : Int), vs = [.ref a, .int k] ∧ H a = some (.tup [.int p, .int q]) ∧ 1 ≤ q ∧ q ≤ p ∧ p ≤ 6 ∧ -6 ≤ k ∧ k ≤ 6 ∧ ∀ H', Same H H' → Q .non H'
def spHalves (_K : PySem.W.Frag) : Sp := fun vs H Q _ => ∃ (a : Addr) (p q k : Int), vs = [.ref a, .int k] ∧ H a = some (.tup [.int p, .int q]) ∧ 2 * q ≤ p + k ∧ Q (.bl true) H
def spNeedH (_K : PySem.W.Frag) : Sp := fun vs H Q _ => ∃ (a : Addr) (p q k : Int), vs = [.ref a, .int k] ∧ H a = some (.tup [.int p, .int q]) ∧ 0 ≤ q ∧ 2 * q ≤ p + k ∧ Q .non H
section
variable {P : Program} {w : World} {K : PySem.W.Frag} {mg : Str → Option Value} {base : Heap}
theorem scIsInt : FnScope ["value"] ["value"] (defScope sIsInt) := ⟨rfl, rfl, rfl, by decide +kernel, rfl, by decide +kernel, by decide +kernel⟩
theorem ok_isInt {f : Addr} {fd : FuncData} (F : Fun K "is_integer" "is_integer" sIsInt f fd) (T : Blt mg) : FnOk P w K mg base CX0 1 f fd ["value"] spIsInt := by
  refine F.ok scIsInt (fun vs H Q E h => ?_) (fun cdv A outer s H vs Q E hr h => ?_)
  · obtain ⟨i, rfl, _⟩ := h
    rfl
  · obtain ⟨i, rfl, k⟩ := h
    refine ⟨_, pss_one (ps_ret (pe_and (pe_callB call_isi (by rfl) T.isi (by decide +kernel) (pa_cons (pv 0) (pa_cons (pe_bltn (v := .ty "int") (by rfl) T.int (by decide +kernel) rfl) pa_nil)))
      (pe_one (pe_not (pe_callB call_isi (by rfl) T.isi (by decide +kernel) (pa_cons (pv 0) (pa_cons (pe_bltn (v := .ty "bool") (by rfl) T.bool (by decide +kernel) rfl) pa_nil))))))), ?_⟩
    refine ⟨_, rfl, _, _, _, _, true, rfl, .ty _, .base (.int i), kit_ty (by decide +kernel), true, rfl, iteT ⟨_, rfl, _, _, _, _, false, rfl, .ty _, .base (.int i), kit_ty (by decide +kernel), _, rfl, ?_⟩⟩
    exact k
theorem scWithin : FnScope ["value", "least", "most"] ["value", "least", "most"] (defScope sWithin) := ⟨rfl, rfl, rfl, by decide +kernel, rfl, by decide +kernel, by decide +kernel⟩
theorem ok_within {f fI : Addr} {fd fdI : FuncData} (F : Fun K "is_within" "is_within" sWithin f fd) (T : Blt mg)
    (GI : FnOk P w K mg base CX0 1 fI fdI ["value"] spIsInt) (gI : mg "is_integer" = some (.ref fI)) (kI : PySem.W.keepIn K (.ref fI) = true) (bI : Binds K fdI ["value"] []) : FnOk P w K mg base CX0 2 f fd ["value", "least", "most"] spWithin := by
  refine F.ok scWithin (fun vs H Q E h => ?_) (fun cdv A outer s H vs Q E hr h => ?_)
  · obtain ⟨v, l, m, rfl, _⟩ := h
    rfl
  · obtain ⟨v, l, m, rfl, h1, h2, k⟩ := h
    refine ⟨_, pss_one (ps_ret (pe_and (pe_call GI hr (by rfl) gI kI bI .nil pass0 (pa_cons (pv 0) pa_nil)) (pe_one (pe_chain op_le op_le (pv 1) (pv 0) (pv 2))))), ?_⟩
    refine ⟨_, rfl, v, rfl, true, rfl, iteT ⟨_, rfl, _, rfl, _, _, rfl, rfl, true, congrArg V.bl (decide_eq_true h1), iteT ⟨_, rfl, _, _, rfl, rfl, ?_⟩⟩⟩
    show Q (.bl (decide (v ≤ m))) H
    rw [decide_eq_true h2]
    exact k

/-- a def that stands under its name -/
structure Df (P : Program) (w : World) (K : PySem.W.Frag) (mg : Str → Option Value) (base : Heap) (k : Nat) (x : Str) (ps : List Str) (sp : Sp) : Prop where
  ex : ∃ (f : Addr) (fd : FuncData), FnOk P w K mg base CX0 k f fd ps sp ∧ mg x = some (.ref f) ∧ PySem.W.keepIn K (.ref f) = true ∧ Binds K fd ps []
theorem scNeedW : FnScope ["value"] ["value"] (defScope sNeedW) := ⟨rfl, rfl, rfl, by decide +kernel, rfl, by decide +kernel, by decide +kernel⟩
theorem ok_needW {f : Addr} {fd : FuncData} (F : Fun K "need_weight" "need_weight" sNeedW f fd) (D : Df P w K mg base 2 "is_within" ["value", "least", "most"] spWithin) {t : Tok} (gM : mg "MOST_WEIGHT" = some (.int (10 ^ 60) t)) :
    FnOk P w K mg base CX0 3 f fd ["value"] spNeedW := by
  obtain ⟨fW, fdW, GW, gW, kW, bW⟩ := D.ex
  refine F.ok scNeedW (fun vs H Q E h => ?_) (fun cdv A outer s H vs Q E hr h => ?_)
  · obtain ⟨i, rfl, _⟩ := h
    rfl
  · obtain ⟨i, rfl, h1, h2, k⟩ := h
    refine ⟨_, pss_one (ps_if (pt_not (pt_val (pe_call GW hr (by rfl) gW kW bW .nil pass0 (pa_cons (pv 0) (pa_cons pe_int (pa_cons (pe_glob (v := .int (10 ^ 60)) rfl gM ⟨_, rfl⟩) pa_nil)))))) (pss_one ps_never) pss_nil), ?_⟩
    exact ⟨_, rfl, _, _, _, rfl, h1, h2, true, rfl, iteF k⟩
theorem scPair : FnScope ["value", "most", "item"] ["value", "most"] (defScope sPair) := ⟨rfl, rfl, rfl, by decide +kernel, rfl, by decide +kernel, by decide +kernel⟩
theorem ok_pair {f : Addr} {fd : FuncData} (F : Fun K "is_pair" "is_pair" sPair f fd) (T : Blt mg) (D : Df P w K mg base 2 "is_within" ["value", "least", "most"] spWithin) :
    FnOk P w K mg base CX0 3 f fd ["value", "most"] (spPair K) := by
  obtain ⟨fW, fdW, GW, gW, kW, bW⟩ := D.ex
  refine F.ok scPair (fun vs H Q E h => ?_) (fun cdv A outer s H vs Q E hr h => ?_)
  · obtain ⟨a, x, y, m, rfl, _⟩ := h
    rfl
  · obtain ⟨a, x, y, m, rfl, ha, hx, hy, k⟩ := h
    refine ⟨_, pss_one (ps_ret (pe_and (pe_callB call_isi (by rfl) T.isi (by decide +kernel) (pa_cons (pv 0) (pa_cons (pe_bltn (v := .ty "tuple") (by rfl) T.tuple (by decide +kernel) rfl) pa_nil)))
      (pe_and (pe_cmpR op_eq (pe_callB call_len_seq (by rfl) T.len PySem.boot_len (pa_cons (pv 0) pa_nil)) pe_int (nomark _))
      (pe_one (pe_callB (cr_all rfl) (by rfl) T.all (by decide +kernel) (pa_cons (pe_lc (own := [("item", 2)]) (g := gName 2) (by rfl) scPair.nd (pi_tup (pv 0)) (blkOk_by (own := [("item", 2)]) (N := ["value", "most", "item"]) (sc := defScope sPair) (by decide +kernel))
          (fun _ _ _ _ _ => pg_name (i := 2) scPair.nd rfl (.inl rfl)) (fun _ _ _ _ _ => pts_nil) (fun _ _ _ _ _ => pe_call GW hr (by rfl) gW kW bW .nil pass0 (pa_cons (pv 2) (pa_cons pe_int (pa_cons (pv 1) pa_nil))))) pa_nil)))))), ?_⟩
    refine ⟨_, rfl, _, _, _, _, true, rfl, .ty _, .base (.tup ha), kit_ty (by decide +kernel), true, rfl, iteT ⟨_, rfl, a, _, rfl, .inr (SqT.of ha), rfl, true, congrArg V.bl (decide_eq_true rfl), iteT ⟨_, rfl, a, rfl, ⟨_, SqT.of ha⟩, fun D nD => ?_⟩⟩⟩
    have naD : a ≠ D := ne_of_none ha nD
    refine lc_tup (xs := [V.int x, V.int y]) (fun i H' => H' D = some (.lst ((List.replicate i true).map V.bl)) ∧ But D H H') ⟨upd_same, But.upd_at⟩ (fun i H' _ h => SqT.of (h.2 _ _ naD ha)) (fun i v H' hi ⟨e1, e2⟩ => ?_) (fun H' ⟨e1, e2⟩ => ?_)
    · obtain ⟨z, rfl, z1, z2⟩ : ∃ z : Int, v = .int z ∧ 1 ≤ z ∧ z ≤ m := by
        match i, hi with
        | 0, hi => exact ⟨x, (Option.some.inj hi).symm, hx.1, hx.2⟩
        | 1, hi => exact ⟨y, (Option.some.inj hi).symm, hy.1, hy.2⟩
        | n + 2, hi => cases hi
      have hil : i < 2 := (List.getElem?_eq_some_iff.mp hi).1
      refine ⟨rfl, _, rfl, _, rfl, _, _, _, rfl, z1, z2, _, e1, ?_, ?_, ?_⟩
      · rw [List.length_map, List.length_replicate]; exact small1000 (by omega)
      · rw [List.replicate_succ', List.map_append]
        exact upd_same
      · exact e2.trans But.upd_at
    · refine ⟨D, [true, true], rfl, SqL.of e1, ?_⟩
      exact k H' fun b o e => e2 b o (ne_of_none e nD) e
end
end Ev
namespace Ev
open PySem L2
section
variable {P : Program} {w : World} {K : PySem.W.Frag} {mg : Str → Option Value} {base : Heap}
theorem tup1 {a b : V} : atI [a, b] 1 = some b := atI_nat (j := 1) rfl
theorem tup0 {a b : V} : atI [a, b] 0 = some a := atI_nat (j := 0) rfl
theorem scTimes : FnScope ["value"] ["value"] (defScope sTimes) := ⟨rfl, rfl, rfl, by decide +kernel, rfl, by decide +kernel, by decide +kernel⟩
theorem ok_times {f : Addr} {fd : FuncData} (F : Fun K "is_times" "is_times" sTimes f fd) (D : Df P w K mg base 3 "is_pair" ["value", "most"] (spPair K)) {CW : Addr} {mc u : Value} (gW : mg "WeightRule" = some (.ref CW)) (cr : ClX.CRead K CW mc) (cv : ClX.CVal K CW mc "MOST" (.int 6) u) :
    FnOk P w K mg base CX0 4 f fd ["value"] (spTimes K) := by
  obtain ⟨fP, fdP, GP, gP, kP, bP⟩ := D.ex
  refine F.ok scTimes (fun vs H Q E h => ?_) (fun cdv A outer s H vs Q E hr h => ?_)
  · obtain ⟨a, p, q, rfl, _⟩ := h
    rfl
  · obtain ⟨a, p, q, rfl, ha, h1, h2, h3, k⟩ := h
    refine ⟨_, pss_one (ps_ret (pe_and (pe_call GP hr (by rfl) gP kP bP .nil pass0 (pa_cons (pv 0) (pa_cons (ClX.pe_cval (pe_glob (v := .ref CW) rfl gW rfl)) pa_nil)))
      (pe_one (pe_cmpR op_le (pe_ix ix_tup (pv 0) pe_int (fun _ _ => rfl)) (pe_ix ix_tup (pv 0) pe_int (fun _ _ => rfl)) (nomark _))))), ?_⟩
    refine ⟨_, rfl, CW, mc, _, u, rfl, cr, cv, a, p, q, _, rfl, ha, ⟨by omega, by omega⟩, ⟨by omega, by omega⟩, fun H' s => ⟨true, rfl, ?_⟩⟩
    refine ⟨_, rfl, a, _, 1, _, rfl, rfl, SqT.of (s _ _ ha), tup1, _, rfl, a, _, 0, _, rfl, rfl, SqT.of (s _ _ ha), tup0, _, _, rfl, rfl, ?_⟩
    show Q (.bl (decide (q ≤ p))) H'
    rw [decide_eq_true h2]
    exact k H' s
theorem scPlus : FnScope ["value"] ["value"] (defScope sPlus) := ⟨rfl, rfl, rfl, by decide +kernel, rfl, by decide +kernel, by decide +kernel⟩
theorem ok_plus {f : Addr} {fd : FuncData} (F : Fun K "is_plus" "is_plus" sPlus f fd) (D : Df P w K mg base 2 "is_within" ["value", "least", "most"] spWithin) {t : Tok} (gM : mg "MOST_PLUS" = some (.int 6 t)) : FnOk P w K mg base CX0 3 f fd ["value"] spPlus := by
  obtain ⟨fW, fdW, GW, gW, kW, bW⟩ := D.ex
  refine F.ok scPlus (fun vs H Q E h => ?_) (fun cdv A outer s H vs Q E hr h => ?_)
  · obtain ⟨i, rfl, _⟩ := h
    rfl
  · obtain ⟨i, rfl, h1, h2, k⟩ := h
    refine ⟨_, pss_one (ps_ret (pe_call GW hr (by rfl) gW kW bW .nil pass0 (pa_cons (pv 0) (pa_cons (pe_un un_neg (pe_glob (v := .int 6) rfl gM ⟨_, rfl⟩)) (pa_cons (pe_glob (v := .int 6) rfl gM ⟨_, rfl⟩) pa_nil))))), ?_⟩
    exact ⟨_, rfl, _, rfl, _, _, _, rfl, h1, h2, k⟩
theorem scTurn : FnScope ["value"] ["value"] (defScope sTurn) := ⟨rfl, rfl, rfl, by decide +kernel, rfl, by decide +kernel, by decide +kernel⟩
theorem ok_turn {f : Addr} {fd : FuncData} (F : Fun K "is_turn" "is_turn" sTurn f fd) (D : Df P w K mg base 3 "is_pair" ["value", "most"] (spPair K)) {t : Tok} (gM : mg "MOST_TURN" = some (.int 8 t)) : FnOk P w K mg base CX0 4 f fd ["value"] (spTurn K) := by
  obtain ⟨fP, fdP, GP, gP, kP, bP⟩ := D.ex
  refine F.ok scTurn (fun vs H Q E h => ?_) (fun cdv A outer s H vs Q E hr h => ?_)
  · obtain ⟨a, p, q, rfl, _⟩ := h
    rfl
  · obtain ⟨a, p, q, rfl, ha, h1, h2, k⟩ := h
    refine ⟨_, pss_one (ps_ret (pe_call GP hr (by rfl) gP kP bP .nil pass0 (pa_cons (pv 0) (pa_cons (pe_glob (v := .int 8) rfl gM ⟨_, rfl⟩) pa_nil)))), ?_⟩
    exact ⟨_, rfl, a, p, q, _, rfl, ha, h1, h2, k⟩
theorem scNeedT : FnScope ["times", "plus"] ["times", "plus"] (defScope sNeedT) := ⟨rfl, rfl, rfl, by decide +kernel, rfl, by decide +kernel, by decide +kernel⟩
theorem ok_needT {f : Addr} {fd : FuncData} (F : Fun K "need_times" "need_times" sNeedT f fd) (D1 : Df P w K mg base 4 "is_times" ["value"] (spTimes K)) (D2 : Df P w K mg base 3 "is_plus" ["value"] spPlus) : FnOk P w K mg base CX0 5 f fd ["times", "plus"] (spNeedT K) := by
  obtain ⟨f1, fd1, G1, g1, k1, b1⟩ := D1.ex
  obtain ⟨f2, fd2, G2, g2, k2, b2⟩ := D2.ex
  refine F.ok scNeedT (fun vs H Q E h => ?_) (fun cdv A outer s H vs Q E hr h => ?_)
  · obtain ⟨a, p, q, k, rfl, _⟩ := h
    rfl
  · obtain ⟨a, p, q, k, rfl, ha, h1, h2, h3, h4, h5, kk⟩ := h
    refine ⟨_, pss_cons (ps_if (pt_not (pt_val (pe_call G1 hr (by rfl) g1 k1 b1 .nil pass0 (pa_cons (pv 0) pa_nil)))) (pss_one ps_never) pss_nil)
      (pss_one (ps_if (pt_not (pt_val (pe_call G2 (hr.mono (by decide)) (by rfl) g2 k2 b2 .nil pass0 (pa_cons (pv 1) pa_nil)))) (pss_one ps_never) pss_nil)), ?_⟩
    exact ⟨_, rfl, a, p, q, rfl, ha, h1, h2, h3, fun H' s => ⟨true, rfl, iteF ⟨_, rfl, k, rfl, h4, h5, true, rfl, iteF (kk H' s)⟩⟩⟩
theorem scHalves : FnScope ["times", "plus", "over", "under"] ["times", "plus"] (defScope sHalves) := ⟨rfl, rfl, rfl, by decide +kernel, rfl, by decide +kernel, by decide +kernel⟩
theorem ok_halves {f : Addr} {fd : FuncData} (F : Fun K "has_halves" "has_halves" sHalves f fd) : FnOk P w K mg base CX0 1 f fd ["times", "plus"] (spHalves K) := by
  refine F.ok scHalves (fun vs H Q E h => ?_) (fun cdv A outer s H vs Q E hr h => ?_)
  · obtain ⟨a, p, q, k, rfl, _⟩ := h
    rfl
  · obtain ⟨a, p, q, k, rfl, ha, h1, kk⟩ := h
    refine ⟨_, pss_cons (ps_asg (pv 0) (pg_tup (by rfl) (pgs_cons (pg_name (i := 2) scHalves.nd rfl (.inl rfl)) (pgs_cons (pg_name (i := 3) scHalves.nd rfl (.inl rfl)) pgs_nil))))
      (pss_one (ps_ret (pe_cmpR op_ge (pe_op op_add (pv 2) (pv 1)) (pe_op op_mul pe_int (pv 3)) (nomark _)))), ?_⟩
    refine ⟨_, rfl, a, _, rfl, SqT.of ha, rfl, _, _, rfl, _, _, rfl, rfl, ?_⟩
    refine ⟨_, rfl, _, rfl, _, _, rfl, rfl, _, rfl, _, _, rfl, rfl, .inl ⟨by decide, by decide⟩, _, _, rfl, rfl, ?_⟩
    show Q (.bl (decide (2 * q ≤ p + k))) H
    rw [decide_eq_true h1]
    exact kk
theorem scNeedH : FnScope ["times", "plus", "over", "under"] ["times", "plus"] (defScope sNeedH) := ⟨rfl, rfl, rfl, by decide +kernel, rfl, by decide +kernel, by decide +kernel⟩
theorem ok_needH {f : Addr} {fd : FuncData} (F : Fun K "need_halves" "need_halves" sNeedH f fd) (D : Df P w K mg base 1 "has_halves" ["times", "plus"] (spHalves K)) : FnOk P w K mg base CX0 2 f fd ["times", "plus"] (spNeedH K) := by
  obtain ⟨f1, fd1, G1, g1, k1, b1⟩ := D.ex
  refine F.ok scNeedH (fun vs H Q E h => ?_) (fun cdv A outer s H vs Q E hr h => ?_)
  · obtain ⟨a, p, q, k, rfl, _⟩ := h
    rfl
  · obtain ⟨a, p, q, k, rfl, ha, h0, h1, kk⟩ := h
    refine ⟨_, pss_cons (ps_asg (pv 0) (pg_tup (by rfl) (pgs_cons (pg_name (i := 2) scNeedH.nd rfl (.inl rfl)) (pgs_cons (pg_name (i := 3) scNeedH.nd rfl (.inl rfl)) pgs_nil))))
      (pss_cons (ps_if (pt_cmpR op_lt (pe_op op_add (pv 2) (pv 1)) (pv 3) (nomark _)) (pss_one ps_never) pss_nil)
      (pss_one (ps_if (pt_not (pt_val (pe_call G1 hr (by rfl) g1 k1 b1 .nil pass0 (pa_cons (pv 0) (pa_cons (pv 1) pa_nil))))) (pss_one ps_never) pss_nil))), ?_⟩
    refine ⟨_, rfl, a, _, rfl, SqT.of ha, rfl, _, _, rfl, _, _, rfl, rfl, ?_⟩
    refine ⟨_, rfl, _, rfl, _, _, rfl, rfl, _, rfl, _, _, rfl, rfl, _, rfl, ite2 (fun e => ?_) (fun _ => ?_)⟩
    · have := of_decide_eq_true e; omega
    · exact ⟨_, rfl, _, rfl, a, p, q, k, rfl, ha, h1, true, rfl, iteF kk⟩
end
end Ev
namespace Ev
open PySem L2
/-- the part of a rule object that every rule has -/
structure RB (K : PySem.W.Frag) (H : Hp) (r : Addr) (p q k : Int) : Prop where
  ex : ∃ (C dx : Addr) (fs : List (Str × V)) (a : Addr), H r = some (.ins C dx fs) ∧ Cls K C ∧ NoAttr K C "times" ∧ NoAttr K C "plus" ∧ fs.lookup ("times" : Str) = some (.ref a) ∧ fs.lookup ("plus" : Str) = some (.int k) ∧ H a = some (.tup [.int p, .int q])
  b1 : 1 ≤ q
  b2 : q ≤ p
  b3 : p ≤ 6
  b4 : -6 ≤ k
  b5 : k ≤ 6
def tryF (a : Addr) (k : Int) : List (Str × V) := [("times", .ref a), ("plus", .int k)]
def turnF (a : Addr) (k : Int) (b : Addr) (r : Int) : List (Str × V) := [("times", .ref a), ("plus", .int k), ("turn", .ref b), ("turn_plus", .int r)]
def tryT (p q k l i o : Int) (n : Option Int) : Int :=
  if (fairB p q k l i && fairB p q k (l + i) o) = true then 1 else
    match n with
    | none => 1
    | some n => if (decide (1 < i) && (fairB p q k l n && (fairB p q k (i - n) o && fairB p q k (l + n) (i - n + o)))) = true then 2 else 1
def turnT (t s r i o : Int) : Int := if s * i ≤ t * o + r then 1 else if 1 < i then 2 else 0
def spFair (K : PySem.W.Frag) : Sp := fun vs H Q _ => ∃ (r : Addr) (p q k x y : Int), vs = [.ref r, .int x, .int y] ∧ RB K H r p q k ∧ Q (.bl (fairB p q k x y)) H
def spGreatest (K : PySem.W.Frag) : Sp := fun vs H Q _ => ∃ (r : Addr) (p q k x : Int), vs = [.ref r, .int x] ∧ RB K H r p q k ∧ 1 ≤ x ∧ x ≤ 10 ^ 60 ∧ Q (.int ((p * x + k).fdiv q)) H
def spTwice (K : PySem.W.Frag) : Sp := fun vs H Q _ => ∃ (r : Addr) (p q k l i o n : Int), vs = [.ref r, .int l, .int i, .int o, .int n] ∧ RB K H r p q k ∧ Q (.bl (fairB p q k l n && (fairB p q k (i - n) o && fairB p q k (l + n) (i - n + o)))) H
def vOpt : Option Int → V
  | none => .non
  | some n => .int n
def spTryTurns (K : PySem.W.Frag) (C : Addr) : Sp := fun vs H Q _ => ∃ (r : Addr) (p q k l i o : Int) (n : Option Int) (dx : Addr) (fs : List (Str × V)), vs = [.ref r, .int l, .int i, .int o, vOpt n] ∧ RB K H r p q k ∧ H r = some (.ins C dx fs) ∧ fs.lookup ("twice_is_fair" : Str) = none ∧ (n = none → i = 1) ∧
  Q (.int (tryT p q k l i o n)) H
def spTurnTurns (K : PySem.W.Frag) (C : Addr) : Sp := fun vs H Q _ => ∃ (r : Addr) (l i o : Int) (n : Option Int) (dx a b : Addr) (k t s c : Int), vs = [.ref r, .int l, .int i, .int o, vOpt n] ∧ H r = some (.ins C dx (turnF a k b c)) ∧ H b = some (.tup [.int t, .int s]) ∧ (1 ≤ t ∧ t ≤ 8) ∧ (1 ≤ s ∧ s ≤ 8) ∧
  Q (.int (turnT t s c i o)) H
section
variable {P : Program} {w : World} {K : PySem.W.Frag} {mg : Str → Option Value} {base : Heap}
theorem m64 {q : Int} (h1 : 1 ≤ q) (h2 : q ≤ 8) : -(2 ^ 64) < q ∧ q < 2 ^ 64 := ⟨by omega, by omega⟩
theorem scFair : FnScope ["rule", "x", "y", "over", "under"] ["rule", "x", "y"] (defScope sFair) := ⟨rfl, rfl, rfl, by decide +kernel, rfl, by decide +kernel, by decide +kernel⟩
theorem ok_fair {f : Addr} {fd : FuncData} (F : Fun K "are_fair" "are_fair" sFair f fd) : FnOk P w K mg base CX0 1 f fd ["rule", "x", "y"] (spFair K) := by
  refine F.ok scFair (fun vs H Q E h => ?_) (fun cdv A outer s H vs Q E hr h => ?_)
  · obtain ⟨r, p, q, k, x, y, rfl, _⟩ := h
    rfl
  · obtain ⟨r, p, q, k, x, y, rfl, ⟨⟨C, dx, fs, a, hr1, cl, n1, n2, l1, l2, ha⟩, b1, b2, b3, b4, b5⟩, kk⟩ := h
    refine ⟨_, pss_cons (ps_asg (pe_fld (pv 0) rfl) (pg_tup (by rfl) (pgs_cons (pg_name (i := 3) scFair.nd rfl (.inl rfl)) (pgs_cons (pg_name (i := 4) scFair.nd rfl (.inl rfl)) pgs_nil))))
      (pss_one (ps_ret (pe_and (pe_cmpR op_le (pe_op op_mul (pv 4) (pv 2)) (pe_op op_add (pe_op op_mul (pv 3) (pv 1)) (pe_fld (pv 0) rfl)) (nomark _))
        (pe_one (pe_cmpR op_le (pe_op op_mul (pv 4) (pv 1)) (pe_op op_add (pe_op op_mul (pv 3) (pv 2)) (pe_fld (pv 0) rfl)) (nomark _)))))), ?_⟩
    have q6 := m64 b1 (show q ≤ 8 by omega)
    have p6 := m64 (show 1 ≤ p by omega) (show p ≤ 8 by omega)
    refine ⟨_, rfl, r, C, dx, fs, _, rfl, hr1, cl, n1, l1, a, _, rfl, SqT.of ha, rfl, _, _, rfl, _, _, rfl, rfl, ?_⟩
    refine ⟨_, rfl, _, rfl, _, _, rfl, rfl, .inl q6, _, rfl, _, rfl, _, _, rfl, rfl, .inl p6, _, rfl, r, C, dx, fs, _, rfl, hr1, cl, n2, l2, _, _, rfl, rfl, _, _, rfl, rfl, _, rfl, ite2 (fun e => ?_) (fun e => ?_)⟩
    · refine ⟨_, rfl, _, rfl, _, _, rfl, rfl, .inl q6, _, rfl, _, rfl, _, _, rfl, rfl, .inl p6, _, rfl, r, C, dx, fs, _, rfl, hr1, cl, n2, l2, _, _, rfl, rfl, _, _, rfl, rfl, ?_⟩
      show Q (.bl (decide (q * x ≤ p * y + k))) H
      rw [show fairB p q k x y = decide (q * x ≤ p * y + k) by unfold fairB; rw [show decide (q * y ≤ p * x + k) = true from e, Bool.true_and]] at kk
      exact kk
    · rw [show fairB p q k x y = false by unfold fairB; rw [show decide (q * y ≤ p * x + k) = false from Bool.eq_false_iff.mpr e, Bool.false_and]] at kk
      exact kk
theorem scTwice : FnScope ["self", "light", "inner", "outer", "near", "far"] ["self", "light", "inner", "outer", "near"] (defScope sTwice) := ⟨rfl, rfl, rfl, by decide +kernel, rfl, by decide +kernel, by decide +kernel⟩
theorem ok_twice {f : Addr} {fd : FuncData} (F : Fun K "twice_is_fair" "TryRule.twice_is_fair" sTwice f fd) (D : Df P w K mg base 1 "are_fair" ["rule", "x", "y"] (spFair K)) : FnOk P w K mg base CX0 2 f fd ["self", "light", "inner", "outer", "near"] (spTwice K) := by
  obtain ⟨f1, fd1, G1, g1, k1, b1⟩ := D.ex
  refine F.ok scTwice (fun vs H Q E h => ?_) (fun cdv A outer s H vs Q E hr h => ?_)
  · obtain ⟨r, p, q, k, l, i, o, n, rfl, _⟩ := h
    rfl
  · obtain ⟨r, p, q, k, l, i, o, n, rfl, R, kk⟩ := h
    refine ⟨_, pss_cons (ps_set (i := 5) scTwice.nd rfl (.inl rfl) (pe_op op_sub (pv 2) (pv 4)))
      (pss_one (ps_ret (pe_and (pe_call G1 hr (by rfl) g1 k1 b1 .nil pass0 (pa_cons (pv 0) (pa_cons (pv 1) (pa_cons (pv 4) pa_nil))))
        (pe_and (pe_call G1 hr (by rfl) g1 k1 b1 .nil pass0 (pa_cons (pv 0) (pa_cons (pv 5) (pa_cons (pv 3) pa_nil))))
        (pe_one (pe_call G1 hr (by rfl) g1 k1 b1 .nil pass0 (pa_cons (pv 0) (pa_cons (pe_op op_add (pv 1) (pv 4)) (pa_cons (pe_op op_add (pv 5) (pv 3)) pa_nil))))))))), ?_⟩
    refine ⟨_, rfl, _, rfl, _, _, rfl, rfl, _, rfl, _, rfl, _, rfl, r, p, q, k, _, _, rfl, R, _, rfl, ite2 (fun e => ?_) (fun e => ?_)⟩
    · rw [e, Bool.true_and] at kk
      refine ⟨_, rfl, _, rfl, _, rfl, r, p, q, k, _, _, rfl, R, _, rfl, ite2 (fun e => ?_) (fun e => ?_)⟩
      · rw [show fairB p q k (i - n) o = true from e, Bool.true_and] at kk
        exact ⟨_, rfl, _, rfl, _, rfl, _, _, rfl, rfl, _, rfl, _, rfl, _, _, rfl, rfl, r, p, q, k, _, _, rfl, R, kk⟩
      · rw [show fairB p q k (i - n) o = false from Bool.eq_false_iff.mpr e, Bool.false_and] at kk
        exact kk
    · rw [Bool.eq_false_iff.mpr e, Bool.false_and] at kk
      exact kk
end
end Ev
namespace Ev
open PySem L2 PySem.Spec PyProof.Rows
theorem same_new {H : Hp} {q : Addr} {o : HO} (n : H q = none) : Same H (upd H q o) := fun b u e => by rw [upd_ne (ne_of_none e n)]; exact e
theorem lk_hit {k : Str} {v : V} {l : List (Str × V)} : List.lookup k ((k, v) :: l) = some v := by simp [List.lookup]
theorem lk_miss {k k' : Str} {v : V} {l : List (Str × V)} (h : ¬ k = k') : List.lookup k ((k', v) :: l) = List.lookup k l := by
  have : (k == k') = false := by simpa using h
  simp [List.lookup, this]
theorem try_times (a : Addr) (k : Int) : (tryF a k).lookup ("times" : Str) = some (.ref a) := lk_hit
theorem try_plus (a : Addr) (k : Int) : (tryF a k).lookup ("plus" : Str) = some (.int k) := (lk_miss (by decide +kernel)).trans lk_hit
theorem turn_times (a : Addr) (k : Int) (b : Addr) (c : Int) : (turnF a k b c).lookup ("times" : Str) = some (.ref a) := lk_hit
theorem turn_plus (a : Addr) (k : Int) (b : Addr) (c : Int) : (turnF a k b c).lookup ("plus" : Str) = some (.int k) := (lk_miss (by decide +kernel)).trans lk_hit
theorem turn_turn (a : Addr) (k : Int) (b : Addr) (c : Int) : (turnF a k b c).lookup ("turn" : Str) = some (.ref b) := (lk_miss (by decide +kernel)).trans ((lk_miss (by decide +kernel)).trans lk_hit)
theorem turn_tp (a : Addr) (k : Int) (b : Addr) (c : Int) : (turnF a k b c).lookup ("turn_plus" : Str) = some (.int c) := (lk_miss (by decide +kernel)).trans ((lk_miss (by decide +kernel)).trans ((lk_miss (by decide +kernel)).trans lk_hit))
theorem try_no (a : Addr) (k : Int) {m : Str} (h1 : ¬ m = "times") (h2 : ¬ m = "plus") : (tryF a k).lookup m = none := (lk_miss h1).trans ((lk_miss h2).trans rfl)
theorem turn_no (a : Addr) (k : Int) (b : Addr) (c : Int) {m : Str} (h1 : ¬ m = "times") (h2 : ¬ m = "plus") (h3 : ¬ m = "turn") (h4 : ¬ m = "turn_plus") : (turnF a k b c).lookup m = none := (lk_miss h1).trans ((lk_miss h2).trans ((lk_miss h3).trans ((lk_miss h4).trans rfl)))
theorem put_try (a : Addr) (k : Int) : putF "plus" (.int k) (putF "times" (.ref a) []) = tryF a k := by
  show (if ("times" : Str) = "plus" then _ else _) = _
  rw [if_neg (by decide +kernel)]
  rfl
theorem put_turn1 (a : Addr) (k : Int) (b : Addr) : putF "turn" (V.ref b) (tryF a k) = ([("times", V.ref a), ("plus", V.int k), ("turn", V.ref b)] : List (Str × V)) := by
  show (if ("times" : Str) = "turn" then _ else _ :: (if ("plus" : Str) = "turn" then _ else _)) = _
  rw [if_neg (by decide +kernel), if_neg (by decide +kernel)]
  rfl
theorem put_turn2 (a : Addr) (k : Int) (b : Addr) (c : Int) : putF "turn_plus" (.int c) (putF "turn" (.ref b) (tryF a k)) = turnF a k b c := by
  rw [put_turn1]
  show (if ("times" : Str) = "turn_plus" then _ else _ :: (if ("plus" : Str) = "turn_plus" then _ else _ :: (if ("turn" : Str) = "turn_plus" then _ else _))) = _
  rw [if_neg (by decide +kernel), if_neg (by decide +kernel), if_neg (by decide +kernel)]
  rfl
/-- a class of rules -/
structure RCls (K : PySem.W.Frag) (C : Addr) : Prop where
  cl : Cls K C
  n1 : NoAttr K C "times"
  n2 : NoAttr K C "plus"
  n3 : NoAttr K C "turn"
  n4 : NoAttr K C "turn_plus"
def spTryInit (C : Addr) : Sp := fun vs H Q _ => ∃ (x dx a : Addr) (p q k : Int), vs = [.ref x, .ref a, .int k] ∧ H x = some (.ins C dx []) ∧ H a = some (.tup [.int p, .int q]) ∧ 1 ≤ q ∧ q ≤ p ∧ p ≤ 6 ∧ -6 ≤ k ∧ k ≤ 6 ∧ 2 * q ≤ p + k ∧
  ∀ H', But x H H' → H' x = some (.ins C dx (tryF a k)) → Q .non H'
def spTurnInit (C : Addr) : Sp := fun vs H Q _ => ∃ (x dx a b : Addr) (p q k t s c : Int), vs = [.ref x, .ref a, .int k, .ref b, .int c] ∧ H x = some (.ins C dx []) ∧ H a = some (.tup [.int p, .int q]) ∧ H b = some (.tup [.int t, .int s]) ∧
  1 ≤ q ∧ q ≤ p ∧ p ≤ 6 ∧ -6 ≤ k ∧ k ≤ 6 ∧ 2 * q ≤ p + k ∧ (1 ≤ t ∧ t ≤ 8) ∧ (1 ≤ s ∧ s ≤ 8) ∧ -6 ≤ c ∧ c ≤ 6 ∧ ∀ H', But x H H' → H' x = some (.ins C dx (turnF a k b c)) → Q .non H'
section
variable {P : Program} {w : World} {K : PySem.W.Frag} {mg : Str → Option Value} {base : Heap}
theorem scTryInit : FnScope ["self", "times", "plus"] ["self", "times", "plus"] (defScope sTryInit) := ⟨rfl, rfl, rfl, by decide +kernel, rfl, by decide +kernel, by decide +kernel⟩
theorem ok_tryInit {f C : Addr} {fd : FuncData} {dvs : List V} {kws : List (Str × V)} (F : FunD K "__init__" "TryRule.__init__" (defArgs sTryInit) (defBody sTryInit) (defScope sTryInit) dvs kws f fd) (T : RCls K C) (D1 : Df P w K mg base 5 "need_times" ["times", "plus"] (spNeedT K))
    (D2 : Df P w K mg base 2 "need_halves" ["times", "plus"] (spNeedH K)) : FnOk P w K mg base CX0 6 f fd ["self", "times", "plus"] (spTryInit C) := by
  obtain ⟨f1, fd1, G1, g1, k1, bb1⟩ := D1.ex
  obtain ⟨f2, fd2, G2, g2, k2, bb2⟩ := D2.ex
  refine F.ok scTryInit (fun vs H Q E h => ?_) (fun cdv A outer s H vs Q E hr h => ?_)
  · obtain ⟨x, dx, a, p, q, k, rfl, _⟩ := h
    rfl
  · obtain ⟨x, dx, a, p, q, k, rfl, hx, ha, h1, h2, h3, h4, h5, h6, kk⟩ := h
    refine ⟨_, PSs.nox (pss_cons (ps_expr (pe_call G1 hr (by rfl) g1 k1 bb1 .nil pass0 (pa_cons (pv 1) (pa_cons (pv 2) pa_nil))))
      (pss_cons (ps_expr (pe_call G2 (hr.mono (by decide)) (by rfl) g2 k2 bb2 .nil pass0 (pa_cons (pv 1) (pa_cons (pv 2) pa_nil))))
      (pss_cons (ps_fld (pv 0) (pv 1) rfl) (pss_one (ps_fld (pv 0) (pv 2) rfl))))), ?_⟩
    refine ⟨_, rfl, _, rfl, a, p, q, k, rfl, ha, h1, h2, h3, h4, h5, fun H1 s1 => ?_⟩
    refine ⟨_, rfl, _, rfl, a, p, q, k, rfl, s1 _ _ ha, by omega, h6, ?_⟩
    refine ⟨_, rfl, _, rfl, x, C, dx, _, rfl, s1 _ _ hx, T.cl, T.n1, (by show 0 < 1000; decide), _, rfl, _, rfl, x, C, dx, _, rfl, upd_same, T.cl, T.n2, (by show 1 < 1000; decide), ?_⟩
    refine kk _ ((Same.but s1).trans (But.upd_at.trans But.upd_at)) ?_
    rw [upd_same, put_try]
theorem scTurnInit : FnScope ["self", "times", "plus", "turn", "turn_plus"] ["self", "times", "plus", "turn", "turn_plus"] (defScope sTurnInit) := ⟨rfl, rfl, rfl, by decide +kernel, rfl, by decide +kernel, by decide +kernel⟩
theorem ok_turnInit {f C : Addr} {fd : FuncData} {dvs : List V} {kws : List (Str × V)} (F : FunD K "__init__" "TurnRule.__init__" (defArgs sTurnInit) (defBody sTurnInit) (defScope sTurnInit) dvs kws f fd) (T : RCls K C) (D1 : Df P w K mg base 5 "need_times" ["times", "plus"] (spNeedT K))
    (D2 : Df P w K mg base 2 "need_halves" ["times", "plus"] (spNeedH K)) (D3 : Df P w K mg base 4 "is_turn" ["value"] (spTurn K)) (D4 : Df P w K mg base 3 "is_plus" ["value"] spPlus) : FnOk P w K mg base CX0 6 f fd ["self", "times", "plus", "turn", "turn_plus"] (spTurnInit C) := by
  obtain ⟨f1, fd1, G1, g1, k1, bb1⟩ := D1.ex
  obtain ⟨f2, fd2, G2, g2, k2, bb2⟩ := D2.ex
  obtain ⟨f3, fd3, G3, g3, k3, bb3⟩ := D3.ex
  obtain ⟨f4, fd4, G4, g4, k4, bb4⟩ := D4.ex
  refine F.ok scTurnInit (fun vs H Q E h => ?_) (fun cdv A outer s H vs Q E hr h => ?_)
  · obtain ⟨x, dx, a, b, p, q, k, t, s, c, rfl, _⟩ := h
    rfl
  · obtain ⟨x, dx, a, b, p, q, k, t, s, c, rfl, hx, ha, hb, h1, h2, h3, h4, h5, h6, h7, h8, h9, h10, kk⟩ := h
    refine ⟨_, PSs.nox (pss_cons (ps_expr (pe_call G1 hr (by rfl) g1 k1 bb1 .nil pass0 (pa_cons (pv 1) (pa_cons (pv 2) pa_nil))))
      (pss_cons (ps_if (pt_not (pt_val (pe_call G3 (hr.mono (by decide)) (by rfl) g3 k3 bb3 .nil pass0 (pa_cons (pv 3) pa_nil)))) (pss_one ps_never) pss_nil)
      (pss_cons (ps_if (pt_not (pt_val (pe_call G4 (hr.mono (by decide)) (by rfl) g4 k4 bb4 .nil pass0 (pa_cons (pv 4) pa_nil)))) (pss_one ps_never) pss_nil)
      (pss_cons (ps_expr (pe_call G2 (hr.mono (by decide)) (by rfl) g2 k2 bb2 .nil pass0 (pa_cons (pv 1) (pa_cons (pv 2) pa_nil))))
      (pss_cons (ps_fld (pv 0) (pv 1) rfl) (pss_cons (ps_fld (pv 0) (pv 2) rfl) (pss_cons (ps_fld (pv 0) (pv 3) rfl) (pss_one (ps_fld (pv 0) (pv 4) rfl))))))))), ?_⟩
    refine ⟨_, rfl, _, rfl, a, p, q, k, rfl, ha, h1, h2, h3, h4, h5, fun H1 s1 => ?_⟩
    refine ⟨_, rfl, b, t, s, rfl, s1 _ _ hb, h7, h8, fun H2 s2 => ⟨true, rfl, iteF ?_⟩⟩
    refine ⟨_, rfl, c, rfl, h9, h10, true, rfl, iteF ?_⟩
    have s3 := s1.trans s2
    refine ⟨_, rfl, _, rfl, a, p, q, k, rfl, s3 _ _ ha, by omega, h6, ?_⟩
    refine ⟨_, rfl, _, rfl, x, C, dx, _, rfl, s3 _ _ hx, T.cl, T.n1, (by show 0 < 1000; decide), _, rfl, _, rfl, x, C, dx, _, rfl, upd_same, T.cl, T.n2, (by show 1 < 1000; decide), ?_⟩
    refine ⟨_, rfl, _, rfl, x, C, dx, _, rfl, upd_same, T.cl, T.n3, (by rw [put_try]; show 2 < 1000; decide), _, rfl, _, rfl, x, C, dx, _, rfl, upd_same, T.cl, T.n4, (by rw [put_try, put_turn1]; show 3 < 1000; decide), ?_⟩
    refine kk _ ((Same.but s3).trans (But.upd_at.trans (But.upd_at.trans (But.upd_at.trans But.upd_at)))) ?_
    rw [upd_same, put_try, put_turn2]
end
end Ev
namespace Ev
open PySem L2 PySem.Spec PyProof.Rows
/-! Promises of defs that are called while no repr is under way (so what they make can be shown). -/
structure FnG (P : Program) (w : World) (K : PySem.W.Frag) (mg : Str → Option Value) (base : Heap) (k : Nat) (f : Addr)
    (fd : FuncData) (ps : List Str) (sp : Sp) : Prop where
  many : ∀ vs H Q E, sp vs H Q E → vs.length = ps.length
  goes : ∀ (A : Around) (above : List Env) (s : Shared) (H : Hp) (args : Args) (us : List Value) (vs : List V) (Q : VK)
    (E : XK), Room k A → A.guards = some [] → Env0 P w K mg base A above s H → BindsTo s fd args (ps.zip us) → Vals vs us →
    sp vs H Q E → codeAny (model P w) A (.call (.ref f) args) (CR CX0 above P w H s Q E) s
theorem FnG.of {P : Program} {w : World} {K : PySem.W.Frag} {mg : Str → Option Value} {base : Heap} {k : Nat} {f : Addr}
    {fd : FuncData} {ps : List Str} {sp : Sp} (F : FnOk P w K mg base CX0 k f fd ps sp) : FnG P w K mg base k f fd ps sp :=
  ⟨F.len, fun A above s H args us vs Q E hr _ => F.run A above s H args us vs Q E hr⟩
section
variable {P : Program} {w : World} {K : PySem.W.Frag} {mg : Str → Option Value} {base : Heap}
/-- a def by its body, where no repr is under way -/
theorem fng_of {x qual : Str} {st : Stmt} {f : Addr} {fd : FuncData} {N ps : List Str} {k : Nat} {sp : Sp} (F : Fun K x qual st f fd)
    (S : FnScope N ps (defScope st)) (many : ∀ vs H Q E, sp vs H Q E → vs.length = ps.length)
    (body : ∀ (cdv : Value) (A : Around) (above : List Env) (s : Shared) (H : Hp) (vs : List V) (Q : VK) (E : XK),
      Room k (A.deeper (envOfC qual (defScope st) s.heap.objs.size f cdv)) → A.guards = some [] → sp vs H Q E →
      ∃ t, PSs (cxOf CX0 P w K mg base N qual (defScope st) f cdv A above s H E).nox (defBody st) t ∧
        t { nx := fun _ H' => Q .non H', rt := Q } (start N vs) H) : FnG P w K mg base (k + 1) f fd ps sp := by
  obtain ⟨oc, od, kV, doc, pm, an, cdv, ct, osl, rfl, lk, hcd⟩ := F.ex
  constructor
  · exact many
  · intro A above s H args us vs Q E room gd env bt rv hs
    have inK : K.In s.heap := env.mod.kin.keeps fun b o e => (env.bs b o e).1
    have noLim : s.heap.NoLimit := env.mod.nolimit.keeps fun b o e => (env.bs b o e).1
    have kinds : ∀ y ∈ ps.zip us, (defScope st).names.lookup y.1 = some .local ∨
        ((defScope st).names.lookup y.1 = some .cell ∧ ((cellsFrom (s.heap.objs.size + 1) (defScope st).names []).lookup y.1).isSome = true) := by
      rintro ⟨n, v⟩ hy
      cases S.par n (List.of_mem_zip hy).1 with
      | inl q => exact .inl q
      | inr q => exact .inr ⟨q, PySem.W.cellsFrom_some _ _ _ (.inl q)⟩
    refine codeAny_call_function room.depth (inK _ _ lk) rfl S.co S.gen rfl (PySem.W.codeRec_of inK hcd) (bt _ _ _ _ ?_)
    refine wpAny_newFunctionEnv_cells S.kind kinds fun e2 he s2 x => ?_
    subst he
    refine ⟨noLim.keeps x.toInCall.keep, codeAny_func ?_⟩
    obtain ⟨t, ht, hq⟩ := body cdv A above s H vs Q E (room.deeper _) gd hs
    have inv := inv_start (CX := CX0) (E := E) S room.hd env (many _ _ _ _ hs) rv x
    refine wpAny_mono (ht.nox.run [] s2 (start N vs) H _ inv hq) (fun fl s3 h3 => ?_) fun e s3 h3 => h3
    cases fl with
    | ret u =>
      obtain ⟨v, σ3, H3, J, rr, q⟩ := h3
      exact ⟨v, H3, J.os, J.bare, J.base, J.hok, rr, q⟩
    | next =>
      obtain ⟨σ3, H3, J, q⟩ := h3
      exact ⟨.non, H3, J.os, J.bare, J.base, J.hok, rfl, q⟩
    | brk =>
      obtain ⟨_, _, _, z⟩ := h3
      exact False.elim z
    | cont =>
      obtain ⟨_, _, _, z⟩ := h3
      exact False.elim z
end
section
variable {X : Cx}
/-- f(e, ..) of such a def -/
theorem pe_callG {k : Nat} {f : Addr} {fd : FuncData} {ps : List Str} {sp : Sp} {E : XK} {x : Str} {p pos : Pos} {e : Expr} {es : List Expr} {t : TA}
    (F : FnG X.prog X.w X.K X.mg X.base k f fd ps sp) (room : Room k X.A) (gd : X.A.guards = some []) (hg : Gl X x)
    (hm : X.mg x = some (.ref f)) (kp : PySem.W.keepIn X.K (.ref f) = true) (hb : Binds X.K fd ps []) (ha : PA X (e :: es) t)
    (hdb : (x == ("__debug__" : Str)) = false := by decide)
    (he : starEach (e :: es) X.env = (false, eval e X.env) :: starEach es X.env := by rfl)
    (hpl : (backTo pos (starEach es X.env)).any (·.1) = false := by rfl) :
    PE X (.Call (.Name x p) (e :: es) [] pos) (tCall sp [] E t) := by
  constructor
  intro pins s σ H Q I h
  refine wpAny_Call_Name_kw (ld_glob I hg hm ?_ hdb)
  refine PySem.W.callWith_K (h₀ := X.base) I.ok.mod.kin kp (thn (ha.run pos pins s σ H _ I h) fun us s1 d => ?_) he hpl
  obtain ⟨vs, H1, I1, rv, q⟩ := d
  refine ⟨I1.kIn, ?_⟩
  have q : sp vs H1 Q E := by
    have q' : sp (vs ++ []) H1 Q E := q
    rw [List.append_nil] at q'
    exact q'
  have hl : us.length = ps.length := rv.length.symm.trans (F.many _ _ _ _ q)
  have bt := hb s1 us I1.kIn (by rw [List.append_nil]; exact hl)
  rw [List.append_nil] at bt
  refine wpAny_call (codeAny_mono (F.goes X.A X.stack s1 H1 ⟨us, []⟩ us vs Q E room gd I1.env0 bt rv q) fun r s2 h2 => ?_)
  cases r with
  | error e => exact False.elim h2
  | ok fl =>
    cases fl with
    | ret u => exact I1.after h2
    | next => exact False.elim h2
    | brk => exact False.elim h2
    | cont => exact False.elim h2
/-- repr of data, where none is under way -/
def rRepr (K : PySem.W.Frag) : List V → Hp → VK → Prop := fun xs H Q => ∃ (a : Addr) (d : PyData), xs = [.ref a] ∧ Dp K H (.ref a) d ∧
  d.showable = true ∧ d.hasDict = false ∧ d.depth ≤ 32 ∧ d.shown.length ≤ sizeLine ∧ Q (.str d.shown) H
theorem call_repr (gd : X.A.guards = some []) (hu : X.A.units + 64 < cLine) : CallR X (.builtin "repr") (rRepr X.K) := by
  intro pins s σ H xs us Q I r h
  obtain ⟨a, d, rfl, hd, h1, h2, h3, h4, q⟩ := h
  cases r with
  | cons r1 r2 =>
    cases r2
    cases r1
    obtain ⟨as, rd⟩ := Dp.reads I d (.ref a) (.ref a) hd rfl
    exact repr_of_reads' rd h1 (fun z => by rw [h2] at z; cases z) gd (by omega) (fun _ _ e => e)
      (fun h' u tk hk => ⟨.str d.shown, H, I.kept hk, ⟨u, rfl⟩, q⟩) h4
end
/-! ### the law's own call -/
section
variable {P : Program} {w : World} {K : PySem.W.Frag} {mg mb : Str → Option Value}
theorem law_callG {k : Nat} {fa a : Addr} {fd : FuncData} {x : Str} {sp : Sp} {s : Shared} {vs : List Value} {ns : List Int}
    (inK : K.In s.heap) (ns1 : s.heap.Ns mainGlobals mg) (ns2 : s.heap.Ns builtinsNs mb) (blt : ∀ x : Str, x ≠ "__name__" → mb x = bootBuiltins x)
    (noLim : s.heap.NoLimit) (hg : s.gens = #[]) (ha : s.heap.get? a = some { cls := .type "list", data := .seq vs.toArray })
    (hi : IntsAre vs ns) (hl : ns.length ≤ sizeLine) (hr : Room k callerA)
    (F : ∀ base : Heap, K.In base → base.Ns mainGlobals mg → FnG P w K mg base k fa fd [x] sp)
    (bt : ∀ (s : Shared) (u : Value), BindsTo s fd ⟨[u], []⟩ [(x, u)])
    (hsp : ∀ H : Hp, SqL K H a (ns.map V.int) → sp [.ref a] H (fun v _ => v = .bl true) fun _ _ _ => False) :
    codeAny (model P w) callerA (.call (.ref fa) ⟨[.ref a], []⟩)
      (fun r s' => r = .ok (.ret (.bool true)) ∧ OldK s.heap s'.heap ∧ s'.os = s.os ∧ AllBare s'.gens) s := by
  have rv := vals_ints hi
  have lv := hi.length
  have key : ∀ H : Hp, (∀ b u, H b = some u → b = a ∧ K.lookup a = none ∧ u = .frz { cls := .type "list", data := .seq vs.toArray } (.lst (ns.map V.int))) →
      SqL K H a (ns.map V.int) → codeAny (model P w) callerA (.call (.ref fa) ⟨[.ref a], []⟩)
        (fun r s' => r = .ok (.ret (.bool true)) ∧ OldK s.heap s'.heap ∧ s'.os = s.os ∧ AllBare s'.gens) s := by
    intro H only sq
    have ok : HOk P w H s.heap := by
      intro b u e
      obtain ⟨rfl, _, rfl⟩ := only b u e
      exact ⟨ha, by rw [List.length_map]; exact hl, vs, _, rv, ha⟩
    have plain : ∀ {b : Addr} {o : Obj} {es : Array DictEntry} {n : Nat}, s.heap.get? b = some o → o.data = .dict es n → H b = none := by
      intro b o es n e d
      cases q : H b with
      | none => rfl
      | some u =>
        obtain ⟨rfl, _, _⟩ := only b u q
        rw [ha] at e
        cases e
        exact nomatch d
    have names : ∀ {b : Addr} {m : Str → Option Value}, s.heap.Ns b m → (hidT s.heap H).Ns b m := by
      rintro b m ⟨o, es, n, e, d, r⟩
      exact ⟨o, es, n, hidT_get e (plain e d), d, r⟩
    have inB : K.In (hidT s.heap H) := by
      intro b o e
      refine hidT_get (inK b o e) ?_
      cases q : H b with
      | none => rfl
      | some u =>
        obtain ⟨rfl, n, _⟩ := only b u q
        rw [n] at e
        cases e
    obtain ⟨mc, l1, l2⟩ := noLim
    have md : Mod K mg (hidT s.heap H) := ⟨inB, names ns1, ⟨mb, names ns2, blt⟩, ⟨mc, names l1, l2⟩⟩
    have env : Env0 P w K mg (hidT s.heap H) callerA [] s H :=
      ⟨rfl, md, fun b o e => of_hidT e, Nat.le_of_eq (hidT_size _ _), trivial, (fun b hb => by cases hb), ok, .of_eq hg⟩
    have go := (F _ inB (names ns1)).goes callerA [] s H ⟨[.ref a], []⟩ [.ref a] [.ref a] _ _ hr rfl env (bt s (.ref a)) (.cons rfl .nil) (hsp H sq)
    refine codeAny_mono go fun r s2 h2 => ?_
    cases r with
    | error e => exact False.elim h2
    | ok fl =>
      cases fl with
      | next => exact False.elim h2
      | brk => exact False.elim h2
      | cont => exact False.elim h2
      | ret u =>
        obtain ⟨v, H2, os, bare, un, ok2, rr, q⟩ := h2
        obtain rfl : v = V.bl true := q
        obtain rfl : u = Value.bool true := rr
        refine ⟨rfl, OldK.of_keep fun b o e => ?_, os, bare⟩
        cases q : H b with
        | none => exact un.keep b o e q (by intro z; cases z) (by simp)
        | some u =>
          obtain ⟨rfl, _, rfl⟩ := only b u q
          obtain ⟨e1, _⟩ := ok b _ q
          obtain ⟨e2, _⟩ := ok2 b _ (un.frzs b _ _ q)
          rw [e] at e1
          cases e1
          exact e2
  cases hk : K.lookup a with
  | none =>
    refine key (fun b => if b = a then some (.frz { cls := .type "list", data := .seq vs.toArray } (.lst (ns.map V.int))) else none) (fun b u e => ?_) (.inl (.inr ⟨_, if_pos rfl⟩))
    by_cases z : b = a
    · rw [if_pos z] at e
      cases e
      exact ⟨z, hk, rfl⟩
    · rw [if_neg z] at e
      cases e
  | some o =>
    have e := inK a o hk
    rw [ha] at e
    cases e
    refine key (fun _ => none) (fun b u e => by cases e) (.inr ⟨_, vs.toArray, _, hk, rfl, rfl, rfl, ?_, by simpa using rv⟩)
    rw [List.size_toArray, lv]
    exact hl
end
theorem walk_ofG {l : PySem.W.OpenLaw} {n k : Nat} {q : Program} {loose : List Str} {XP : (Str → Option Value) → Heap → Prop} {YP : World → Heap → Prop}
    {d : DefRec} {K : Params → PySem.W.Frag} {sp : World → Sp} {x : Str} (hn : l.most = some n) (hn2 : n ≤ sizeLine) (hdf : d.params.defaults = [])
    (hr : Room k callerA) (hY : ∀ (w : World) (h : Heap), YP w h → (K w.params).In h)
    (F : ∀ (w : World) (mg : Str → Option Value) (fa : Addr) (h : Heap), (K w.params).In h → h.Ns mainGlobals mg → mg d.name = some (.ref fa) →
      ∃ fd : FuncData, (∀ (s : Shared) (u : Value), BindsTo s fd ⟨[u], []⟩ [(x, u)]) ∧
        ∀ base : Heap, (K w.params).In base → base.Ns mainGlobals mg → FnG l.prog w (K w.params) mg base k fa fd [x] (sp w))
    (hsp : ∀ (w : World) (H : Hp) (a : Addr) (ns : List Int), ns.length ≤ n → SqL (K w.params) H a (ns.map V.int) → sp w [.ref a] H (fun v _ => v = .bl true) fun _ _ _ => False) :
    PySem.W.WalkO q loose XP YP l.row.toRowW d [] (fun f vs => PySem.call f vs) := by
  refine Att.attach_call hn hdf fun w s0 s1 mg mb fa o pm cd doc a vs ns G Y h1 h2 h3 h4 h5 h6 h7 h8 => ?_
  obtain ⟨fd, bt, hF⟩ := F w mg fa _ (hY w _ Y) G.T.g h4
  exact law_callG (hY w _ Y) G.T.g G.T.b G.T.builtins G.T.nolimit h8 h5 h6 (Nat.le_trans h7 hn2) hr hF bt (fun H sq => hsp w H a ns h7 sq)
end Ev
namespace Ev
open PySem L2 PySem.Spec PyProof.Rows
theorem walk_ofGE {l : PySem.W.OpenLaw} {n k : Nat} {q : Program} {loose : List Str} {XP : (Str → Option Value) → Heap → Prop} {YP : World → Heap → Prop}
    {d : DefRec} {x : Str} (hn : l.most = some n) (hn2 : n ≤ sizeLine) (hdf : d.params.defaults = []) (hr : Room k callerA)
    (F : ∀ (w : World) (mg : Str → Option Value) (fa : Addr) (h : Heap), YP w h → h.Ns mainGlobals mg → mg d.name = some (.ref fa) →
      ∃ (K : PySem.W.Frag) (fd : FuncData) (sp : Sp), K.In h ∧ (∀ (s : Shared) (u : Value), BindsTo s fd ⟨[u], []⟩ [(x, u)]) ∧
        (∀ (H : Hp) (a : Addr) (ns : List Int), ns.length ≤ n → SqL K H a (ns.map V.int) → sp [.ref a] H (fun v _ => v = .bl true) fun _ _ _ => False) ∧
        ∀ base : Heap, K.In base → base.Ns mainGlobals mg → FnG l.prog w K mg base k fa fd [x] sp) :
    PySem.W.WalkO q loose XP YP l.row.toRowW d [] (fun f vs => PySem.call f vs) := by
  refine Att.attach_call hn hdf fun w s0 s1 mg mb fa o pm cd doc a vs ns G Y h1 h2 h3 h4 h5 h6 h7 h8 => ?_
  obtain ⟨K, fd, sp, inK, bt, hsp, hF⟩ := F w mg fa _ Y G.T.g h4
  exact law_callG inK G.T.g G.T.b G.T.builtins G.T.nolimit h8 h5 h6 (Nat.le_trans h7 hn2) hr hF bt (fun H sq => hsp H a ns h7 sq)
end Ev
namespace Ev
open PySem L2 PySem.Spec PyProof.Rows
abbrev sPen : Stmt := top 53
abbrev sPick : Stmt := top 55
abbrev sNums : Stmt := top 56
abbrev sRule : Stmt := top 57
abbrev sLaw : Stmt := top 65
theorem Pen.new {L : Addr} {H : Hp} {p q : Addr} {B : Int} {o : HO} (h : Pen L H p B) (n : H q = none) : Pen L (upd H q o) p B := h.keep (fun b u e => by rw [upd_ne (ne_of_none e n)]; exact e)
theorem Pen.some {L : Addr} {H : Hp} {p : Addr} {B : Int} (h : Pen L H p B) : ∃ xs, H p = some (.lst xs) := by
  obtain ⟨ns, t, c, h1, _⟩ := h
  exact ⟨_, h1⟩
theorem Pen.ne {L : Addr} {H : Hp} {p q : Addr} {B : Int} (h : Pen L H p B) (n : H q = none) : q ≠ p := by
  obtain ⟨xs, e⟩ := h.some
  exact (ne_of_none e n).symm
theorem But.free {L p a : Addr} {H H' : Hp} {B : Int} (t : But p H H') (h : Pen L H' p B) (n : H' a = none) : H a = none := by
  cases e : H a with
  | none => rfl
  | some o =>
    have := t a o (h.ne n) e
    rw [n] at this
    cases this
def spPick : Sp := fun vs H Q _ => ∃ (p l L : Addr) (xs : List V) (B : Int), vs = [.ref p, .ref l] ∧ H l = some (.lst xs) ∧ l ≠ p ∧ 1 ≤ xs.length ∧ xs.length ≤ 1000 ∧ B ≤ 1000000 ∧ Pen L H p B ∧
  ∀ (d : V) (H' : Hp), d ∈ xs → But p H H' → Pen L H' p (B + 1) → Q d H'
inductive Row
  | tr (p q k : Int)
  | tn (p q k t s c : Int)
def Row.vs : Row → List V
  | .tr p q k => [.int p, .int q, .int k]
  | .tn p q k t s c => [.int p, .int q, .int k, .int t, .int s, .int c]
def Row.p : Row → Int
  | .tr p _ _ => p
  | .tn p _ _ _ _ _ => p
def Row.q : Row → Int
  | .tr _ q _ => q
  | .tn _ q _ _ _ _ => q
def Row.k : Row → Int
  | .tr _ _ k => k
  | .tn _ _ k _ _ _ => k
def okN (p q k : Int) : Prop := 1 ≤ q ∧ q ≤ p ∧ p ≤ 6 ∧ -6 ≤ k ∧ k ≤ 6 ∧ 2 * q ≤ p + k
def okT (t s c : Int) : Prop := (1 ≤ t ∧ t ≤ 8) ∧ (1 ≤ s ∧ s ≤ 8) ∧ -6 ≤ c ∧ c ≤ 6
def Row.ok : Row → Prop
  | .tr p q k => okN p q k
  | .tn p q k t s c => okN p q k ∧ okT t s c
def spNums : Sp := fun vs H Q _ => ∃ (p L : Addr) (B : Int), vs = [.ref p] ∧ B ≤ 900000 ∧ Pen L H p B ∧
  ∀ (a : Addr) (p' q k t s c : Int) (H' : Hp), okN p' q k → okT t s c → H a = none → H' a = some (.tup (Row.tn p' q k t s c).vs) → But p H H' → Pen L H' p (B + 9) → Q (.ref a) H'
section
variable {P : Program} {w : World} {K : PySem.W.Frag} {mg : Str → Option Value} {base : Heap}
theorem scPick : FnScope ["_law_pen_here", "_law_some"] ["_law_pen_here", "_law_some"] (defScope sPick) := ⟨rfl, rfl, rfl, by decide +kernel, rfl, by decide +kernel, by decide +kernel⟩
theorem ok_pick {f : Addr} {fd : FuncData} (F : Fun K "_law_pick" "_law_pick" sPick f fd) (T : Blt mg) (D : Df P w K mg base 1 "_law_draw" ["_law_pen_here", "_law_many"] spDraw) : FnOk P w K mg base CX0 2 f fd ["_law_pen_here", "_law_some"] spPick := by
  obtain ⟨f1, fd1, G1, g1, k1, b1⟩ := D.ex
  refine F.ok scPick (fun vs H Q E h => ?_) (fun cdv A outer s H vs Q E hr h => ?_)
  · obtain ⟨p, l, L, xs, B, rfl, _⟩ := h
    rfl
  · obtain ⟨p, l, L, xs, B, rfl, hl, hne, x1, x2, hB, hp, kk⟩ := h
    refine ⟨_, pss_one (ps_ret (pe_ix ix_list (pv 1) (pe_call G1 hr (by rfl) g1 k1 b1 .nil pass0 (pa_cons (pv 0) (pa_cons (pe_callB call_len_seq (by rfl) T.len PySem.boot_len (pa_cons (pv 1) pa_nil)) pa_nil))) (fun _ _ => rfl))), ?_⟩
    refine ⟨_, rfl, _, rfl, _, rfl, l, _, rfl, .inl (SqL.of hl), p, L, _, B, rfl, by omega, by omega, hB, hp, fun d H1 bt pn d0 d1 => ?_⟩
    obtain ⟨j, rfl⟩ := Int.eq_ofNat_of_zero_le d0
    have hj : j < xs.length := by omega
    refine ⟨l, xs, _, xs[j], rfl, rfl, SqL.of (bt _ _ hne hl), atI_nat (List.getElem?_eq_getElem hj), ?_⟩
    exact kk _ _ (List.getElem_mem hj) bt pn
theorem scNums : FnScope ["_law_pen_here", "_law_q", "_law_p", "_law_k", "_law_s"] ["_law_pen_here"] (defScope sNums) := ⟨rfl, rfl, rfl, by decide +kernel, rfl, by decide +kernel, by decide +kernel⟩
theorem ok_nums {f : Addr} {fd : FuncData} (F : Fun K "_law_numbers" "_law_numbers" sNums f fd) (T : Blt mg) (D1 : Df P w K mg base 1 "_law_draw" ["_law_pen_here", "_law_many"] spDraw) (D2 : Df P w K mg base 2 "_law_pick" ["_law_pen_here", "_law_some"] spPick) :
    FnOk P w K mg base CX0 3 f fd ["_law_pen_here"] spNums := by
  obtain ⟨f1, fd1, G1, g1, k1, b1⟩ := D1.ex
  obtain ⟨f2, fd2, G2, g2, k2, b2⟩ := D2.ex
  refine F.ok scNums (fun vs H Q E h => ?_) (fun cdv A outer s H vs Q E hr h => ?_)
  · obtain ⟨p, L, B, rfl, _⟩ := h
    rfl
  · obtain ⟨p, L, B, rfl, hB, hp, kk⟩ := h
    have hr1 : Room 1 _ := hr.mono (by decide)
    refine ⟨_, pss_cons (ps_set (i := 1) scNums.nd rfl (.inl rfl) (pe_op op_add pe_int (pe_call G2 hr (by rfl) g2 k2 b2 .nil pass0 (pa_cons (pv 0) (pa_cons (pe_lst (pa_cons pe_int (pa_cons pe_int (pa_cons pe_int (pa_cons pe_int (pa_cons pe_int (pa_cons (pe_call G1 hr1 (by rfl) g1 k1 b1 .nil pass0 (pa_cons (pv 0) (pa_cons pe_int pa_nil))) pa_nil))))))) pa_nil)))))
      (pss_cons (ps_set (i := 2) scNums.nd rfl (.inl rfl) (pe_op op_add (pv 1) (pe_call G1 hr1 (by rfl) g1 k1 b1 .nil pass0 (pa_cons (pv 0) (pa_cons (pe_op op_sub pe_int (pv 1)) pa_nil)))))
      (pss_cons (ps_set (i := 3) scNums.nd rfl (.inl rfl) (pe_call G2 hr (by rfl) g2 k2 b2 .nil pass0 (pa_cons (pv 0) (pa_cons (pe_lst (pa_cons pe_int (pa_cons pe_int (pa_cons pe_int (pa_cons (pe_un un_neg pe_int) (pa_cons pe_int (pa_cons (pe_op op_sub (pe_call G1 hr1 (by rfl) g1 k1 b1 .nil pass0 (pa_cons (pv 0) (pa_cons pe_int pa_nil))) pe_int) pa_nil))))))) pa_nil))))
      (pss_cons (ps_set (i := 3) scNums.nd rfl (.inl rfl) (pe_ifExp (pt_cmpR op_ge (pe_op op_add (pv 2) (pv 3)) (pe_op op_mul pe_int (pv 1)) (nomark _)) (pv 3) (pe_op op_sub (pe_op op_mul pe_int (pv 1)) (pv 2))))
      (pss_cons (ps_set (i := 4) scNums.nd rfl (.inl rfl) (pe_op op_add pe_int (pe_call G1 hr1 (by rfl) g1 k1 b1 .nil pass0 (pa_cons (pv 0) (pa_cons pe_int pa_nil)))))
      (pss_one (ps_ret (pe_tup (pa_cons (pv 2) (pa_cons (pv 1) (pa_cons (pv 3) (pa_cons (pe_op op_add (pv 4) (pe_call G1 hr1 (by rfl) g1 k1 b1 .nil pass0 (pa_cons (pv 0) (pa_cons pe_int pa_nil)))) (pa_cons (pv 4)
        (pa_cons (pe_call G2 hr (by rfl) g2 k2 b2 .nil pass0 (pa_cons (pv 0) (pa_cons (pe_lst (pa_cons pe_int (pa_cons pe_int (pa_cons (pe_un un_neg pe_int) (pa_cons pe_int (pa_cons (pe_un un_neg (pv 4)) (pa_cons (pe_op op_sub (pe_call G1 hr1 (by rfl) g1 k1 b1 .nil pass0 (pa_cons (pv 0) (pa_cons pe_int pa_nil))) pe_int) pa_nil))))))) pa_nil))) pa_nil))))))))))))), ?_⟩
    -- q
    refine ⟨_, rfl, _, rfl, p, L, _, B, rfl, by decide, by decide, by omega, hp, fun d1 H1 t1 p1 a1 c1 => ⟨(by show 6 ≤ sizeLine; decide), fun l1 hl1 => ⟨p, l1, L, _, _, rfl, upd_same, p1.ne hl1, (by show 1 ≤ 6; decide), (by show 6 ≤ 1000; decide), by omega, p1.new hl1, fun q0v H2 m2 t2 p2 => ?_⟩⟩⟩
    obtain ⟨q0, rfl, q0lo, q0hi⟩ : ∃ q0 : Int, q0v = .int q0 ∧ 0 ≤ q0 ∧ q0 ≤ 5 := by
      simp only [List.mem_cons, List.not_mem_nil, or_false] at m2
      rcases m2 with e | e | e | e | e | e
      · exact ⟨_, e, by decide, by decide⟩
      · exact ⟨_, e, by decide, by decide⟩
      · exact ⟨_, e, by decide, by decide⟩
      · exact ⟨_, e, by decide, by decide⟩
      · exact ⟨_, e, by decide, by decide⟩
      · exact ⟨_, e, by omega, by omega⟩
    have u2 : But p H H2 := t1.trans ((Same.but (same_new hl1)).trans t2)
    -- p
    refine ⟨_, _, rfl, rfl, ?_⟩
    refine ⟨_, rfl, _, rfl, _, rfl, _, _, rfl, rfl, p, L, _, _, rfl, by omega, by omega, by omega, p2, fun d3 H3 t3 p3 a3 c3 => ⟨_, _, rfl, rfl, ?_⟩⟩
    -- k
    refine ⟨_, rfl, _, rfl, _, rfl, p, L, _, _, rfl, by decide, by decide, by omega, p3, fun d4 H4 t4 p4 a4 c4 => ⟨_, _, rfl, rfl, (by show 6 ≤ sizeLine; decide), fun l hl => ⟨p, l, L, _, _, rfl, upd_same, p4.ne hl, (by show 1 ≤ 6; decide), (by show 6 ≤ 1000; decide), by omega, p4.new hl, fun d5 H5 m5 t5 p5 => ?_⟩⟩⟩
    obtain ⟨k0, rfl, k0lo, k0hi⟩ : ∃ k0 : Int, d5 = .int k0 ∧ -6 ≤ k0 ∧ k0 ≤ 6 := by
      simp only [List.mem_cons, List.not_mem_nil, or_false] at m5
      rcases m5 with e | e | e | e | e | e
      · exact ⟨_, e, by decide, by decide⟩
      · exact ⟨_, e, by decide, by decide⟩
      · exact ⟨_, e, by decide, by decide⟩
      · exact ⟨_, e, by decide, by decide⟩
      · exact ⟨_, e, by decide, by decide⟩
      · exact ⟨_, e, by omega, by omega⟩
    have t05 : But p H H5 := (u2.trans t3).trans (t4.trans ((Same.but (same_new hl)).trans t5))
    refine ⟨_, rfl, _, rfl, _, _, rfl, rfl, _, rfl, _, _, rfl, rfl, .inl ⟨by decide, by decide⟩, _, _, rfl, rfl, _, rfl, ite2 (fun e => ?_) (fun e => ?_)⟩
    · have e := of_decide_eq_true e
      refine ⟨_, rfl, ?_⟩
      refine ⟨_, rfl, p, L, _, _, rfl, by decide, by decide, by omega, p5, fun d6 H6 t6 p6 a6 c6 => ⟨_, _, rfl, rfl, ?_⟩⟩
      refine ⟨_, rfl, _, rfl, _, rfl, _, rfl, _, rfl, p, L, _, _, rfl, by decide, by decide, by omega, p6, fun d7 H7 t7 p7 a7 c7 => ⟨_, _, rfl, rfl, _, rfl, _, rfl, _, rfl, _, rfl, _, rfl, _, rfl, p, L, _, _, rfl, by decide, by decide, by omega, p7, fun d8 H8 t8 p8 a8 c8 => ⟨_, _, rfl, rfl, (by show 6 ≤ sizeLine; decide), fun l2 hl2 => ⟨p, l2, L, _, _, rfl, upd_same, p8.ne hl2, (by show 1 ≤ 6; decide), (by show 6 ≤ 1000; decide), by omega, p8.new hl2, fun d9 H9 m9 t9 p9 => ⟨(by show 6 ≤ sizeLine; decide), fun a na => ?_⟩⟩⟩⟩⟩
      obtain ⟨c0, rfl, c0lo, c0hi⟩ : ∃ c0 : Int, d9 = .int c0 ∧ -6 ≤ c0 ∧ c0 ≤ 6 := by
        simp only [List.mem_cons, List.not_mem_nil, or_false] at m9
        rcases m9 with e | e | e | e | e | e
        · exact ⟨_, e, by decide, by decide⟩
        · exact ⟨_, e, by decide, by decide⟩
        · exact ⟨_, e, by decide, by decide⟩
        · exact ⟨_, e, by decide, by decide⟩
        · exact ⟨_, e, by omega, by omega⟩
        · exact ⟨_, e, by omega, by omega⟩
      have t09 : But p H H9 := t05.trans (((t6.trans t7).trans t8).trans ((Same.but (same_new hl2)).trans t9))
      refine kk a _ _ _ _ _ _ _ ?_ ?_ (t09.free p9 na) upd_same (t09.trans (Same.but (same_new na))) ((p9.new na).mono (by omega))
      · exact ⟨by omega, by omega, by omega, by omega, by omega, by omega⟩
      · exact ⟨⟨by omega, by omega⟩, ⟨by omega, by omega⟩, by omega, by omega⟩
    · have e : ¬ (2 * (1 + q0) ≤ 1 + q0 + d3 + k0) := fun z => e (decide_eq_true z)
      refine ⟨_, rfl, _, _, rfl, rfl, .inl ⟨by decide, by decide⟩, _, rfl, _, _, rfl, rfl, ?_⟩
      refine ⟨_, rfl, p, L, _, _, rfl, by decide, by decide, by omega, p5, fun d6 H6 t6 p6 a6 c6 => ⟨_, _, rfl, rfl, ?_⟩⟩
      refine ⟨_, rfl, _, rfl, _, rfl, _, rfl, _, rfl, p, L, _, _, rfl, by decide, by decide, by omega, p6, fun d7 H7 t7 p7 a7 c7 => ⟨_, _, rfl, rfl, _, rfl, _, rfl, _, rfl, _, rfl, _, rfl, _, rfl, p, L, _, _, rfl, by decide, by decide, by omega, p7, fun d8 H8 t8 p8 a8 c8 => ⟨_, _, rfl, rfl, (by show 6 ≤ sizeLine; decide), fun l2 hl2 => ⟨p, l2, L, _, _, rfl, upd_same, p8.ne hl2, (by show 1 ≤ 6; decide), (by show 6 ≤ 1000; decide), by omega, p8.new hl2, fun d9 H9 m9 t9 p9 => ⟨(by show 6 ≤ sizeLine; decide), fun a na => ?_⟩⟩⟩⟩⟩
      obtain ⟨c0, rfl, c0lo, c0hi⟩ : ∃ c0 : Int, d9 = .int c0 ∧ -6 ≤ c0 ∧ c0 ≤ 6 := by
        simp only [List.mem_cons, List.not_mem_nil, or_false] at m9
        rcases m9 with e | e | e | e | e | e
        · exact ⟨_, e, by decide, by decide⟩
        · exact ⟨_, e, by decide, by decide⟩
        · exact ⟨_, e, by decide, by decide⟩
        · exact ⟨_, e, by decide, by decide⟩
        · exact ⟨_, e, by omega, by omega⟩
        · exact ⟨_, e, by omega, by omega⟩
      have t09 : But p H H9 := t05.trans (((t6.trans t7).trans t8).trans ((Same.but (same_new hl2)).trans t9))
      refine kk a _ _ _ _ _ _ _ ?_ ?_ (t09.free p9 na) upd_same (t09.trans (Same.but (same_new na))) ((p9.new na).mono (by omega))
      · exact ⟨by omega, by omega, by omega, by omega, by omega, by omega⟩
      · exact ⟨⟨by omega, by omega⟩, ⟨by omega, by omega⟩, by omega, by omega⟩
end
end Ev
namespace Ev
open PySem L2 PySem.Spec PyProof.Rows
def ObjAt (Ct Cn : Addr) (H : Hp) (r : Addr) : Row → Prop
  | .tr p q k => ∃ dx a : Addr, H r = some (.ins Ct dx (tryF a k)) ∧ H a = some (.tup [.int p, .int q])
  | .tn p q k t s c => ∃ dx a b : Addr, H r = some (.ins Cn dx (turnF a k b c)) ∧ H a = some (.tup [.int p, .int q]) ∧ H b = some (.tup [.int t, .int s])
theorem ObjAt.keep {Ct Cn : Addr} {H H' : Hp} {r : Addr} {row : Row} (h : ObjAt Ct Cn H r row) (k : Same H H') : ObjAt Ct Cn H' r row := by
  cases row with
  | tr p q kk =>
    obtain ⟨dx, a, h1, h2⟩ := h
    exact ⟨dx, a, k _ _ h1, k _ _ h2⟩
  | tn p q kk t s c =>
    obtain ⟨dx, a, b, h1, h2, h3⟩ := h
    exact ⟨dx, a, b, k _ _ h1, k _ _ h2, k _ _ h3⟩
theorem ObjAt.but {Ct Cn p : Addr} {H H' : Hp} {r : Addr} {row : Row} {xs : List V} (h : ObjAt Ct Cn H r row) (hp : H p = some (.lst xs)) (k : But p H H') : ObjAt Ct Cn H' r row := by
  cases row with
  | tr p q kk =>
    obtain ⟨dx, a, h1, h2⟩ := h
    exact ⟨dx, a, k _ _ (ne_of h1 hp (by intro z; cases z)) h1, k _ _ (ne_of h2 hp (by intro z; cases z)) h2⟩
  | tn p q kk t s c =>
    obtain ⟨dx, a, b, h1, h2, h3⟩ := h
    exact ⟨dx, a, b, k _ _ (ne_of h1 hp (by intro z; cases z)) h1, k _ _ (ne_of h2 hp (by intro z; cases z)) h2, k _ _ (ne_of h3 hp (by intro z; cases z)) h3⟩
theorem ObjAt.rb {K : PySem.W.Frag} {Ct Cn : Addr} {H : Hp} {r : Addr} {row : Row} (h : ObjAt Ct Cn H r row) (T : RCls K Ct) (N : RCls K Cn) (o : row.ok) : RB K H r row.p row.q row.k := by
  cases row with
  | tr p q kk =>
    obtain ⟨dx, a, h1, h2⟩ := h
    obtain ⟨o1, o2, o3, o4, o5, o6⟩ := o
    exact ⟨⟨Ct, dx, _, a, h1, T.cl, T.n1, T.n2, try_times a kk, try_plus a kk, h2⟩, o1, o2, o3, o4, o5⟩
  | tn p q kk t s c =>
    obtain ⟨dx, a, b, h1, h2, h3⟩ := h
    obtain ⟨⟨o1, o2, o3, o4, o5, o6⟩, _⟩ := o
    exact ⟨⟨Cn, dx, _, a, h1, N.cl, N.n1, N.n2, turn_times a kk b c, turn_plus a kk b c, h2⟩, o1, o2, o3, o4, o5⟩
def spRule (Ct Cn : Addr) : Sp := fun vs H Q _ => ∃ (l : Addr) (p q k t s c : Int) (b : Bool), vs = [.ref l, .bl b] ∧ H l = some (.tup (Row.tn p q k t s c).vs) ∧ okN p q k ∧ okT t s c ∧
  ∀ (r : Addr) (H' : Hp) (row : Row), Same H H' → ObjAt Ct Cn H' r row → row.ok → row.p = p → row.q = q → row.k = k → Q (.ref r) H'
section
variable {P : Program} {w : World} {K : PySem.W.Frag} {mg : Str → Option Value} {base : Heap}
theorem Row.okN {row : Row} (o : row.ok) : Ev.okN row.p row.q row.k := by
  cases row with
  | tr p q k => exact o
  | tn p q k t s c => exact o.1
theorem max6 {c : Int} (h : -6 ≤ c) : (if c > -6 then c else -6) = c := by
  by_cases z : c > -6
  · exact if_pos z
  · rw [if_neg z]; omega
theorem scRule : FnScope ["_law_some", "_law_is_turn", "_law_p", "_law_q", "_law_k", "_law_t", "_law_s", "_law_r"] ["_law_some", "_law_is_turn"] (defScope sRule) := ⟨rfl, rfl, rfl, by decide +kernel, rfl, by decide +kernel, by decide +kernel⟩
theorem ok_rule {f Ct Cn fT fN : Addr} {fd fdT fdN : FuncData} {g : List Value → List Value → List Value} (F : Fun K "_law_rule" "_law_rule" sRule f fd) (T : Blt mg) (gT : mg "TryRule" = some (.ref Ct)) (gN : mg "TurnRule" = some (.ref Cn)) (MT : Mk K Ct fT) (MN : Mk K Cn fN)
    (GT : FnOk P w K mg base CX0 6 fT fdT ["self", "times", "plus"] (spTryInit Ct)) (bT : Binds K fdT ["self", "times", "plus"] [])
    (GN : FnOk P w K mg base CX0 6 fN fdN ["self", "times", "plus", "turn", "turn_plus"] (spTurnInit Cn)) (bN : KBn K fdN ["self", "times", "plus", "turn", "turn_plus"] 3 ["turn", "turn_plus"] g (fun vs zs => vs ++ zs)) :
    FnOk P w K mg base CX0 8 f fd ["_law_some", "_law_is_turn"] (spRule Ct Cn) := by
  refine F.ok scRule (fun vs H Q E h => ?_) (fun cdv A outer s H vs Q E hr h => ?_)
  · obtain ⟨l, p, q, k, t, s, c, b, rfl, _⟩ := h
    rfl
  · obtain ⟨l, p, q, k, t, s, c, b, rfl, hl, o, ot, kk⟩ := h
    refine ⟨_, pss_cons (ps_asg (pv 0) (pg_tup (by rfl) (pgs_cons (pg_name (i := 2) scRule.nd rfl (.inl rfl)) (pgs_cons (pg_name (i := 3) scRule.nd rfl (.inl rfl)) (pgs_cons (pg_name (i := 4) scRule.nd rfl (.inl rfl)) (pgs_cons (pg_name (i := 5) scRule.nd rfl (.inl rfl)) (pgs_cons (pg_name (i := 6) scRule.nd rfl (.inl rfl)) (pgs_cons (pg_name (i := 7) scRule.nd rfl (.inl rfl)) pgs_nil))))))))
      (pss_one (ps_ret (pe_ifExp (pt_val (pv 1))
        (pe_makeN (n := 2) MN GN hr (by rfl) gN bN pass0 (pa_cons (pe_tup (pa_cons (pv 2) (pa_cons (pv 3) pa_nil))) (pa_cons (pv 4) pa_nil))
          (pk_cons (pe_tup (pa_cons (pv 5) (pa_cons (pv 6) pa_nil))) (pk_cons (pe_callB (call_max2 rfl) (by rfl) T.max (by decide +kernel) (pa_cons (pe_un un_neg pe_int) (pa_cons (pe_callTy call_int1 (by rfl) T.int (by decide +kernel) (pa_cons (pv 7) pa_nil)) pa_nil))) pk_nil)))
        (pe_make MT GT hr (by rfl) gT bT .nil pass0 (pa_cons (pe_tup (pa_cons (pv 2) (pa_cons (pv 3) pa_nil))) (pa_cons (pv 4) pa_nil)))))), ?_⟩
    obtain ⟨o1, o2, o3, o4, o5, o6⟩ := o
    refine ⟨_, rfl, l, _, rfl, SqT.of hl, rfl, _, _, rfl, _, _, rfl, _, _, rfl, _, _, rfl, _, _, rfl, _, _, rfl, rfl, ?_⟩
    refine ⟨_, rfl, b, rfl, ite2 (fun e => ?_) (fun e => ?_)⟩
    · refine ⟨_, rfl, _, rfl, (by show 2 ≤ sizeLine; decide), fun tp ntp => ⟨_, rfl, ?_⟩⟩
      refine ⟨_, rfl, _, rfl, (by show 2 ≤ sizeLine; decide), fun tq ntq => ?_⟩
      refine ⟨_, rfl, _, rfl, .inl ⟨_, rfl, _, _, rfl, ?_⟩⟩
      rw [max6 ot.2.2.1]
      refine ⟨rfl, rfl, fun x dx nx ndx nex => ?_⟩
      have f1 : upd (upd H tp (.tup [.int p, .int q])) tq (.tup [.int t, .int s]) tp = some (.tup [.int p, .int q]) := same_new ntq _ _ upd_same
      have f2 : upd (upd H tp (.tup [.int p, .int q])) tq (.tup [.int t, .int s]) tq = some (.tup [.int t, .int s]) := upd_same
      have s2 : Same H (upd (upd H tp (.tup [.int p, .int q])) tq (.tup [.int t, .int s])) := (same_new ntp).trans (same_new ntq)
      generalize upd (upd H tp (.tup [.int p, .int q])) tq (.tup [.int t, .int s]) = H2 at f1 f2 s2 nx ndx ⊢
      have keep : ∀ (o1 o2 : HO) (b : Addr) (u : HO), H2 b = some u → upd (upd H2 dx o1) x o2 b = some u := fun o1 o2 b u e => by
        rw [upd_ne (ne_of_none e nx), upd_ne (ne_of_none e ndx)]; exact e
      refine ⟨x, dx, tp, tq, p, q, k, t, s, c, rfl, upd_same, keep _ _ _ _ f1, keep _ _ _ _ f2, o1, o2, o3, o4, o5, o6, ot.1, ot.2.1, ot.2.2.1, ot.2.2.2, fun H3 t3 hx3 => ⟨rfl, ?_⟩⟩
      have s3 : ∀ b u, H2 b = some u → H3 b = some u := fun b u e => t3 _ _ (ne_of_none e nx) (keep _ _ _ _ e)
      exact kk x H3 (.tn p q k t s c) (fun b u e => s3 _ _ (s2 _ _ e)) ⟨dx, tp, tq, hx3, s3 _ _ f1, s3 _ _ f2⟩ ⟨⟨o1, o2, o3, o4, o5, o6⟩, ot⟩ rfl rfl rfl
    · refine ⟨_, rfl, _, rfl, (by show 2 ≤ sizeLine; decide), fun tp ntp => ⟨_, rfl, fun x dx nx ndx nex => ?_⟩⟩
      have f1 : upd H tp (.tup [.int p, .int q]) tp = some (.tup [.int p, .int q]) := upd_same
      have s2 : Same H (upd H tp (.tup [.int p, .int q])) := same_new ntp
      generalize upd H tp (.tup [.int p, .int q]) = H2 at f1 s2 nx ndx ⊢
      have keep : ∀ (o1 o2 : HO) (b : Addr) (u : HO), H2 b = some u → upd (upd H2 dx o1) x o2 b = some u := fun o1 o2 b u e => by
        rw [upd_ne (ne_of_none e nx), upd_ne (ne_of_none e ndx)]; exact e
      refine ⟨x, dx, tp, p, q, k, rfl, upd_same, keep _ _ _ _ f1, o1, o2, o3, o4, o5, o6, fun H3 t3 hx3 => ⟨rfl, ?_⟩⟩
      have s3 : ∀ b u, H2 b = some u → H3 b = some u := fun b u e => t3 _ _ (ne_of_none e nx) (keep _ _ _ _ e)
      exact kk x H3 (.tr p q k) (fun b u e => s3 _ _ (s2 _ _ e)) ⟨dx, tp, hx3, s3 _ _ f1⟩ ⟨o1, o2, o3, o4, o5, o6⟩ rfl rfl rfl
end
end Ev
namespace Ev
open PySem L2 PySem.Spec PyProof.Rows
def leastV (p q k y : Int) : Int := if -((k - q * y).fdiv p) > 1 then -((k - q * y).fdiv p) else 1
theorem least_le {p q k y x : Int} (hp : 1 ≤ p) (hx : 1 ≤ x) : leastV p q k y ≤ x ↔ q * y ≤ p * x + k := by
  unfold leastV
  rw [Int.fdiv_eq_ediv_of_nonneg _ (by omega)]
  have h1 : -x ≤ (k - q * y) / p ↔ -x * p ≤ k - q * y := Int.le_ediv_iff_mul_le (by omega)
  have h2 : -x * p = -(p * x) := by rw [Int.neg_mul, Int.mul_comm]
  rw [h2] at h1
  generalize q * y = a at h1 ⊢
  generalize p * x = b at h1 ⊢
  generalize (k - a) / p = c at h1 ⊢
  by_cases z : -c > 1
  · rw [if_pos z]
    constructor
    · intro h; have := h1.mp (by omega); omega
    · intro h; have := h1.mpr (by omega); omega
  · rw [if_neg z]
    constructor
    · intro h; have := h1.mp (by omega); omega
    · intro h; omega
theorem least_pos (p q k y : Int) : 1 ≤ leastV p q k y := by
  unfold leastV
  by_cases z : -((k - q * y).fdiv p) > 1
  · rw [if_pos z]; omega
  · rw [if_neg z]; omega
def greatV (p q k x : Int) : Int := (p * x + k).fdiv q
theorem le_great {p q k x y : Int} (hq : 1 ≤ q) : y ≤ greatV p q k x ↔ q * y ≤ p * x + k := by
  unfold greatV
  rw [Int.fdiv_eq_ediv_of_nonneg _ (by omega), Int.le_ediv_iff_mul_le (by omega), Int.mul_comm]
theorem great_ge {p q k x : Int} (o : okN p q k) (hx : 1 ≤ x) : x + 1 ≤ greatV p q k x := by
  obtain ⟨o1, o2, o3, o4, o5, o6⟩ := o
  refine (le_great o1).mpr ?_
  have h1 : q * (x - 1) ≤ p * (x - 1) := Int.mul_le_mul_of_nonneg_right o2 (by omega)
  rw [Int.mul_sub, Int.mul_sub, Int.mul_one, Int.mul_one] at h1
  rw [Int.mul_add, Int.mul_one]
  omega
def Wt (p q k : Int) : Nat → Int
  | 0 => 1
  | n + 1 => Wt p q k n + leastV p q k (Wt p q k n)
theorem Wt_lt (p q k : Int) (n : Nat) : Wt p q k n + 1 ≤ Wt p q k (n + 1) := by
  have := least_pos p q k (Wt p q k n)
  show Wt p q k n + 1 ≤ Wt p q k n + leastV p q k (Wt p q k n)
  omega
theorem Wt_ge (p q k : Int) : ∀ n : Nat, (n : Int) + 1 ≤ Wt p q k n
  | 0 => by show ((0 : Nat) : Int) + 1 ≤ 1; decide
  | n + 1 => by
    have h1 := Wt_ge p q k n
    have h2 := Wt_lt p q k n
    omega
theorem Wt_add (p q k : Int) (m : Nat) : ∀ d : Nat, Wt p q k m + (d : Int) ≤ Wt p q k (m + d)
  | 0 => by simp
  | d + 1 => by
    have h1 := Wt_add p q k m d
    have h2 := Wt_lt p q k (m + d)
    rw [show m + (d + 1) = m + d + 1 by omega]
    omega
theorem Wt_mono (p q k : Int) {m n : Nat} (h : m ≤ n) : Wt p q k m ≤ Wt p q k n := by
  obtain ⟨d, rfl⟩ := Nat.exists_eq_add_of_le h
  have := Wt_add p q k m d
  omega
/-- the greatest height whose least weight is not above m -/
def IsH (p q k m : Int) (h : Nat) : Prop := Wt p q k h ≤ m ∧ m < Wt p q k (h + 1)
theorem IsH.mono {p q k m m' : Int} {h h' : Nat} (a : IsH p q k m h) (b : IsH p q k m' h') (l : m ≤ m') : h ≤ h' := by
  by_cases z : h ≤ h'
  · exact z
  · have := Wt_mono p q k (show h' + 1 ≤ h by omega)
    have := a.1
    have := b.2
    omega
theorem IsH.uniq {p q k m : Int} {h h' : Nat} (a : IsH p q k m h) (b : IsH p q k m h') : h = h' :=
  Nat.le_antisymm (a.mono b (Int.le_refl _)) (b.mono a (Int.le_refl _))
theorem IsH.at (p q k : Int) (n : Nat) : IsH p q k (Wt p q k n) n := ⟨Int.le_refl _, by have := Wt_lt p q k n; omega⟩
theorem IsH.small {p q k m : Int} {h : Nat} (a : IsH p q k m h) : (h : Int) + 1 ≤ m := by
  have := Wt_ge p q k h
  have := a.1
  omega
theorem least_lt {p q k y : Int} (o : okN p q k) (h : 2 ≤ y) : leastV p q k y ≤ y - 1 := by
  have g := great_ge (x := y - 1) o (by omega)
  have g := (le_great o.1).mp (show y ≤ greatV p q k (y - 1) by omega)
  obtain ⟨o1, o2, o3, o4, o5, o6⟩ := o
  exact (least_le (by omega) (by omega)).mpr g
theorem least_ge {p q k y : Int} (o : okN p q k) (h : 12 ≤ y) : y ≤ 12 * leastV p q k y := by
  obtain ⟨o1, o2, o3, o4, o5, o6⟩ := o
  have l1 := least_pos p q k y
  have l := (least_le (p := p) (k := k) (q := q) (y := y) (by omega) l1).mp (Int.le_refl _)
  have a : 1 * y ≤ q * y := Int.mul_le_mul_of_nonneg_right o1 (by omega)
  have b : p * leastV p q k y ≤ 6 * leastV p q k y := Int.mul_le_mul_of_nonneg_right o3 (by omega)
  omega
theorem Wt_one {p q k : Int} (o : okN p q k) : Wt p q k 1 = 2 := by
  show 1 + leastV p q k 1 = 2
  have l1 := least_pos p q k 1
  have : leastV p q k 1 ≤ 1 := (least_le (by have := o.1; have := o.2.1; omega) (Int.le_refl 1)).mpr (by
    obtain ⟨o1, o2, o3, o4, o5, o6⟩ := o
    omega)
  omega
/-- the tree of halves is a fair one -/
theorem Wt_two {p q k : Int} (o : okN p q k) : ∀ b : Nat, Wt p q k (b + 1) ≤ 2 ^ b + 1
  | 0 => by rw [Wt_one o]; decide
  | b + 1 => by
    have h := Wt_two o b
    have g := Wt_ge p q k (b + 1)
    have l := least_lt o (show 2 ≤ Wt p q k (b + 1) by omega)
    show Wt p q k (b + 1) + leastV p q k (Wt p q k (b + 1)) ≤ 2 ^ (b + 1) + 1
    rw [Int.pow_succ]
    omega
theorem Wt_dbl {p q k : Int} (o : okN p q k) {n : Nat} (h : 12 ≤ Wt p q k n) : ∀ d : Nat, 12 * Wt p q k n + d * Wt p q k n ≤ 12 * Wt p q k (n + d)
  | 0 => by simp
  | d + 1 => by
    have h1 := Wt_dbl o h d
    have m := Wt_mono p q k (show n ≤ n + d by omega)
    have l := least_ge o (show 12 ≤ Wt p q k (n + d) by omega)
    show 12 * Wt p q k n + ((d + 1 : Nat) : Int) * Wt p q k n ≤ 12 * (Wt p q k (n + d) + leastV p q k (Wt p q k (n + d)))
    rw [show ((d + 1 : Nat) : Int) * Wt p q k n = (d : Int) * Wt p q k n + Wt p q k n by rw [show ((d + 1 : Nat) : Int) = (d : Int) + 1 by omega, Int.add_mul, Int.one_mul]]
    omega
theorem Wt_exp {p q k : Int} (o : okN p q k) : ∀ j : Nat, 12 * 2 ^ j ≤ Wt p q k (11 + 12 * j)
  | 0 => by
    have := Wt_ge p q k 11
    simpa using this
  | j + 1 => by
    have h := Wt_exp o j
    have t : (1 : Int) ≤ 2 ^ j := by
      have : (0 : Int) < 2 ^ j := Int.pow_pos (by decide)
      omega
    have d := Wt_dbl o (show 12 ≤ Wt p q k (11 + 12 * j) by omega) 12
    rw [show 11 + 12 * (j + 1) = 11 + 12 * j + 12 by omega, Int.pow_succ]
    omega
theorem Wt_long {p q k : Int} (o : okN p q k) {n : Nat} (h : Wt p q k n ≤ 10 ^ 31) : n < 1300 := by
  by_cases z : n < 1300
  · exact z
  · have e := Wt_exp o 104
    have m := Wt_mono p q k (show 11 + 12 * 104 ≤ n by omega)
    have : (10 : Int) ^ 31 < 12 * 2 ^ 104 := by decide
    omega
/-- the least weights of the heights up to n -/
def wl (p q k : Int) (n : Nat) : List V := (List.range (n + 1)).map fun i => V.int (Wt p q k i)
theorem wl_zero (p q k : Int) : wl p q k 0 = [.int 1] := rfl
theorem wl_succ (p q k : Int) (n : Nat) : wl p q k n ++ [.int (Wt p q k (n + 1))] = wl p q k (n + 1) := by
  unfold wl
  rw [List.range_succ (n := n + 1), List.map_append]
  rfl
theorem wl_len (p q k : Int) (n : Nat) : (wl p q k n).length = n + 1 := by unfold wl; simp
theorem wl_get (p q k : Int) {n i : Nat} (h : i ≤ n) : (wl p q k n)[i]? = some (.int (Wt p q k i)) := by
  unfold wl
  rw [List.getElem?_map, List.getElem?_range (by omega)]
  rfl
end Ev
namespace Ev
open PySem L2 PySem.Spec PyProof.Rows
abbrev sLeastB : Stmt := top 33
abbrev sNeedR : Stmt := top 34
abbrev sGH : Stmt := top 48
abbrev sLH : Stmt := top 49
abbrev sNeedN : Stmt := top 50
abbrev sLW : Stmt := top 51
/-- a class of rules beneath the common one -/
structure RK (K : PySem.W.Frag) (C CW : Addr) : Prop where
  cl : RCls K C
  ha : PySem.W.findIn K (.ref C) "__class__" = some (some (.builtin "object.__class__"))
  hm : PySem.W.mroIn K C (.type "object") = some true
  is : PySem.W.kitOne K (.ref C) (.ref CW) = some true
/-- what the kind of an instance asks -/
structure InsK (K : PySem.W.Frag) : Prop where
  hn : PySem.W.specialIn K (.builtin "object.__class__") "__get__" = some (some (.builtin "getset_descriptor.__get__"))
  htk : PySem.W.takesIn K (.builtin "object.__class__") = some true
def spLeastB (K : PySem.W.Frag) : Sp := fun vs H Q _ => ∃ (r : Addr) (p q k y : Int), vs = [.ref r, .int y] ∧ RB K H r p q k ∧ Q (.int (leastV p q k y)) H
def spNeedR (Ct Cn : Addr) : Sp := fun vs H Q _ => ∃ (r : Addr) (row : Row), vs = [.ref r] ∧ ObjAt Ct Cn H r row ∧ Q .non H
def spNeedN : Sp := fun vs H Q _ => ∃ v m : Int, vs = [.int v, .int m] ∧ 0 ≤ v ∧ v ≤ m ∧ Q .non H
def spLW (Ct Cn : Addr) : Sp := fun vs H Q _ => ∃ (r : Addr) (row : Row) (m : Int), vs = [.ref r, .int m] ∧ ObjAt Ct Cn H r row ∧ row.ok ∧ 1 ≤ m ∧ m ≤ 10 ^ 31 ∧
  ∀ (l : Addr) (n : Nat) (H' : Hp), Same H H' → H' l = some (.lst (wl row.p row.q row.k n)) → IsH row.p row.q row.k m n → Q (.ref l) H'
def spGH (Ct Cn : Addr) : Sp := fun vs H Q _ => ∃ (r : Addr) (row : Row) (m : Int), vs = [.ref r, .int m] ∧ ObjAt Ct Cn H r row ∧ row.ok ∧ 0 ≤ m ∧ m ≤ 10 ^ 30 ∧
  ∀ (n : Nat) (H' : Hp), Same H H' → IsH row.p row.q row.k (m + 1) n → Q (.int n) H'
def spLH : Sp := fun vs H Q _ => ∃ m : Int, vs = [.int m] ∧ 0 ≤ m ∧ m ≤ 10 ^ 30 ∧ Q (.int (Builtin.Int.intBits m : Nat)) H
section
variable {P : Program} {w : World} {K : PySem.W.Frag} {mg : Str → Option Value} {base : Heap}
theorem scLeastB : FnScope ["rule", "y", "over", "under"] ["rule", "y"] (defScope sLeastB) := ⟨rfl, rfl, rfl, by decide +kernel, rfl, by decide +kernel, by decide +kernel⟩
theorem ok_leastB {f : Addr} {fd : FuncData} (F : Fun K "least_beside" "least_beside" sLeastB f fd) (T : Blt mg) : FnOk P w K mg base CX0 1 f fd ["rule", "y"] (spLeastB K) := by
  refine F.ok scLeastB (fun vs H Q E h => ?_) (fun cdv A outer s H vs Q E hr h => ?_)
  · obtain ⟨r, p, q, k, x, rfl, _⟩ := h
    rfl
  · obtain ⟨r, p, q, k, x, rfl, ⟨⟨C, dx, fs, a, hr1, cl, n1, n2, l1, l2, ha⟩, b1, b2, b3, b4, b5⟩, kk⟩ := h
    refine ⟨_, pss_cons (ps_asg (pe_fld (pv 0) rfl) (pg_tup (by rfl) (pgs_cons (pg_name (i := 2) scLeastB.nd rfl (.inl rfl)) (pgs_cons (pg_name (i := 3) scLeastB.nd rfl (.inl rfl)) pgs_nil))))
      (pss_one (ps_ret (pe_callB (call_max2 rfl) (by rfl) T.max (by decide +kernel) (pa_cons pe_int (pa_cons (pe_un un_neg (pe_op op_fdivN (pe_op op_sub (pe_fld (pv 0) rfl) (pe_op op_mul (pv 3) (pv 1))) (pv 2))) pa_nil))))), ?_⟩
    have q6 := m64 b1 (show q ≤ 8 by omega)
    refine ⟨_, rfl, r, C, dx, fs, _, rfl, hr1, cl, n1, l1, a, _, rfl, SqT.of ha, rfl, _, _, rfl, _, _, rfl, rfl, ?_⟩
    exact ⟨_, rfl, r, C, dx, fs, _, rfl, hr1, cl, n2, l2, _, rfl, _, rfl, _, _, rfl, rfl, .inl q6, _, _, rfl, rfl, _, rfl, _, _, rfl, rfl, ⟨by omega, by omega⟩, _, rfl, _, _, rfl, kk⟩
theorem scNeedR : FnScope ["value"] ["value"] (defScope sNeedR) := ⟨rfl, rfl, rfl, by decide +kernel, rfl, by decide +kernel, by decide +kernel⟩
theorem ok_needR {f Ct Cn CW : Addr} {fd : FuncData} (F : Fun K "need_rule" "need_rule" sNeedR f fd) (T : Blt mg) (gW : mg "WeightRule" = some (.ref CW)) (MT : RK K Ct CW) (MN : RK K Cn CW) (ik : InsK K) : FnOk P w K mg base CX0 1 f fd ["value"] (spNeedR Ct Cn) := by
  refine F.ok scNeedR (fun vs H Q E h => ?_) (fun cdv A outer s H vs Q E hr h => ?_)
  · obtain ⟨r, row, rfl, _⟩ := h
    rfl
  · obtain ⟨r, row, rfl, ob, kk⟩ := h
    refine ⟨_, pss_one (ps_if (pt_not (pt_val (pe_callB call_isi (by rfl) T.isi (by decide +kernel) (pa_cons (pv 0) (pa_cons (pe_glob (v := .ref CW) rfl gW rfl) pa_nil))))) (pss_one ps_never) pss_nil), ?_⟩
    cases row with
    | tr p q k =>
      obtain ⟨dx, a, h1, h2⟩ := ob
      exact ⟨_, rfl, _, _, _, _, true, rfl, .own CW, .base (.ins h1 MT.cl.cl MT.ha ik.hn ik.htk MT.hm), MT.is, true, rfl, iteF kk⟩
    | tn p q k t s c =>
      obtain ⟨dx, a, b, h1, h2, h3⟩ := ob
      exact ⟨_, rfl, _, _, _, _, true, rfl, .own CW, .base (.ins h1 MN.cl.cl MN.ha ik.hn ik.htk MN.hm), MN.is, true, rfl, iteF kk⟩
theorem scNeedN : FnScope ["value", "most"] ["value", "most"] (defScope sNeedN) := ⟨rfl, rfl, rfl, by decide +kernel, rfl, by decide +kernel, by decide +kernel⟩
theorem ok_needN {f : Addr} {fd : FuncData} (F : Fun K "need_number" "need_number" sNeedN f fd) (D : Df P w K mg base 2 "is_within" ["value", "least", "most"] spWithin) : FnOk P w K mg base CX0 3 f fd ["value", "most"] spNeedN := by
  obtain ⟨fW, fdW, GW, gW, kW, bW⟩ := D.ex
  refine F.ok scNeedN (fun vs H Q E h => ?_) (fun cdv A outer s H vs Q E hr h => ?_)
  · obtain ⟨v, m, rfl, _⟩ := h
    rfl
  · obtain ⟨v, m, rfl, h1, h2, k⟩ := h
    refine ⟨_, pss_one (ps_if (pt_not (pt_val (pe_call GW hr (by rfl) gW kW bW .nil pass0 (pa_cons (pv 0) (pa_cons pe_int (pa_cons (pv 1) pa_nil)))))) (pss_one ps_never) pss_nil), ?_⟩
    exact ⟨_, rfl, _, rfl, _, _, _, rfl, h1, h2, true, rfl, iteF k⟩
theorem scLW : FnScope ["rule", "most", "found", "weight"] ["rule", "most"] (defScope sLW) := ⟨rfl, rfl, rfl, by decide +kernel, rfl, by decide +kernel, by decide +kernel⟩
theorem ok_lw {f Ct Cn : Addr} {fd : FuncData} (F : Fun K "least_weights" "least_weights" sLW f fd) (D : Df P w K mg base 1 "least_beside" ["rule", "y"] (spLeastB K)) (RT : RCls K Ct) (RN : RCls K Cn) : FnOk P w K mg base CX0 2 f fd ["rule", "most"] (spLW Ct Cn) := by
  obtain ⟨f1, fd1, G1, g1, k1, b1⟩ := D.ex
  refine F.ok scLW (fun vs H Q E h => ?_) (fun cdv A outer s H vs Q E hr h => ?_)
  · obtain ⟨r, row, m, rfl, _⟩ := h
    rfl
  · obtain ⟨r, row, m, rfl, ob, ok, m1, m2, kk⟩ := h
    refine ⟨_, pss_cons (ps_set (i := 2) scLW.nd rfl (.inl rfl) (pe_lst (pa_cons pe_int pa_nil)))
      (pss_cons (ps_set (i := 3) scLW.nd rfl (.inl rfl) (pe_op op_add pe_int (pe_call G1 hr (by rfl) g1 k1 b1 .nil pass0 (pa_cons (pv 0) (pa_cons pe_int pa_nil)))))
      (pss_cons (ps_while PassesOwn.never (pt_cmpR op_le (pv 3) (pv 1) (nomark _))
        (pss_cons (ps_expr (pe_bm PySem.F.plainAttrs_list PySem.F.slot_list_append PySem.F.type_list_append mt_append (pv 2) (pa_cons (pv 3) pa_nil)))
        (pss_one (ps_set (i := 3) scLW.nd rfl (.inl rfl) (pe_op op_add (pv 3) (pe_call G1 hr (by rfl) g1 k1 b1 .nil pass0 (pa_cons (pv 0) (pa_cons (pv 3) pa_nil))))))))
      (pss_one (ps_ret (pv 2))))), ?_⟩
    refine ⟨(by show 1 ≤ sizeLine; decide), fun l nl => ?_⟩
    have s1 : Same H (upd H l (.lst [.int 1])) := same_new nl
    have hl : upd H l (.lst [.int 1]) l = some (.lst (wl row.p row.q row.k 0)) := upd_same
    have b1 : ∀ H' : Hp, Same H H' → RB K H' r row.p row.q row.k := fun H' s => (ob.keep s).rb RT RN ok
    generalize upd H l (.lst [.int 1]) = H1 at s1 hl ⊢
    have okn := Row.okN ok
    refine ⟨_, rfl, r, _, _, _, _, rfl, b1 _ s1, _, _, rfl, rfl, ?_⟩
    refine ⟨fun μ σ H' => ∃ n : Nat, σ = [some (.ref r), some (.int m), some (.ref l), some (.int (Wt row.p row.q row.k (n + 1)))] ∧ H' l = some (.lst (wl row.p row.q row.k n)) ∧ Same H H' ∧ Wt row.p row.q row.k n ≤ m ∧ μ = (m - Wt row.p row.q row.k n).toNat, ⟨_, 0, rfl, hl, s1, m1, rfl⟩, ?_⟩
    rintro μ σ H' ⟨n, rfl, hl', sm, wm, rfl⟩
    refine ⟨_, rfl, _, rfl, _, _, rfl, rfl, _, rfl, ite2 (fun e => ?_) (fun e => ?_)⟩
    · have e := of_decide_eq_true e
      have lt := Wt_lt row.p row.q row.k n
      have long := Wt_long okn (Int.le_trans wm m2)
      refine ⟨fun σ' H2 => σ' = [some (.ref r), some (.int m), some (.ref l), some (.int (Wt row.p row.q row.k (n + 1 + 1)))] ∧ H2 l = some (.lst (wl row.p row.q row.k (n + 1))) ∧ Same H H2, fun σ' H2 ⟨q1, q2, q3⟩ => ⟨_, ?_, n + 1, q1, q2, q3, e, rfl⟩, ?_⟩
      · omega
      · have s2 : Same H (upd H' l (.lst (wl row.p row.q row.k n ++ [.int (Wt row.p row.q row.k (n + 1))]))) := fun b o q => by
          rw [upd_ne (ne_of_none q nl)]; exact sm _ _ q
        refine ⟨_, rfl, .inl ⟨rfl, _, SqL.of hl'⟩, _, rfl, l, _, _, rfl, rfl, hl', (by rw [wl_len]; exact Nat.lt_of_le_of_lt (show n + 1 ≤ 2000 by omega) (by decide)), ?_⟩
        refine ⟨_, rfl, _, rfl, _, rfl, r, _, _, _, _, rfl, b1 _ s2, _, _, rfl, rfl, rfl, ?_, s2⟩
        rw [upd_same, wl_succ]
    · have e : ¬ (Wt row.p row.q row.k (n + 1) ≤ m) := fun z => e (decide_eq_true z)
      exact ⟨_, rfl, kk l n H' sm hl' ⟨wm, by omega⟩⟩
theorem le31 {m : Int} (h : m ≤ 10 ^ 30) : m + 1 ≤ 10 ^ 31 := by
  have : (10 : Int) ^ 30 + 1 ≤ 10 ^ 31 := by decide
  omega
theorem scGH : FnScope ["rule", "keys"] ["rule", "keys"] (defScope sGH) := ⟨rfl, rfl, rfl, by decide +kernel, rfl, by decide +kernel, by decide +kernel⟩
theorem ok_gh {f Ct Cn : Addr} {fd : FuncData} (F : Fun K "greatest_height" "greatest_height" sGH f fd) (T : Blt mg) (D1 : Df P w K mg base 1 "need_rule" ["value"] (spNeedR Ct Cn)) (D2 : Df P w K mg base 3 "need_number" ["value", "most"] spNeedN) (D3 : Df P w K mg base 2 "least_weights" ["rule", "most"] (spLW Ct Cn))
    {t : Tok} (gM : mg "MOST_KEYS" = some (.int (10 ^ 30) t)) : FnOk P w K mg base CX0 4 f fd ["rule", "keys"] (spGH Ct Cn) := by
  obtain ⟨f1, fd1, G1, g1, k1, b1⟩ := D1.ex
  obtain ⟨f2, fd2, G2, g2, k2, b2⟩ := D2.ex
  obtain ⟨f3, fd3, G3, g3, k3, b3⟩ := D3.ex
  refine F.ok scGH (fun vs H Q E h => ?_) (fun cdv A outer s H vs Q E hr h => ?_)
  · obtain ⟨r, row, m, rfl, _⟩ := h
    rfl
  · obtain ⟨r, row, m, rfl, ob, ok, m1, m2, kk⟩ := h
    refine ⟨_, pss_cons (ps_expr (pe_call G1 (hr.mono (by decide)) (by rfl) g1 k1 b1 .nil pass0 (pa_cons (pv 0) pa_nil)))
      (pss_cons (ps_expr (pe_call G2 hr (by rfl) g2 k2 b2 .nil pass0 (pa_cons (pv 1) (pa_cons (pe_glob (v := .int (10 ^ 30)) rfl gM ⟨_, rfl⟩) pa_nil))))
      (pss_one (ps_ret (pe_op op_sub (pe_callB call_len_seq (by rfl) T.len PySem.boot_len (pa_cons (pe_call G3 (hr.mono (by decide)) (by rfl) g3 k3 b3 .nil pass0 (pa_cons (pv 0) (pa_cons (pe_op op_add (pv 1) pe_int) pa_nil))) pa_nil)) pe_int)))), ?_⟩
    refine ⟨_, rfl, r, row, rfl, ob, ?_⟩
    refine ⟨_, rfl, _, _, rfl, m1, m2, ?_⟩
    refine ⟨_, rfl, _, rfl, _, _, rfl, rfl, r, row, _, rfl, ob, ok, by omega, le31 m2, fun l n H' sm hl ih => ?_⟩
    refine ⟨l, _, rfl, .inl (SqL.of hl), _, _, rfl, rfl, ?_⟩
    show Q (.int (((wl row.p row.q row.k n).length : Nat) - 1)) H'
    rw [wl_len, show (((n + 1 : Nat) : Int) - 1) = (n : Int) by omega]
    exact kk n H' sm ih
theorem scLH : FnScope ["keys"] ["keys"] (defScope sLH) := ⟨rfl, rfl, rfl, by decide +kernel, rfl, by decide +kernel, by decide +kernel⟩
theorem ok_lh {f : Addr} {fd : FuncData} (F : Fun K "least_height" "least_height" sLH f fd) (D2 : Df P w K mg base 3 "need_number" ["value", "most"] spNeedN)
    {t : Tok} (gM : mg "MOST_KEYS" = some (.int (10 ^ 30) t)) : FnOk P w K mg base CX0 4 f fd ["keys"] spLH := by
  obtain ⟨f2, fd2, G2, g2, k2, b2⟩ := D2.ex
  refine F.ok scLH (fun vs H Q E h => ?_) (fun cdv A outer s H vs Q E hr h => ?_)
  · obtain ⟨m, rfl, _⟩ := h
    rfl
  · obtain ⟨m, rfl, m1, m2, kk⟩ := h
    refine ⟨_, pss_cons (ps_expr (pe_call G2 hr (by rfl) g2 k2 b2 .nil pass0 (pa_cons (pv 0) (pa_cons (pe_glob (v := .int (10 ^ 30)) rfl gM ⟨_, rfl⟩) pa_nil))))
      (pss_one (ps_ret (pe_bits (pv 0)))), ?_⟩
    exact ⟨_, rfl, _, _, rfl, m1, m2, _, rfl, _, rfl, kk⟩
end
end Ev
namespace Ev
open PySem L2 PySem.Spec PyProof.Rows
abbrev sTop : Stmt := top 58
abbrev sLeast : Stmt := top 59
abbrev sHigh : Stmt := top 60
abbrev sLow : Stmt := top 61
abbrev sWeights : Stmt := top 62
/-- the law's row of six numbers -/
def RowAt (H : Hp) (l : Addr) (p q k : Int) : Prop := ∃ t s c : Int, H l = some (.tup [.int p, .int q, .int k, .int t, .int s, .int c])
theorem RowAt.keep {H H' : Hp} {l : Addr} {p q k : Int} (h : RowAt H l p q k) (s : Same H H') : RowAt H' l p q k := by
  obtain ⟨a, b, c, e⟩ := h
  exact ⟨a, b, c, s _ _ e⟩
def spTop : Sp := fun vs H Q _ => ∃ (l : Addr) (p q k x : Int), vs = [.ref l, .int x] ∧ RowAt H l p q k ∧ okN p q k ∧ Q (.int (greatV p q k x)) H
def spLLeast : Sp := fun vs H Q _ => ∃ (l : Addr) (p q k y : Int), vs = [.ref l, .int y] ∧ RowAt H l p q k ∧ okN p q k ∧ 1 ≤ y ∧ Q (.int (leastV p q k y)) H
def spHigh : Sp := fun vs H Q _ => ∃ (l : Addr) (p q k m : Int), vs = [.ref l, .int m] ∧ RowAt H l p q k ∧ okN p q k ∧ 1 ≤ m ∧ ∀ (n : Nat) (H' : Hp), Same H H' → IsH p q k m n → Q (.int n) H'
def spLow : Sp := fun vs H Q _ => ∃ m : Int, vs = [.int m] ∧ 0 ≤ m ∧ Q (.int (Builtin.Int.intBits m : Nat)) H
def spWeights : Sp := fun vs H Q _ => ∃ (l : Addr) (p q k m : Int), vs = [.ref l, .int m] ∧ RowAt H l p q k ∧ okN p q k ∧ 1 ≤ m ∧ m ≤ 10 ^ 31 ∧ ∀ (a : Addr) (n : Nat) (H' : Hp), H a = none → Same H H' → H' a = some (.lst (wl p q k n)) → IsH p q k m n → Q (.ref a) H'
theorem least_at {p q k y : Int} (o : okN p q k) (h : 1 ≤ y) : leastV p q k y ≤ y := by
  by_cases z : 2 ≤ y
  · have := least_lt o z; omega
  · obtain rfl : y = 1 := by omega
    refine (least_le (by have := o.1; have := o.2.1; omega) (Int.le_refl 1)).mpr ?_
    obtain ⟨o1, o2, o3, o4, o5, o6⟩ := o
    omega
section
variable {P : Program} {w : World} {K : PySem.W.Frag} {mg : Str → Option Value} {base : Heap}
theorem ix6_0 {a b c d e f : V} : atI [a, b, c, d, e, f] 0 = some a := atI_nat (j := 0) rfl
theorem ix6_1 {a b c d e f : V} : atI [a, b, c, d, e, f] 1 = some b := atI_nat (j := 1) rfl
theorem ix6_2 {a b c d e f : V} : atI [a, b, c, d, e, f] 2 = some c := atI_nat (j := 2) rfl
theorem scTop : FnScope ["_law_some", "_law_x"] ["_law_some", "_law_x"] (defScope sTop) := ⟨rfl, rfl, rfl, by decide +kernel, rfl, by decide +kernel, by decide +kernel⟩
theorem ok_top {f : Addr} {fd : FuncData} (F : Fun K "_law_top" "_law_top" sTop f fd) : FnOk P w K mg base CX0 1 f fd ["_law_some", "_law_x"] spTop := by
  refine F.ok scTop (fun vs H Q E h => ?_) (fun cdv A outer s H vs Q E hr h => ?_)
  · obtain ⟨l, p, q, k, x, rfl, _⟩ := h
    rfl
  · obtain ⟨l, p, q, k, x, rfl, ⟨t, s', c, hl⟩, ⟨o1, o2, o3, o4, o5, o6⟩, kk⟩ := h
    refine ⟨_, pss_one (ps_ret (pe_op op_fdivN (pe_op op_add (pe_op op_mul (pe_ix ix_tup (pv 0) pe_int (fun _ _ => rfl)) (pv 1)) (pe_ix ix_tup (pv 0) pe_int (fun _ _ => rfl))) (pe_ix ix_tup (pv 0) pe_int (fun _ _ => rfl)))), ?_⟩
    exact ⟨_, rfl, l, _, 0, _, rfl, rfl, SqT.of hl, ix6_0, _, rfl, _, _, rfl, rfl, .inl (m64 (show 1 ≤ p by omega) (by omega)), _, rfl, l, _, 2, _, rfl, rfl, SqT.of hl, ix6_2, _, _, rfl, rfl, _, rfl, l, _, 1, _, rfl, rfl, SqT.of hl, ix6_1, _, _, rfl, rfl, ⟨by omega, by omega⟩, kk⟩
theorem scLeast : FnScope ["_law_some", "_law_y", "_law_low_here", "_law_high_here", "_law_middle"] ["_law_some", "_law_y"] (defScope sLeast) := ⟨rfl, rfl, rfl, by decide +kernel, rfl, by decide +kernel, by decide +kernel⟩
theorem ok_least {f : Addr} {fd : FuncData} (F : Fun K "_law_least" "_law_least" sLeast f fd) (D : Df P w K mg base 1 "_law_top" ["_law_some", "_law_x"] spTop) : FnOk P w K mg base CX0 2 f fd ["_law_some", "_law_y"] spLLeast := by
  obtain ⟨f1, fd1, G1, g1, k1, b1⟩ := D.ex
  refine F.ok scLeast (fun vs H Q E h => ?_) (fun cdv A outer s H vs Q E hr h => ?_)
  · obtain ⟨l, p, q, k, x, rfl, _⟩ := h
    rfl
  · obtain ⟨l, p, q, k, y, rfl, hl, o, hy, kk⟩ := h
    refine ⟨_, pss_cons (ps_par (i := 2) (j := 3) rfl scLeast.nd rfl rfl (by decide) rfl rfl (pa_cons pe_int (pa_cons (pv 1) pa_nil)) (by rfl))
      (pss_cons (ps_while PassesOwn.never (pt_cmpR op_lt (pv 2) (pv 3) (nomark _))
        (pss_cons (ps_set (i := 4) scLeast.nd rfl (.inl rfl) (pe_op op_fdivN (pe_op op_add (pv 2) (pv 3)) pe_int))
        (pss_one (ps_if (pt_cmpR op_le (pv 1) (pe_call G1 hr (by rfl) g1 k1 b1 .nil pass0 (pa_cons (pv 0) (pa_cons (pv 4) pa_nil))) (nomark _))
          (pss_one (ps_set (i := 3) scLeast.nd rfl (.inl rfl) (pv 4))) (pss_one (ps_set (i := 2) scLeast.nd rfl (.inl rfl) (pe_op op_add (pv 4) pe_int)))))))
      (pss_one (ps_ret (pv 2)))), ?_⟩
    have p1 : 1 ≤ p := by have := o.1; have := o.2.1; omega
    have at1 : ∀ x : Int, 1 ≤ x → (leastV p q k y ≤ x ↔ y ≤ greatV p q k x) := fun x hx => (least_le p1 hx).trans (le_great o.1).symm
    refine ⟨_, rfl, _, _, rfl, ?_⟩
    refine ⟨fun μ σ H' => ∃ (a b : Int) (mv : Option V), σ = [some (.ref l), some (.int y), some (.int a), some (.int b), mv] ∧ H' = H ∧ 1 ≤ a ∧ a ≤ leastV p q k y ∧ leastV p q k y ≤ b ∧ μ = (b - a).toNat, ⟨_, 1, y, none, rfl, rfl, Int.le_refl _, least_pos _ _ _ _, least_at o hy, rfl⟩, ?_⟩
    rintro μ σ H' ⟨a, b, mv, rfl, rfl, a1, a2, a3, rfl⟩
    refine ⟨_, rfl, _, rfl, _, _, rfl, rfl, _, rfl, ite2 (fun e => ?_) (fun e => ?_)⟩
    · have e := of_decide_eq_true e
      have md : a ≤ (a + b).fdiv 2 ∧ (a + b).fdiv 2 < b := by
        rw [Int.fdiv_eq_ediv_of_nonneg _ (by decide)]
        omega
      refine ⟨fun σ' H2 => ∃ (a' b' : Int) (mv' : Option V), σ' = [some (.ref l), some (.int y), some (.int a'), some (.int b'), mv'] ∧ H2 = H' ∧ 1 ≤ a' ∧ a' ≤ leastV p q k y ∧ leastV p q k y ≤ b' ∧ b' - a' < b - a, fun σ' H2 ⟨a', b', mv', q1, q2, q3, q4, q5, q6⟩ => ⟨_, ?_, a', b', mv', q1, q2, q3, q4, q5, rfl⟩, ?_⟩
      · omega
      · refine ⟨_, rfl, _, rfl, _, _, rfl, rfl, _, _, rfl, rfl, ⟨by decide, by decide⟩, ?_⟩
        refine ⟨_, rfl, _, rfl, _, rfl, l, p, q, k, _, rfl, hl, o, _, _, rfl, rfl, _, rfl, ite2 (fun g => ?_) (fun g => ?_)⟩
        · have g := (at1 _ (by omega)).mpr (of_decide_eq_true g)
          exact ⟨_, rfl, a, _, _, rfl, rfl, a1, a2, g, by omega⟩
        · have g : ¬ (leastV p q k y ≤ (a + b).fdiv 2) := fun z => g (decide_eq_true ((at1 _ (by omega)).mp z))
          exact ⟨_, rfl, _, _, rfl, rfl, _, b, _, rfl, rfl, by omega, by omega, a3, by omega⟩
    · have e : ¬ (a < b) := fun z => e (decide_eq_true z)
      refine ⟨_, rfl, ?_⟩
      rw [show a = leastV p q k y by omega]
      exact kk
end
end Ev
namespace Ev
open PySem L2 PySem.Spec PyProof.Rows
section
variable {P : Program} {w : World} {K : PySem.W.Frag} {mg : Str → Option Value} {base : Heap}
theorem scHigh : FnScope ["_law_some", "_law_weight", "_law_height", "_law_least_so"] ["_law_some", "_law_weight"] (defScope sHigh) := ⟨rfl, rfl, rfl, by decide +kernel, rfl, by decide +kernel, by decide +kernel⟩
theorem ok_high {f : Addr} {fd : FuncData} (F : Fun K "_law_high" "_law_high" sHigh f fd) (D : Df P w K mg base 2 "_law_least" ["_law_some", "_law_y"] spLLeast) : FnOk P w K mg base CX0 3 f fd ["_law_some", "_law_weight"] spHigh := by
  obtain ⟨f1, fd1, G1, g1, k1, b1⟩ := D.ex
  refine F.ok scHigh (fun vs H Q E h => ?_) (fun cdv A outer s H vs Q E hr h => ?_)
  · obtain ⟨l, p, q, k, x, rfl, _⟩ := h
    rfl
  · obtain ⟨l, p, q, k, m, rfl, hl, o, hm, kk⟩ := h
    refine ⟨_, pss_cons (ps_asg (pe_tup (pa_cons pe_int (pa_cons pe_int pa_nil))) (pg_tup (by rfl) (pgs_cons (pg_name (i := 2) scHigh.nd rfl (.inl rfl)) (pgs_cons (pg_name (i := 3) scHigh.nd rfl (.inl rfl)) pgs_nil))))
      (pss_cons (ps_while PassesOwn.never (pt_cmpR op_le (pe_op op_add (pv 3) (pe_call G1 hr (by rfl) g1 k1 b1 .nil pass0 (pa_cons (pv 0) (pa_cons (pv 3) pa_nil)))) (pv 1) (nomark _))
        (pss_one (ps_par (i := 2) (j := 3) rfl scHigh.nd rfl rfl (by decide) rfl rfl (pa_cons (pe_op op_add (pv 2) pe_int) (pa_cons (pe_op op_add (pv 3) (pe_call G1 hr (by rfl) g1 k1 b1 .nil pass0 (pa_cons (pv 0) (pa_cons (pv 3) pa_nil)))) pa_nil)) (by rfl))))
      (pss_one (ps_ret (pv 2)))), ?_⟩
    refine ⟨(by show 2 ≤ sizeLine; decide), fun tp ntp => ⟨tp, _, rfl, SqT.of upd_same, rfl, _, _, rfl, _, _, rfl, rfl, ?_⟩⟩
    have s1 : Same H (upd H tp (.tup [.int 0, .int 1])) := same_new ntp
    generalize upd H tp (.tup [.int 0, .int 1]) = H1 at s1 ⊢
    refine ⟨fun μ σ H' => ∃ n : Nat, σ = [some (.ref l), some (.int m), some (.int n), some (.int (Wt p q k n))] ∧ H' = H1 ∧ Wt p q k n ≤ m ∧ μ = (m - Wt p q k n).toNat, ⟨_, 0, rfl, rfl, hm, rfl⟩, ?_⟩
    rintro μ σ H' ⟨n, rfl, rfl, wm, rfl⟩
    have wg := Wt_ge p q k n
    refine ⟨_, rfl, _, rfl, _, rfl, l, p, q, k, _, rfl, hl.keep s1, o, by omega, _, _, rfl, rfl, _, rfl, _, _, rfl, rfl, _, rfl, ite2 (fun e => ?_) (fun e => ?_)⟩
    · have e : Wt p q k (n + 1) ≤ m := of_decide_eq_true e
      have lt := Wt_lt p q k n
      refine ⟨fun σ' H2 => σ' = [some (.ref l), some (.int m), some (.int ((n + 1 : Nat) : Int)), some (.int (Wt p q k (n + 1)))] ∧ H2 = H', fun σ' H2 ⟨q1, q2⟩ => ⟨_, ?_, n + 1, q1, q2, e, rfl⟩, ?_⟩
      · omega
      · refine ⟨_, rfl, _, _, rfl, rfl, _, rfl, _, rfl, _, rfl, l, p, q, k, _, rfl, hl.keep s1, o, by omega, _, _, rfl, rfl, _, _, rfl, rfl, rfl⟩
    · have e : ¬ (Wt p q k (n + 1) ≤ m) := fun z => e (decide_eq_true z)
      exact ⟨_, rfl, kk n H' s1 ⟨wm, by omega⟩⟩
theorem scWeights : FnScope ["_law_some", "_law_most", "_law_found"] ["_law_some", "_law_most"] (defScope sWeights) := ⟨rfl, rfl, rfl, by decide +kernel, rfl, by decide +kernel, by decide +kernel⟩
theorem wl_last (p q k : Int) (n : Nat) : atI (wl p q k n) (-1) = some (.int (Wt p q k n)) := by
  unfold wl
  rw [List.range_succ, List.map_append]
  exact atI_last _ _
theorem ok_weights {f : Addr} {fd : FuncData} (F : Fun K "_law_weights" "_law_weights" sWeights f fd) (D : Df P w K mg base 2 "_law_least" ["_law_some", "_law_y"] spLLeast) : FnOk P w K mg base CX0 3 f fd ["_law_some", "_law_most"] spWeights := by
  obtain ⟨f1, fd1, G1, g1, k1, b1⟩ := D.ex
  refine F.ok scWeights (fun vs H Q E h => ?_) (fun cdv A outer s H vs Q E hr h => ?_)
  · obtain ⟨l, p, q, k, x, rfl, _⟩ := h
    rfl
  · obtain ⟨l, p, q, k, m, rfl, hl, o, m1, m2, kk⟩ := h
    refine ⟨_, pss_cons (ps_set (i := 2) scWeights.nd rfl (.inl rfl) (pe_lst (pa_cons pe_int pa_nil)))
      (pss_cons (ps_while PassesOwn.never (pt_cmpR op_le (pe_op op_add (pe_ix ix_list (pv 2) (pe_un un_neg pe_int) (fun _ _ => rfl)) (pe_call G1 hr (by rfl) g1 k1 b1 .nil pass0 (pa_cons (pv 0) (pa_cons (pe_ix ix_list (pv 2) (pe_un un_neg pe_int) (fun _ _ => rfl)) pa_nil)))) (pv 1) (nomark _))
        (pss_one (ps_expr (pe_bm PySem.F.plainAttrs_list PySem.F.slot_list_append PySem.F.type_list_append mt_append (pv 2) (pa_cons (pe_op op_add (pe_ix ix_list (pv 2) (pe_un un_neg pe_int) (fun _ _ => rfl)) (pe_call G1 hr (by rfl) g1 k1 b1 .nil pass0 (pa_cons (pv 0) (pa_cons (pe_ix ix_list (pv 2) (pe_un un_neg pe_int) (fun _ _ => rfl)) pa_nil)))) pa_nil)))))
      (pss_one (ps_ret (pv 2)))), ?_⟩
    refine ⟨(by show 1 ≤ sizeLine; decide), fun a na => ?_⟩
    have s1 : Same H (upd H a (.lst [.int 1])) := same_new na
    have ha : upd H a (.lst [.int 1]) a = some (.lst (wl p q k 0)) := upd_same
    generalize upd H a (.lst [.int 1]) = H1 at s1 ha ⊢
    refine ⟨fun μ σ H' => ∃ n : Nat, σ = [some (.ref l), some (.int m), some (.ref a)] ∧ H' a = some (.lst (wl p q k n)) ∧ Same H H' ∧ Wt p q k n ≤ m ∧ μ = (m - Wt p q k n).toNat, ⟨_, 0, rfl, ha, s1, m1, rfl⟩, ?_⟩
    rintro μ σ H' ⟨n, rfl, ha', sm, wm, rfl⟩
    have wg := Wt_ge p q k n
    refine ⟨_, rfl, _, rfl, a, _, _, _, rfl, rfl, SqL.of ha', wl_last p q k n, _, rfl, _, rfl, _, rfl, a, _, _, _, rfl, rfl, SqL.of ha', wl_last p q k n, l, p, q, k, _, rfl, hl.keep sm, o, by omega, _, _, rfl, rfl, _, rfl, _, _, rfl, rfl, _, rfl, ite2 (fun e => ?_) (fun e => ?_)⟩
    · have e : Wt p q k (n + 1) ≤ m := of_decide_eq_true e
      have lt := Wt_lt p q k n
      have long := Wt_long o (Int.le_trans wm m2)
      refine ⟨fun σ' H2 => σ' = [some (.ref l), some (.int m), some (.ref a)] ∧ H2 a = some (.lst (wl p q k (n + 1))) ∧ Same H H2, fun σ' H2 ⟨q1, q2, q3⟩ => ⟨_, ?_, n + 1, q1, q2, q3, e, rfl⟩, ?_⟩
      · omega
      · refine ⟨_, rfl, .inl ⟨rfl, _, SqL.of ha'⟩, _, rfl, _, rfl, a, _, _, _, rfl, rfl, SqL.of ha', wl_last p q k n, _, rfl, _, rfl, _, rfl, a, _, _, _, rfl, rfl, SqL.of ha', wl_last p q k n, l, p, q, k, _, rfl, hl.keep sm, o, by omega, _, _, rfl, rfl, a, _, _, rfl, rfl, ha', (by rw [wl_len]; exact Nat.lt_of_le_of_lt (show n + 1 ≤ 2000 by omega) (by decide)), ?_⟩
        refine ⟨rfl, ?_, fun b o' q' => ?_⟩
        · rw [upd_same]
          exact congrArg some (congrArg HO.lst (wl_succ p q k n))
        · rw [upd_ne (ne_of_none q' na)]; exact sm _ _ q'
    · have e : ¬ (Wt p q k (n + 1) ≤ m) := fun z => e (decide_eq_true z)
      exact ⟨_, rfl, kk a n H' na sm ha' ⟨wm, by omega⟩⟩
theorem bits_zero : Builtin.Int.intBits 0 = 0 := by decide
theorem bits_half {m : Int} (h : 0 < m) : Builtin.Int.intBits m = Builtin.Int.intBits (m.fdiv 2) + 1 := by
  obtain ⟨n, rfl⟩ := Int.eq_ofNat_of_zero_le (show 0 ≤ m by omega)
  rw [Int.fdiv_eq_ediv_of_nonneg _ (by decide)]
  unfold Builtin.Int.intBits
  have e1 : ((n : Int) == 0) = false := by
    rw [beq_eq_false_iff_ne]; omega
  rw [e1]
  by_cases z : n = 1
  · subst z
    decide
  · have e2 : (((n : Int) / 2) == 0) = false := by
      rw [beq_eq_false_iff_ne]; omega
    rw [e2]
    have e3 : ((n : Int) / 2).natAbs = n / 2 := by omega
    rw [e3]
    show (n : Int).natAbs.log2 + 1 = (n / 2).log2 + 1 + 1
    rw [Int.natAbs_natCast, Nat.log2_def n, if_pos (by omega)]
theorem scLow : FnScope ["_law_keys", "_law_height", "_law_rest"] ["_law_keys"] (defScope sLow) := ⟨rfl, rfl, rfl, by decide +kernel, rfl, by decide +kernel, by decide +kernel⟩
theorem ok_low {f : Addr} {fd : FuncData} (F : Fun K "_law_low" "_law_low" sLow f fd) : FnOk P w K mg base CX0 1 f fd ["_law_keys"] spLow := by
  refine F.ok scLow (fun vs H Q E h => ?_) (fun cdv A outer s H vs Q E hr h => ?_)
  · obtain ⟨m, rfl, _⟩ := h
    rfl
  · obtain ⟨m, rfl, hm, kk⟩ := h
    refine ⟨_, pss_cons (ps_par (i := 1) (j := 2) rfl scLow.nd rfl rfl (by decide) rfl rfl (pa_cons pe_int (pa_cons (pv 0) pa_nil)) (by rfl))
      (pss_cons (ps_while PassesOwn.never (pt_cmpR op_gt (pv 2) pe_int (nomark _))
        (pss_one (ps_par (i := 1) (j := 2) rfl scLow.nd rfl rfl (by decide) rfl rfl (pa_cons (pe_op op_add (pv 1) pe_int) (pa_cons (pe_op op_fdivN (pv 2) pe_int) pa_nil)) (by rfl))))
      (pss_one (ps_ret (pv 1)))), ?_⟩
    refine ⟨_, rfl, _, _, rfl, ?_⟩
    refine ⟨fun μ σ H' => ∃ (a : Nat) (r : Int), σ = [some (.int m), some (.int a), some (.int r)] ∧ H' = H ∧ 0 ≤ r ∧ a + Builtin.Int.intBits r = Builtin.Int.intBits m ∧ μ = r.toNat, ⟨_, 0, m, rfl, rfl, hm, by omega, rfl⟩, ?_⟩
    rintro μ σ H' ⟨a, r, rfl, rfl, hr0, hb, rfl⟩
    refine ⟨_, rfl, _, _, rfl, rfl, _, rfl, ite2 (fun e => ?_) (fun e => ?_)⟩
    · have e : 0 < r := of_decide_eq_true e
      have b := bits_half e
      have hlf : 0 ≤ r.fdiv 2 ∧ r.fdiv 2 < r := by
        rw [Int.fdiv_eq_ediv_of_nonneg _ (by decide)]
        omega
      refine ⟨fun σ' H2 => σ' = [some (.int m), some (.int ((a + 1 : Nat) : Int)), some (.int (r.fdiv 2))] ∧ H2 = H', fun σ' H2 ⟨q1, q2⟩ => ⟨_, ?_, a + 1, _, q1, q2, hlf.1, by omega, rfl⟩, ?_⟩
      · omega
      · exact ⟨_, rfl, _, _, rfl, rfl, _, rfl, _, _, rfl, rfl, ⟨by decide, by decide⟩, _, _, rfl, rfl, rfl⟩
    · have e : ¬ (0 < r) := fun z => e (decide_eq_true z)
      obtain rfl : r = 0 := by omega
      rw [bits_zero] at hb
      refine ⟨_, rfl, ?_⟩
      rw [show a = Builtin.Int.intBits m by omega]
      exact kk
end
end Ev
namespace Ev
open PySem L2 PySem.Spec PyProof.Rows
/-! ### a def called by keywords alone -/
section
variable {X : Cx}
def tCallK0 (sp : Sp) (gV : List V → List V → List V) (E : XK) (tk : TA) : TE := fun σ H Q => tk σ H fun zs H2 => sp (gV [] zs) H2 Q E
theorem pe_callK0 {CX : CXT} {k : Nat} {f : Addr} {fd : FuncData} {ps ks : List Str} {sp : Sp} {E : XK} {x : Str} {p pos : Pos} {kws : List Keyword} {tk : TA} {g : List Value → List Value → List Value} {gV : List V → List V → List V}
    (F : FnOk X.prog X.w X.K X.mg X.base CX k f fd ps sp) (hr : Room k X.A) (hg : Gl X x) (hm : X.mg x = some (.ref f)) (hk : PySem.W.keepIn X.K (.ref f) = true) (hb : KBinds X.K fd ps ks g gV) (hx : Passes CX X E)
    (hkw : PK X kws tk) (hall : (backToKw pos (keywordEach kws X.env)).all (·.1.isSome) = true := by rfl) (hks : (backToKw pos (keywordEach kws X.env)).filterMap (·.1) = ks := by rfl)
    (hdb : (x == ("__debug__" : Str)) = false := by decide)
    (hpl : ((backTo pos (starEach [] X.env)).any (·.1) || (backToKw pos (keywordEach kws X.env)).any (·.1.isNone)) = false := by rfl) :
    PE X (.Call (.Name x p) [] kws pos) (tCallK0 sp gV E tk) := by
  refine ⟨fun pins s σ H Q I h => ?_⟩
  refine wpAny_Call_Name_kw (ld_glob I hg hm ?_ hdb)
  refine PySem.W.callWith_KW0 (first := []) (h₀ := X.base) I.ok.mod.kin hk hall ?_ hpl
  refine thn (hkw.run pos pins s σ H _ I h) fun ws s2 ⟨zs, H2, I2, rz, q2⟩ => ⟨I2.kIn, ?_⟩
  rw [hks]
  exact run_fnk (us := []) (vs := []) F hr hb hx I2 .nil rz q2
end
def gK {α : Type} : List α → List α → List α
  | [], [a] => [a]
  | _, _ => []
theorem gK_rel {vs zs : List V} {us ws : List Value} (r1 : Vals vs us) (r2 : Vals zs ws) : Vals (gK vs zs) (gK us ws) := by
  cases r1 with
  | cons a t => exact .nil
  | nil =>
    cases r2 with
    | nil => exact .nil
    | cons a t =>
      cases t with
      | nil => exact .cons a .nil
      | cons b t => exact .nil
theorem gK_len {α : Type} {us ws : List α} (h : (gK us ws).length = 1) : ∃ a, us = [] ∧ ws = [a] := by
  match us, ws, h with
  | [], [a], _ => exact ⟨a, rfl, rfl⟩
def gG {α : Type} : List α → List α → List α
  | [], [a, b] => [b, a]
  | _, _ => []
theorem gG_rel {vs zs : List V} {us ws : List Value} (r1 : Vals vs us) (r2 : Vals zs ws) : Vals (gG vs zs) (gG us ws) := by
  cases r1 with
  | cons a t => exact .nil
  | nil =>
    cases r2 with
    | nil => exact .nil
    | cons a t =>
      cases t with
      | nil => exact .nil
      | cons b t =>
        cases t with
        | nil => exact .cons b (.cons a .nil)
        | cons d t => exact .nil
theorem gG_len {α : Type} {us ws : List α} (h : (gG us ws).length = 2) : ∃ a b, us = [] ∧ ws = [a, b] := by
  match us, ws, h with
  | [], [a, b], _ => exact ⟨a, b, rfl, rfl⟩
/-- a def that stands under its name, called by place and by keywords -/
structure DfK (P : Program) (w : World) (K : PySem.W.Frag) (mg : Str → Option Value) (base : Heap) (k : Nat) (x : Str) (ps ks : List Str) (g : List Value → List Value → List Value) (gV : List V → List V → List V) (sp : Sp) : Prop where
  ex : ∃ (f : Addr) (fd : FuncData), FnOk P w K mg base CX0 k f fd ps sp ∧ mg x = some (.ref f) ∧ PySem.W.keepIn K (.ref f) = true ∧ Binds K fd ps [] ∧ KBinds K fd ps ks g gV
/-! ### how pairs show -/
theorem small_log {n : Nat} (h : n < 2000) : n.log2 < 11 := by
  by_cases z : n = 0
  · subst z; decide
  · exact (Nat.log2_lt z).mpr (by omega)
theorem small_show {n : Nat} (h : n < 2000) : n.log2 < 1920 := by
  have := small_log h
  omega
theorem small_leaf {n : Nat} (h : n < 2000) : (PyData.int (n : Int)).leavesShort 2000 = true := by
  have e := int_text_length_le (a := (n : Int)) (k := 1920) (by decide) (by
    rw [Int.natAbs_natCast]
    exact small_show h)
  refine decide_eq_true ?_
  show (Str.ofString (toString (n : Int))).length ≤ 2000
  rw [PySem.ofString_length]
  omega
theorem small_weight {n : Nat} (h : n < 2000) : (PyData.int (n : Int)).weight ≤ 1002 := by
  have e : (n : Int) = 0 ∨ (n : Int).natAbs.log2 < 1000 := by
    by_cases z : n = 0
    · exact .inl (by omega)
    · exact .inr (by
        rw [Int.natAbs_natCast]
        have := small_log h
        omega)
  simp only [PyData.weight]
  split
  · omega
  · rename_i z
    have : ¬ (n : Int) = 0 := by simpa using z
    omega
theorem show_len {d : PyData} (h : d.leavesShort 2000 = true) (hw : d.weight ≤ 8000) : d.shown.length ≤ sizeLine := by
  have := PyData.shown_le 2000 (by decide) d h
  rw [sizeLine_eq]
  omega
def pairD (a b : Nat) : PyData := .list [.int (a : Int), .int (b : Int)]
theorem pair_show {a b : Nat} (ha : a < 2000) (hb : b < 2000) : (pairD a b).showable = true ∧ (pairD a b).hasDict = false ∧ (pairD a b).depth ≤ 32 ∧ (pairD a b).shown.length ≤ sizeLine := by
  refine ⟨?_, rfl, by simp [pairD, PyData.depth, PyData.depthAll], show_len ?_ ?_⟩
  · have e1 := small_show ha
    have e2 := small_show hb
    simp only [pairD, PyData.showable, PyData.showableAll, Bool.and_true]
    simp [e1, e2]
  · have e1 := small_leaf ha
    have e2 := small_leaf hb
    simp only [pairD, PyData.leavesShort, PyData.leavesShortAll, Bool.and_true] at e1 e2 ⊢
    simp [e1, e2]
  · have e1 := small_weight ha
    have e2 := small_weight hb
    simp only [pairD, PyData.weight, PyData.weightAll] at e1 e2 ⊢
    omega
theorem pair_dp {K : PySem.W.Frag} {H : Hp} {l : Addr} {a b : Nat} (h : H l = some (.lst [.int (a : Int), .int (b : Int)])) : Dp K H (.ref l) (pairD a b) := .lst (SqL.of h) (.cons (.int _) (.cons (.int _) .nil))
theorem log2_mono {a b : Nat} (h : a ≤ b) (ha : a ≠ 0) : a.log2 ≤ b.log2 := by
  have h1 : 2 ^ a.log2 ≤ a := Nat.log2_self_le ha
  exact (Nat.le_log2 (by omega)).mpr (Nat.le_trans h1 h)
theorem bits_mono {a b : Int} (h0 : 0 ≤ a) (h : a ≤ b) : Builtin.Int.intBits a ≤ Builtin.Int.intBits b := by
  obtain ⟨m, rfl⟩ := Int.eq_ofNat_of_zero_le h0
  obtain ⟨n, rfl⟩ := Int.eq_ofNat_of_zero_le (Int.le_trans h0 h)
  unfold Builtin.Int.intBits
  by_cases z : m = 0
  · subst z
    exact Nat.zero_le _
  · rw [if_neg (by simp; omega), if_neg (by simp; omega), Int.natAbs_natCast, Int.natAbs_natCast]
    have := log2_mono (show m ≤ n by omega) z
    omega
theorem bits_le {m : Int} (h0 : 0 ≤ m) (h : m ≤ 10 ^ 30) : Builtin.Int.intBits m < 2000 := by
  have h1 := bits_mono h0 h
  have h2 : Builtin.Int.intBits (10 ^ 30) < 2000 := by decide +kernel
  omega
/-- the least height is not above the greatest one -/
theorem bits_isH {p q k m : Int} {n : Nat} (o : okN p q k) (h0 : 0 ≤ m) (ih : IsH p q k (m + 1) n) : Builtin.Int.intBits m ≤ n := by
  obtain ⟨a, rfl⟩ := Int.eq_ofNat_of_zero_le h0
  by_cases z : a = 0
  · subst z
    exact Nat.zero_le _
  · have e : Builtin.Int.intBits (a : Int) = a.log2 + 1 := by
      unfold Builtin.Int.intBits
      rw [if_neg (by simp; omega), Int.natAbs_natCast]
    have w := Wt_two o a.log2
    have p2 : ((2 : Int)) ^ a.log2 ≤ (a : Int) := by
      have := Nat.log2_self_le z
      have c : ((2 ^ a.log2 : Nat) : Int) = (2 : Int) ^ a.log2 := by simp
      omega
    rw [e]
    by_cases y : a.log2 + 1 ≤ n
    · exact y
    · have mo := Wt_mono p q k (show n + 1 ≤ a.log2 + 1 by omega)
      have := ih.2
      omega
end Ev
namespace Ev
open PySem L2 PySem.Spec PyProof.Rows
abbrev sRight : Stmt := top 63
def spRight : Sp := fun vs H Q _ => ∃ (p L : Addr) (B : Int), vs = [.ref p] ∧ B ≤ 500000 ∧ Pen L H p B ∧ ∀ H' : Hp, But p H H' → Pen L H' p (B + 40) → Q (.bl true) H'
theorem RowAt.but {L pn : Addr} {H H' : Hp} {l : Addr} {p q k B : Int} (h : RowAt H l p q k) (h1 : Pen L H pn B) (s : But pn H H') : RowAt H' l p q k := by
  obtain ⟨a, b, c, e⟩ := h
  obtain ⟨xs, e1⟩ := h1.some
  exact ⟨a, b, c, s _ _ (ne_of e e1 (by intro z; cases z)) e⟩
section
variable {P : Program} {w : World} {K : PySem.W.Frag} {mg : Str → Option Value} {base : Heap}
theorem scRight : FnScope ["_law_pen_here", "_law_some", "_law_rule_so", "_law_row", "_law_turn", "_law_at", "_law_keys", "_law_high_here", "_law_low_here"] ["_law_pen_here"] (defScope sRight) := ⟨rfl, rfl, rfl, by decide +kernel, rfl, by decide +kernel, by decide +kernel⟩
theorem ok_right {f Ct Cn : Addr} {fd : FuncData} (F : Fun K "_law_right" "_law_right" sRight f fd) (T : Blt mg)
    (D1 : Df P w K mg base 1 "_law_draw" ["_law_pen_here", "_law_many"] spDraw) (D2 : Df P w K mg base 2 "_law_pick" ["_law_pen_here", "_law_some"] spPick) (D3 : Df P w K mg base 3 "_law_numbers" ["_law_pen_here"] spNums)
    (D4 : Df P w K mg base 8 "_law_rule" ["_law_some", "_law_is_turn"] (spRule Ct Cn)) (D5 : Df P w K mg base 3 "_law_weights" ["_law_some", "_law_most"] spWeights)
    (D6 : DfK P w K mg base 4 "greatest_height" ["rule", "keys"] ["keys", "rule"] gG gG (spGH Ct Cn)) (D7 : DfK P w K mg base 4 "least_height" ["keys"] ["keys"] gK gK spLH)
    (D8 : Df P w K mg base 3 "_law_high" ["_law_some", "_law_weight"] spHigh) (D9 : Df P w K mg base 1 "_law_low" ["_law_keys"] spLow) :
    FnG P w K mg base 9 f fd ["_law_pen_here"] spRight := by
  obtain ⟨f1, fd1, G1, g1, k1, b1⟩ := D1.ex
  obtain ⟨f2, fd2, G2, g2, k2, b2⟩ := D2.ex
  obtain ⟨f3, fd3, G3, g3, k3, b3⟩ := D3.ex
  obtain ⟨f4, fd4, G4, g4, k4, b4⟩ := D4.ex
  obtain ⟨f5, fd5, G5, g5, k5, b5⟩ := D5.ex
  obtain ⟨f6, fd6, G6, g6, k6, b6, bk6⟩ := D6.ex
  obtain ⟨f7, fd7, G7, g7, k7, b7, bk7⟩ := D7.ex
  obtain ⟨f8, fd8, G8, g8, k8, b8⟩ := D8.ex
  obtain ⟨f9, fd9, G9, g9, k9, b9⟩ := D9.ex
  refine fng_of F scRight (fun vs H Q E h => ?_) (fun cdv A outer s H vs Q E hr gd h => ?_)
  · obtain ⟨p, L, B, rfl, _⟩ := h
    rfl
  · obtain ⟨p, L, B, rfl, hB, hp, kk⟩ := h
    have hr1 : Room 1 _ := hr.mono (by decide)
    have hr2 : Room 2 _ := hr.mono (by decide)
    have hr3 : Room 3 _ := hr.mono (by decide)
    have hr4 : Room 4 _ := hr.mono (by decide)
    refine ⟨_, pss_cons (ps_set (i := 1) scRight.nd rfl (.inl rfl) (pe_call G3 hr3 (by rfl) g3 k3 b3 .nil pass0 (pa_cons (pv 0) pa_nil)))
      (pss_cons (ps_par (i := 2) (j := 3) rfl scRight.nd rfl rfl (by decide) rfl rfl (pa_cons (pe_call G4 hr (by rfl) g4 k4 b4 .nil pass0 (pa_cons (pv 1) (pa_cons (pe_cmpR op_eq (pe_call G1 hr1 (by rfl) g1 k1 b1 .nil pass0 (pa_cons (pv 0) (pa_cons pe_int pa_nil))) pe_int (nomark _)) pa_nil)))
        (pa_cons (pe_call G5 hr3 (by rfl) g5 k5 b5 .nil pass0 (pa_cons (pv 1) (pa_cons (pe_op op_pow pe_int pe_int) pa_nil))) pa_nil)) (by rfl))
      (pss_cons (ps_for PassesOwn.never rfl (pi_range1 (by rfl) T.range (pa_cons pe_int pa_nil)) (pg_name (i := 4) scRight.nd rfl (.inl rfl))
        (pss_cons (ps_set (i := 5) scRight.nd rfl (.inl rfl) (pe_call G1 hr1 (by rfl) g1 k1 b1 .nil pass0 (pa_cons (pv 0) (pa_cons (pe_callB call_len_seq (by rfl) T.len PySem.boot_len (pa_cons (pv 3) pa_nil)) pa_nil))))
        (pss_cons (ps_set (i := 6) scRight.nd rfl (.inl rfl) (pe_call G2 hr2 (by rfl) g2 k2 b2 .nil pass0 (pa_cons (pv 0) (pa_cons (pe_lst (pa_cons (pe_op op_sub (pe_ix ix_list (pv 3) (pv 5) (fun _ _ => rfl)) pe_int) (pa_cons (pe_op op_sub (pe_ix ix_list (pv 3) (pv 5) (fun _ _ => rfl)) pe_int)
          (pa_cons (pe_callB (call_max2 rfl) (by rfl) T.max (by decide +kernel) (pa_cons pe_int (pa_cons (pe_callTy call_int1 (by rfl) T.int (by decide +kernel) (pa_cons (pe_op op_sub (pe_ix ix_list (pv 3) (pv 5) (fun _ _ => rfl)) pe_int) pa_nil)) pa_nil)))
          (pa_cons (pe_call G1 hr1 (by rfl) g1 k1 b1 .nil pass0 (pa_cons (pv 0) (pa_cons pe_int pa_nil))) (pa_cons (pe_ix ix_list (pv 3) (pv 5) (fun _ _ => rfl)) pa_nil)))))) pa_nil))))
        (pss_cons (ps_par (i := 7) (j := 8) rfl scRight.nd rfl rfl (by decide) rfl rfl (pa_cons (pe_call G6 hr4 (by rfl) g6 k6 b6 .nil pass0 (pa_cons (pv 2) (pa_cons (pv 6) pa_nil))) (pa_cons (pe_call G7 hr4 (by rfl) g7 k7 b7 .nil pass0 (pa_cons (pv 6) pa_nil)) pa_nil)) (by rfl))
        (pss_cons (ps_if (PW.pt (pw_or (pt_cmpR op_ne (pe_callB (call_repr gd hr.units) (by rfl) T.repr (by decide +kernel) (pa_cons (pe_lst (pa_cons (pv 7) (pa_cons (pv 8) pa_nil))) pa_nil))
            (pe_callB (call_repr gd hr.units) (by rfl) T.repr (by decide +kernel) (pa_cons (pe_lst (pa_cons (pe_call G8 hr3 (by rfl) g8 k8 b8 .nil pass0 (pa_cons (pv 1) (pa_cons (pe_op op_add (pv 6) pe_int) pa_nil))) (pa_cons (pe_call G9 hr1 (by rfl) g9 k9 b9 .nil pass0 (pa_cons (pv 6) pa_nil)) pa_nil))) pa_nil)) (nomark _))
            (pw_or1 (pt_cmpR op_gt (pv 8) (pv 7) (nomark _))))) (pss_one (ps_ret pe_bl)) pss_nil)
        (pss_one (ps_if (PW.pt (pw_or (pt_cmpR op_lt (pe_callK0 G6 hr4 (by rfl) g6 k6 bk6 (E := E0) pass0 (pk_cons (pe_op op_add (pv 6) pe_int) (pk_cons (pv 2) pk_nil))) (pv 7) (nomark _))
            (pw_or1 (pt_cmpR op_lt (pe_callK0 G7 hr4 (by rfl) g7 k7 bk7 (E := E0) pass0 (pk_cons (pe_op op_add (pv 6) pe_int) pk_nil)) (pv 8) (nomark _))))) (pss_one (ps_ret pe_bl)) pss_nil)))))))
      (pss_one (ps_ret (pe_cmpR op_eq (pe_call G6 hr4 (by rfl) g6 k6 b6 .nil pass0 (pa_cons (pv 2) (pa_cons (pe_op op_sub (pe_ix ix_list (pv 3) (pe_un un_neg pe_int) (fun _ _ => rfl)) pe_int) pa_nil)))
        (pe_op op_sub (pe_callB call_len_seq (by rfl) T.len PySem.boot_len (pa_cons (pv 3) pa_nil)) pe_int) (nomark _)))))), ?_⟩
    refine ⟨_, rfl, p, L, B, rfl, by omega, hp, fun la pp q k t s' c H1 okn okt nla hla t1 p1 => ?_⟩
    refine ⟨_, rfl, _, rfl, p, L, _, _, rfl, by decide, by decide, by omega, p1, fun d2 H2 t2 p2 a2 c2 => ?_⟩
    have rla1 : RowAt H1 la pp q k := ⟨t, s', c, hla⟩
    have hla2 : H2 la = some (.tup (Row.tn pp q k t s' c).vs) := by
      obtain ⟨xs, e1⟩ := p1.some
      exact t2 _ _ (ne_of hla e1 (by intro z; cases z)) hla
    refine ⟨rfl, la, pp, q, k, t, s', c, _, rfl, hla2, okn, okt, fun r H3 row s3 ob ok3 e1 e2 e3 => ?_⟩
    have p3 := p2.keep s3
    have rla3 : RowAt H3 la pp q k := ⟨t, s', c, s3 _ _ hla2⟩
    have bt3 : But p H H3 := t1.trans (t2.trans (Same.but s3))
    refine ⟨_, rfl, _, _, rfl, rfl, ⟨by decide, by decide, by decide⟩, la, pp, q, k, _, rfl, rla3, okn, (by decide), (by decide), fun a n H4 na s4 ha4 ih4 => ⟨_, _, rfl, ?_⟩⟩
    have p4 := p3.keep s4
    have rla4 : RowAt H4 la pp q k := rla3.keep s4
    have bt4 : But p H H4 := bt3.trans (Same.but s4)
    have ob4 := ob.keep s4
    have long := Wt_long okn (Int.le_trans ih4.1 (by decide))
    have pa : a ≠ p := by
      obtain ⟨xs, e1⟩ := p3.some
      exact ne_of_none e1 na |>.symm
    refine ⟨8, rfl, by decide, by decide, for_range (n := 8) (fun i σ H5 => ∃ v4 v5 v6 v7 v8 : Option V, σ = [some (.ref p), some (.ref la), some (.ref r), some (.ref a), v4, v5, v6, v7, v8] ∧ Pen L H5 p (B + 10 + 3 * (i : Int)) ∧ But p H4 H5)
      ⟨none, none, none, none, none, rfl, p4.mono (by omega), But.refl _ _⟩ ?_ ?_⟩
    · rintro i σ H5 hi ⟨v4, v5, v6, v7, v8, rfl, p5, t5⟩
      have ha5 : H5 a = some (.lst (wl pp q k n)) := t5 _ _ pa ha4
      refine ⟨_, rfl, _, rfl, a, _, rfl, .inl (SqL.of ha5), p, L, _, _, rfl, (by rw [wl_len]; omega), (by rw [wl_len]; omega), by omega, p5, fun d6 H6 t6 p6 a6 c6 => ?_⟩
      obtain ⟨j, rfl⟩ := Int.eq_ofNat_of_zero_le a6
      have hj : j ≤ n := by rw [wl_len] at c6; omega
      have ha6 : H6 a = some (.lst (wl pp q k n)) := t6 _ _ pa ha5
      have atj : atI (wl pp q k n) (j : Int) = some (.int (Wt pp q k j)) := atI_nat (wl_get pp q k hj)
      have wj1 := Wt_ge pp q k j
      have wj2 : Wt pp q k j ≤ 10 ^ 9 := Int.le_trans (Wt_mono pp q k hj) ih4.1
      refine ⟨_, rfl, _, rfl, _, rfl, a, _, _, _, rfl, rfl, SqL.of ha6, atj, _, _, rfl, rfl, ?_⟩
      refine ⟨_, rfl, _, rfl, a, _, _, _, rfl, rfl, SqL.of ha6, atj, _, _, rfl, rfl, ?_⟩
      refine ⟨_, rfl, _, rfl, a, _, _, _, rfl, rfl, SqL.of ha6, atj, _, _, rfl, rfl, .inl ⟨_, rfl, _, _, rfl, ?_⟩⟩
      refine ⟨_, rfl, p, L, _, _, rfl, by decide, by decide, by omega, p6, fun d7 H7 t7 p7 a7 c7 => ?_⟩
      have ha7 : H7 a = some (.lst (wl pp q k n)) := t7 _ _ pa ha6
      refine ⟨_, rfl, _, rfl, a, _, _, _, rfl, rfl, SqL.of ha7, atj, (by show 5 ≤ sizeLine; decide), fun l8 nl8 => ⟨p, l8, L, _, _, rfl, upd_same, p7.ne nl8, (by show 1 ≤ 5; decide), (by show 5 ≤ 1000; decide), by omega, p7.new nl8, fun kv H8 m8 t8 p8 => ?_⟩⟩
      obtain ⟨ky, rfl, ky0, ky1⟩ : ∃ ky : Int, kv = .int ky ∧ 0 ≤ ky ∧ ky ≤ 10 ^ 9 := by
        simp only [List.mem_cons, List.not_mem_nil, or_false] at m8
        rcases m8 with e | e | e | e | e
        · exact ⟨_, e, by omega, by omega⟩
        · exact ⟨_, e, by omega, by omega⟩
        · refine ⟨_, e, ?_, ?_⟩
          · split <;> omega
          · split <;> omega
        · exact ⟨_, e, by omega, by omega⟩
        · exact ⟨_, e, by omega, by omega⟩
      have bt8 : But p H4 H8 := t5.trans (t6.trans (t7.trans ((Same.but (same_new nl8)).trans t8)))
      obtain ⟨xs4, hp4⟩ := p4.some
      have ob8 := ob4.but hp4 bt8
      have rla8 := rla4.but p4 bt8
      have kb : ky ≤ 10 ^ 30 ∧ ky + 1 ≤ 10 ^ 30 := ⟨by omega, by omega⟩
      refine ⟨_, rfl, _, rfl, r, row, ky, rfl, ob8, ok3, ky0, kb.1, fun h H9 s9 ih9 => ?_⟩
      rw [e1, e2, e3] at ih9
      refine ⟨_, rfl, ky, rfl, ky0, kb.1, _, _, rfl, ?_⟩
      have hl : Builtin.Int.intBits ky ≤ h := bits_isH okn ky0 ih9
      have hs : h < 2000 := Nat.lt_of_lt_of_le (Wt_long okn (Int.le_trans ih9.1 (by omega))) (by decide)
      have sw := pair_show hs (bits_le ky0 kb.1)
      refine ⟨_, rfl, _, rfl, (by show 2 ≤ sizeLine; decide), fun l1 nl1 => ⟨l1, _, rfl, pair_dp upd_same, sw.1, sw.2.1, sw.2.2.1, sw.2.2.2, ?_⟩⟩
      have s10 : Same H8 (upd H9 l1 (.lst [.int (h : Int), .int (Builtin.Int.intBits ky : Nat)])) := s9.trans (same_new nl1)
      generalize upd H9 l1 (.lst [.int (h : Int), .int (Builtin.Int.intBits ky : Nat)]) = H10 at s10 ⊢
      refine ⟨_, rfl, _, rfl, _, _, rfl, rfl, la, pp, q, k, _, rfl, rla8.keep s10, okn, by omega, fun n2 H11 s11 ih11 => ?_⟩
      obtain rfl : n2 = h := ih11.uniq ih9
      refine ⟨_, rfl, ky, rfl, ky0, (by show 2 ≤ sizeLine; decide), fun l2 nl2 => ⟨l2, _, rfl, pair_dp upd_same, sw.1, sw.2.1, sw.2.2.1, sw.2.2.2, rfl, _, rfl, ?_⟩⟩
      have s12 : Same H8 (upd H11 l2 (.lst [.int (n2 : Int), .int (Builtin.Int.intBits ky : Nat)])) := (s10.trans s11).trans (same_new nl2)
      generalize upd H11 l2 (.lst [.int (n2 : Int), .int (Builtin.Int.intBits ky : Nat)]) = H12 at s12 ⊢
      refine iteNS rfl ?_
      refine ⟨_, rfl, _, rfl, _, _, rfl, rfl, _, rfl, ite2 (fun e => absurd (of_decide_eq_true e) (by omega)) (fun _ => ?_)⟩
      have ob12 := ob8.keep s12
      refine ⟨_, rfl, _, _, rfl, rfl, _, rfl, r, row, ky + 1, rfl, ob12, ok3, by omega, kb.2, fun h2 H13 s13 ih13 => ?_⟩
      rw [e1, e2, e3] at ih13
      have hm : n2 ≤ h2 := ih9.mono ih13 (by omega)
      refine ⟨_, rfl, _, _, rfl, rfl, _, rfl, ite2 (fun e => absurd (of_decide_eq_true e) (by omega)) (fun _ => ?_)⟩
      have bm := bits_mono ky0 (show ky ≤ ky + 1 by omega)
      refine ⟨_, rfl, _, _, rfl, rfl, ky + 1, rfl, by omega, kb.2, _, rfl, _, _, rfl, rfl, _, rfl, ite2 (fun e => absurd (of_decide_eq_true e) (by omega)) (fun _ => ?_)⟩
      exact ⟨_, _, _, _, _, rfl, (p8.keep (s12.trans s13)).mono (by omega), bt8.trans (Same.but (s12.trans s13))⟩
    · rintro σ H5 ⟨v4, v5, v6, v7, v8, rfl, p5, t5⟩
      have ha5 : H5 a = some (.lst (wl pp q k n)) := t5 _ _ pa ha4
      obtain ⟨xs4, hp4⟩ := p4.some
      have wn := Wt_ge pp q k n
      have wn2 : Wt pp q k n ≤ 10 ^ 9 := ih4.1
      refine ⟨_, rfl, _, rfl, _, rfl, a, _, _, _, rfl, rfl, SqL.of ha5, wl_last pp q k n, _, _, rfl, rfl, r, row, _, rfl, ob4.but hp4 t5, ok3, by omega, Int.le_trans (show Wt pp q k n - 1 ≤ 10 ^ 9 by omega) (by decide), fun h H6 s6 ih6 => ?_⟩
      rw [e1, e2, e3, show Wt pp q k n - 1 + 1 = Wt pp q k n by omega] at ih6
      obtain rfl : h = n := ih6.uniq (IsH.at pp q k n)
      refine ⟨_, rfl, a, _, rfl, .inl (SqL.of (s6 _ _ ha5)), _, _, rfl, rfl, rfl, ?_⟩
      have e : decide (V.int (h : Int) = V.int (((wl pp q k h).length : Nat) - 1)) = true := decide_eq_true (by rw [wl_len]; congr 1; omega)
      show Q (.bl (decide (V.int (h : Int) = V.int (((wl pp q k h).length : Nat) - 1)))) H6
      rw [e]
      exact kk H6 (bt4.trans (t5.trans (Same.but s6))) ((p5.keep s6).mono (by omega))
end
end Ev
namespace Ev
open PySem L2 PySem.Spec PyProof.Rows
abbrev sFar : Stmt := top 64
section
variable {P : Program} {w : World} {K : PySem.W.Frag} {mg : Str → Option Value} {base : Heap}
theorem scFar : FnScope ["_law_pen_here", "_law_some", "_law_less", "_law_power", "_law_keys", "_law_high_here"] ["_law_pen_here"] (defScope sFar) := ⟨rfl, rfl, rfl, by decide +kernel, rfl, by decide +kernel, by decide +kernel⟩
theorem ok_far {f Ct Cn : Addr} {fd : FuncData} (F : Fun K "_law_far_right" "_law_far_right" sFar f fd) (T : Blt mg)
    (D1 : Df P w K mg base 1 "_law_draw" ["_law_pen_here", "_law_many"] spDraw) (D2 : Df P w K mg base 2 "_law_pick" ["_law_pen_here", "_law_some"] spPick) (D3 : Df P w K mg base 3 "_law_numbers" ["_law_pen_here"] spNums)
    (D4 : Df P w K mg base 8 "_law_rule" ["_law_some", "_law_is_turn"] (spRule Ct Cn))
    (D6 : DfK P w K mg base 4 "greatest_height" ["rule", "keys"] ["keys", "rule"] gG gG (spGH Ct Cn)) (D7 : DfK P w K mg base 4 "least_height" ["keys"] ["keys"] gK gK spLH)
    (D8 : Df P w K mg base 3 "_law_high" ["_law_some", "_law_weight"] spHigh) (D9 : Df P w K mg base 1 "_law_low" ["_law_keys"] spLow) :
    FnOk P w K mg base CX0 9 f fd ["_law_pen_here"] spRight := by
  obtain ⟨f1, fd1, G1, g1, k1, b1⟩ := D1.ex
  obtain ⟨f2, fd2, G2, g2, k2, b2⟩ := D2.ex
  obtain ⟨f3, fd3, G3, g3, k3, b3⟩ := D3.ex
  obtain ⟨f4, fd4, G4, g4, k4, b4⟩ := D4.ex
  obtain ⟨f6, fd6, G6, g6, k6, b6, bk6⟩ := D6.ex
  obtain ⟨f7, fd7, G7, g7, k7, b7, bk7⟩ := D7.ex
  obtain ⟨f8, fd8, G8, g8, k8, b8⟩ := D8.ex
  obtain ⟨f9, fd9, G9, g9, k9, b9⟩ := D9.ex
  refine F.ok scFar (fun vs H Q E h => ?_) (fun cdv A outer s H vs Q E hr h => ?_)
  · obtain ⟨p, L, B, rfl, _⟩ := h
    rfl
  · obtain ⟨p, L, B, rfl, hB, hp, kk⟩ := h
    have hr1 : Room 1 _ := hr.mono (by decide)
    have hr2 : Room 2 _ := hr.mono (by decide)
    have hr3 : Room 3 _ := hr.mono (by decide)
    have hr4 : Room 4 _ := hr.mono (by decide)
    refine ⟨_, pss_cons (ps_par (i := 1) (j := 2) rfl scFar.nd rfl rfl (by decide) rfl rfl (pa_cons (pe_call G3 hr3 (by rfl) g3 k3 b3 .nil pass0 (pa_cons (pv 0) pa_nil)) (pa_cons (pe_call G1 hr1 (by rfl) g1 k1 b1 .nil pass0 (pa_cons (pv 0) (pa_cons (pe_op op_pow pe_int pe_int) pa_nil))) pa_nil)) (by rfl))
      (pss_cons (ps_set (i := 3) scFar.nd rfl (.inl rfl) pe_int)
      (pss_cons (ps_set (i := 4) scFar.nd rfl (.inl rfl) (pe_call G2 hr2 (by rfl) g2 k2 b2 .nil pass0 (pa_cons (pv 0) (pa_cons (pe_lst (pa_cons (pe_op op_pow pe_int pe_int) (pa_cons (pe_op op_sub (pe_op op_sub (pe_op op_pow pe_int pe_int) pe_int) (pv 2)) (pa_cons (pv 3) (pa_cons (pe_op op_sub (pv 3) pe_int) pa_nil))))) pa_nil))))
      (pss_cons (ps_set (i := 5) scFar.nd rfl (.inl rfl) (pe_call G6 hr4 (by rfl) g6 k6 b6 .nil pass0 (pa_cons (pe_call G4 hr (by rfl) g4 k4 b4 .nil pass0 (pa_cons (pv 1) (pa_cons (pe_cmpR op_eq (pe_call G1 hr1 (by rfl) g1 k1 b1 .nil pass0 (pa_cons (pv 0) (pa_cons pe_int pa_nil))) pe_int (nomark _)) pa_nil))) (pa_cons (pv 4) pa_nil))))
      (pss_one (ps_ret (pe_and (pe_cmpR op_eq (pv 5) (pe_call G8 hr3 (by rfl) g8 k8 b8 .nil pass0 (pa_cons (pv 1) (pa_cons (pe_op op_add (pv 4) pe_int) pa_nil))) (nomark _))
        (pe_one (pe_cmpR op_eq (pe_call G7 hr4 (by rfl) g7 k7 b7 .nil pass0 (pa_cons (pv 4) pa_nil)) (pe_call G9 hr1 (by rfl) g9 k9 b9 .nil pass0 (pa_cons (pv 4) pa_nil)) (nomark _))))))))), ?_⟩
    refine ⟨_, rfl, p, L, B, rfl, by omega, hp, fun la pp q k t s' c H1 okn okt nla hla t1 p1 => ?_⟩
    refine ⟨_, rfl, _, _, rfl, rfl, ⟨by decide, by decide, by decide⟩, p, L, _, _, rfl, by decide, (by decide), by omega, p1, fun d2 H2 t2 p2 a2 c2 => ⟨_, _, rfl, ?_⟩⟩
    have c2 : d2 < 10 ^ 29 := c2
    have hla2 : H2 la = some (.tup (Row.tn pp q k t s' c).vs) := by
      obtain ⟨xs, e1⟩ := p1.some
      exact t2 _ _ (ne_of hla e1 (by intro z; cases z)) hla
    refine ⟨_, rfl, _, _, rfl, rfl, ⟨by decide, by decide, by decide⟩, _, _, rfl, rfl, ⟨by decide, by decide, by decide⟩, _, _, rfl, rfl, _, rfl, _, _, rfl, rfl, _, rfl, _, rfl, _, _, rfl, rfl, ?_⟩
    refine ⟨(by show 4 ≤ sizeLine; decide), fun l3 nl3 => ⟨p, l3, L, _, _, rfl, upd_same, p2.ne nl3, (by show 1 ≤ 4; decide), (by show 4 ≤ 1000; decide), by omega, p2.new nl3, fun kv H3 m3 t3 p3 => ?_⟩⟩
    obtain ⟨ky, rfl, ky0, ky1⟩ : ∃ ky : Int, kv = .int ky ∧ 0 ≤ ky ∧ ky ≤ 10 ^ 30 := by
      simp only [List.mem_cons, List.not_mem_nil, or_false] at m3
      rcases m3 with e | e | e | e
      · exact ⟨_, e, by decide, by decide⟩
      · refine ⟨_, e, ?_, ?_⟩
        · show (0 : Int) ≤ 10 ^ 30 - 1 - d2
          omega
        · show 10 ^ 30 - 1 - d2 ≤ (10 : Int) ^ 30
          omega
      · exact ⟨_, e, by decide, by decide⟩
      · exact ⟨_, e, by decide, by decide⟩
    have bt23 : But p H2 H3 := (Same.but (same_new nl3)).trans t3
    have hla3 : H3 la = some (.tup (Row.tn pp q k t s' c).vs) := by
      obtain ⟨xs, e1⟩ := p2.some
      exact bt23 _ _ (ne_of hla2 e1 (by intro z; cases z)) hla2
    refine ⟨_, rfl, _, rfl, p, L, _, _, rfl, by decide, by decide, by omega, p3, fun d4 H4 t4 p4 a4 c4 => ?_⟩
    have hla4 : H4 la = some (.tup (Row.tn pp q k t s' c).vs) := by
      obtain ⟨xs, e1⟩ := p3.some
      exact t4 _ _ (ne_of hla3 e1 (by intro z; cases z)) hla3
    refine ⟨rfl, la, pp, q, k, t, s', c, _, rfl, hla4, okn, okt, fun r H5 row s5 ob ok3 e1 e2 e3 => ?_⟩
    have rla5 : RowAt H5 la pp q k := ⟨t, s', c, s5 _ _ hla4⟩
    refine ⟨_, rfl, r, row, ky, rfl, ob, ok3, ky0, ky1, fun h H6 s6 ih6 => ?_⟩
    rw [e1, e2, e3] at ih6
    refine ⟨_, rfl, _, rfl, _, rfl, _, _, rfl, rfl, la, pp, q, k, _, rfl, rla5.keep s6, okn, by omega, fun h2 H7 s7 ih7 => ?_⟩
    obtain rfl : h2 = h := ih7.uniq ih6
    refine ⟨rfl, _, rfl, ?_⟩
    rw [decide_eq_true (show V.int (h2 : Int) = V.int (h2 : Int) from rfl)]
    refine iteT ⟨_, rfl, ky, rfl, ky0, ky1, _, rfl, ky, rfl, ky0, rfl, ?_⟩
    refine (congrArg (fun b => Q (.bl b) H7) (decide_eq_true (show V.int ((Builtin.Int.intBits ky : Nat) : Int) = V.int ((Builtin.Int.intBits ky : Nat) : Int) from rfl))).mpr ?_
    have p7 := ((p4.keep s5).keep s6).keep s7
    exact kk H7 (t1.trans (t2.trans (bt23.trans (t4.trans (Same.but (s5.trans (s6.trans s7))))))) (p7.mono (by omega))
end
end Ev
namespace Ev
open PySem L2 PySem.Spec PyProof.Rows
theorem lc_pure {J : It} {n : Nat} {G : Hp → Prop} {Y : Nat → Hp → V → Hp → Prop} (W : Walk J n G Y) {g : TG} {tt : TT} {te : TE} {vs : List Nat} {σ : L2.St} {H1 : Hp} {D : Addr} {Qd : Hp → Prop} (rs : List Int) (hn : rs.length = n) (hb : n ≤ 1000)
    (hG : ∀ H, But D H1 H → G H)
    (step : ∀ (i : Nat) (x : V) (H H' : Hp) (r : Int), i < n → rs[i]? = some r → But D H1 H → (∃ acc, H D = some (.lst acc)) → Y i H x H' → ∀ (R : VK) (Wk : Hp → Prop), (∀ H4, Same H H4 → R (.int r) H4) →
      g x (wipe σ vs) H' fun σ2 H2 => wipe σ2 vs = wipe σ vs ∧ tt σ2 H2 fun b H3 => if b = true then te σ2 H3 R else Wk H3)
    (fin : ∀ H, But D H1 H → H D = some (.lst (rs.map V.int)) → Qd H) :
    ∃ W : Nat → Nat → Hp → Prop, (∃ m, W 0 m (upd H1 D (HO.lst []))) ∧ ∀ (i m : Nat) (H : Hp), W i m H → J.stop i H ∧ Qd H ∨ J.go i H ∧ ∃ Nx : Hp → Prop, (∀ (H' : Hp), Nx H' → ∃ m', m' < m ∧ W (i + 1) m' H') ∧
      ∀ (x : V) (H' : Hp), J.yld i H x H' → g x (wipe σ vs) H' fun σ2 H2 => wipe σ2 vs = wipe σ vs ∧ tt σ2 H2 fun b H3 =>
        if b = true then te σ2 H3 fun y H4 => ∃ acc, H4 D = some (HO.lst acc) ∧ acc.length < sizeLine ∧ Nx (upd H4 D (HO.lst (acc ++ [y]))) else Nx H3 := by
  refine lc_it W (fun i H => H D = some (.lst ((rs.take i).map V.int)) ∧ But D H1 H) ⟨upd_same, But.upd_at⟩ (fun i H _ h => hG H h.2) (fun i x H H' hi h y => ?_) (fun H h => ?_)
  · obtain ⟨e1, e2⟩ := h
    have hr : rs[i]? = some rs[i] := List.getElem?_eq_getElem (by omega)
    refine step i x H H' rs[i] hi hr e2 ⟨_, e1⟩ y _ _ fun H4 s4 => ⟨_, s4 _ _ e1, ?_, ?_, ?_⟩
    · rw [List.length_map, List.length_take]
      exact Nat.lt_of_le_of_lt (Nat.min_le_left _ _) (Nat.lt_of_lt_of_le (show i < 1000 by omega) (by decide))
    · rw [List.take_add_one, hr, List.map_append]
      exact upd_same
    · exact fun c o nc ec => by rw [upd_ne nc]; exact s4 _ _ (e2 c o nc ec)
  · obtain ⟨e1, e2⟩ := h
    rw [← hn, List.take_length] at e1
    exact fin H e2 e1
def spPen (K : PySem.W.Frag) : Sp := fun vs H Q _ => ∃ (a : Addr) (ns : List Int), vs = [.ref a] ∧ SqL K H a (ns.map V.int) ∧ ns.length ≤ 63 ∧
  ∀ (p L : Addr) (H' : Hp), H p = none → Same H H' → Pen L H' p 0 → Q (.ref p) H'
def spLaw (K : PySem.W.Frag) : Sp := fun vs H Q _ => ∃ (a : Addr) (ns : List Int), vs = [.ref a] ∧ SqL K H a (ns.map V.int) ∧ ns.length ≤ 63 ∧ ∀ H', Q (.bl true) H'
theorem But.tup {L p a : Addr} {H H' : Hp} {B : Int} {xs : List V} (h : H a = some (.tup xs)) (pn : Pen L H p B) (t : But p H H') : H' a = some (.tup xs) := by
  obtain ⟨ys, e⟩ := pn.some
  exact t _ _ (ne_of h e (by intro z; cases z)) h
theorem Pen.put {L p D : Addr} {H : Hp} {B : Int} {o : HO} (h : Pen L H p B) (d1 : D ≠ p) (d2 : D ≠ L) : Pen L (upd H D o) p B := by
  obtain ⟨ns, t, c, h1, h2, h3⟩ := h
  exact ⟨ns, t, c, by rw [upd_ne d1.symm]; exact h1, by rw [upd_ne d2.symm]; exact h2, h3⟩
theorem Pen.neL {L p D : Addr} {H : Hp} {B : Int} (h : Pen L H p B) (n : H D = none) : D ≠ L := by
  obtain ⟨ns, t, c, h1, h2, h3⟩ := h
  exact (ne_of_none h2 n).symm
theorem cut_ints (ns : List Int) (h : Int) : ∃ ms : List Int, cutV (ns.map V.int) none (some h) = ms.map V.int ∧ ms.length ≤ ns.length := by
  unfold cutV
  generalize HT.sIx (ns.map V.int).length 0 none = x
  generalize HT.sIx (ns.map V.int).length (ns.map V.int).length (some h) - x = y
  refine ⟨(ns.drop x).take y, ?_, ?_⟩
  · rw [List.map_take, List.map_drop]
  · rw [List.length_take, List.length_drop]; omega
theorem int_at {ns : List Int} {i : Nat} {x : V} (h : (ns.map V.int)[i]? = some x) : ∃ n, ns[i]? = some n ∧ x = .int n := by
  rw [List.getElem?_map] at h
  cases z : ns[i]? with
  | none => rw [z] at h; cases h
  | some n => rw [z] at h; exact ⟨n, rfl, (Option.some.inj h).symm⟩
instance (p q k m : Int) (h : Nat) : Decidable (IsH p q k m h) := inferInstanceAs (Decidable (_ ∧ _))
def ks : List Int := [0, 1, 2, 3, 4, 5, 6, 7, 13, 14]
def hs : List Int := [0, 1, 2, 3, 3, 4, 4, 5, 6, 7]
def ls : List Int := [0, 1, 2, 2, 3, 3, 3, 3, 4]
theorem ks_hs : ∀ i : Fin 10, 0 ≤ ks.getD i 0 ∧ ks.getD i 0 ≤ 14 ∧ hs.getD i 0 = ((hs.getD i 0).toNat : Int) ∧ IsH 3 1 0 (ks.getD i 0 + 1) (hs.getD i 0).toNat := by decide +kernel
theorem ls_bits : ∀ i : Fin 9, ((Builtin.Int.intBits (0 + ((i : Nat) : Int)) : Nat) : Int) = ls.getD i 0 := by decide +kernel
theorem eqv_hs : PyData.eqv (.list (hs.map PyData.int)) (.list (hs.map PyData.int)) = true := by decide +kernel
theorem eqv_ls : PyData.eqv (.list (ls.map PyData.int)) (.list (ls.map PyData.int)) = true := by decide +kernel
section
variable {P : Program} {w : World} {K : PySem.W.Frag} {mg : Str → Option Value} {base : Heap}
theorem scPen : FnScope ["_law_script"] ["_law_script"] (defScope sPen) := ⟨rfl, rfl, rfl, by decide +kernel, rfl, by decide +kernel, by decide +kernel⟩
theorem ok_pen {f : Addr} {fd : FuncData} (F : Fun K "_law_pen" "_law_pen" sPen f fd) (T : Blt mg) : FnOk P w K mg base CX0 1 f fd ["_law_script"] (spPen K) := by
  refine F.ok scPen (fun vs H Q E h => ?_) (fun cdv A outer s H vs Q E hr h => ?_)
  · obtain ⟨a, ns, rfl, _⟩ := h
    rfl
  · obtain ⟨a, ns, rfl, hS, hlen, kk⟩ := h
    refine ⟨_, pss_one (ps_ret (pe_lst (pa_cons (pe_callTy call_list_of (by rfl) T.list (by decide +kernel) (pa_cons (pe_slice sl_list (pv 0) po_none (po_some pe_int)) pa_nil)) (pa_cons pe_int (pa_cons pe_int pa_nil))))), ?_⟩
    refine ⟨_, rfl, _, rfl, a, _, rfl, hS, fun l1 nl1 => ⟨l1, _, rfl, .inl (SqL.of upd_same), fun l2 nl2 => ⟨(by show 3 ≤ sizeLine; decide), fun p np => ?_⟩⟩⟩
    obtain ⟨ms, e1, e2⟩ := cut_ints ns 63
    rw [e1] at nl2 np ⊢
    have s1 : Same H (upd (upd H l1 (.lst (ms.map V.int))) l2 (.lst (ms.map V.int))) := (same_new nl1).trans (same_new nl2)
    have s2 := s1.trans (same_new (o := .lst [.ref l2, .int 0, .int 0]) np)
    refine kk p l2 _ ?_ s2 ⟨ms, 0, 0, upd_same, by rw [upd_ne (ne_of_none upd_same np)]; exact upd_same, ne_of_none upd_same np, by omega, by decide, by decide, by decide⟩
    cases z : H p with
    | none => rfl
    | some o => rw [s1 _ _ z] at np; cases np
theorem scLaw : FnScope ["_law_script", "_law_pen_here", "_law_turn", "_law_thrice", "_law_told", "_law_keys"] ["_law_script"] (defScope sLaw) := ⟨rfl, rfl, rfl, by decide +kernel, rfl, by decide +kernel, by decide +kernel⟩
theorem ok_law {f Ct Cn fT : Addr} {fd fdT : FuncData} (F : Fun K "law" "law" sLaw f fd) (T : Blt mg) (gT : mg "TryRule" = some (.ref Ct)) (MT : Mk K Ct fT)
    (GT : FnOk P w K mg base CX0 6 fT fdT ["self", "times", "plus"] (spTryInit Ct)) {ds : List Value} (bT : Binds K fdT ["self", "times", "plus"] ds) (dT : Vals [V.int 0] ds)
    (D1 : Df P w K mg base 1 "_law_pen" ["_law_script"] (spPen K)) {f2 : Addr} {fd2 : FuncData} (G2 : FnG P w K mg base 9 f2 fd2 ["_law_pen_here"] spRight) (g2 : mg "_law_right" = some (.ref f2)) (k2 : PySem.W.keepIn K (.ref f2) = true) (b2 : Binds K fd2 ["_law_pen_here"] [])
    (D3 : Df P w K mg base 9 "_law_far_right" ["_law_pen_here"] spRight)
    (D6 : DfK P w K mg base 4 "greatest_height" ["rule", "keys"] ["keys", "rule"] gG gG (spGH Ct Cn)) (D7 : DfK P w K mg base 4 "least_height" ["keys"] ["keys"] gK gK spLH) :
    FnG P w K mg base 10 f fd ["_law_script"] (spLaw K) := by
  obtain ⟨f1, fd1, G1, g1, k1, b1⟩ := D1.ex
  obtain ⟨f3, fd3, G3, g3, k3, b3⟩ := D3.ex
  obtain ⟨f6, fd6, G6, g6, k6, b6, bk6⟩ := D6.ex
  obtain ⟨f7, fd7, G7, g7, k7, b7, bk7⟩ := D7.ex
  refine fng_of F scLaw (fun vs H Q E h => ?_) (fun cdv A outer s H vs Q E hr gd h => ?_)
  · obtain ⟨a, ns, rfl, _⟩ := h
    rfl
  · obtain ⟨a, ns, rfl, hS, hlen, kk⟩ := h
    have hr1 : Room 1 _ := hr.mono (by decide)
    have hr4 : Room 4 _ := hr.mono (by decide)
    have hr7 : Room 7 _ := hr.mono (by decide)
    refine ⟨_, pss_cons (ps_set (i := 1) scLaw.nd rfl (.inl rfl) (pe_call G1 hr1 (by rfl) g1 k1 b1 .nil pass0 (pa_cons (pv 0) pa_nil)))
      (pss_cons (ps_for PassesOwn.never rfl (pi_range1 (by rfl) T.range (pa_cons pe_int pa_nil)) (pg_name (i := 2) scLaw.nd rfl (.inl rfl))
        (pss_one (ps_if (PW.pt (pw_or (pt_not (pt_val (pe_callG (E := E0) G2 hr gd (by rfl) g2 k2 b2 (pa_cons (pv 1) pa_nil)))) (pw_or1 (pt_not (pt_val (pe_call G3 hr (by rfl) g3 k3 b3 .nil pass0 (pa_cons (pv 1) pa_nil))))))) (pss_one (ps_ret pe_bl)) pss_nil)))
      (pss_cons (ps_set (i := 3) scLaw.nd rfl (by first | exact .inl rfl | exact .inr rfl) (pe_make MT GT hr7 (by rfl) gT bT dT pass0 (pa_cons (pe_tup (pa_cons pe_int (pa_cons pe_int pa_nil))) pa_nil)))
      (pss_cons (ps_setLc (i := 4) (own := [("_law_keys", 5)]) (g := gName 5) (tt := tYes) (te := tCall (spGH Ct Cn) [] E0 (tCons (tVar 3) (tCons (tVar 5) tNil))) (by rfl) scLaw.nd rfl rfl (sw_true rfl rfl rfl (by decide +kernel)) (pi_list (pe_lst (pa_cons pe_int (pa_cons pe_int (pa_cons pe_int (pa_cons pe_int (pa_cons pe_int (pa_cons pe_int (pa_cons pe_int (pa_cons pe_int (pa_cons pe_int (pa_cons pe_int pa_nil))))))))))))
          (blkOk_by (own := [("_law_keys", 5)]) (N := ["_law_script", "_law_pen_here", "_law_turn", "_law_thrice", "_law_told", "_law_keys"]) (sc := defScope sLaw) (by decide +kernel))
          (fun _ _ _ _ _ => pg_name (i := 5) scLaw.nd rfl (.inl rfl)) (fun _ _ _ _ _ => pts_nil) (fun _ _ _ _ _ => pe_call G6 hr4 (by rfl) g6 k6 b6 .nil pass0 (pa_cons (pv 3) (pa_cons (pv 5) pa_nil))))
      (pss_cons (ps_if (pt_cmpR (op_neD hr.units) (pv 4) (pe_lst (pa_cons pe_int (pa_cons pe_int (pa_cons pe_int (pa_cons pe_int (pa_cons pe_int (pa_cons pe_int (pa_cons pe_int (pa_cons pe_int (pa_cons pe_int (pa_cons pe_int pa_nil))))))))))) (nomark _)) (pss_one (ps_ret pe_bl)) pss_nil)
      (pss_one (ps_ret (pe_cmpR (op_eqD hr.units) (pe_lc (own := [("_law_keys", 5)]) (g := gName 5) (tt := tYes) (te := tCall spLH [] E0 (tCons (tVar 5) tNil)) (by rfl) scLaw.nd (pi_range1 (by rfl) T.range (pa_cons pe_int pa_nil))
            (blkOk_by (own := [("_law_keys", 5)]) (N := ["_law_script", "_law_pen_here", "_law_turn", "_law_thrice", "_law_told", "_law_keys"]) (sc := defScope sLaw) (by decide +kernel))
            (fun _ _ _ _ _ => pg_name (i := 5) scLaw.nd rfl (.inl rfl)) (fun _ _ _ _ _ => pts_nil) (fun _ _ _ _ _ => pe_call G7 hr4 (by rfl) g7 k7 b7 .nil pass0 (pa_cons (pv 5) pa_nil)))
          (pe_lst (pa_cons pe_int (pa_cons pe_int (pa_cons pe_int (pa_cons pe_int (pa_cons pe_int (pa_cons pe_int (pa_cons pe_int (pa_cons pe_int (pa_cons pe_int pa_nil)))))))))) (nomark _)))))))), ?_⟩
    refine ⟨_, rfl, a, ns, rfl, hS, hlen, fun p L H1 np s1 pn0 => ?_⟩
    refine ⟨4, rfl, by decide, by decide, for_range (n := 4) (fun i σ H2 => ∃ v2 : Option V, σ = [some (.ref a), some (.ref p), v2, none, none, none] ∧ Pen L H2 p (100 * (i : Int)))
      ⟨none, rfl, pn0.mono (by decide)⟩ ?_ ?_⟩
    · rintro i σ H2 hi ⟨v2, rfl, pn⟩
      refine ⟨_, rfl, p, L, _, rfl, by omega, pn, fun H3 t3 p3 => ⟨true, rfl, iteF ?_⟩⟩
      refine ⟨_, rfl, p, L, _, rfl, by omega, p3, fun H4 t4 p4 => ⟨true, rfl, iteF ?_⟩⟩
      exact ⟨_, rfl, p4.mono (by omega)⟩
    · rintro σ H2 ⟨v2, rfl, pn⟩
      refine ⟨(by show 2 ≤ sizeLine; decide), fun tp ntp => fun x dx nx ndx nex => ?_⟩
      have f1 : upd H2 tp (.tup [.int 3, .int 1]) tp = some (.tup [.int 3, .int 1]) := upd_same
      generalize upd H2 tp (.tup [.int 3, .int 1]) = H3 at f1 nx ndx ⊢
      have keep : ∀ (o1 o2 : HO) (b : Addr) (u : HO), H3 b = some u → upd (upd H3 dx o1) x o2 b = some u := fun o1 o2 b u e => by
        rw [upd_ne (ne_of_none e nx), upd_ne (ne_of_none e ndx)]; exact e
      refine ⟨x, dx, tp, 3, 1, 0, rfl, upd_same, keep _ _ _ _ f1, by decide, by decide, by decide, by decide, by decide, by decide, fun H4 t4 hx4 => ⟨rfl, ?_⟩⟩
      have ob4 : ObjAt Ct Cn H4 x (.tr 3 1 0) := ⟨dx, tp, hx4, t4 _ _ (ne_of_none f1 nx) (keep _ _ _ _ f1)⟩
      have ok4 : (Row.tr 3 1 0).ok := ⟨by decide, by decide, by decide, by decide, by decide, by decide⟩
      refine ⟨(by show 10 ≤ sizeLine; decide), fun l5 nl5 => ⟨l5, rfl, ⟨_, SqL.of upd_same⟩, fun D nD => ?_⟩⟩
      have ob5 := ob4.keep (same_new (o := .lst (ks.map V.int)) nl5)
      have hl5 : upd H4 l5 (.lst (ks.map V.int)) l5 = some (.lst (ks.map V.int)) := upd_same
      have nD : upd H4 l5 (.lst (ks.map V.int)) D = none := nD
      generalize hH5 : upd H4 l5 (.lst (ks.map V.int)) = H5 at ob5 hl5 nD
      have hH5' : upd H4 l5 (.lst [V.int 0, V.int 1, V.int 2, V.int 3, V.int 4, V.int 5, V.int 6, V.int 7, V.int 13, V.int 14]) = H5 := hH5
      rw [hH5']
      have lD := ne_of_none hl5 nD
      refine lc_pure (n := 10) (walk_list (K := K) (a := l5) (xs := ks.map V.int)) hs rfl (by decide) (fun H' h => SqL.of (h _ _ lD hl5)) (fun i v H6 H' r hi hr' bt _ y R Wk k => ?_) (fun H6 bt hD => ?_)
      · obtain ⟨rfl, hv⟩ := y
        obtain ⟨m, hm, rfl⟩ := int_at hv
        have kh := ks_hs ⟨i, hi⟩
        have em : ks.getD i 0 = m := by rw [List.getD_eq_getElem?_getD, hm]; rfl
        have er : hs.getD i 0 = r := by rw [List.getD_eq_getElem?_getD, hr']; rfl
        have kh : 0 ≤ m ∧ m ≤ 14 ∧ r = (r.toNat : Int) ∧ IsH 3 1 0 (m + 1) r.toNat := by
          have kh := kh
          simp only [em, er] at kh
          exact kh
        obtain ⟨k1', k2', k3', k4'⟩ := kh
        have ob6 : ObjAt Ct Cn H' x (.tr 3 1 0) := by
          obtain ⟨dx', a', q1, q2⟩ := ob5
          exact ⟨dx', a', bt _ _ (ne_of_none q1 nD) q1, bt _ _ (ne_of_none q2 nD) q2⟩
        refine ⟨rfl, _, rfl, _, rfl, x, .tr 3 1 0, m, rfl, ob6, ok4, k1', Int.le_trans k2' (by decide), fun h H7 s7 ih7 => ?_⟩
        obtain rfl : h = r.toNat := ih7.uniq k4'
        rw [← k3']
        exact k _ s7
      · refine ⟨_, rfl, (by show 10 ≤ sizeLine; decide), fun l7 nl7 => ?_⟩
        have hD7 := same_new (o := .lst (hs.map V.int)) nl7 _ _ hD
        have hl7 : upd H6 l7 (.lst (hs.map V.int)) l7 = some (.lst (hs.map V.int)) := upd_same
        refine ⟨_, _, .lst (SqL.of hD7) (dpInts hs), .lst (SqL.of hl7) (dpInts hs), sh_ints hs, sh_ints hs, _, rfl, ?_⟩
        rw [eqv_hs]
        refine iteF ?_
        refine ⟨9, rfl, by decide, by decide, fun D2 nD2 => ?_⟩
        refine lc_pure (n := 9) walk_range ls rfl (by decide) (fun _ _ => trivial) (fun i v H8 H' r hi hr' bt _ y R Wk k => ?_) (fun H8 bt hD8 => ?_)
        · obtain ⟨rfl, rfl⟩ := y
          have kh := ls_bits ⟨i, hi⟩
          have er : ls.getD i 0 = r := by rw [List.getD_eq_getElem?_getD, hr']; rfl
          refine ⟨rfl, _, rfl, _, rfl, by omega, Int.le_trans (show (0 : Int) + (i : Nat) ≤ 9 by omega) (by decide), ?_⟩
          have kh : ((Builtin.Int.intBits (0 + (i : Int)) : Nat) : Int) = r := by
            simp only [er] at kh
            exact kh
          rw [kh]
          exact k _ (Same.refl _)
        · refine ⟨(by show 9 ≤ sizeLine; decide), fun l9 nl9 => ?_⟩
          have hD9 := same_new (o := .lst (ls.map V.int)) nl9 _ _ hD8
          have hl9 : upd H8 l9 (.lst (ls.map V.int)) l9 = some (.lst (ls.map V.int)) := upd_same
          refine ⟨_, _, .lst (SqL.of hD9) (dpInts ls), .lst (SqL.of hl9) (dpInts ls), sh_ints ls, sh_ints ls, ?_⟩
          show Q (.bl (PyData.eqv (.list (ls.map PyData.int)) (.list (ls.map PyData.int)))) _
          rw [eqv_ls]
          exact kk _
end
end Ev
namespace Ev
open PySem L2 PySem.Spec PyProof.Rows
theorem kit_cls' {K : PySem.W.Frag} {t : Value} {C : Addr} (h1 : PySem.W.isClsIn K C = true) (h2 : PySem.W.typeIn K (.ref C) = some (.type "type")) (h3 : PySem.W.subIn K t (.ref C) = some true) : PySem.W.kitCls K t (.ref C) = some true := by
  have h1 : (PySem.W.clsIn K C).isSome = true := h1
  unfold PySem.W.kitCls
  simp only [h1, h2, h3]
  decide
theorem kit_own {K : PySem.W.Frag} {t : Value} {C : Addr} (h1 : PySem.W.isClsIn K C = true) (h2 : PySem.W.typeIn K (.ref C) = some (.type "type")) (h3 : PySem.W.subIn K t (.ref C) = some true) : PySem.W.kitOne K t (.ref C) = some true := by
  unfold PySem.W.kitOne
  split
  · rfl
  · exact kit_cls' h1 h2 h3
theorem kb_gK {K : PySem.W.Frag} {x qual y : Str} {st : Stmt} {f : Addr} {fd : FuncData} (F : Fun K x qual st f fd)
    (h : ∀ (kV doc pm : Value) (an : Option Addr) (cdv ct a : Value), bindArgs (PySem.W.fnOf x qual (defArgs st) (defBody st) (defScope st) .none kV doc pm an cdv ct) ⟨[], [(y, a)]⟩ = pure [(y, a)]) : KBinds K fd [y] [y] gK gK := by
  obtain ⟨oc, od, kV, doc, pm, an, cdv, ct, osl, rfl, lk, hcd⟩ := F.ex
  refine ⟨fun s us ws _ hl => ?_, gK_rel⟩
  obtain ⟨a, rfl, rfl⟩ := gK_len hl
  exact .of_eq (h _ _ _ _ _ _ _)
theorem kb_gG {K : PySem.W.Frag} {x qual : Str} {st : Stmt} {f : Addr} {fd : FuncData} (F : Fun K x qual st f fd)
    (h : ∀ (kV doc pm : Value) (an : Option Addr) (cdv ct a b : Value), bindArgs (PySem.W.fnOf x qual (defArgs st) (defBody st) (defScope st) .none kV doc pm an cdv ct) ⟨[], (["keys", "rule"] : List Str).zip [a, b]⟩ = pure ((["rule", "keys"] : List Str).zip [b, a])) : KBinds K fd ["rule", "keys"] ["keys", "rule"] gG gG := by
  obtain ⟨oc, od, kV, doc, pm, an, cdv, ct, osl, rfl, lk, hcd⟩ := F.ex
  refine ⟨fun s us ws _ hl => ?_, gG_rel⟩
  obtain ⟨a, b, rfl, rfl⟩ := gG_len hl
  exact .of_eq (h _ _ _ _ _ _ _ _)
set_option maxHeartbeats 4000000 in
theorem all_mk {l : PySem.W.OpenLaw} {w : World} {K : PySem.W.Frag} {h : Heap} {mg : Str → Option Value} {f0 f1 f2 f3 f4 f5 f6 f7 f8 f9 f10 f11 f12 f13 f14 f15 f16 f17 f18 f19 f20 f21 f22 f23 f24 f25 f26 f27 Ct Cn CW T40 f40 T43 f43 fa : Addr} {od0 an0 od1 an1 od2 an2 od3 an3 od4 an4 od5 an5 od6 an6 od7 an7 od8 an8 od9 an9 od10 an10 od11 an11 od12 an12 od13 an13 od14 an14 od15 an15 od16 an16 od17 an17 od18 an18 od19 an19 od20 an20 od21 an21 od22 an22 od23 an23 od24 an24 od25 an25 od26 an26 od27 an27 td40 od40 an40 td43 od43 an43 : Option Addr} {sl0 sl1 sl2 sl3 sl4 sl5 sl6 sl7 sl8 sl9 sl10 sl11 sl12 sl13 sl14 sl15 sl16 sl17 sl18 sl19 sl20 sl21 sl22 sl23 sl24 sl25 sl26 sl27 ts40 sl40 ts43 sl43 : Array (Option Value)} {oc0 kV0 dc0 pm0 cd0 ct0 oc1 kV1 dc1 pm1 cd1 ct1 oc2 kV2 dc2 pm2 cd2 ct2 oc3 kV3 dc3 pm3 cd3 ct3 oc4 kV4 dc4 pm4 cd4 ct4 oc5 kV5 dc5 pm5 cd5 ct5 oc6 kV6 dc6 pm6 cd6 ct6 oc7 kV7 dc7 pm7 cd7 ct7 oc8 kV8 dc8 pm8 cd8 ct8 oc9 kV9 dc9 pm9 cd9 ct9 oc10 kV10 dc10 pm10 cd10 ct10 oc11 kV11 dc11 pm11 cd11 ct11 oc12 kV12 dc12 pm12 cd12 ct12 oc13 kV13 dc13 pm13 cd13 ct13 oc14 kV14 dc14 pm14 cd14 ct14 oc15 kV15 dc15 pm15 cd15 ct15 oc16 kV16 dc16 pm16 cd16 ct16 oc17 kV17 dc17 pm17 cd17 ct17 oc18 kV18 dc18 pm18 cd18 ct18 oc19 kV19 dc19 pm19 cd19 ct19 oc20 kV20 dc20 pm20 cd20 ct20 oc21 kV21 dc21 pm21 cd21 ct21 oc22 kV22 dc22 pm22 cd22 ct22 oc23 kV23 dc23 pm23 cd23 ct23 oc24 kV24 dc24 pm24 cd24 ct24 oc25 kV25 dc25 pm25 cd25 ct25 oc26 kV26 dc26 pm26 cd26 ct26 oc27 kV27 dc27 pm27 cd27 ct27 tc40 oc40 kV40 dc40 pm40 cd40 ct40 tc43 oc43 kV43 dc43 pm43 cd43 ct43 : Value} {tt40 tt43 tW tP tT tM : Tok} {tn40 tn43 : Nat} (X : K.In h) (G : h.Ns mainGlobals mg) (hfa : mg "law" = some (.ref fa))
    (a0 : PySem.W.nsIn K mainGlobals "is_integer" = some (some (.ref f0)))
    (l0 : K.lookup f0 = some ⟨oc0, od0, .func (PySem.W.fnOf "is_integer" "is_integer" (defArgs sIsInt) (defBody sIsInt) (defScope sIsInt) .none kV0 dc0 pm0 an0 cd0 ct0), sl0⟩)
    (c0 : PySem.W.codeIn K cd0 "is_integer" = true)
    (k0 : PySem.W.keepIn K (.ref f0) = true)
    (a1 : PySem.W.nsIn K mainGlobals "is_within" = some (some (.ref f1)))
    (l1 : K.lookup f1 = some ⟨oc1, od1, .func (PySem.W.fnOf "is_within" "is_within" (defArgs sWithin) (defBody sWithin) (defScope sWithin) .none kV1 dc1 pm1 an1 cd1 ct1), sl1⟩)
    (c1 : PySem.W.codeIn K cd1 "is_within" = true)
    (k1 : PySem.W.keepIn K (.ref f1) = true)
    (a2 : PySem.W.nsIn K mainGlobals "least_beside" = some (some (.ref f2)))
    (l2 : K.lookup f2 = some ⟨oc2, od2, .func (PySem.W.fnOf "least_beside" "least_beside" (defArgs sLeastB) (defBody sLeastB) (defScope sLeastB) .none kV2 dc2 pm2 an2 cd2 ct2), sl2⟩)
    (c2 : PySem.W.codeIn K cd2 "least_beside" = true)
    (k2 : PySem.W.keepIn K (.ref f2) = true)
    (a3 : PySem.W.nsIn K mainGlobals "need_rule" = some (some (.ref f3)))
    (l3 : K.lookup f3 = some ⟨oc3, od3, .func (PySem.W.fnOf "need_rule" "need_rule" (defArgs sNeedR) (defBody sNeedR) (defScope sNeedR) .none kV3 dc3 pm3 an3 cd3 ct3), sl3⟩)
    (c3 : PySem.W.codeIn K cd3 "need_rule" = true)
    (k3 : PySem.W.keepIn K (.ref f3) = true)
    (a4 : PySem.W.nsIn K mainGlobals "is_pair" = some (some (.ref f4)))
    (l4 : K.lookup f4 = some ⟨oc4, od4, .func (PySem.W.fnOf "is_pair" "is_pair" (defArgs sPair) (defBody sPair) (defScope sPair) .none kV4 dc4 pm4 an4 cd4 ct4), sl4⟩)
    (c4 : PySem.W.codeIn K cd4 "is_pair" = true)
    (k4 : PySem.W.keepIn K (.ref f4) = true)
    (a5 : PySem.W.nsIn K mainGlobals "is_times" = some (some (.ref f5)))
    (l5 : K.lookup f5 = some ⟨oc5, od5, .func (PySem.W.fnOf "is_times" "is_times" (defArgs sTimes) (defBody sTimes) (defScope sTimes) .none kV5 dc5 pm5 an5 cd5 ct5), sl5⟩)
    (c5 : PySem.W.codeIn K cd5 "is_times" = true)
    (k5 : PySem.W.keepIn K (.ref f5) = true)
    (a6 : PySem.W.nsIn K mainGlobals "is_plus" = some (some (.ref f6)))
    (l6 : K.lookup f6 = some ⟨oc6, od6, .func (PySem.W.fnOf "is_plus" "is_plus" (defArgs sPlus) (defBody sPlus) (defScope sPlus) .none kV6 dc6 pm6 an6 cd6 ct6), sl6⟩)
    (c6 : PySem.W.codeIn K cd6 "is_plus" = true)
    (k6 : PySem.W.keepIn K (.ref f6) = true)
    (a7 : PySem.W.nsIn K mainGlobals "is_turn" = some (some (.ref f7)))
    (l7 : K.lookup f7 = some ⟨oc7, od7, .func (PySem.W.fnOf "is_turn" "is_turn" (defArgs sTurn) (defBody sTurn) (defScope sTurn) .none kV7 dc7 pm7 an7 cd7 ct7), sl7⟩)
    (c7 : PySem.W.codeIn K cd7 "is_turn" = true)
    (k7 : PySem.W.keepIn K (.ref f7) = true)
    (a8 : PySem.W.nsIn K mainGlobals "need_times" = some (some (.ref f8)))
    (l8 : K.lookup f8 = some ⟨oc8, od8, .func (PySem.W.fnOf "need_times" "need_times" (defArgs sNeedT) (defBody sNeedT) (defScope sNeedT) .none kV8 dc8 pm8 an8 cd8 ct8), sl8⟩)
    (c8 : PySem.W.codeIn K cd8 "need_times" = true)
    (k8 : PySem.W.keepIn K (.ref f8) = true)
    (a9 : PySem.W.nsIn K mainGlobals "has_halves" = some (some (.ref f9)))
    (l9 : K.lookup f9 = some ⟨oc9, od9, .func (PySem.W.fnOf "has_halves" "has_halves" (defArgs sHalves) (defBody sHalves) (defScope sHalves) .none kV9 dc9 pm9 an9 cd9 ct9), sl9⟩)
    (c9 : PySem.W.codeIn K cd9 "has_halves" = true)
    (k9 : PySem.W.keepIn K (.ref f9) = true)
    (a10 : PySem.W.nsIn K mainGlobals "need_halves" = some (some (.ref f10)))
    (l10 : K.lookup f10 = some ⟨oc10, od10, .func (PySem.W.fnOf "need_halves" "need_halves" (defArgs sNeedH) (defBody sNeedH) (defScope sNeedH) .none kV10 dc10 pm10 an10 cd10 ct10), sl10⟩)
    (c10 : PySem.W.codeIn K cd10 "need_halves" = true)
    (k10 : PySem.W.keepIn K (.ref f10) = true)
    (a11 : PySem.W.nsIn K mainGlobals "greatest_height" = some (some (.ref f11)))
    (l11 : K.lookup f11 = some ⟨oc11, od11, .func (PySem.W.fnOf "greatest_height" "greatest_height" (defArgs sGH) (defBody sGH) (defScope sGH) .none kV11 dc11 pm11 an11 cd11 ct11), sl11⟩)
    (c11 : PySem.W.codeIn K cd11 "greatest_height" = true)
    (k11 : PySem.W.keepIn K (.ref f11) = true)
    (a12 : PySem.W.nsIn K mainGlobals "least_height" = some (some (.ref f12)))
    (l12 : K.lookup f12 = some ⟨oc12, od12, .func (PySem.W.fnOf "least_height" "least_height" (defArgs sLH) (defBody sLH) (defScope sLH) .none kV12 dc12 pm12 an12 cd12 ct12), sl12⟩)
    (c12 : PySem.W.codeIn K cd12 "least_height" = true)
    (k12 : PySem.W.keepIn K (.ref f12) = true)
    (a13 : PySem.W.nsIn K mainGlobals "need_number" = some (some (.ref f13)))
    (l13 : K.lookup f13 = some ⟨oc13, od13, .func (PySem.W.fnOf "need_number" "need_number" (defArgs sNeedN) (defBody sNeedN) (defScope sNeedN) .none kV13 dc13 pm13 an13 cd13 ct13), sl13⟩)
    (c13 : PySem.W.codeIn K cd13 "need_number" = true)
    (k13 : PySem.W.keepIn K (.ref f13) = true)
    (a14 : PySem.W.nsIn K mainGlobals "least_weights" = some (some (.ref f14)))
    (l14 : K.lookup f14 = some ⟨oc14, od14, .func (PySem.W.fnOf "least_weights" "least_weights" (defArgs sLW) (defBody sLW) (defScope sLW) .none kV14 dc14 pm14 an14 cd14 ct14), sl14⟩)
    (c14 : PySem.W.codeIn K cd14 "least_weights" = true)
    (k14 : PySem.W.keepIn K (.ref f14) = true)
    (a15 : PySem.W.nsIn K mainGlobals "_law_pen" = some (some (.ref f15)))
    (l15 : K.lookup f15 = some ⟨oc15, od15, .func (PySem.W.fnOf "_law_pen" "_law_pen" (defArgs sPen) (defBody sPen) (defScope sPen) .none kV15 dc15 pm15 an15 cd15 ct15), sl15⟩)
    (c15 : PySem.W.codeIn K cd15 "_law_pen" = true)
    (k15 : PySem.W.keepIn K (.ref f15) = true)
    (a16 : PySem.W.nsIn K mainGlobals "_law_draw" = some (some (.ref f16)))
    (l16 : K.lookup f16 = some ⟨oc16, od16, .func (PySem.W.fnOf "_law_draw" "_law_draw" (defArgs sDraw) (defBody sDraw) (defScope sDraw) .none kV16 dc16 pm16 an16 cd16 ct16), sl16⟩)
    (c16 : PySem.W.codeIn K cd16 "_law_draw" = true)
    (k16 : PySem.W.keepIn K (.ref f16) = true)
    (a17 : PySem.W.nsIn K mainGlobals "_law_pick" = some (some (.ref f17)))
    (l17 : K.lookup f17 = some ⟨oc17, od17, .func (PySem.W.fnOf "_law_pick" "_law_pick" (defArgs sPick) (defBody sPick) (defScope sPick) .none kV17 dc17 pm17 an17 cd17 ct17), sl17⟩)
    (c17 : PySem.W.codeIn K cd17 "_law_pick" = true)
    (k17 : PySem.W.keepIn K (.ref f17) = true)
    (a18 : PySem.W.nsIn K mainGlobals "_law_numbers" = some (some (.ref f18)))
    (l18 : K.lookup f18 = some ⟨oc18, od18, .func (PySem.W.fnOf "_law_numbers" "_law_numbers" (defArgs sNums) (defBody sNums) (defScope sNums) .none kV18 dc18 pm18 an18 cd18 ct18), sl18⟩)
    (c18 : PySem.W.codeIn K cd18 "_law_numbers" = true)
    (k18 : PySem.W.keepIn K (.ref f18) = true)
    (a19 : PySem.W.nsIn K mainGlobals "_law_rule" = some (some (.ref f19)))
    (l19 : K.lookup f19 = some ⟨oc19, od19, .func (PySem.W.fnOf "_law_rule" "_law_rule" (defArgs sRule) (defBody sRule) (defScope sRule) .none kV19 dc19 pm19 an19 cd19 ct19), sl19⟩)
    (c19 : PySem.W.codeIn K cd19 "_law_rule" = true)
    (k19 : PySem.W.keepIn K (.ref f19) = true)
    (a20 : PySem.W.nsIn K mainGlobals "_law_top" = some (some (.ref f20)))
    (l20 : K.lookup f20 = some ⟨oc20, od20, .func (PySem.W.fnOf "_law_top" "_law_top" (defArgs sTop) (defBody sTop) (defScope sTop) .none kV20 dc20 pm20 an20 cd20 ct20), sl20⟩)
    (c20 : PySem.W.codeIn K cd20 "_law_top" = true)
    (k20 : PySem.W.keepIn K (.ref f20) = true)
    (a21 : PySem.W.nsIn K mainGlobals "_law_least" = some (some (.ref f21)))
    (l21 : K.lookup f21 = some ⟨oc21, od21, .func (PySem.W.fnOf "_law_least" "_law_least" (defArgs sLeast) (defBody sLeast) (defScope sLeast) .none kV21 dc21 pm21 an21 cd21 ct21), sl21⟩)
    (c21 : PySem.W.codeIn K cd21 "_law_least" = true)
    (k21 : PySem.W.keepIn K (.ref f21) = true)
    (a22 : PySem.W.nsIn K mainGlobals "_law_high" = some (some (.ref f22)))
    (l22 : K.lookup f22 = some ⟨oc22, od22, .func (PySem.W.fnOf "_law_high" "_law_high" (defArgs sHigh) (defBody sHigh) (defScope sHigh) .none kV22 dc22 pm22 an22 cd22 ct22), sl22⟩)
    (c22 : PySem.W.codeIn K cd22 "_law_high" = true)
    (k22 : PySem.W.keepIn K (.ref f22) = true)
    (a23 : PySem.W.nsIn K mainGlobals "_law_low" = some (some (.ref f23)))
    (l23 : K.lookup f23 = some ⟨oc23, od23, .func (PySem.W.fnOf "_law_low" "_law_low" (defArgs sLow) (defBody sLow) (defScope sLow) .none kV23 dc23 pm23 an23 cd23 ct23), sl23⟩)
    (c23 : PySem.W.codeIn K cd23 "_law_low" = true)
    (k23 : PySem.W.keepIn K (.ref f23) = true)
    (a24 : PySem.W.nsIn K mainGlobals "_law_weights" = some (some (.ref f24)))
    (l24 : K.lookup f24 = some ⟨oc24, od24, .func (PySem.W.fnOf "_law_weights" "_law_weights" (defArgs sWeights) (defBody sWeights) (defScope sWeights) .none kV24 dc24 pm24 an24 cd24 ct24), sl24⟩)
    (c24 : PySem.W.codeIn K cd24 "_law_weights" = true)
    (k24 : PySem.W.keepIn K (.ref f24) = true)
    (a25 : PySem.W.nsIn K mainGlobals "_law_right" = some (some (.ref f25)))
    (l25 : K.lookup f25 = some ⟨oc25, od25, .func (PySem.W.fnOf "_law_right" "_law_right" (defArgs sRight) (defBody sRight) (defScope sRight) .none kV25 dc25 pm25 an25 cd25 ct25), sl25⟩)
    (c25 : PySem.W.codeIn K cd25 "_law_right" = true)
    (k25 : PySem.W.keepIn K (.ref f25) = true)
    (a26 : PySem.W.nsIn K mainGlobals "_law_far_right" = some (some (.ref f26)))
    (l26 : K.lookup f26 = some ⟨oc26, od26, .func (PySem.W.fnOf "_law_far_right" "_law_far_right" (defArgs sFar) (defBody sFar) (defScope sFar) .none kV26 dc26 pm26 an26 cd26 ct26), sl26⟩)
    (c26 : PySem.W.codeIn K cd26 "_law_far_right" = true)
    (k26 : PySem.W.keepIn K (.ref f26) = true)
    (a27 : PySem.W.nsIn K mainGlobals "law" = some (some (.ref f27)))
    (l27 : K.lookup f27 = some ⟨oc27, od27, .func (PySem.W.fnOf "law" "law" (defArgs sLaw) (defBody sLaw) (defScope sLaw) .none kV27 dc27 pm27 an27 cd27 ct27), sl27⟩)
    (c27 : PySem.W.codeIn K cd27 "law" = true)
    (k27 : PySem.W.keepIn K (.ref f27) = true)
    (aCt : PySem.W.nsIn K mainGlobals "TryRule" = some (some (.ref Ct)))
    (aCn : PySem.W.nsIn K mainGlobals "TurnRule" = some (some (.ref Cn)))
    (aCW : PySem.W.nsIn K mainGlobals "WeightRule" = some (some (.ref CW)))
    (pgCt : PySem.W.plainGet K Ct Str.empty = true)
    (hdCt : PySem.W.hasDictIn K Ct = true)
    (poCt : PySem.W.plainOver K Ct = true)
    (saCt : PySem.W.findIn K (.ref Ct) "__setattr__" = some (some (.builtin "object.__setattr__")))
    (mkCt : PySem.W.makesIn K Ct = true)
    (kcCt : PySem.W.keepIn K (.ref Ct) = true)
    (n0Ct : PySem.W.findIn K (.ref Ct) "times" = some none)
    (n1Ct : PySem.W.findIn K (.ref Ct) "plus" = some none)
    (n2Ct : PySem.W.findIn K (.ref Ct) "turn" = some none)
    (n3Ct : PySem.W.findIn K (.ref Ct) "turn_plus" = some none)
    (hcCt : PySem.W.findIn K (.ref Ct) "__class__" = some (some (.builtin "object.__class__")))
    (moCt : PySem.W.mroIn K Ct (.type "object") = some true)
    (suCt : PySem.W.subIn K (.ref Ct) (.ref CW) = some true)
    (pgCn : PySem.W.plainGet K Cn Str.empty = true)
    (hdCn : PySem.W.hasDictIn K Cn = true)
    (poCn : PySem.W.plainOver K Cn = true)
    (saCn : PySem.W.findIn K (.ref Cn) "__setattr__" = some (some (.builtin "object.__setattr__")))
    (mkCn : PySem.W.makesIn K Cn = true)
    (kcCn : PySem.W.keepIn K (.ref Cn) = true)
    (n0Cn : PySem.W.findIn K (.ref Cn) "times" = some none)
    (n1Cn : PySem.W.findIn K (.ref Cn) "plus" = some none)
    (n2Cn : PySem.W.findIn K (.ref Cn) "turn" = some none)
    (n3Cn : PySem.W.findIn K (.ref Cn) "turn_plus" = some none)
    (hcCn : PySem.W.findIn K (.ref Cn) "__class__" = some (some (.builtin "object.__class__")))
    (moCn : PySem.W.mroIn K Cn (.type "object") = some true)
    (suCn : PySem.W.subIn K (.ref Cn) (.ref CW) = some true)
    (icCW : PySem.W.isClsIn K CW = true)
    (ttCW : PySem.W.typeIn K (.ref CW) = some (.type "type"))
    (ikn : PySem.W.specialIn K (.builtin "object.__class__") "__get__" = some (some (.builtin "getset_descriptor.__get__")))
    (ikt : PySem.W.takesIn K (.builtin "object.__class__") = some true)
    (m40 : PySem.W.findIn K (.ref Ct) "__init__" = some (some (.ref f40)))
    (i40 : PySem.W.isFn K (.ref f40) = true)
    (l40 : K.lookup f40 = some ⟨oc40, od40, .func (PySem.W.fnOf "__init__" "TryRule.__init__" (defArgs sTryInit) (defBody sTryInit) (defScope sTryInit) (.ref T40) kV40 dc40 pm40 an40 cd40 ct40), sl40⟩)
    (c40 : PySem.W.codeIn K cd40 "TryRule.__init__" = true)
    (k40 : PySem.W.keepIn K (.ref f40) = true)
    (t40 : K.lookup T40 = some ⟨tc40, td40, .seq #[Value.int 0 tt40] tn40, ts40⟩)
    (m43 : PySem.W.findIn K (.ref Cn) "__init__" = some (some (.ref f43)))
    (i43 : PySem.W.isFn K (.ref f43) = true)
    (l43 : K.lookup f43 = some ⟨oc43, od43, .func (PySem.W.fnOf "__init__" "TurnRule.__init__" (defArgs sTurnInit) (defBody sTurnInit) (defScope sTurnInit) (.ref T43) kV43 dc43 pm43 an43 cd43 ct43), sl43⟩)
    (c43 : PySem.W.codeIn K cd43 "TurnRule.__init__" = true)
    (k43 : PySem.W.keepIn K (.ref f43) = true)
    (t43 : K.lookup T43 = some ⟨tc43, td43, .seq #[Value.int 0 tt43] tn43, ts43⟩)
    (rdW : PySem.W.readsIn K CW (.type "type") = true)
    (gaW : PySem.W.specialIn K (.ref CW) "__getattribute__" = some (some (.builtin "type.__getattribute__")))
    (cvW : PySem.W.findCls K (.ref CW) (.type "type") "MOST" = some (.val (.int 6 tW)))
    (hgP : PySem.W.nsIn K mainGlobals "MOST_PLUS" = some (some (.int 6 tP)))
    (hgT : PySem.W.nsIn K mainGlobals "MOST_TURN" = some (some (.int 8 tT)))
    (hgK : PySem.W.nsIn K mainGlobals "MOST_KEYS" = some (some (.int (10 ^ 30) tM)))
    (zint : PySem.W.nsIn K mainGlobals "int" = some none)
    (zlen : PySem.W.nsIn K mainGlobals "len" = some none)
    (zabs : PySem.W.nsIn K mainGlobals "abs" = some none)
    (zlist : PySem.W.nsIn K mainGlobals "list" = some none)
    (zmin : PySem.W.nsIn K mainGlobals "min" = some none)
    (zmax : PySem.W.nsIn K mainGlobals "max" = some none)
    (zisinstance : PySem.W.nsIn K mainGlobals "isinstance" = some none)
    (zbool : PySem.W.nsIn K mainGlobals "bool" = some none)
    (ztuple : PySem.W.nsIn K mainGlobals "tuple" = some none)
    (zall : PySem.W.nsIn K mainGlobals "all" = some none)
    (zrange : PySem.W.nsIn K mainGlobals "range" = some none)
    (zrepr : PySem.W.nsIn K mainGlobals "repr" = some none) :
    ∃ fd : FuncData, (∀ (s : Shared) (v : Value), BindsTo s fd ⟨[v], []⟩ [("_law_script", v)]) ∧ ∀ base : Heap, K.In base → base.Ns mainGlobals mg → FnG l.prog w K mg base 10 fa fd ["_law_script"] (spLaw K) := by
  have e := hfa.symm.trans (PySem.W.mg_of X G a27)
  cases e
  have F0 := fun_mk (st := sIsInt) l0 c0 k0
  have b0 := F0.binds (ps := ["value"]) fun _ _ _ _ _ _ us hl => match us, hl with | [_], _ => rfl
  have F1 := fun_mk (st := sWithin) l1 c1 k1
  have b1 := F1.binds (ps := ["value", "least", "most"]) fun _ _ _ _ _ _ us hl => match us, hl with | [_, _, _], _ => rfl
  have F2 := fun_mk (st := sLeastB) l2 c2 k2
  have b2 := F2.binds (ps := ["rule", "y"]) fun _ _ _ _ _ _ us hl => match us, hl with | [_, _], _ => rfl
  have F3 := fun_mk (st := sNeedR) l3 c3 k3
  have b3 := F3.binds (ps := ["value"]) fun _ _ _ _ _ _ us hl => match us, hl with | [_], _ => rfl
  have F4 := fun_mk (st := sPair) l4 c4 k4
  have b4 := F4.binds (ps := ["value", "most"]) fun _ _ _ _ _ _ us hl => match us, hl with | [_, _], _ => rfl
  have F5 := fun_mk (st := sTimes) l5 c5 k5
  have b5 := F5.binds (ps := ["value"]) fun _ _ _ _ _ _ us hl => match us, hl with | [_], _ => rfl
  have F6 := fun_mk (st := sPlus) l6 c6 k6
  have b6 := F6.binds (ps := ["value"]) fun _ _ _ _ _ _ us hl => match us, hl with | [_], _ => rfl
  have F7 := fun_mk (st := sTurn) l7 c7 k7
  have b7 := F7.binds (ps := ["value"]) fun _ _ _ _ _ _ us hl => match us, hl with | [_], _ => rfl
  have F8 := fun_mk (st := sNeedT) l8 c8 k8
  have b8 := F8.binds (ps := ["times", "plus"]) fun _ _ _ _ _ _ us hl => match us, hl with | [_, _], _ => rfl
  have F9 := fun_mk (st := sHalves) l9 c9 k9
  have b9 := F9.binds (ps := ["times", "plus"]) fun _ _ _ _ _ _ us hl => match us, hl with | [_, _], _ => rfl
  have F10 := fun_mk (st := sNeedH) l10 c10 k10
  have b10 := F10.binds (ps := ["times", "plus"]) fun _ _ _ _ _ _ us hl => match us, hl with | [_, _], _ => rfl
  have F11 := fun_mk (st := sGH) l11 c11 k11
  have b11 := F11.binds (ps := ["rule", "keys"]) fun _ _ _ _ _ _ us hl => match us, hl with | [_, _], _ => rfl
  have F12 := fun_mk (st := sLH) l12 c12 k12
  have b12 := F12.binds (ps := ["keys"]) fun _ _ _ _ _ _ us hl => match us, hl with | [_], _ => rfl
  have F13 := fun_mk (st := sNeedN) l13 c13 k13
  have b13 := F13.binds (ps := ["value", "most"]) fun _ _ _ _ _ _ us hl => match us, hl with | [_, _], _ => rfl
  have F14 := fun_mk (st := sLW) l14 c14 k14
  have b14 := F14.binds (ps := ["rule", "most"]) fun _ _ _ _ _ _ us hl => match us, hl with | [_, _], _ => rfl
  have F15 := fun_mk (st := sPen) l15 c15 k15
  have b15 := F15.binds (ps := ["_law_script"]) fun _ _ _ _ _ _ us hl => match us, hl with | [_], _ => rfl
  have F16 := fun_mk (st := sDraw) l16 c16 k16
  have b16 := F16.binds (ps := ["_law_pen_here", "_law_many"]) fun _ _ _ _ _ _ us hl => match us, hl with | [_, _], _ => rfl
  have F17 := fun_mk (st := sPick) l17 c17 k17
  have b17 := F17.binds (ps := ["_law_pen_here", "_law_some"]) fun _ _ _ _ _ _ us hl => match us, hl with | [_, _], _ => rfl
  have F18 := fun_mk (st := sNums) l18 c18 k18
  have b18 := F18.binds (ps := ["_law_pen_here"]) fun _ _ _ _ _ _ us hl => match us, hl with | [_], _ => rfl
  have F19 := fun_mk (st := sRule) l19 c19 k19
  have b19 := F19.binds (ps := ["_law_some", "_law_is_turn"]) fun _ _ _ _ _ _ us hl => match us, hl with | [_, _], _ => rfl
  have F20 := fun_mk (st := sTop) l20 c20 k20
  have b20 := F20.binds (ps := ["_law_some", "_law_x"]) fun _ _ _ _ _ _ us hl => match us, hl with | [_, _], _ => rfl
  have F21 := fun_mk (st := sLeast) l21 c21 k21
  have b21 := F21.binds (ps := ["_law_some", "_law_y"]) fun _ _ _ _ _ _ us hl => match us, hl with | [_, _], _ => rfl
  have F22 := fun_mk (st := sHigh) l22 c22 k22
  have b22 := F22.binds (ps := ["_law_some", "_law_weight"]) fun _ _ _ _ _ _ us hl => match us, hl with | [_, _], _ => rfl
  have F23 := fun_mk (st := sLow) l23 c23 k23
  have b23 := F23.binds (ps := ["_law_keys"]) fun _ _ _ _ _ _ us hl => match us, hl with | [_], _ => rfl
  have F24 := fun_mk (st := sWeights) l24 c24 k24
  have b24 := F24.binds (ps := ["_law_some", "_law_most"]) fun _ _ _ _ _ _ us hl => match us, hl with | [_, _], _ => rfl
  have F25 := fun_mk (st := sRight) l25 c25 k25
  have b25 := F25.binds (ps := ["_law_pen_here"]) fun _ _ _ _ _ _ us hl => match us, hl with | [_], _ => rfl
  have F26 := fun_mk (st := sFar) l26 c26 k26
  have b26 := F26.binds (ps := ["_law_pen_here"]) fun _ _ _ _ _ _ us hl => match us, hl with | [_], _ => rfl
  have F27 := fun_mk (st := sLaw) l27 c27 k27
  have b27 := F27.binds (ps := ["_law_script"]) fun _ _ _ _ _ _ us hl => match us, hl with | [_], _ => rfl
  have T : Blt mg := ⟨PySem.W.mg_none_of X G zint, PySem.W.mg_none_of X G zlen, PySem.W.mg_none_of X G zabs, PySem.W.mg_none_of X G zlist, PySem.W.mg_none_of X G zmin, PySem.W.mg_none_of X G zmax, PySem.W.mg_none_of X G zisinstance, PySem.W.mg_none_of X G zbool, PySem.W.mg_none_of X G ztuple, PySem.W.mg_none_of X G zall, PySem.W.mg_none_of X G zrange, PySem.W.mg_none_of X G zrepr⟩
  have RT : RCls K Ct := ⟨⟨pgCt, hdCt, poCt, saCt⟩, n0Ct, n1Ct, n2Ct, n3Ct⟩
  have RN : RCls K Cn := ⟨⟨pgCn, hdCn, poCn, saCn⟩, n0Cn, n1Cn, n2Cn, n3Cn⟩
  have ik : InsK K := ⟨ikn, ikt⟩
  have KT : RK K Ct CW := ⟨RT, hcCt, moCt, kit_own icCW ttCW suCt⟩
  have KN : RK K Cn CW := ⟨RN, hcCn, moCn, kit_own icCW ttCW suCn⟩
  have D40 : FunD K "__init__" "TryRule.__init__" (defArgs sTryInit) (defBody sTryInit) (defScope sTryInit) [.int 0] [] f40 _ := ⟨⟨_, _, _, _, _, _, _, _, _, _, rfl, l40, c40, .inr ⟨by simp, T40, _, [Value.int 0 tt40], tn40, rfl, t40, rfl, .cons ⟨_, rfl⟩ .nil⟩, .inl rfl⟩, k40⟩
  have D43 : FunD K "__init__" "TurnRule.__init__" (defArgs sTurnInit) (defBody sTurnInit) (defScope sTurnInit) [.int 0] [] f43 _ := ⟨⟨_, _, _, _, _, _, _, _, _, _, rfl, l43, c43, .inr ⟨by simp, T43, _, [Value.int 0 tt43], tn43, rfl, t43, rfl, .cons ⟨_, rfl⟩ .nil⟩, .inl rfl⟩, k43⟩
  obtain ⟨ds40, v40, b40⟩ := FunD.binds1 (ps := ["self", "times", "plus"]) D40 3 1 (by simp) rfl (fun _ _ _ _ _ _ _ us its h1 h2 => match us, its, h1, h2 with | [_, _, _], [_], _, _ => ⟨_, rfl, rfl⟩)
  cases v40
  obtain ⟨ds41, v41, b41⟩ := FunD.binds1 (ps := ["self", "times", "plus"]) D40 2 0 (by simp) rfl (fun _ _ _ _ _ _ _ us its h1 h2 => match us, its, h1, h2 with | [_, _], [_], _, _ => ⟨_, rfl, rfl⟩)
  obtain ⟨its43, b43⟩ := FunD.kbindsD (ps := ["self", "times", "plus", "turn", "turn_plus"]) D43 3 ["turn", "turn_plus"] (fun us _ ws => us ++ ws) (by simp) (fun r1 _ r2 => r1.append r2)
    (fun _ _ _ _ _ _ _ us its ws h1 h2 h3 => match us, its, ws, h1, h2, h3 with | [_, _, _], [_], [_, _], _, _, _ => ⟨_, rfl, rfl⟩)
  have kbG := kb_gG F11 (fun _ _ _ _ _ _ _ _ => rfl)
  have kbL := kb_gK (y := "keys") F12 (fun _ _ _ _ _ _ _ => rfl)
  refine ⟨PySem.W.fnOf "law" "law" (defArgs sLaw) (defBody sLaw) (defScope sLaw) .none kV27 dc27 pm27 an27 cd27 ct27, fun s v => .of_eq rfl, fun base _ _ => ?_⟩
  have d0 : Df l.prog w K mg base 1 "is_integer" ["value"] _ := ⟨f0, _, ok_isInt F0 T, PySem.W.mg_of X G a0, F0.kp, b0⟩
  obtain ⟨_, _, GI, gI, kI, bI⟩ := d0.ex
  have d1 : Df l.prog w K mg base 2 "is_within" ["value", "least", "most"] _ := ⟨f1, _, ok_within F1 T GI gI kI bI, PySem.W.mg_of X G a1, F1.kp, b1⟩
  have d2 : Df l.prog w K mg base 1 "least_beside" ["rule", "y"] _ := ⟨f2, _, ok_leastB F2 T, PySem.W.mg_of X G a2, F2.kp, b2⟩
  have d3 : Df l.prog w K mg base 1 "need_rule" ["value"] _ := ⟨f3, _, ok_needR F3 T (PySem.W.mg_of X G aCW) KT KN ik, PySem.W.mg_of X G a3, F3.kp, b3⟩
  have d4 : Df l.prog w K mg base 3 "is_pair" ["value", "most"] _ := ⟨f4, _, ok_pair F4 T d1, PySem.W.mg_of X G a4, F4.kp, b4⟩
  have d5 : Df l.prog w K mg base 4 "is_times" ["value"] _ := ⟨f5, _, ok_times F5 d4 (PySem.W.mg_of X G aCW) ⟨rdW, gaW⟩ ⟨cvW, ⟨_, rfl⟩⟩, PySem.W.mg_of X G a5, F5.kp, b5⟩
  have d6 : Df l.prog w K mg base 3 "is_plus" ["value"] _ := ⟨f6, _, ok_plus F6 d1 (PySem.W.mg_of X G hgP), PySem.W.mg_of X G a6, F6.kp, b6⟩
  have d7 : Df l.prog w K mg base 4 "is_turn" ["value"] _ := ⟨f7, _, ok_turn F7 d4 (PySem.W.mg_of X G hgT), PySem.W.mg_of X G a7, F7.kp, b7⟩
  have d8 : Df l.prog w K mg base 5 "need_times" ["times", "plus"] _ := ⟨f8, _, ok_needT F8 d5 d6, PySem.W.mg_of X G a8, F8.kp, b8⟩
  have d9 : Df l.prog w K mg base 1 "has_halves" ["times", "plus"] _ := ⟨f9, _, ok_halves F9, PySem.W.mg_of X G a9, F9.kp, b9⟩
  have d10 : Df l.prog w K mg base 2 "need_halves" ["times", "plus"] _ := ⟨f10, _, ok_needH F10 d9, PySem.W.mg_of X G a10, F10.kp, b10⟩
  have d13 : Df l.prog w K mg base 3 "need_number" ["value", "most"] _ := ⟨f13, _, ok_needN F13 d1, PySem.W.mg_of X G a13, F13.kp, b13⟩
  have d14 : Df l.prog w K mg base 2 "least_weights" ["rule", "most"] _ := ⟨f14, _, ok_lw F14 d2 RT RN, PySem.W.mg_of X G a14, F14.kp, b14⟩
  have d11 : DfK l.prog w K mg base 4 "greatest_height" ["rule", "keys"] ["keys", "rule"] gG gG (spGH Ct Cn) := ⟨f11, _, ok_gh F11 T d3 d13 d14 (PySem.W.mg_of X G hgK), PySem.W.mg_of X G a11, F11.kp, b11, kbG⟩
  have d12 : DfK l.prog w K mg base 4 "least_height" ["keys"] ["keys"] gK gK spLH := ⟨f12, _, ok_lh F12 d13 (PySem.W.mg_of X G hgK), PySem.W.mg_of X G a12, F12.kp, b12, kbL⟩
  have d15 : Df l.prog w K mg base 1 "_law_pen" ["_law_script"] _ := ⟨f15, _, ok_pen F15 T, PySem.W.mg_of X G a15, F15.kp, b15⟩
  have d16 : Df l.prog w K mg base 1 "_law_draw" ["_law_pen_here", "_law_many"] _ := ⟨f16, _, ok_draw F16 T, PySem.W.mg_of X G a16, F16.kp, b16⟩
  have d17 : Df l.prog w K mg base 2 "_law_pick" ["_law_pen_here", "_law_some"] _ := ⟨f17, _, ok_pick F17 T d16, PySem.W.mg_of X G a17, F17.kp, b17⟩
  have d18 : Df l.prog w K mg base 3 "_law_numbers" ["_law_pen_here"] _ := ⟨f18, _, ok_nums F18 T d16 d17, PySem.W.mg_of X G a18, F18.kp, b18⟩
  have GT0 := ok_tryInit (P := l.prog) (w := w) (mg := mg) (base := base) D40 RT d8 d10
  have GN0 := ok_turnInit (P := l.prog) (w := w) (mg := mg) (base := base) D43 RN d8 d10 d7 d6
  have MTT : Mk K Ct f40 := ⟨mkCt, m40, i40, kcCt⟩
  have d19 : Df l.prog w K mg base 8 "_law_rule" ["_law_some", "_law_is_turn"] _ := ⟨f19, _, ok_rule F19 T (PySem.W.mg_of X G aCt) (PySem.W.mg_of X G aCn) MTT ⟨mkCn, m43, i43, kcCn⟩ GT0 b40 GN0 b43, PySem.W.mg_of X G a19, F19.kp, b19⟩
  have d20 : Df l.prog w K mg base 1 "_law_top" ["_law_some", "_law_x"] _ := ⟨f20, _, ok_top F20, PySem.W.mg_of X G a20, F20.kp, b20⟩
  have d21 : Df l.prog w K mg base 2 "_law_least" ["_law_some", "_law_y"] _ := ⟨f21, _, ok_least F21 d20, PySem.W.mg_of X G a21, F21.kp, b21⟩
  have d22 : Df l.prog w K mg base 3 "_law_high" ["_law_some", "_law_weight"] _ := ⟨f22, _, ok_high F22 d21, PySem.W.mg_of X G a22, F22.kp, b22⟩
  have d23 : Df l.prog w K mg base 1 "_law_low" ["_law_keys"] _ := ⟨f23, _, ok_low F23, PySem.W.mg_of X G a23, F23.kp, b23⟩
  have d24 : Df l.prog w K mg base 3 "_law_weights" ["_law_some", "_law_most"] _ := ⟨f24, _, ok_weights F24 d21, PySem.W.mg_of X G a24, F24.kp, b24⟩
  have d26 : Df l.prog w K mg base 9 "_law_far_right" ["_law_pen_here"] _ := ⟨f26, _, ok_far F26 T d16 d17 d18 d19 d11 d12 d22 d23, PySem.W.mg_of X G a26, F26.kp, b26⟩
  have GR := ok_right (P := l.prog) (w := w) (mg := mg) (base := base) F25 T d16 d17 d18 d19 d24 d11 d12 d22 d23
  exact ok_law F27 T (PySem.W.mg_of X G aCt) MTT GT0 b41 v41 d15 GR (PySem.W.mg_of X G a25) F25.kp b25 d26 d11 d12
end Ev
open PySem PySem.W PyProof.Rows
set_option maxRecDepth 100000 in
set_option maxHeartbeats 0 in
theorem PySem.Challenge.cw_evenrules_k28_whole_greatest_and_least_h_holds : PySem.Challenge.rw_evenrules_k28_whole_greatest_and_least_h.Holds := by
  exact hd (by
    k_fill
    refine Ev.walk_ofG (l := PySem.Challenge.rw_evenrules_k28_whole_greatest_and_least_h) (n := 63) (k := 10) (x := "_law_script") (sp := fun w => Ev.spLaw _) rfl (by decide) rfl ⟨rfl, by decide, by decide⟩ (fun w h Y => PySem.W.kIn_of Y) ?F (fun _ _ a ns hl hS => ⟨a, ns, rfl, hS, hl, fun _ => rfl⟩)
    case F =>
      intro w mg fa h KX G hmg
      refine' Ev.all_mk KX G hmg ?a0 ?l0 ?c0 ?k0 ?a1 ?l1 ?c1 ?k1 ?a2 ?l2 ?c2 ?k2 ?a3 ?l3 ?c3 ?k3 ?a4 ?l4 ?c4 ?k4 ?a5 ?l5 ?c5 ?k5 ?a6 ?l6 ?c6 ?k6 ?a7 ?l7 ?c7 ?k7 ?a8 ?l8 ?c8 ?k8 ?a9 ?l9 ?c9 ?k9 ?a10 ?l10 ?c10 ?k10 ?a11 ?l11 ?c11 ?k11 ?a12 ?l12 ?c12 ?k12 ?a13 ?l13 ?c13 ?k13 ?a14 ?l14 ?c14 ?k14 ?a15 ?l15 ?c15 ?k15 ?a16 ?l16 ?c16 ?k16 ?a17 ?l17 ?c17 ?k17 ?a18 ?l18 ?c18 ?k18 ?a19 ?l19 ?c19 ?k19 ?a20 ?l20 ?c20 ?k20 ?a21 ?l21 ?c21 ?k21 ?a22 ?l22 ?c22 ?k22 ?a23 ?l23 ?c23 ?k23 ?a24 ?l24 ?c24 ?k24 ?a25 ?l25 ?c25 ?k25 ?a26 ?l26 ?c26 ?k26 ?a27 ?l27 ?c27 ?k27 ?aCt ?aCn ?aCW ?pgCt ?hdCt ?poCt ?saCt ?mkCt ?kcCt ?n0Ct ?n1Ct ?n2Ct ?n3Ct ?hcCt ?moCt ?suCt ?pgCn ?hdCn ?poCn ?saCn ?mkCn ?kcCn ?n0Cn ?n1Cn ?n2Cn ?n3Cn ?hcCn ?moCn ?suCn ?icCW ?ttCW ?ikn ?ikt ?m40 ?i40 ?l40 ?c40 ?k40 ?t40 ?m43 ?i43 ?l43 ?c43 ?k43 ?t43 ?rdW ?gaW ?cvW ?hgP ?hgT ?hgK ?zint ?zlen ?zabs ?zlist ?zmin ?zmax ?zisinstance ?zbool ?ztuple ?zall ?zrange ?zrepr
      (case a0 => k_is)
      (case l0 => k_is)
      (case c0 => k_is)
      (case k0 => k_is)
      (case a1 => k_is)
      (case l1 => k_is)
      (case c1 => k_is)
      (case k1 => k_is)
      (case a2 => k_is)
      (case l2 => k_is)
      (case c2 => k_is)
      (case k2 => k_is)
      (case a3 => k_is)
      (case l3 => k_is)
      (case c3 => k_is)
      (case k3 => k_is)
      (case a4 => k_is)
      (case l4 => k_is)
      (case c4 => k_is)
      (case k4 => k_is)
      (case a5 => k_is)
      (case l5 => k_is)
      (case c5 => k_is)
      (case k5 => k_is)
      (case a6 => k_is)
      (case l6 => k_is)
      (case c6 => k_is)
      (case k6 => k_is)
      (case a7 => k_is)
      (case l7 => k_is)
      (case c7 => k_is)
      (case k7 => k_is)
      (case a8 => k_is)
      (case l8 => k_is)
      (case c8 => k_is)
      (case k8 => k_is)
      (case a9 => k_is)
      (case l9 => k_is)
      (case c9 => k_is)
      (case k9 => k_is)
      (case a10 => k_is)
      (case l10 => k_is)
      (case c10 => k_is)
      (case k10 => k_is)
      (case a11 => k_is)
      (case l11 => k_is)
      (case c11 => k_is)
      (case k11 => k_is)
      (case a12 => k_is)
      (case l12 => k_is)
      (case c12 => k_is)
      (case k12 => k_is)
      (case a13 => k_is)
      (case l13 => k_is)
      (case c13 => k_is)
      (case k13 => k_is)
      (case a14 => k_is)
      (case l14 => k_is)
      (case c14 => k_is)
      (case k14 => k_is)
      (case a15 => k_is)
      (case l15 => k_is)
      (case c15 => k_is)
      (case k15 => k_is)
      (case a16 => k_is)
      (case l16 => k_is)
      (case c16 => k_is)
      (case k16 => k_is)
      (case a17 => k_is)
      (case l17 => k_is)
      (case c17 => k_is)
      (case k17 => k_is)
      (case a18 => k_is)
      (case l18 => k_is)
      (case c18 => k_is)
      (case k18 => k_is)
      (case a19 => k_is)
      (case l19 => k_is)
      (case c19 => k_is)
      (case k19 => k_is)
      (case a20 => k_is)
      (case l20 => k_is)
      (case c20 => k_is)
      (case k20 => k_is)
      (case a21 => k_is)
      (case l21 => k_is)
      (case c21 => k_is)
      (case k21 => k_is)
      (case a22 => k_is)
      (case l22 => k_is)
      (case c22 => k_is)
      (case k22 => k_is)
      (case a23 => k_is)
      (case l23 => k_is)
      (case c23 => k_is)
      (case k23 => k_is)
      (case a24 => k_is)
      (case l24 => k_is)
      (case c24 => k_is)
      (case k24 => k_is)
      (case a25 => k_is)
      (case l25 => k_is)
      (case c25 => k_is)
      (case k25 => k_is)
      (case a26 => k_is)
      (case l26 => k_is)
      (case c26 => k_is)
      (case k26 => k_is)
      (case a27 => k_is)
      (case l27 => k_is)
      (case c27 => k_is)
      (case k27 => k_is)
      (case aCt => k_is)
      (case aCn => k_is)
      (case aCW => k_is)
      (case pgCt => k_is)
      (case hdCt => k_is)
      (case poCt => k_is)
      (case saCt => k_is)
      (case mkCt => k_is)
      (case kcCt => k_is)
      (case n0Ct => k_is)
      (case n1Ct => k_is)
      (case n2Ct => k_is)
      (case n3Ct => k_is)
      (case hcCt => k_is)
      (case moCt => k_is)
      (case suCt => k_is)
      (case pgCn => k_is)
      (case hdCn => k_is)
      (case poCn => k_is)
      (case saCn => k_is)
      (case mkCn => k_is)
      (case kcCn => k_is)
      (case n0Cn => k_is)
      (case n1Cn => k_is)
      (case n2Cn => k_is)
      (case n3Cn => k_is)
      (case hcCn => k_is)
      (case moCn => k_is)
      (case suCn => k_is)
      (case icCW => k_is)
      (case ttCW => k_is)
      (case ikn => k_is)
      (case ikt => k_is)
      (case m40 => k_is)
      (case i40 => k_is)
      (case l40 => k_is)
      (case c40 => k_is)
      (case k40 => k_is)
      (case t40 => k_is)
      (case m43 => k_is)
      (case i43 => k_is)
      (case l43 => k_is)
      (case c43 => k_is)
      (case k43 => k_is)
      (case t43 => k_is)
      (case rdW => k_is)
      (case gaW => k_is)
      (case cvW => k_is)
      (case hgP => k_is)
      (case hgT => k_is)
      (case hgK => k_is)
      (case zint => k_is)
      (case zlen => k_is)
      (case zabs => k_is)
      (case zlist => k_is)
      (case zmin => k_is)
      (case zmax => k_is)
      (case zisinstance => k_is)
      (case zbool => k_is)
      (case ztuple => k_is)
      (case zall => k_is)
      (case zrange => k_is)
      (case zrepr => k_is))
