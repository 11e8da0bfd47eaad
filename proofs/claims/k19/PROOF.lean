import PyProof.Rows.All
import Wide.All
import OpenK.AllK
import Wide.FinOn
import HandS.ForMost
import HandS.Codes
import HandS.IsInst
import HandS.Defaults
import HandS.MakeKw
import HandS.MakeKwOnly
import HandS.ClsMeth
import HandS.TupAny
import HandS.Style
import HandS.Iter
import HandS.ExcInit
import HandS.Conv
import HandS.ForExc
import HandS.Star
import HandS.Text
import PySem.Challenge.RW_evenrules_k19_whole_halves_and_greatest
open PySem PySem.W PyProof.Rows
set_option Elab.async false
set_option linter.all false
set_option maxRecDepth 100000 in
set_option maxHeartbeats 0 in
open_top hd for PySem.Challenge.rw_evenrules_k19_whole_halves_and_greatest
set_option maxRecDepth 100000
set_option maxHeartbeats 4000000
namespace Ev
open PySem L2
def top (i : Nat) : Stmt := PySem.Challenge.pw_evenrules_k19_whole_halves_and_greatest.main.body.getD i (.Pass ⟨0, 0, 0, 0⟩)
abbrev sDraw : Stmt := top 47
/-- all that was tracked is as it was, but at p -/
def But (p : Addr) (H H' : Hp) : Prop := ∀ b o, b ≠ p → H b = some o → H' b = some o
theorem But.refl (p : Addr) (H : Hp) : But p H H := fun _ _ _ e => e
theorem But.trans {p : Addr} {H H1 H2 : Hp} (a : But p H H1) (b : But p H1 H2) : But p H H2 := fun c o n e => b c o n (a c o n e)
theorem Same.but {p : Addr} {H H' : Hp} (a : Same H H') : But p H H' := fun c o _ e => a c o e
theorem But.upd_new {p q : Addr} {H : Hp} {o : HO} (h : H q = none) : But p H (upd H q o) := fun b u _ e => by
  rw [upd_ne (ne_of_none e h)]; exact e
theorem But.upd_at {p : Addr} {H : Hp} {o : HO} : But p H (upd H p o) := fun b u n e => by
  rw [upd_ne n]; exact e
/-- the pen: a list of a list of ints, how often it was asked, and a rest -/
def Pen (L : Addr) (H : Hp) (p : Addr) (B : Int) : Prop := ∃ (ns : List Int) (turn carry : Int),
  H p = some (.lst [.ref L, .int turn, .int carry]) ∧ H L = some (.lst (ns.map V.int)) ∧ L ≠ p ∧ ns.length ≤ 63 ∧ 0 ≤ turn ∧ turn ≤ B ∧ 0 ≤ carry
theorem Pen.keep {L : Addr} {H H' : Hp} {p : Addr} {B : Int} (h : Pen L H p B) (k : Same H H') : Pen L H' p B := by
  obtain ⟨ns, t, c, h1, h2, h3, h4, h5, h6, h7⟩ := h
  exact ⟨ns, t, c, k _ _ h1, k _ _ h2, h3, h4, h5, h6, h7⟩
theorem Pen.mono {L : Addr} {H : Hp} {p : Addr} {B B' : Int} (h : Pen L H p B) (k : B ≤ B') : Pen L H p B' := by
  obtain ⟨ns, t, c, h1, h2, h3, h4, h5, h6, h7⟩ := h
  exact ⟨ns, t, c, h1, h2, h3, h4, h5, by omega, h7⟩
def spDraw : Sp := fun vs H Q _ => ∃ (p L : Addr) (m B : Int), vs = [.ref p, .int m] ∧ 1 ≤ m ∧ m < 1073741824 ∧ B ≤ 1000000 ∧ Pen L H p B ∧
  ∀ (d : Int) (H' : Hp), But p H H' → Pen L H' p (B + 1) → 0 ≤ d → d < m → Q (.int d) H'
theorem dpInts {K : PySem.W.Frag} {H : Hp} : ∀ ns : List Int, DpAll K H (ns.map V.int) (ns.map PyData.int)
  | [] => .nil
  | n :: r => .cons (.int n) (dpInts r)
theorem sh_ints (ns : List Int) : SeqAt.shaped (.list (ns.map PyData.int)) = true := by
  have h1 : ∀ ns : List Int, PyData.canLayAll0 (ns.map PyData.int) = true := by
    intro ns
    induction ns with
    | nil => rfl
    | cons n r ih => simp [PyData.canLayAll0, PyData.canLay0, ih]
  have h2 : ∀ ns : List Int, PyData.depthAll (ns.map PyData.int) ≤ 1 := by
    intro ns
    induction ns with
    | nil => simp [PyData.depthAll]
    | cons n r ih => simp [PyData.depthAll, PyData.depth]; omega
  unfold SeqAt.shaped
  rw [Bool.and_eq_true]
  refine ⟨by simp [PyData.canLay0, h1], decide_eq_true ?_⟩
  have := h2 ns
  simp [PyData.depth]; omega
theorem eqv_nil (ns : List Int) : PyData.eqv (.list (ns.map PyData.int)) (.list []) = ns.isEmpty := by
  cases ns <;> simp [PyData.eqv, PyData.eqvAll]
section
variable {P : Program} {w : World} {K : PySem.W.Frag} {mg : Str → Option Value} {base : Heap}
/-- built-ins that the program does not cover -/
structure Blt (mg : Str → Option Value) : Prop where
  int : mg "int" = none
  len : mg "len" = none
  abs : mg "abs" = none
  list : mg "list" = none
  min : mg "min" = none
  max : mg "max" = none
  isi : mg "isinstance" = none
  bool : mg "bool" = none
  tuple : mg "tuple" = none
  all : mg "all" = none
  range : mg "range" = none
  repr : mg "repr" = none
theorem scD : FnScope ["_law_pen_here", "_law_many", "_law_digit", "_law_at", "_law_cell", "_law_great", "_law_mixed"] ["_law_pen_here", "_law_many"] (defScope sDraw) := ⟨rfl, rfl, rfl, by decide +kernel, rfl, by decide +kernel, by decide +kernel⟩
theorem fmod_lo (a : Int) {m : Int} (h : 1 ≤ m) : 0 ≤ a.fmod m := by rw [Int.fmod_eq_emod_of_nonneg a (by omega)]; exact Int.emod_nonneg a (by omega)
theorem fmod_hi (a : Int) {m : Int} (h : 1 ≤ m) : a.fmod m < m := by rw [Int.fmod_eq_emod_of_nonneg a (by omega)]; exact Int.emod_lt_of_pos a (by omega)
theorem fdiv_lo {a m : Int} (h : 1 ≤ m) (h0 : 0 ≤ a) : 0 ≤ a.fdiv m := by rw [Int.fdiv_eq_ediv_of_nonneg a (by omega)]; exact Int.ediv_nonneg h0 (by omega)
theorem cell_at {ns : List Int} (h : ns ≠ []) (t : Int) : ∃ c : Int, atI (ns.map V.int) (t.fmod (((ns.map V.int).length : Nat) : Int)) = some (V.int c) := by
  rw [List.length_map]
  have l : 0 < ns.length := List.length_pos_iff.mpr h
  have h1 : 0 ≤ t.fmod (ns.length : Int) := fmod_lo t (by omega)
  have h2 : t.fmod (ns.length : Int) < ns.length := fmod_hi t (by omega)
  generalize t.fmod (ns.length : Int) = i at h1 h2
  obtain ⟨j, rfl⟩ := Int.eq_ofNat_of_zero_le h1
  have hj : j < ns.length := by omega
  exact ⟨ns[j], atI_nat (by rw [List.getElem?_map, List.getElem?_eq_getElem hj]; rfl)⟩
theorem mul_le_of {a b A B : Int} (a0 : 0 ≤ a) (b0 : 0 ≤ b) (ha : a ≤ A) (hb : b ≤ B) : 0 ≤ a * b ∧ a * b ≤ A * B :=
  ⟨Int.mul_nonneg a0 b0, Int.mul_le_mul ha hb b0 (by omega)⟩
theorem bound1 (c : Int) {M C D t : Int} (hM : 1 ≤ M) (hM2 : M ≤ 4294967296) (hC : 0 ≤ C ∧ C ≤ 1000000) (hD : 0 ≤ D ∧ D ≤ 1000000) (h0 : 0 ≤ t) (h1 : t ≤ 1000000) : (c.fmod M + C * t + D).natAbs < 2 ^ 64 := by
  have a1 := fmod_lo c hM
  have a2 := fmod_hi c hM
  have ⟨a3, a4⟩ := mul_le_of hC.1 h0 hC.2 h1
  omega
theorem bound2 {x C5 C6 C7 t : Int} (hx : 0 ≤ x ∧ x < 4294967296) (h5 : 0 ≤ C5 ∧ C5 ≤ 1000000) (h6 : 0 ≤ C6 ∧ C6 ≤ 1000000) (h7 : 0 ≤ C7 ∧ C7 ≤ 1000000) (h0 : 0 ≤ t) (h1 : t ≤ 1000000) :
    (x * (2 * t + C5) + C6 * t * t + C7).natAbs < 2 ^ 64 := by
  have ⟨a1, a2⟩ := mul_le_of (b := 2 * t + C5) (A := 4294967296) (B := 3000000) hx.1 (by omega) (by omega) (by omega)
  have ⟨a3, a4⟩ := mul_le_of h6.1 h0 h6.2 h1
  have ⟨a5, a6⟩ := mul_le_of a3 h0 a4 h1
  omega
theorem great_nn {c e : Int} (h : e ≤ (if c < 0 then -c else c)) (b : Bool) : 0 ≤ 2 * ((if c < 0 then -c else c) - e) + (if b = true then 1 else 0) := by
  cases b
  · rw [if_neg Bool.false_ne_true]; omega
  · rw [if_pos rfl]; omega
theorem lt64 {x : Int} (h : 0 ≤ x ∧ x < 4294967296) : -(2 ^ 64) < x ∧ x < 2 ^ 64 := ⟨by omega, by omega⟩
theorem nz {M : Int} (h : 0 < M) : M ≠ 0 := by omega
theorem ok_draw {f : Addr} {fd : FuncData} (F : Fun K "_law_draw" "_law_draw" sDraw f fd) (T : Blt mg) : FnOk P w K mg base CX0 1 f fd ["_law_pen_here", "_law_many"] spDraw := by
  refine F.ok scD (fun vs H Q E h => ?_) (fun cdv A outer s H vs Q E hr h => ?_)
  · obtain ⟨p, L, m, B, rfl, _⟩ := h
    rfl
  · obtain ⟨p, L, m, B, rfl, hm, hm2, hB, ⟨ns, tn, ca, hp, hL, Lp, hlen, t0, tB, c0⟩, k⟩ := h
    have hu := hu_of hr
    refine ⟨_, pss_cons (ps_if (pt_cmpR op_gt (pe_ix ix_list (pv 0) pe_int (fun _ _ => rfl)) pe_int (nomark _))
        (pss_cons (ps_set (i := 2) scD.nd rfl (.inl rfl) (pe_op op_modN (pe_callTy call_int1 (by rfl) T.int (by decide +kernel) (pa_cons (pe_ix ix_list (pv 0) pe_int (fun _ _ => rfl)) pa_nil)) (pv 1)))
        (pss_cons (ps_asg (pe_op op_fdivN (pe_callTy call_int1 (by rfl) T.int (by decide +kernel) (pa_cons (pe_ix ix_list (pv 0) pe_int (fun _ _ => rfl)) pa_nil)) (pv 1)) (pg_sub (pv 0) pe_int set_list))
        (pss_one (ps_ret (pv 2))))) pss_nil)
      (pss_cons (ps_set (i := 3) scD.nd rfl (.inl rfl) (pe_ix ix_list (pv 0) pe_int (fun _ _ => rfl)))
      (pss_cons (ps_asg (pe_op op_add (pv 3) pe_int) (pg_sub (pv 0) pe_int set_list))
      (pss_cons (ps_set (i := 4) scD.nd rfl (.inl rfl) (pe_op op_add (pe_op op_mul pe_int (pv 3)) pe_int))
      (pss_cons (ps_if (pt_cmpR (op_neD hr.units) (pe_ix ix_list (pv 0) pe_int (fun _ _ => rfl)) (pe_lst pa_nil) (nomark _))
        (pss_one (ps_set (i := 4) scD.nd rfl (.inl rfl) (pe_ix ix_list (pe_ix ix_list (pv 0) pe_int (fun _ _ => rfl))
          (pe_op op_modN (pe_callTy call_int1 (by rfl) T.int (by decide +kernel) (pa_cons (pv 3) pa_nil)) (pe_callB call_len_seq (by rfl) T.len PySem.boot_len (pa_cons (pe_ix ix_list (pv 0) pe_int (fun _ _ => rfl)) pa_nil))) (fun _ _ => rfl)))) pss_nil)
      (pss_cons (ps_if (PW.pt (pw_and (pt_cmpR op_lt (pv 3) (pe_callB call_len_seq (by rfl) T.len PySem.boot_len (pa_cons (pe_ix ix_list (pv 0) pe_int (fun _ _ => rfl)) pa_nil)) (nomark _))
          (pw_and1 (pt_cmpR op_ge (pe_callB call_abs (by rfl) T.abs (by decide +kernel) (pa_cons (pv 4) pa_nil)) (pe_op op_pow pe_int pe_int) (nomark _)))))
        (pss_cons (ps_set (i := 5) scD.nd rfl (.inl rfl) (pe_op op_add (pe_op op_mul pe_int (pe_op op_sub (pe_callB call_abs (by rfl) T.abs (by decide +kernel) (pa_cons (pv 4) pa_nil)) (pe_op op_pow pe_int pe_int)))
            (pe_callTy call_int1 (by rfl) T.int (by decide +kernel) (pa_cons (pe_cmpR op_lt (pv 4) pe_int (nomark _)) pa_nil))))
        (pss_cons (ps_asg (pe_op op_fdivN (pe_callTy call_int1 (by rfl) T.int (by decide +kernel) (pa_cons (pv 5) pa_nil)) (pv 1)) (pg_sub (pv 0) pe_int set_list))
        (pss_one (ps_ret (pe_op op_modN (pe_callTy call_int1 (by rfl) T.int (by decide +kernel) (pa_cons (pv 5) pa_nil)) (pv 1)))))) pss_nil)
      (pss_cons (ps_set (i := 6) scD.nd rfl (.inl rfl) (pe_op op_modN (pe_callTy call_int1 (by rfl) T.int (by decide +kernel) (pa_cons (pe_op op_pow (pe_op op_add (pe_op op_add
          (pe_op op_modN (pe_callTy call_int1 (by rfl) T.int (by decide +kernel) (pa_cons (pv 4) pa_nil)) pe_int) (pe_op op_mul pe_int (pv 3))) pe_int) pe_int) pa_nil)) pe_int))
      (pss_cons (ps_set (i := 6) scD.nd rfl (.inl rfl) (pe_op op_modN (pe_callTy call_int1 (by rfl) T.int (by decide +kernel) (pa_cons (pe_op op_pow (pe_op op_add (pe_op op_add
          (pe_op op_mul (pv 6) (pe_op op_add (pe_op op_mul pe_int (pv 3)) pe_int)) (pe_op op_mul (pe_op op_mul pe_int (pv 3)) (pv 3))) pe_int) pe_int) pa_nil)) pe_int))
      (pss_one (ps_ret (pe_op op_modN (pe_callTy call_int1 (by rfl) T.int (by decide +kernel) (pa_cons (pe_op op_fdivN (pv 6) pe_int) pa_nil)) (pv 1))))))))))), ?_⟩
    have i2 : ∀ {a b c : V}, atI [a, b, c] 2 = some c := fun {a b c} => atI_nat (j := 2) rfl
    have i1 : ∀ {a b c : V}, atI [a, b, c] 1 = some b := fun {a b c} => atI_nat (j := 1) rfl
    have i0 : ∀ {a b c : V}, atI [a, b, c] 0 = some a := fun {a b c} => atI_nat (j := 0) rfl
    -- if pen[2] > 0
    refine ⟨_, rfl, p, _, 2, _, rfl, rfl, SqL.of hp, i2, _, _, rfl, rfl, _, rfl, ite2 (fun e => ?_) (fun e => ?_)⟩
    · -- digit
      refine ⟨_, rfl, p, _, 2, _, rfl, rfl, SqL.of hp, i2, .inl ⟨_, rfl, _, rfl, _, _, rfl, rfl, (by omega), ?_⟩⟩
      refine ⟨_, rfl, p, _, 2, _, rfl, rfl, SqL.of hp, i2, .inl ⟨_, rfl, _, rfl, _, _, rfl, rfl, ⟨by omega, by omega⟩, _, rfl, p, _, _, 2, rfl, rfl, hp, rfl, ?_⟩⟩
      refine ⟨_, rfl, ?_⟩
      exact k _ _ But.upd_at ⟨ns, tn, _, upd_same, by rw [upd_ne Lp]; exact hL, Lp, hlen, t0, by omega, fdiv_lo hm c0⟩ (fmod_lo _ hm) (fmod_hi _ hm)
    · -- turn
      refine ⟨_, rfl, p, _, 1, _, rfl, rfl, SqL.of hp, i1, ?_⟩
      refine ⟨_, rfl, _, _, rfl, rfl, _, rfl, p, _, _, 1, rfl, rfl, hp, rfl, ?_⟩
      have hp1 : upd H p (.lst ([V.ref L, V.int tn, V.int ca].set 1 (V.int (tn + 1)))) p = some (.lst [.ref L, .int (tn + 1), .int ca]) := upd_same
      have hL1 : upd H p (.lst ([V.ref L, V.int tn, V.int ca].set 1 (V.int (tn + 1)))) L = some (.lst (ns.map V.int)) := by rw [upd_ne Lp]; exact hL
      have b1 : But p H (upd H p (.lst ([V.ref L, V.int tn, V.int ca].set 1 (V.int (tn + 1))))) := But.upd_at
      generalize upd H p (.lst ([V.ref L, V.int tn, V.int ca].set 1 (V.int (tn + 1)))) = H1 at hp1 hL1 b1 ⊢
      -- cell = c * turn + c'
      refine ⟨_, rfl, _, _, rfl, rfl, .inl ⟨by decide, by decide⟩, _, _, rfl, rfl, ?_⟩
      -- if pen[0] != []
      refine ⟨_, rfl, p, _, 0, _, rfl, rfl, SqL.of hp1, i0, by decide, fun l hl => ?_⟩
      have n1 : p ≠ l := ne_of_none hp1 hl
      have n2 : L ≠ l := ne_of_none hL1 hl
      have hp2 : upd H1 l (.lst []) p = some (.lst [.ref L, .int (tn + 1), .int ca]) := by rw [upd_ne n1]; exact hp1
      have hL2 : upd H1 l (.lst []) L = some (.lst (ns.map V.int)) := by rw [upd_ne n2]; exact hL1
      have hl2 : upd H1 l (.lst []) l = some (.lst []) := upd_same
      have b2 : But p H (upd H1 l (.lst [])) := b1.trans (But.upd_new hl)
      clear b1 hp1 hL1
      generalize upd H1 l (.lst []) = H2 at hp2 hL2 hl2 b2
      refine ⟨_, _, .lst (SqL.of hL2) (dpInts ns), .lst (SqL.of hl2) .nil, sh_ints ns, sh_ints [], _, rfl, ?_⟩
      rw [eqv_nil]
      -- the rest, for any cell
      have hcell : ∀ c : Int, ∃ j : Int, (if c < 0 then -c else c) = j ∧ 0 ≤ j := fun c => by
        by_cases z : c < 0
        · exact ⟨_, rfl, by rw [if_pos z]; omega⟩
        · exact ⟨_, rfl, by rw [if_neg z]; omega⟩
      have fin : ∀ H' : Hp, H' p = some (.lst [.ref L, .int (tn + 1), .int ca]) → H' L = some (.lst (ns.map V.int)) → But p H H' → Pen L H' p (B + 1) := fun H' e1 e2 _ =>
        ⟨ns, tn + 1, ca, e1, e2, Lp, hlen, by omega, by omega, c0⟩
      have ht : tn ≤ 1000000 := by omega
      have hm6 : 0 ≤ 71315 * tn ∧ 71315 * tn ≤ 71315 * 1000000 := mul_le_of (by decide) t0 (Int.le_refl _) ht
      have hq : ∀ {x m : Int}, 1 ≤ m → m ≤ 4294967296 → 0 ≤ x.fmod m ∧ x.fmod m < 4294967296 := fun {x m} h1 h2 => ⟨fmod_lo x h1, by have := fmod_hi x h1; omega⟩
      cases hn : ns with
      | nil =>
        refine iteF ?_
        refine ⟨_, rfl, _, rfl, p, _, 0, _, rfl, rfl, SqL.of hp2, i0, L, _, rfl, .inl (SqL.of hL2), _, _, rfl, rfl, _, rfl, ite2 (fun e1 => ?_) (fun e1 => ?_)⟩
        · refine ⟨_, rfl, _, rfl, _, _, rfl, rfl, ⟨by decide, by decide, by decide⟩, _, _, rfl, rfl, _, rfl, ite2 (fun e2 => ?_) (fun e2 => ?_)⟩
          · refine ⟨_, rfl, _, rfl, _, _, rfl, rfl, ⟨by decide, by decide, by decide⟩, _, _, rfl, rfl, _, _, rfl, rfl, .inl ⟨by decide, by decide⟩, _, rfl, _, _, rfl, rfl, .inr ⟨_, rfl, _, _, rfl, rfl, ?_⟩⟩
            refine ⟨_, rfl, .inl ⟨_, rfl, _, rfl, _, _, rfl, rfl, ⟨by omega, by omega⟩, _, rfl, p, _, _, 2, rfl, rfl, hp2, rfl, ?_⟩⟩
            refine ⟨_, rfl, .inl ⟨_, rfl, _, rfl, _, _, rfl, rfl, (by omega), ?_⟩⟩
            refine k _ _ (b2.trans But.upd_at) ⟨_, tn + 1, _, upd_same, by rw [upd_ne Lp]; exact hL2, Lp, hlen, by omega, by omega, fdiv_lo hm ?_⟩ (fmod_lo _ hm) (fmod_hi _ hm)
            have e3 := of_decide_eq_true e2
            exact great_nn e3 _
          · skip
            refine ⟨_, rfl, .inl ⟨_, rfl, _, _, rfl, rfl, nz (by decide), _, rfl, _, _, rfl, rfl, .inl ⟨by decide, by decide⟩, _, _, rfl, rfl, _, _, rfl, rfl, _, _, rfl, rfl, ⟨by decide, by decide, bound1 _ (by decide) (by decide) (by decide) (by decide) t0 ht⟩, .inl ⟨_, rfl, _, _, rfl, rfl, nz (by decide), ?_⟩⟩⟩
            refine ⟨_, rfl, _, rfl, _, _, rfl, rfl, .inl ⟨by decide, by decide⟩, _, _, rfl, rfl, _, _, rfl, rfl, .inl ?_, _, rfl, _, _, rfl, rfl, .inl ⟨by decide, by decide⟩, _, rfl, _, _, rfl, rfl, .inl ?_, _, _, rfl, rfl, _, _, rfl, rfl, _, _, rfl, rfl, ⟨by decide, by decide, ?_⟩, .inl ⟨_, rfl, _, _, rfl, rfl, nz (by decide), ?_⟩⟩
            · exact lt64 (hq (by decide) (by decide))
            · exact ⟨by omega, by omega⟩
            · exact bound2 (hq (by decide) (by decide)) (by decide) (by decide) (by decide) t0 ht
            · refine ⟨_, rfl, _, _, rfl, rfl, ⟨by decide, by decide⟩, .inl ⟨_, rfl, _, rfl, _, _, rfl, rfl, (by omega), ?_⟩⟩
              exact k _ _ b2 (fin _ hp2 hL2 b2) (fmod_lo _ hm) (fmod_hi _ hm)
        · skip
          refine ⟨_, rfl, .inl ⟨_, rfl, _, _, rfl, rfl, nz (by decide), _, rfl, _, _, rfl, rfl, .inl ⟨by decide, by decide⟩, _, _, rfl, rfl, _, _, rfl, rfl, _, _, rfl, rfl, ⟨by decide, by decide, bound1 _ (by decide) (by decide) (by decide) (by decide) t0 ht⟩, .inl ⟨_, rfl, _, _, rfl, rfl, nz (by decide), ?_⟩⟩⟩
          refine ⟨_, rfl, _, rfl, _, _, rfl, rfl, .inl ⟨by decide, by decide⟩, _, _, rfl, rfl, _, _, rfl, rfl, .inl ?_, _, rfl, _, _, rfl, rfl, .inl ⟨by decide, by decide⟩, _, rfl, _, _, rfl, rfl, .inl ?_, _, _, rfl, rfl, _, _, rfl, rfl, _, _, rfl, rfl, ⟨by decide, by decide, ?_⟩, .inl ⟨_, rfl, _, _, rfl, rfl, nz (by decide), ?_⟩⟩
          · exact lt64 (hq (by decide) (by decide))
          · exact ⟨by omega, by omega⟩
          · exact bound2 (hq (by decide) (by decide)) (by decide) (by decide) (by decide) t0 ht
          · refine ⟨_, rfl, _, _, rfl, rfl, ⟨by decide, by decide⟩, .inl ⟨_, rfl, _, rfl, _, _, rfl, rfl, (by omega), ?_⟩⟩
            exact k _ _ b2 (fin _ hp2 hL2 b2) (fmod_lo _ hm) (fmod_hi _ hm)
      | cons n0 nr =>
        refine iteT ?_
        obtain ⟨c, hc⟩ := cell_at (ns := ns) (by rw [hn]; exact List.cons_ne_nil _ _) tn
        refine ⟨_, rfl, p, _, 0, _, rfl, rfl, SqL.of hp2, i0, _, rfl, .inl ⟨_, rfl, _, rfl, p, _, 0, _, rfl, rfl, SqL.of hp2, i0, L, _, rfl, .inl (SqL.of hL2), _, _, rfl, rfl, (by rw [List.length_map, hn, List.length_cons]; omega), L, _, _, _, rfl, rfl, SqL.of hL2, hc, ?_⟩⟩
        refine ⟨_, rfl, _, rfl, p, _, 0, _, rfl, rfl, SqL.of hp2, i0, L, _, rfl, .inl (SqL.of hL2), _, _, rfl, rfl, _, rfl, ite2 (fun e1 => ?_) (fun e1 => ?_)⟩
        · refine ⟨_, rfl, _, rfl, _, _, rfl, rfl, ⟨by decide, by decide, by decide⟩, _, _, rfl, rfl, _, rfl, ite2 (fun e2 => ?_) (fun e2 => ?_)⟩
          · refine ⟨_, rfl, _, rfl, _, _, rfl, rfl, ⟨by decide, by decide, by decide⟩, _, _, rfl, rfl, _, _, rfl, rfl, .inl ⟨by decide, by decide⟩, _, rfl, _, _, rfl, rfl, .inr ⟨_, rfl, _, _, rfl, rfl, ?_⟩⟩
            refine ⟨_, rfl, .inl ⟨_, rfl, _, rfl, _, _, rfl, rfl, ⟨by omega, by omega⟩, _, rfl, p, _, _, 2, rfl, rfl, hp2, rfl, ?_⟩⟩
            refine ⟨_, rfl, .inl ⟨_, rfl, _, rfl, _, _, rfl, rfl, (by omega), ?_⟩⟩
            refine k _ _ (b2.trans But.upd_at) ⟨_, tn + 1, _, upd_same, by rw [upd_ne Lp]; exact hL2, Lp, hlen, by omega, by omega, fdiv_lo hm ?_⟩ (fmod_lo _ hm) (fmod_hi _ hm)
            have e3 := of_decide_eq_true e2
            exact great_nn e3 _
          · skip
            refine ⟨_, rfl, .inl ⟨_, rfl, _, _, rfl, rfl, nz (by decide), _, rfl, _, _, rfl, rfl, .inl ⟨by decide, by decide⟩, _, _, rfl, rfl, _, _, rfl, rfl, _, _, rfl, rfl, ⟨by decide, by decide, bound1 _ (by decide) (by decide) (by decide) (by decide) t0 ht⟩, .inl ⟨_, rfl, _, _, rfl, rfl, nz (by decide), ?_⟩⟩⟩
            refine ⟨_, rfl, _, rfl, _, _, rfl, rfl, .inl ⟨by decide, by decide⟩, _, _, rfl, rfl, _, _, rfl, rfl, .inl ?_, _, rfl, _, _, rfl, rfl, .inl ⟨by decide, by decide⟩, _, rfl, _, _, rfl, rfl, .inl ?_, _, _, rfl, rfl, _, _, rfl, rfl, _, _, rfl, rfl, ⟨by decide, by decide, ?_⟩, .inl ⟨_, rfl, _, _, rfl, rfl, nz (by decide), ?_⟩⟩
            · exact lt64 (hq (by decide) (by decide))
            · exact ⟨by omega, by omega⟩
            · exact bound2 (hq (by decide) (by decide)) (by decide) (by decide) (by decide) t0 ht
            · refine ⟨_, rfl, _, _, rfl, rfl, ⟨by decide, by decide⟩, .inl ⟨_, rfl, _, rfl, _, _, rfl, rfl, (by omega), ?_⟩⟩
              exact k _ _ b2 (fin _ hp2 hL2 b2) (fmod_lo _ hm) (fmod_hi _ hm)
        · skip
          refine ⟨_, rfl, .inl ⟨_, rfl, _, _, rfl, rfl, nz (by decide), _, rfl, _, _, rfl, rfl, .inl ⟨by decide, by decide⟩, _, _, rfl, rfl, _, _, rfl, rfl, _, _, rfl, rfl, ⟨by decide, by decide, bound1 _ (by decide) (by decide) (by decide) (by decide) t0 ht⟩, .inl ⟨_, rfl, _, _, rfl, rfl, nz (by decide), ?_⟩⟩⟩
          refine ⟨_, rfl, _, rfl, _, _, rfl, rfl, .inl ⟨by decide, by decide⟩, _, _, rfl, rfl, _, _, rfl, rfl, .inl ?_, _, rfl, _, _, rfl, rfl, .inl ⟨by decide, by decide⟩, _, rfl, _, _, rfl, rfl, .inl ?_, _, _, rfl, rfl, _, _, rfl, rfl, _, _, rfl, rfl, ⟨by decide, by decide, ?_⟩, .inl ⟨_, rfl, _, _, rfl, rfl, nz (by decide), ?_⟩⟩
          · exact lt64 (hq (by decide) (by decide))
          · exact ⟨by omega, by omega⟩
          · exact bound2 (hq (by decide) (by decide)) (by decide) (by decide) (by decide) t0 ht
          · refine ⟨_, rfl, _, _, rfl, rfl, ⟨by decide, by decide⟩, .inl ⟨_, rfl, _, rfl, _, _, rfl, rfl, (by omega), ?_⟩⟩
            exact k _ _ b2 (fin _ hp2 hL2 b2) (fmod_lo _ hm) (fmod_hi _ hm)
end
end Ev
namespace Ev
open PySem L2
abbrev sIsInt : Stmt := top 13
abbrev sWithin : Stmt := top 14
abbrev sTryInit : Stmt := inClass (top 30) 0
abbrev sTryTurns : Stmt := inClass (top 30) 1
abbrev sTwice : Stmt := inClass (top 30) 2
abbrev sTurnInit : Stmt := inClass (top 29) 0
abbrev sTurnTurns : Stmt := inClass (top 29) 1
abbrev sGreatest : Stmt := inClass (top 28) 2
abbrev sFair : Stmt := top 31
abbrev sNeedW : Stmt := top 34
abbrev sPair : Stmt := top 35
abbrev sTimes : Stmt := top 36
abbrev sPlus : Stmt := top 37
abbrev sTurn : Stmt := top 38
abbrev sNeedT : Stmt := top 39
abbrev sHalves : Stmt := top 40
abbrev sNeedH : Stmt := top 41
def fairB (p q k x y : Int) : Bool := decide (q * y ≤ p * x + k) && decide (q * x ≤ p * y + k)
def spIsInt : Sp := fun vs H Q _ => ∃ i : Int, vs = [.int i] ∧ Q (.bl true) H
def spWithin : Sp := fun vs H Q _ => ∃ v l m : Int, vs = [.int v, .int l, .int m] ∧ l ≤ v ∧ v ≤ m ∧ Q (.bl true) H
def spNeedW : Sp := fun vs H Q _ => ∃ v : Int, vs = [.int v] ∧ 1 ≤ v ∧ v ≤ 10 ^ 60 ∧ Q .non H
def spPair (_K : PySem.W.Frag) : Sp := fun vs H Q _ => ∃ (a : Addr) (x y m : Int), vs = [.ref a, .int m] ∧ H a = some (.tup [.int x, .int y]) ∧ (1 ≤ x ∧ x ≤ m) ∧ (1 ≤ y ∧ y ≤ m) ∧ ∀ H', Same H H' → Q (.bl true) H'
def spTimes (_K : PySem.W.Frag) : Sp := fun vs H Q _ => ∃ (a : Addr) (p q : Int), vs = [.ref a] ∧ H a = some (.tup [.int p, .int q]) ∧ 1 ≤ q ∧ q ≤ p ∧ p ≤ 6 ∧ ∀ H', Same H H' → Q (.bl true) H'
def spPlus : Sp := fun vs H Q _ => ∃ k : Int, vs = [.int k] ∧ -6 ≤ k ∧ k ≤ 6 ∧ Q (.bl true) H
def spTurn (_K : PySem.W.Frag) : Sp := fun vs H Q _ => ∃ (a : Addr) (p q : Int), vs = [.ref a] ∧ H a = some (.tup [.int p, .int q]) ∧ (1 ≤ p ∧ p ≤ 8) ∧ (1 ≤ q ∧ q ≤ 8) ∧ ∀ H', Same H H' → Q (.bl true) H'
def spNeedT (_K : PySem.W.Frag) : Sp := fun vs H Q _ => ∃ (a : Addr) (p q k : Int), vs = [.ref a, .int k] ∧ H a = some (.tup [.int p, .int q]) ∧ 1 ≤ q ∧ q ≤ p ∧ p ≤ 6 ∧ -6 ≤ k ∧ k ≤ 6 ∧ ∀ H', Same H H' → Q .non H'
def spHalves (_K : PySem.W.Frag) : Sp := fun vs H Q _ => ∃ (a : Addr) (p q k : Int), vs = [.ref a, .int k] ∧ H a = some (.tup [.int p, .int q]) ∧ 2 * q ≤ p + k ∧ Q (.bl true) H
def spNeedH (_K : PySem.W.Frag) : Sp := fun vs H Q _ => ∃ (a : Addr) (p q k : Int), vs = [.ref a, .int k] ∧ H a = some (.tup [.int p, .int q]) ∧ 0 ≤ q ∧ 2 * q ≤ p + k ∧ Q .non H
section
variable {P : Program} {w : World} {K : PySem.W.Frag} {mg : Str → Option Value} {base : Heap}
theorem scIsInt : FnScope ["value"] ["value"] (defScope sIsInt) := ⟨rfl, rfl, rfl, by decide +kernel, rfl, by decide +kernel, by decide +kernel⟩
theorem ok_isInt {f : Addr} {fd : FuncData} (F : Fun K "is_integer" "is_integer" sIsInt f fd) (T : Blt mg) : FnOk P w K mg base CX0 1 f fd ["value"] spIsInt := by
  refine F.ok scIsInt (fun vs H Q E h => ?_) (fun cdv A outer s H vs Q E hr h => ?_)
  · obtain ⟨i, rfl, _⟩ := h
    rfl
  · obtain ⟨i, rfl, k⟩ := h
    refine ⟨_, pss_one (ps_ret (pe_and (pe_callB call_isi (by rfl) T.isi (by decide +kernel) (pa_cons (pv 0) (pa_cons (pe_bltn (v := .ty "int") (by rfl) T.int (by decide +kernel) rfl) pa_nil)))
      (pe_one (pe_not (pe_callB call_isi (by rfl) T.isi (by decide +kernel) (pa_cons (pv 0) (pa_cons (pe_bltn (v := .ty "bool") (by rfl) T.bool (by decide +kernel) rfl) pa_nil))))))), ?_⟩
    refine ⟨_, rfl, _, _, _, _, true, rfl, .ty _, .base (.int i), kit_ty (by decide +kernel), true, rfl, iteT ⟨_, rfl, _, _, _, _, false, rfl, .ty _, .base (.int i), kit_ty (by decide +kernel), _, rfl, ?_⟩⟩
    exact k
theorem scWithin : FnScope ["value", "least", "most"] ["value", "least", "most"] (defScope sWithin) := ⟨rfl, rfl, rfl, by decide +kernel, rfl, by decide +kernel, by decide +kernel⟩
theorem ok_within {f fI : Addr} {fd fdI : FuncData} (F : Fun K "is_within" "is_within" sWithin f fd) (T : Blt mg)
    (GI : FnOk P w K mg base CX0 1 fI fdI ["value"] spIsInt) (gI : mg "is_integer" = some (.ref fI)) (kI : PySem.W.keepIn K (.ref fI) = true) (bI : Binds K fdI ["value"] []) : FnOk P w K mg base CX0 2 f fd ["value", "least", "most"] spWithin := by
  refine F.ok scWithin (fun vs H Q E h => ?_) (fun cdv A outer s H vs Q E hr h => ?_)
  · obtain ⟨v, l, m, rfl, _⟩ := h
    rfl
  · obtain ⟨v, l, m, rfl, h1, h2, k⟩ := h
    refine ⟨_, pss_one (ps_ret (pe_and (pe_call GI hr (by rfl) gI kI bI .nil pass0 (pa_cons (pv 0) pa_nil)) (pe_one (pe_chain op_le op_le (pv 1) (pv 0) (pv 2))))), ?_⟩
    refine ⟨_, rfl, v, rfl, true, rfl, iteT ⟨_, rfl, _, rfl, _, _, rfl, rfl, true, congrArg V.bl (decide_eq_true h1), iteT ⟨_, rfl, _, _, rfl, rfl, ?_⟩⟩⟩
    show Q (.bl (decide (v ≤ m))) H
    rw [decide_eq_true h2]
    exact k

/-- a def that stands under its name -/
structure Df (P : Program) (w : World) (K : PySem.W.Frag) (mg : Str → Option Value) (base : Heap) (k : Nat) (x : Str) (ps : List Str) (sp : Sp) : Prop where
  ex : ∃ (f : Addr) (fd : FuncData), FnOk P w K mg base CX0 k f fd ps sp ∧ mg x = some (.ref f) ∧ PySem.W.keepIn K (.ref f) = true ∧ Binds K fd ps []
theorem scNeedW : FnScope ["value"] ["value"] (defScope sNeedW) := ⟨rfl, rfl, rfl, by decide +kernel, rfl, by decide +kernel, by decide +kernel⟩
theorem ok_needW {f : Addr} {fd : FuncData} (F : Fun K "need_weight" "need_weight" sNeedW f fd) (D : Df P w K mg base 2 "is_within" ["value", "least", "most"] spWithin) {t : Tok} (gM : mg "MOST_WEIGHT" = some (.int (10 ^ 60) t)) :
    FnOk P w K mg base CX0 3 f fd ["value"] spNeedW := by
  obtain ⟨fW, fdW, GW, gW, kW, bW⟩ := D.ex
  refine F.ok scNeedW (fun vs H Q E h => ?_) (fun cdv A outer s H vs Q E hr h => ?_)
  · obtain ⟨i, rfl, _⟩ := h
    rfl
  · obtain ⟨i, rfl, h1, h2, k⟩ := h
    refine ⟨_, pss_one (ps_if (pt_not (pt_val (pe_call GW hr (by rfl) gW kW bW .nil pass0 (pa_cons (pv 0) (pa_cons pe_int (pa_cons (pe_glob (v := .int (10 ^ 60)) rfl gM ⟨_, rfl⟩) pa_nil)))))) (pss_one ps_never) pss_nil), ?_⟩
    exact ⟨_, rfl, _, _, _, rfl, h1, h2, true, rfl, iteF k⟩
theorem scPair : FnScope ["value", "most", "item"] ["value", "most"] (defScope sPair) := ⟨rfl, rfl, rfl, by decide +kernel, rfl, by decide +kernel, by decide +kernel⟩
theorem ok_pair {f : Addr} {fd : FuncData} (F : Fun K "is_pair" "is_pair" sPair f fd) (T : Blt mg) (D : Df P w K mg base 2 "is_within" ["value", "least", "most"] spWithin) :
    FnOk P w K mg base CX0 3 f fd ["value", "most"] (spPair K) := by
  obtain ⟨fW, fdW, GW, gW, kW, bW⟩ := D.ex
  refine F.ok scPair (fun vs H Q E h => ?_) (fun cdv A outer s H vs Q E hr h => ?_)
  · obtain ⟨a, x, y, m, rfl, _⟩ := h
    rfl
  · obtain ⟨a, x, y, m, rfl, ha, hx, hy, k⟩ := h
    refine ⟨_, pss_one (ps_ret (pe_and (pe_callB call_isi (by rfl) T.isi (by decide +kernel) (pa_cons (pv 0) (pa_cons (pe_bltn (v := .ty "tuple") (by rfl) T.tuple (by decide +kernel) rfl) pa_nil)))
      (pe_and (pe_cmpR op_eq (pe_callB call_len_seq (by rfl) T.len PySem.boot_len (pa_cons (pv 0) pa_nil)) pe_int (nomark _))
      (pe_one (pe_callB (cr_all rfl) (by rfl) T.all (by decide +kernel) (pa_cons (pe_lc (own := [("item", 2)]) (g := gName 2) (by rfl) scPair.nd (pi_tup (pv 0)) (blkOk_by (own := [("item", 2)]) (N := ["value", "most", "item"]) (sc := defScope sPair) (by decide +kernel))
          (fun _ _ _ _ _ => pg_name (i := 2) scPair.nd rfl (.inl rfl)) (fun _ _ _ _ _ => pts_nil) (fun _ _ _ _ _ => pe_call GW hr (by rfl) gW kW bW .nil pass0 (pa_cons (pv 2) (pa_cons pe_int (pa_cons (pv 1) pa_nil))))) pa_nil)))))), ?_⟩
    refine ⟨_, rfl, _, _, _, _, true, rfl, .ty _, .base (.tup ha), kit_ty (by decide +kernel), true, rfl, iteT ⟨_, rfl, a, _, rfl, .inr (SqT.of ha), rfl, true, congrArg V.bl (decide_eq_true rfl), iteT ⟨_, rfl, a, rfl, ⟨_, SqT.of ha⟩, fun D nD => ?_⟩⟩⟩
    have naD : a ≠ D := ne_of_none ha nD
    refine lc_tup (xs := [V.int x, V.int y]) (fun i H' => H' D = some (.lst ((List.replicate i true).map V.bl)) ∧ But D H H') ⟨upd_same, But.upd_at⟩ (fun i H' _ h => SqT.of (h.2 _ _ naD ha)) (fun i v H' hi ⟨e1, e2⟩ => ?_) (fun H' ⟨e1, e2⟩ => ?_)
    · obtain ⟨z, rfl, z1, z2⟩ : ∃ z : Int, v = .int z ∧ 1 ≤ z ∧ z ≤ m := by
        match i, hi with
        | 0, hi => exact ⟨x, (Option.some.inj hi).symm, hx.1, hx.2⟩
        | 1, hi => exact ⟨y, (Option.some.inj hi).symm, hy.1, hy.2⟩
        | n + 2, hi => cases hi
      have hil : i < 2 := (List.getElem?_eq_some_iff.mp hi).1
      refine ⟨rfl, _, rfl, _, rfl, _, _, _, rfl, z1, z2, _, e1, ?_, ?_, ?_⟩
      · rw [List.length_map, List.length_replicate]; exact small1000 (by omega)
      · rw [List.replicate_succ', List.map_append]
        exact upd_same
      · exact e2.trans But.upd_at
    · refine ⟨D, [true, true], rfl, SqL.of e1, ?_⟩
      exact k H' fun b o e => e2 b o (ne_of_none e nD) e
end
end Ev
namespace Ev
open PySem L2
section
variable {P : Program} {w : World} {K : PySem.W.Frag} {mg : Str → Option Value} {base : Heap}
theorem tup1 {a b : V} : atI [a, b] 1 = some b := atI_nat (j := 1) rfl
theorem tup0 {a b : V} : atI [a, b] 0 = some a := atI_nat (j := 0) rfl
theorem scTimes : FnScope ["value"] ["value"] (defScope sTimes) := ⟨rfl, rfl, rfl, by decide +kernel, rfl, by decide +kernel, by decide +kernel⟩
theorem ok_times {f : Addr} {fd : FuncData} (F : Fun K "is_times" "is_times" sTimes f fd) (D : Df P w K mg base 3 "is_pair" ["value", "most"] (spPair K)) {CW : Addr} {mc u : Value} (gW : mg "WeightRule" = some (.ref CW)) (cr : ClX.CRead K CW mc) (cv : ClX.CVal K CW mc "MOST" (.int 6) u) :
    FnOk P w K mg base CX0 4 f fd ["value"] (spTimes K) := by
  obtain ⟨fP, fdP, GP, gP, kP, bP⟩ := D.ex
  refine F.ok scTimes (fun vs H Q E h => ?_) (fun cdv A outer s H vs Q E hr h => ?_)
  · obtain ⟨a, p, q, rfl, _⟩ := h
    rfl
  · obtain ⟨a, p, q, rfl, ha, h1, h2, h3, k⟩ := h
    refine ⟨_, pss_one (ps_ret (pe_and (pe_call GP hr (by rfl) gP kP bP .nil pass0 (pa_cons (pv 0) (pa_cons (ClX.pe_cval (pe_glob (v := .ref CW) rfl gW rfl)) pa_nil)))
      (pe_one (pe_cmpR op_le (pe_ix ix_tup (pv 0) pe_int (fun _ _ => rfl)) (pe_ix ix_tup (pv 0) pe_int (fun _ _ => rfl)) (nomark _))))), ?_⟩
    refine ⟨_, rfl, CW, mc, _, u, rfl, cr, cv, a, p, q, _, rfl, ha, ⟨by omega, by omega⟩, ⟨by omega, by omega⟩, fun H' s => ⟨true, rfl, ?_⟩⟩
    refine ⟨_, rfl, a, _, 1, _, rfl, rfl, SqT.of (s _ _ ha), tup1, _, rfl, a, _, 0, _, rfl, rfl, SqT.of (s _ _ ha), tup0, _, _, rfl, rfl, ?_⟩
    show Q (.bl (decide (q ≤ p))) H'
    rw [decide_eq_true h2]
    exact k H' s
theorem scPlus : FnScope ["value"] ["value"] (defScope sPlus) := ⟨rfl, rfl, rfl, by decide +kernel, rfl, by decide +kernel, by decide +kernel⟩
theorem ok_plus {f : Addr} {fd : FuncData} (F : Fun K "is_plus" "is_plus" sPlus f fd) (D : Df P w K mg base 2 "is_within" ["value", "least", "most"] spWithin) {t : Tok} (gM : mg "MOST_PLUS" = some (.int 6 t)) : FnOk P w K mg base CX0 3 f fd ["value"] spPlus := by
  obtain ⟨fW, fdW, GW, gW, kW, bW⟩ := D.ex
  refine F.ok scPlus (fun vs H Q E h => ?_) (fun cdv A outer s H vs Q E hr h => ?_)
  · obtain ⟨i, rfl, _⟩ := h
    rfl
  · obtain ⟨i, rfl, h1, h2, k⟩ := h
    refine ⟨_, pss_one (ps_ret (pe_call GW hr (by rfl) gW kW bW .nil pass0 (pa_cons (pv 0) (pa_cons (pe_un un_neg (pe_glob (v := .int 6) rfl gM ⟨_, rfl⟩)) (pa_cons (pe_glob (v := .int 6) rfl gM ⟨_, rfl⟩) pa_nil))))), ?_⟩
    exact ⟨_, rfl, _, rfl, _, _, _, rfl, h1, h2, k⟩
theorem scTurn : FnScope ["value"] ["value"] (defScope sTurn) := ⟨rfl, rfl, rfl, by decide +kernel, rfl, by decide +kernel, by decide +kernel⟩
theorem ok_turn {f : Addr} {fd : FuncData} (F : Fun K "is_turn" "is_turn" sTurn f fd) (D : Df P w K mg base 3 "is_pair" ["value", "most"] (spPair K)) {t : Tok} (gM : mg "MOST_TURN" = some (.int 8 t)) : FnOk P w K mg base CX0 4 f fd ["value"] (spTurn K) := by
  obtain ⟨fP, fdP, GP, gP, kP, bP⟩ := D.ex
  refine F.ok scTurn (fun vs H Q E h => ?_) (fun cdv A outer s H vs Q E hr h => ?_)
  · obtain ⟨a, p, q, rfl, _⟩ := h
    rfl
  · obtain ⟨a, p, q, rfl, ha, h1, h2, k⟩ := h
    refine ⟨_, pss_one (ps_ret (pe_call GP hr (by rfl) gP kP bP .nil pass0 (pa_cons (pv 0) (pa_cons (pe_glob (v := .int 8) rfl gM ⟨_, rfl⟩) pa_nil)))), ?_⟩
    exact ⟨_, rfl, a, p, q, _, rfl, ha, h1, h2, k⟩
theorem scNeedT : FnScope ["times", "plus"] ["times", "plus"] (defScope sNeedT) := ⟨rfl, rfl, rfl, by decide +kernel, rfl, by decide +kernel, by decide +kernel⟩
theorem ok_needT {f : Addr} {fd : FuncData} (F : Fun K "need_times" "need_times" sNeedT f fd) (D1 : Df P w K mg base 4 "is_times" ["value"] (spTimes K)) (D2 : Df P w K mg base 3 "is_plus" ["value"] spPlus) : FnOk P w K mg base CX0 5 f fd ["times", "plus"] (spNeedT K) := by
  obtain ⟨f1, fd1, G1, g1, k1, b1⟩ := D1.ex
  obtain ⟨f2, fd2, G2, g2, k2, b2⟩ := D2.ex
  refine F.ok scNeedT (fun vs H Q E h => ?_) (fun cdv A outer s H vs Q E hr h => ?_)
  · obtain ⟨a, p, q, k, rfl, _⟩ := h
    rfl
  · obtain ⟨a, p, q, k, rfl, ha, h1, h2, h3, h4, h5, kk⟩ := h
    refine ⟨_, pss_cons (ps_if (pt_not (pt_val (pe_call G1 hr (by rfl) g1 k1 b1 .nil pass0 (pa_cons (pv 0) pa_nil)))) (pss_one ps_never) pss_nil)
      (pss_one (ps_if (pt_not (pt_val (pe_call G2 (hr.mono (by decide)) (by rfl) g2 k2 b2 .nil pass0 (pa_cons (pv 1) pa_nil)))) (pss_one ps_never) pss_nil)), ?_⟩
    exact ⟨_, rfl, a, p, q, rfl, ha, h1, h2, h3, fun H' s => ⟨true, rfl, iteF ⟨_, rfl, k, rfl, h4, h5, true, rfl, iteF (kk H' s)⟩⟩⟩
theorem scHalves : FnScope ["times", "plus", "over", "under"] ["times", "plus"] (defScope sHalves) := ⟨rfl, rfl, rfl, by decide +kernel, rfl, by decide +kernel, by decide +kernel⟩
theorem ok_halves {f : Addr} {fd : FuncData} (F : Fun K "has_halves" "has_halves" sHalves f fd) : FnOk P w K mg base CX0 1 f fd ["times", "plus"] (spHalves K) := by
  refine F.ok scHalves (fun vs H Q E h => ?_) (fun cdv A outer s H vs Q E hr h => ?_)
  · obtain ⟨a, p, q, k, rfl, _⟩ := h
    rfl
  · obtain ⟨a, p, q, k, rfl, ha, h1, kk⟩ := h
    refine ⟨_, pss_cons (ps_asg (pv 0) (pg_tup (by rfl) (pgs_cons (pg_name (i := 2) scHalves.nd rfl (.inl rfl)) (pgs_cons (pg_name (i := 3) scHalves.nd rfl (.inl rfl)) pgs_nil))))
      (pss_one (ps_ret (pe_cmpR op_ge (pe_op op_add (pv 2) (pv 1)) (pe_op op_mul pe_int (pv 3)) (nomark _)))), ?_⟩
    refine ⟨_, rfl, a, _, rfl, SqT.of ha, rfl, _, _, rfl, _, _, rfl, rfl, ?_⟩
    refine ⟨_, rfl, _, rfl, _, _, rfl, rfl, _, rfl, _, _, rfl, rfl, .inl ⟨by decide, by decide⟩, _, _, rfl, rfl, ?_⟩
    show Q (.bl (decide (2 * q ≤ p + k))) H
    rw [decide_eq_true h1]
    exact kk
theorem scNeedH : FnScope ["times", "plus", "over", "under"] ["times", "plus"] (defScope sNeedH) := ⟨rfl, rfl, rfl, by decide +kernel, rfl, by decide +kernel, by decide +kernel⟩
theorem ok_needH {f : Addr} {fd : FuncData} (F : Fun K "need_halves" "need_halves" sNeedH f fd) (D : Df P w K mg base 1 "has_halves" ["times", "plus"] (spHalves K)) : FnOk P w K mg base CX0 2 f fd ["times", "plus"] (spNeedH K) := by
  obtain ⟨f1, fd1, G1, g1, k1, b1⟩ := D.ex
  refine F.ok scNeedH (fun vs H Q E h => ?_) (fun cdv A outer s H vs Q E hr h => ?_)
  · obtain ⟨a, p, q, k, rfl, _⟩ := h
    rfl
  · obtain ⟨a, p, q, k, rfl, ha, h0, h1, kk⟩ := h
    refine ⟨_, pss_cons (ps_asg (pv 0) (pg_tup (by rfl) (pgs_cons (pg_name (i := 2) scNeedH.nd rfl (.inl rfl)) (pgs_cons (pg_name (i := 3) scNeedH.nd rfl (.inl rfl)) pgs_nil))))
      (pss_cons (ps_if (pt_cmpR op_lt (pe_op op_add (pv 2) (pv 1)) (pv 3) (nomark _)) (pss_one ps_never) pss_nil)
      (pss_one (ps_if (pt_not (pt_val (pe_call G1 hr (by rfl) g1 k1 b1 .nil pass0 (pa_cons (pv 0) (pa_cons (pv 1) pa_nil))))) (pss_one ps_never) pss_nil))), ?_⟩
    refine ⟨_, rfl, a, _, rfl, SqT.of ha, rfl, _, _, rfl, _, _, rfl, rfl, ?_⟩
    refine ⟨_, rfl, _, rfl, _, _, rfl, rfl, _, rfl, _, _, rfl, rfl, _, rfl, ite2 (fun e => ?_) (fun _ => ?_)⟩
    · have := of_decide_eq_true e; omega
    · exact ⟨_, rfl, _, rfl, a, p, q, k, rfl, ha, h1, true, rfl, iteF kk⟩
end
end Ev
namespace Ev
open PySem L2
/-- the part of a rule object that every rule has -/
structure RB (K : PySem.W.Frag) (H : Hp) (r : Addr) (p q k : Int) : Prop where
  ex : ∃ (C dx : Addr) (fs : List (Str × V)) (a : Addr), H r = some (.ins C dx fs) ∧ Cls K C ∧ NoAttr K C "times" ∧ NoAttr K C "plus" ∧ fs.lookup ("times" : Str) = some (.ref a) ∧ fs.lookup ("plus" : Str) = some (.int k) ∧ H a = some (.tup [.int p, .int q])
  b1 : 1 ≤ q
  b2 : q ≤ p
  b3 : p ≤ 6
  b4 : -6 ≤ k
  b5 : k ≤ 6
def tryF (a : Addr) (k : Int) : List (Str × V) := [("times", .ref a), ("plus", .int k)]
def turnF (a : Addr) (k : Int) (b : Addr) (r : Int) : List (Str × V) := [("times", .ref a), ("plus", .int k), ("turn", .ref b), ("turn_plus", .int r)]
def tryT (p q k l i o : Int) (n : Option Int) : Int :=
  if (fairB p q k l i && fairB p q k (l + i) o) = true then 1 else
    match n with
    | none => 1
    | some n => if (decide (1 < i) && (fairB p q k l n && (fairB p q k (i - n) o && fairB p q k (l + n) (i - n + o)))) = true then 2 else 1
def turnT (t s r i o : Int) : Int := if s * i ≤ t * o + r then 1 else if 1 < i then 2 else 0
def spFair (K : PySem.W.Frag) : Sp := fun vs H Q _ => ∃ (r : Addr) (p q k x y : Int), vs = [.ref r, .int x, .int y] ∧ RB K H r p q k ∧ Q (.bl (fairB p q k x y)) H
def spGreatest (K : PySem.W.Frag) : Sp := fun vs H Q _ => ∃ (r : Addr) (p q k x : Int), vs = [.ref r, .int x] ∧ RB K H r p q k ∧ 1 ≤ x ∧ x ≤ 10 ^ 60 ∧ Q (.int ((p * x + k).fdiv q)) H
def spTwice (K : PySem.W.Frag) : Sp := fun vs H Q _ => ∃ (r : Addr) (p q k l i o n : Int), vs = [.ref r, .int l, .int i, .int o, .int n] ∧ RB K H r p q k ∧ Q (.bl (fairB p q k l n && (fairB p q k (i - n) o && fairB p q k (l + n) (i - n + o)))) H
def vOpt : Option Int → V
  | none => .non
  | some n => .int n
def spTryTurns (K : PySem.W.Frag) (C : Addr) : Sp := fun vs H Q _ => ∃ (r : Addr) (p q k l i o : Int) (n : Option Int) (dx : Addr) (fs : List (Str × V)), vs = [.ref r, .int l, .int i, .int o, vOpt n] ∧ RB K H r p q k ∧ H r = some (.ins C dx fs) ∧ fs.lookup ("twice_is_fair" : Str) = none ∧ (n = none → i = 1) ∧
  Q (.int (tryT p q k l i o n)) H
def spTurnTurns (K : PySem.W.Frag) (C : Addr) : Sp := fun vs H Q _ => ∃ (r : Addr) (l i o : Int) (n : Option Int) (dx a b : Addr) (k t s c : Int), vs = [.ref r, .int l, .int i, .int o, vOpt n] ∧ H r = some (.ins C dx (turnF a k b c)) ∧ H b = some (.tup [.int t, .int s]) ∧ (1 ≤ t ∧ t ≤ 8) ∧ (1 ≤ s ∧ s ≤ 8) ∧
  Q (.int (turnT t s c i o)) H
section
variable {P : Program} {w : World} {K : PySem.W.Frag} {mg : Str → Option Value} {base : Heap}
theorem m64 {q : Int} (h1 : 1 ≤ q) (h2 : q ≤ 8) : -(2 ^ 64) < q ∧ q < 2 ^ 64 := ⟨by omega, by omega⟩
theorem scFair : FnScope ["rule", "x", "y", "over", "under"] ["rule", "x", "y"] (defScope sFair) := ⟨rfl, rfl, rfl, by decide +kernel, rfl, by decide +kernel, by decide +kernel⟩
theorem ok_fair {f : Addr} {fd : FuncData} (F : Fun K "are_fair" "are_fair" sFair f fd) : FnOk P w K mg base CX0 1 f fd ["rule", "x", "y"] (spFair K) := by
  refine F.ok scFair (fun vs H Q E h => ?_) (fun cdv A outer s H vs Q E hr h => ?_)
  · obtain ⟨r, p, q, k, x, y, rfl, _⟩ := h
    rfl
  · obtain ⟨r, p, q, k, x, y, rfl, ⟨⟨C, dx, fs, a, hr1, cl, n1, n2, l1, l2, ha⟩, b1, b2, b3, b4, b5⟩, kk⟩ := h
    refine ⟨_, pss_cons (ps_asg (pe_fld (pv 0) rfl) (pg_tup (by rfl) (pgs_cons (pg_name (i := 3) scFair.nd rfl (.inl rfl)) (pgs_cons (pg_name (i := 4) scFair.nd rfl (.inl rfl)) pgs_nil))))
      (pss_one (ps_ret (pe_and (pe_cmpR op_le (pe_op op_mul (pv 4) (pv 2)) (pe_op op_add (pe_op op_mul (pv 3) (pv 1)) (pe_fld (pv 0) rfl)) (nomark _))
        (pe_one (pe_cmpR op_le (pe_op op_mul (pv 4) (pv 1)) (pe_op op_add (pe_op op_mul (pv 3) (pv 2)) (pe_fld (pv 0) rfl)) (nomark _)))))), ?_⟩
    have q6 := m64 b1 (show q ≤ 8 by omega)
    have p6 := m64 (show 1 ≤ p by omega) (show p ≤ 8 by omega)
    refine ⟨_, rfl, r, C, dx, fs, _, rfl, hr1, cl, n1, l1, a, _, rfl, SqT.of ha, rfl, _, _, rfl, _, _, rfl, rfl, ?_⟩
    refine ⟨_, rfl, _, rfl, _, _, rfl, rfl, .inl q6, _, rfl, _, rfl, _, _, rfl, rfl, .inl p6, _, rfl, r, C, dx, fs, _, rfl, hr1, cl, n2, l2, _, _, rfl, rfl, _, _, rfl, rfl, _, rfl, ite2 (fun e => ?_) (fun e => ?_)⟩
    · refine ⟨_, rfl, _, rfl, _, _, rfl, rfl, .inl q6, _, rfl, _, rfl, _, _, rfl, rfl, .inl p6, _, rfl, r, C, dx, fs, _, rfl, hr1, cl, n2, l2, _, _, rfl, rfl, _, _, rfl, rfl, ?_⟩
      show Q (.bl (decide (q * x ≤ p * y + k))) H
      rw [show fairB p q k x y = decide (q * x ≤ p * y + k) by unfold fairB; rw [show decide (q * y ≤ p * x + k) = true from e, Bool.true_and]] at kk
      exact kk
    · rw [show fairB p q k x y = false by unfold fairB; rw [show decide (q * y ≤ p * x + k) = false from Bool.eq_false_iff.mpr e, Bool.false_and]] at kk
      exact kk
theorem scTwice : FnScope ["self", "light", "inner", "outer", "near", "far"] ["self", "light", "inner", "outer", "near"] (defScope sTwice) := ⟨rfl, rfl, rfl, by decide +kernel, rfl, by decide +kernel, by decide +kernel⟩
theorem ok_twice {f : Addr} {fd : FuncData} (F : Fun K "twice_is_fair" "TryRule.twice_is_fair" sTwice f fd) (D : Df P w K mg base 1 "are_fair" ["rule", "x", "y"] (spFair K)) : FnOk P w K mg base CX0 2 f fd ["self", "light", "inner", "outer", "near"] (spTwice K) := by
  obtain ⟨f1, fd1, G1, g1, k1, b1⟩ := D.ex
  refine F.ok scTwice (fun vs H Q E h => ?_) (fun cdv A outer s H vs Q E hr h => ?_)
  · obtain ⟨r, p, q, k, l, i, o, n, rfl, _⟩ := h
    rfl
  · obtain ⟨r, p, q, k, l, i, o, n, rfl, R, kk⟩ := h
    refine ⟨_, pss_cons (ps_set (i := 5) scTwice.nd rfl (.inl rfl) (pe_op op_sub (pv 2) (pv 4)))
      (pss_one (ps_ret (pe_and (pe_call G1 hr (by rfl) g1 k1 b1 .nil pass0 (pa_cons (pv 0) (pa_cons (pv 1) (pa_cons (pv 4) pa_nil))))
        (pe_and (pe_call G1 hr (by rfl) g1 k1 b1 .nil pass0 (pa_cons (pv 0) (pa_cons (pv 5) (pa_cons (pv 3) pa_nil))))
        (pe_one (pe_call G1 hr (by rfl) g1 k1 b1 .nil pass0 (pa_cons (pv 0) (pa_cons (pe_op op_add (pv 1) (pv 4)) (pa_cons (pe_op op_add (pv 5) (pv 3)) pa_nil))))))))), ?_⟩
    refine ⟨_, rfl, _, rfl, _, _, rfl, rfl, _, rfl, _, rfl, _, rfl, r, p, q, k, _, _, rfl, R, _, rfl, ite2 (fun e => ?_) (fun e => ?_)⟩
    · rw [e, Bool.true_and] at kk
      refine ⟨_, rfl, _, rfl, _, rfl, r, p, q, k, _, _, rfl, R, _, rfl, ite2 (fun e => ?_) (fun e => ?_)⟩
      · rw [show fairB p q k (i - n) o = true from e, Bool.true_and] at kk
        exact ⟨_, rfl, _, rfl, _, rfl, _, _, rfl, rfl, _, rfl, _, rfl, _, _, rfl, rfl, r, p, q, k, _, _, rfl, R, kk⟩
      · rw [show fairB p q k (i - n) o = false from Bool.eq_false_iff.mpr e, Bool.false_and] at kk
        exact kk
    · rw [Bool.eq_false_iff.mpr e, Bool.false_and] at kk
      exact kk
end
end Ev
namespace Ev
open PySem L2 PySem.Spec PyProof.Rows
abbrev sGreatB : Stmt := top 32
def spGreatB (K : PySem.W.Frag) : Sp := fun vs H Q _ => ∃ (r : Addr) (p q k x : Int), vs = [.ref r, .int x] ∧ RB K H r p q k ∧ Q (.int ((p * x + k).fdiv q)) H
section
variable {X : Cx}
theorem pe_or {e : Expr} {t t' : TE} (h : PE X e t) (h' : PE X e t') : PE X e (fun σ H Q => t σ H Q ∨ t' σ H Q) :=
  ⟨fun pins s σ H Q I q => q.elim (h.run pins s σ H Q I) (h'.run pins s σ H Q I)⟩
/-- o.m(k = v, ..): keywords alone -/
def tMethK (C : Addr) (m : Str) (sp : Sp) (gV : List V → List V → List V) (E : XK) (ta : TE) (tk : TA) : TE := fun σ H Q => ta σ H fun x H1 => ∃ a dx fs, x = .ref a ∧ H1 a = some (.ins C dx fs) ∧ fs.lookup m = none ∧
  tk σ H1 fun zs H2 => sp (gV [x] zs) H2 Q E
theorem pe_methK0 {CX : CXT} {k : Nat} {f C : Addr} {fd : FuncData} {ps ks : List Str} {sp : Sp} {E : XK} {o : Expr} {m : Str} {pos : Pos} {apos : Pos} {kws : List Keyword} {ta : TE} {tk : TA} {g : List Value → List Value → List Value} {gV : List V → List V → List V} {pl : Sem Bool}
    (he : PE X o ta) (c : Cls X.K C) (hm : Meth X.K C m f) (F : FnOk X.prog X.w X.K X.mg X.base CX k f fd ps sp) (hr : Room k X.A) (hb : KBinds X.K fd ps ks g gV) (hx : Passes CX X E) (hkw : PK X kws tk)
    (hall : (backToKw pos (keywordEach kws X.env)).all (·.1.isSome) = true := by rfl) (hks : (backToKw pos (keywordEach kws X.env)).filterMap (·.1) = ks := by rfl)
    (hpl : ((backTo pos (starEach [] X.env)).any (·.1) || (backToKw pos (keywordEach kws X.env)).any (·.1.isNone)) = false := by rfl)
    (ht : eval (.Call (.Attribute o m apos) [] kws pos) X.env = (do
      let ov ← eval o X.env
      standAt apos.atName
      let (f, first) ← holding [ov] (getMethod ov m pl)
      callWith pos f first (backTo pos (starEach [] X.env)) (backToKw pos (keywordEach kws X.env))) := by rfl) :
    PE X (.Call (.Attribute o m apos) [] kws pos) (tMethK C m sp gV E ta tk) := by
  refine ⟨fun pins s σ H Q I h => ?_⟩
  refine PySem.W.methodCall_KW (pl := pl) (thn (he.run pins s σ H _ I h) fun u s1 ⟨x, H1, I1, rx, a, dx, fs, ex, ea, l, q⟩ => ?_) ht
  subst ex
  obtain rfl : u = Value.ref a := rx
  refine getmeth_ok I1 ea c hm l ?_
  refine PySem.W.callWith_KW0 (first := [.ref a]) (h₀ := X.base) I.ok.mod.kin hm.kp hall ?_ hpl
  refine thn (hkw.run pos pins s1 σ H1 _ I1 q) fun ws s2 ⟨zs, H2, I2, rz, q2⟩ => ⟨I2.kIn, ?_⟩
  rw [hks]
  exact run_fnk (us := [.ref a]) (vs := [.ref a]) F hr hb hx I2 (.cons rfl .nil) rz q2
end
section
variable {P : Program} {w : World} {K : PySem.W.Frag} {mg : Str → Option Value} {base : Heap}
theorem scGreatB : FnScope ["rule", "x", "over", "under"] ["rule", "x"] (defScope sGreatB) := ⟨rfl, rfl, rfl, by decide +kernel, rfl, by decide +kernel, by decide +kernel⟩
theorem ok_greatB {f : Addr} {fd : FuncData} (F : Fun K "greatest_beside" "greatest_beside" sGreatB f fd) : FnOk P w K mg base CX0 1 f fd ["rule", "x"] (spGreatB K) := by
  refine F.ok scGreatB (fun vs H Q E h => ?_) (fun cdv A outer s H vs Q E hr h => ?_)
  · obtain ⟨r, p, q, k, x, rfl, _⟩ := h
    rfl
  · obtain ⟨r, p, q, k, x, rfl, ⟨⟨C, dx, fs, a, hr1, cl, n1, n2, l1, l2, ha⟩, b1, b2, b3, b4, b5⟩, kk⟩ := h
    refine ⟨_, pss_cons (ps_asg (pe_fld (pv 0) rfl) (pg_tup (by rfl) (pgs_cons (pg_name (i := 2) scGreatB.nd rfl (.inl rfl)) (pgs_cons (pg_name (i := 3) scGreatB.nd rfl (.inl rfl)) pgs_nil))))
      (pss_one (ps_ret (pe_op op_fdivN (pe_op op_add (pe_op op_mul (pv 2) (pv 1)) (pe_fld (pv 0) rfl)) (pv 3)))), ?_⟩
    have p6 := m64 (show 1 ≤ p by omega) (show p ≤ 8 by omega)
    refine ⟨_, rfl, r, C, dx, fs, _, rfl, hr1, cl, n1, l1, a, _, rfl, SqT.of ha, rfl, _, _, rfl, _, _, rfl, rfl, ?_⟩
    exact ⟨_, rfl, _, rfl, _, _, rfl, rfl, .inl p6, _, rfl, r, C, dx, fs, _, rfl, hr1, cl, n2, l2, _, _, rfl, rfl, _, rfl, _, _, rfl, rfl, ⟨by omega, by omega⟩, kk⟩
theorem scGreatest : FnScope ["self", "x"] ["self", "x"] (defScope sGreatest) := ⟨rfl, rfl, rfl, by decide +kernel, rfl, by decide +kernel, by decide +kernel⟩
theorem ok_greatest {f : Addr} {fd : FuncData} (F : Fun K "greatest" "WeightRule.greatest" sGreatest f fd) (D : Df P w K mg base 3 "need_weight" ["value"] spNeedW) (DB : Df P w K mg base 1 "greatest_beside" ["rule", "x"] (spGreatB K)) : FnOk P w K mg base CX0 4 f fd ["self", "x"] (spGreatest K) := by
  obtain ⟨f1, fd1, G1, g1, k1, bb1⟩ := D.ex
  obtain ⟨f2, fd2, G2, g2, k2, bb2⟩ := DB.ex
  refine F.ok scGreatest (fun vs H Q E h => ?_) (fun cdv A outer s H vs Q E hr h => ?_)
  · obtain ⟨r, p, q, k, x, rfl, _⟩ := h
    rfl
  · obtain ⟨r, p, q, k, x, rfl, rb, x1, x2, kk⟩ := h
    refine ⟨_, pss_cons (ps_expr (pe_call G1 hr (by rfl) g1 k1 bb1 .nil pass0 (pa_cons (pv 1) pa_nil)))
      (pss_one (ps_ret (pe_call G2 (hr.mono (by decide)) (by rfl) g2 k2 bb2 .nil pass0 (pa_cons (pv 0) (pa_cons (pv 1) pa_nil))))), ?_⟩
    exact ⟨_, rfl, x, rfl, x1, x2, _, rfl, _, rfl, r, p, q, k, x, rfl, rb, kk⟩
def tryN (p q k l i o : Int) : Option Int → Int
  | none => 1
  | some n => if (decide (1 < i) && (fairB p q k l n && (fairB p q k (i - n) o && fairB p q k (l + n) (i - n + o)))) = true then 2 else 1
theorem tryT_eq (p q k l i o : Int) (n : Option Int) : tryT p q k l i o n = if (fairB p q k l i && fairB p q k (l + i) o) = true then 1 else tryN p q k l i o n := by
  unfold tryT tryN
  cases n <;> rfl
theorem scTryTurns : FnScope ["self", "light", "inner", "outer", "near"] ["self", "light", "inner", "outer", "near"] (defScope sTryTurns) := ⟨rfl, rfl, rfl, by decide +kernel, rfl, by decide +kernel, by decide +kernel⟩
theorem ok_tryTurns {f f2 C : Addr} {fd fd2 : FuncData} (F : Fun K "turns" "TryRule.turns" sTryTurns f fd) (D : Df P w K mg base 1 "are_fair" ["rule", "x", "y"] (spFair K)) (cl : Cls K C) (G2 : FnOk P w K mg base CX0 2 f2 fd2 ["self", "light", "inner", "outer", "near"] (spTwice K))
    (b2 : Binds K fd2 ["self", "light", "inner", "outer", "near"] []) (m2 : Meth K C "twice_is_fair" f2) : FnOk P w K mg base CX0 3 f fd ["self", "light", "inner", "outer", "near"] (spTryTurns K C) := by
  obtain ⟨f1, fd1, G1, g1, k1, bb1⟩ := D.ex
  refine F.ok scTryTurns (fun vs H Q E h => ?_) (fun cdv A outer s H vs Q E hr h => ?_)
  · obtain ⟨r, p, q, k, l, i, o, n, dx, fs, rfl, _⟩ := h
    rfl
  · obtain ⟨r, p, q, k, l, i, o, n, dx, fs, rfl, R, hr0, hno, hn, kk⟩ := h
    have hr1 : Room 1 _ := hr.mono (by decide)
    refine ⟨_, pss_cons (ps_if (PW.pt (pw_and (pt_val (pe_call G1 hr1 (by rfl) g1 k1 bb1 .nil pass0 (pa_cons (pv 0) (pa_cons (pv 1) (pa_cons (pv 2) pa_nil)))))
        (pw_and1 (pt_val (pe_call G1 hr1 (by rfl) g1 k1 bb1 .nil pass0 (pa_cons (pv 0) (pa_cons (pe_op op_add (pv 1) (pv 2)) (pa_cons (pv 3) pa_nil)))))))) (pss_one (ps_ret pe_int)) pss_nil)
      (pss_one (ps_ret (pe_ifExp (PW.pt (pw_and (pt_cmpR op_gt (pv 2) pe_int (nomark _))
        (pw_and1 (pt_val (pe_meth (pv 0) cl m2 G2 hr b2 .nil pass0 (pa_cons (pv 1) (pa_cons (pv 2) (pa_cons (pv 3) (pa_cons (pv 4) pa_nil))))))))) pe_int pe_int))), ?_⟩
    refine ⟨_, rfl, _, rfl, _, rfl, r, p, q, k, _, _, rfl, R, _, rfl, ite2 (fun e => ?_) (fun e => ?_)⟩
    · refine ⟨_, rfl, _, rfl, _, rfl, _, _, rfl, rfl, _, rfl, r, p, q, k, _, _, rfl, R, _, rfl, ite2 (fun e2 => ?_) (fun e2 => ?_)⟩
      · rw [tryT_eq, if_pos (by rw [Bool.and_eq_true]; exact ⟨e, e2⟩)] at kk
        exact kk
      · rw [tryT_eq, if_neg (by rw [Bool.and_eq_true]; exact fun z => e2 z.2)] at kk
        refine ⟨_, rfl, _, _, rfl, rfl, _, rfl, ite2 (fun g => ?_) (fun g => ?_)⟩
        · cases n with
          | none =>
            have := hn rfl
            have g := of_decide_eq_true g
            omega
          | some n =>
            refine ⟨_, rfl, r, dx, fs, rfl, hr0, hno, _, rfl, _, rfl, _, rfl, _, rfl, r, p, q, k, _, _, _, _, rfl, R, _, rfl, ite2 (fun g2 => ?_) (fun g2 => ?_)⟩
            · have kk : Q (.int (if (decide (1 < i) && (fairB p q k l n && (fairB p q k (i - n) o && fairB p q k (l + n) (i - n + o)))) = true then 2 else 1)) H := kk
              rw [if_pos (by rw [Bool.and_eq_true]; exact ⟨g, g2⟩)] at kk
              exact kk
            · have kk : Q (.int (if (decide (1 < i) && (fairB p q k l n && (fairB p q k (i - n) o && fairB p q k (l + n) (i - n + o)))) = true then 2 else 1)) H := kk
              rw [if_neg (by rw [Bool.and_eq_true]; exact fun z => g2 z.2)] at kk
              exact kk
        · cases n with
          | none => exact kk
          | some n =>
            have kk : Q (.int (if (decide (1 < i) && (fairB p q k l n && (fairB p q k (i - n) o && fairB p q k (l + n) (i - n + o)))) = true then 2 else 1)) H := kk
            rw [if_neg (by rw [Bool.and_eq_true]; exact fun z => g z.1)] at kk
            exact kk
    · rw [tryT_eq, if_neg (by rw [Bool.and_eq_true]; exact fun z => e z.1)] at kk
      refine ⟨_, rfl, _, _, rfl, rfl, _, rfl, ite2 (fun g => ?_) (fun g => ?_)⟩
      · cases n with
        | none =>
          have := hn rfl
          have g := of_decide_eq_true g
          omega
        | some n =>
          refine ⟨_, rfl, r, dx, fs, rfl, hr0, hno, _, rfl, _, rfl, _, rfl, _, rfl, r, p, q, k, _, _, _, _, rfl, R, _, rfl, ite2 (fun g2 => ?_) (fun g2 => ?_)⟩
          · have kk : Q (.int (if (decide (1 < i) && (fairB p q k l n && (fairB p q k (i - n) o && fairB p q k (l + n) (i - n + o)))) = true then 2 else 1)) H := kk
            rw [if_pos (by rw [Bool.and_eq_true]; exact ⟨g, g2⟩)] at kk
            exact kk
          · have kk : Q (.int (if (decide (1 < i) && (fairB p q k l n && (fairB p q k (i - n) o && fairB p q k (l + n) (i - n + o)))) = true then 2 else 1)) H := kk
            rw [if_neg (by rw [Bool.and_eq_true]; exact fun z => g2 z.2)] at kk
            exact kk
      · cases n with
        | none => exact kk
        | some n =>
          have kk : Q (.int (if (decide (1 < i) && (fairB p q k l n && (fairB p q k (i - n) o && fairB p q k (l + n) (i - n + o)))) = true then 2 else 1)) H := kk
          rw [if_neg (by rw [Bool.and_eq_true]; exact fun z => g z.1)] at kk
          exact kk
end
end Ev
namespace Ev
open PySem L2 PySem.Spec PyProof.Rows
theorem lk_hit {k : Str} {v : V} {l : List (Str × V)} : List.lookup k ((k, v) :: l) = some v := by simp [List.lookup]
theorem lk_miss {k k' : Str} {v : V} {l : List (Str × V)} (h : ¬ k = k') : List.lookup k ((k', v) :: l) = List.lookup k l := by
  have : (k == k') = false := by simpa using h
  simp [List.lookup, this]
theorem try_times (a : Addr) (k : Int) : (tryF a k).lookup ("times" : Str) = some (.ref a) := lk_hit
theorem try_plus (a : Addr) (k : Int) : (tryF a k).lookup ("plus" : Str) = some (.int k) := (lk_miss (by decide +kernel)).trans lk_hit
theorem turn_times (a : Addr) (k : Int) (b : Addr) (c : Int) : (turnF a k b c).lookup ("times" : Str) = some (.ref a) := lk_hit
theorem turn_plus (a : Addr) (k : Int) (b : Addr) (c : Int) : (turnF a k b c).lookup ("plus" : Str) = some (.int k) := (lk_miss (by decide +kernel)).trans lk_hit
theorem turn_turn (a : Addr) (k : Int) (b : Addr) (c : Int) : (turnF a k b c).lookup ("turn" : Str) = some (.ref b) := (lk_miss (by decide +kernel)).trans ((lk_miss (by decide +kernel)).trans lk_hit)
theorem turn_tp (a : Addr) (k : Int) (b : Addr) (c : Int) : (turnF a k b c).lookup ("turn_plus" : Str) = some (.int c) := (lk_miss (by decide +kernel)).trans ((lk_miss (by decide +kernel)).trans ((lk_miss (by decide +kernel)).trans lk_hit))
theorem try_no (a : Addr) (k : Int) {m : Str} (h1 : ¬ m = "times") (h2 : ¬ m = "plus") : (tryF a k).lookup m = none := (lk_miss h1).trans ((lk_miss h2).trans rfl)
theorem turn_no (a : Addr) (k : Int) (b : Addr) (c : Int) {m : Str} (h1 : ¬ m = "times") (h2 : ¬ m = "plus") (h3 : ¬ m = "turn") (h4 : ¬ m = "turn_plus") : (turnF a k b c).lookup m = none := (lk_miss h1).trans ((lk_miss h2).trans ((lk_miss h3).trans ((lk_miss h4).trans rfl)))
theorem put_try (a : Addr) (k : Int) : putF "plus" (.int k) (putF "times" (.ref a) []) = tryF a k := by
  show (if ("times" : Str) = "plus" then _ else _) = _
  rw [if_neg (by decide +kernel)]
  rfl
theorem put_turn1 (a : Addr) (k : Int) (b : Addr) : putF "turn" (V.ref b) (tryF a k) = ([("times", V.ref a), ("plus", V.int k), ("turn", V.ref b)] : List (Str × V)) := by
  show (if ("times" : Str) = "turn" then _ else _ :: (if ("plus" : Str) = "turn" then _ else _)) = _
  rw [if_neg (by decide +kernel), if_neg (by decide +kernel)]
  rfl
theorem put_turn2 (a : Addr) (k : Int) (b : Addr) (c : Int) : putF "turn_plus" (.int c) (putF "turn" (.ref b) (tryF a k)) = turnF a k b c := by
  rw [put_turn1]
  show (if ("times" : Str) = "turn_plus" then _ else _ :: (if ("plus" : Str) = "turn_plus" then _ else _ :: (if ("turn" : Str) = "turn_plus" then _ else _))) = _
  rw [if_neg (by decide +kernel), if_neg (by decide +kernel), if_neg (by decide +kernel)]
  rfl
/-- a class of rules -/
structure RCls (K : PySem.W.Frag) (C : Addr) : Prop where
  cl : Cls K C
  n1 : NoAttr K C "times"
  n2 : NoAttr K C "plus"
  n3 : NoAttr K C "turn"
  n4 : NoAttr K C "turn_plus"
def spTryInit (C : Addr) : Sp := fun vs H Q _ => ∃ (x dx a : Addr) (p q k : Int), vs = [.ref x, .ref a, .int k] ∧ H x = some (.ins C dx []) ∧ H a = some (.tup [.int p, .int q]) ∧ 1 ≤ q ∧ q ≤ p ∧ p ≤ 6 ∧ -6 ≤ k ∧ k ≤ 6 ∧ 2 * q ≤ p + k ∧
  ∀ H', But x H H' → H' x = some (.ins C dx (tryF a k)) → Q .non H'
def spTurnInit (C : Addr) : Sp := fun vs H Q _ => ∃ (x dx a b : Addr) (p q k t s c : Int), vs = [.ref x, .ref a, .int k, .ref b, .int c] ∧ H x = some (.ins C dx []) ∧ H a = some (.tup [.int p, .int q]) ∧ H b = some (.tup [.int t, .int s]) ∧
  1 ≤ q ∧ q ≤ p ∧ p ≤ 6 ∧ -6 ≤ k ∧ k ≤ 6 ∧ 2 * q ≤ p + k ∧ (1 ≤ t ∧ t ≤ 8) ∧ (1 ≤ s ∧ s ≤ 8) ∧ -6 ≤ c ∧ c ≤ 6 ∧ ∀ H', But x H H' → H' x = some (.ins C dx (turnF a k b c)) → Q .non H'
section
variable {P : Program} {w : World} {K : PySem.W.Frag} {mg : Str → Option Value} {base : Heap}
theorem scTurnTurns : FnScope ["self", "light", "inner", "outer", "near", "over", "under"] ["self", "light", "inner", "outer", "near"] (defScope sTurnTurns) := ⟨rfl, rfl, rfl, by decide +kernel, rfl, by decide +kernel, by decide +kernel⟩
theorem ok_turnTurns {f C : Addr} {fd : FuncData} (F : Fun K "turns" "TurnRule.turns" sTurnTurns f fd) (T : RCls K C) : FnOk P w K mg base CX0 1 f fd ["self", "light", "inner", "outer", "near"] (spTurnTurns K C) := by
  refine F.ok scTurnTurns (fun vs H Q E h => ?_) (fun cdv A outer s H vs Q E hr h => ?_)
  · obtain ⟨r, l, i, o, n, dx, a, b, k, t, s, c, rfl, _⟩ := h
    rfl
  · obtain ⟨r, l, i, o, n, dx, a, b, k, t, s, c, rfl, hr0, hb, ht, hs, kk⟩ := h
    refine ⟨_, pss_cons (ps_asg (pe_fld (pv 0) rfl) (pg_tup (by rfl) (pgs_cons (pg_name (i := 5) scTurnTurns.nd rfl (.inl rfl)) (pgs_cons (pg_name (i := 6) scTurnTurns.nd rfl (.inl rfl)) pgs_nil))))
      (pss_cons (ps_if (pt_cmpR op_le (pe_op op_mul (pv 6) (pv 2)) (pe_op op_add (pe_op op_mul (pv 5) (pv 3)) (pe_fld (pv 0) rfl)) (nomark _)) (pss_one (ps_ret pe_int)) pss_nil)
      (pss_one (ps_ret (pe_ifExp (pt_cmpR op_gt (pv 2) pe_int (nomark _)) pe_int pe_int)))), ?_⟩
    refine ⟨_, rfl, r, C, dx, _, _, rfl, hr0, T.cl, T.n3, turn_turn a k b c, b, _, rfl, SqT.of hb, rfl, _, _, rfl, _, _, rfl, rfl, ?_⟩
    refine ⟨_, rfl, _, rfl, _, _, rfl, rfl, .inl (m64 hs.1 hs.2), _, rfl, _, rfl, _, _, rfl, rfl, .inl (m64 ht.1 ht.2), _, rfl, r, C, dx, _, _, rfl, hr0, T.cl, T.n4, turn_tp a k b c, _, _, rfl, rfl, _, _, rfl, rfl, _, rfl, ite2 (fun e => ?_) (fun e => ?_)⟩
    · unfold turnT at kk
      rw [if_pos (of_decide_eq_true e)] at kk
      exact kk
    · unfold turnT at kk
      rw [if_neg (fun z => e (decide_eq_true z))] at kk
      refine ⟨_, rfl, _, _, rfl, rfl, _, rfl, ite2 (fun g => ?_) (fun g => ?_)⟩
      · rw [if_pos (of_decide_eq_true g)] at kk
        exact kk
      · rw [if_neg (fun z => g (decide_eq_true z))] at kk
        exact kk
theorem scTryInit : FnScope ["self", "times", "plus"] ["self", "times", "plus"] (defScope sTryInit) := ⟨rfl, rfl, rfl, by decide +kernel, rfl, by decide +kernel, by decide +kernel⟩
theorem ok_tryInit {f C : Addr} {fd : FuncData} {dvs : List V} {kws : List (Str × V)} (F : FunD K "__init__" "TryRule.__init__" (defArgs sTryInit) (defBody sTryInit) (defScope sTryInit) dvs kws f fd) (T : RCls K C) (D1 : Df P w K mg base 5 "need_times" ["times", "plus"] (spNeedT K))
    (D2 : Df P w K mg base 2 "need_halves" ["times", "plus"] (spNeedH K)) : FnOk P w K mg base CX0 6 f fd ["self", "times", "plus"] (spTryInit C) := by
  obtain ⟨f1, fd1, G1, g1, k1, bb1⟩ := D1.ex
  obtain ⟨f2, fd2, G2, g2, k2, bb2⟩ := D2.ex
  refine F.ok scTryInit (fun vs H Q E h => ?_) (fun cdv A outer s H vs Q E hr h => ?_)
  · obtain ⟨x, dx, a, p, q, k, rfl, _⟩ := h
    rfl
  · obtain ⟨x, dx, a, p, q, k, rfl, hx, ha, h1, h2, h3, h4, h5, h6, kk⟩ := h
    refine ⟨_, PSs.nox (pss_cons (ps_expr (pe_call G1 hr (by rfl) g1 k1 bb1 .nil pass0 (pa_cons (pv 1) (pa_cons (pv 2) pa_nil))))
      (pss_cons (ps_expr (pe_call G2 (hr.mono (by decide)) (by rfl) g2 k2 bb2 .nil pass0 (pa_cons (pv 1) (pa_cons (pv 2) pa_nil))))
      (pss_cons (ps_fld (pv 0) (pv 1) rfl) (pss_one (ps_fld (pv 0) (pv 2) rfl))))), ?_⟩
    refine ⟨_, rfl, _, rfl, a, p, q, k, rfl, ha, h1, h2, h3, h4, h5, fun H1 s1 => ?_⟩
    refine ⟨_, rfl, _, rfl, a, p, q, k, rfl, s1 _ _ ha, by omega, h6, ?_⟩
    refine ⟨_, rfl, _, rfl, x, C, dx, _, rfl, s1 _ _ hx, T.cl, T.n1, (by show 0 < 1000; decide), _, rfl, _, rfl, x, C, dx, _, rfl, upd_same, T.cl, T.n2, (by show 1 < 1000; decide), ?_⟩
    refine kk _ ((Same.but s1).trans (But.upd_at.trans But.upd_at)) ?_
    rw [upd_same, put_try]
theorem scTurnInit : FnScope ["self", "times", "plus", "turn", "turn_plus"] ["self", "times", "plus", "turn", "turn_plus"] (defScope sTurnInit) := ⟨rfl, rfl, rfl, by decide +kernel, rfl, by decide +kernel, by decide +kernel⟩
theorem ok_turnInit {f C : Addr} {fd : FuncData} {dvs : List V} {kws : List (Str × V)} (F : FunD K "__init__" "TurnRule.__init__" (defArgs sTurnInit) (defBody sTurnInit) (defScope sTurnInit) dvs kws f fd) (T : RCls K C) (D1 : Df P w K mg base 5 "need_times" ["times", "plus"] (spNeedT K))
    (D2 : Df P w K mg base 2 "need_halves" ["times", "plus"] (spNeedH K)) (D3 : Df P w K mg base 4 "is_turn" ["value"] (spTurn K)) (D4 : Df P w K mg base 3 "is_plus" ["value"] spPlus) : FnOk P w K mg base CX0 6 f fd ["self", "times", "plus", "turn", "turn_plus"] (spTurnInit C) := by
  obtain ⟨f1, fd1, G1, g1, k1, bb1⟩ := D1.ex
  obtain ⟨f2, fd2, G2, g2, k2, bb2⟩ := D2.ex
  obtain ⟨f3, fd3, G3, g3, k3, bb3⟩ := D3.ex
  obtain ⟨f4, fd4, G4, g4, k4, bb4⟩ := D4.ex
  refine F.ok scTurnInit (fun vs H Q E h => ?_) (fun cdv A outer s H vs Q E hr h => ?_)
  · obtain ⟨x, dx, a, b, p, q, k, t, s, c, rfl, _⟩ := h
    rfl
  · obtain ⟨x, dx, a, b, p, q, k, t, s, c, rfl, hx, ha, hb, h1, h2, h3, h4, h5, h6, h7, h8, h9, h10, kk⟩ := h
    refine ⟨_, PSs.nox (pss_cons (ps_expr (pe_call G1 hr (by rfl) g1 k1 bb1 .nil pass0 (pa_cons (pv 1) (pa_cons (pv 2) pa_nil))))
      (pss_cons (ps_if (pt_not (pt_val (pe_call G3 (hr.mono (by decide)) (by rfl) g3 k3 bb3 .nil pass0 (pa_cons (pv 3) pa_nil)))) (pss_one ps_never) pss_nil)
      (pss_cons (ps_if (pt_not (pt_val (pe_call G4 (hr.mono (by decide)) (by rfl) g4 k4 bb4 .nil pass0 (pa_cons (pv 4) pa_nil)))) (pss_one ps_never) pss_nil)
      (pss_cons (ps_expr (pe_call G2 (hr.mono (by decide)) (by rfl) g2 k2 bb2 .nil pass0 (pa_cons (pv 1) (pa_cons (pv 2) pa_nil))))
      (pss_cons (ps_fld (pv 0) (pv 1) rfl) (pss_cons (ps_fld (pv 0) (pv 2) rfl) (pss_cons (ps_fld (pv 0) (pv 3) rfl) (pss_one (ps_fld (pv 0) (pv 4) rfl))))))))), ?_⟩
    refine ⟨_, rfl, _, rfl, a, p, q, k, rfl, ha, h1, h2, h3, h4, h5, fun H1 s1 => ?_⟩
    refine ⟨_, rfl, b, t, s, rfl, s1 _ _ hb, h7, h8, fun H2 s2 => ⟨true, rfl, iteF ?_⟩⟩
    refine ⟨_, rfl, c, rfl, h9, h10, true, rfl, iteF ?_⟩
    have s3 := s1.trans s2
    refine ⟨_, rfl, _, rfl, a, p, q, k, rfl, s3 _ _ ha, by omega, h6, ?_⟩
    refine ⟨_, rfl, _, rfl, x, C, dx, _, rfl, s3 _ _ hx, T.cl, T.n1, (by show 0 < 1000; decide), _, rfl, _, rfl, x, C, dx, _, rfl, upd_same, T.cl, T.n2, (by show 1 < 1000; decide), ?_⟩
    refine ⟨_, rfl, _, rfl, x, C, dx, _, rfl, upd_same, T.cl, T.n3, (by rw [put_try]; show 2 < 1000; decide), _, rfl, _, rfl, x, C, dx, _, rfl, upd_same, T.cl, T.n4, (by rw [put_try, put_turn1]; show 3 < 1000; decide), ?_⟩
    refine kk _ ((Same.but s3).trans (But.upd_at.trans (But.upd_at.trans (But.upd_at.trans But.upd_at)))) ?_
    rw [upd_same, put_try, put_turn2]
end
end Ev
namespace Ev
open PySem L2 PySem.Spec PyProof.Rows
abbrev sKept : Stmt := top 1
abbrev sParts : Stmt := top 4
theorem same_new {H : Hp} {q : Addr} {o : HO} (n : H q = none) : Same H (upd H q o) := fun b u e => by rw [upd_ne (ne_of_none e n)]; exact e
section
variable {X : Cx}
theorem pe_never {e : Expr} : PE X e (fun _ _ _ => False) := ⟨fun _ _ _ _ _ _ h => h.elim⟩
end
/-- v is a value of the built-in type T, one that holds nothing -/
structure Flat (v : V) (T : String) : Prop where
  ty : ∀ (K : PySem.W.Frag) (H : Hp), TyX K H v (.type T)
  l : kitB T "list" = some false
  t : kitB T "tuple" = some false
  d : kitB T "dict" = some false
theorem flat_int (i : Int) : Flat (.int i) "int" := ⟨fun _ _ => .base (.int i), by decide +kernel, by decide +kernel, by decide +kernel⟩
theorem flat_str (x : Str) : Flat (.str x) "str" := ⟨fun _ _ => .base (.str x), by decide +kernel, by decide +kernel, by decide +kernel⟩
theorem kit2 {K : PySem.W.Frag} {T a b : String} (h1 : kitB T a = some false) (h2 : kitB T b = some false) : PySem.W.kitAny K (.type T) [.type a, .type b] = some false :=
  kitAny_cons (kit_ty h1) (fun _ => kitAny_cons (kit_ty h2) (fun _ => kitAny_nil) (fun z => by cases z)) (fun z => by cases z)
def spParts : Sp := fun vs H Q _ => ∃ (v : V) (T : String), vs = [v] ∧ Flat v T ∧ ∀ (p : Addr) (H' : Hp), H p = none → Same H H' → H' p = some (.lst []) → Q (.ref p) H'
def spKept : Sp := fun vs H Q _ => ∃ (v : V) (T : String), vs = [v] ∧ Flat v T ∧ ∀ (H' : Hp), Same H H' → Q v H'
section
variable {P : Program} {w : World} {K : PySem.W.Frag} {mg : Str → Option Value} {base : Heap}
theorem scParts : FnScope ["value"] ["value"] (defScope sParts) := ⟨rfl, rfl, rfl, by decide +kernel, rfl, by decide +kernel, by decide +kernel⟩
theorem ok_parts {f : Addr} {fd : FuncData} (F : Fun K "parts_of" "parts_of" sParts f fd) (T : Blt mg) (md : mg "dict" = none) : FnOk P w K mg base CX0 1 f fd ["value"] spParts := by
  refine F.ok scParts (fun vs H Q E h => ?_) (fun cdv A outer s H vs Q E hr h => ?_)
  · obtain ⟨v, TT, rfl, _⟩ := h
    rfl
  · obtain ⟨v, TT, rfl, fl, kk⟩ := h
    refine ⟨_, pss_cons (ps_if (pt_val (pe_callB call_isiT (by rfl) T.isi (by decide +kernel) (pa_cons (pv 0) (pa_cons (pe_tup (pa_cons (pe_bltn (v := .ty "list") (by rfl) T.list (by decide +kernel) rfl) (pa_cons (pe_bltn (v := .ty "tuple") (by rfl) T.tuple (by decide +kernel) rfl) pa_nil))) pa_nil)))) (pss_one ps_never) pss_nil)
      (pss_one (ps_ret (pe_ifExp (pt_val (pe_callB call_isi (by rfl) T.isi (by decide +kernel) (pa_cons (pv 0) (pa_cons (pe_bltn (v := .ty "dict") (by rfl) md (by decide +kernel) rfl) pa_nil)))) pe_never (pe_lst pa_nil)))), ?_⟩
    refine ⟨_, rfl, (by show 2 ≤ sizeLine; decide), fun tp ntp => ⟨v, tp, _, _, _, false, rfl, upd_same, .cons (.ty _) (.cons (.ty _) .nil), fl.ty _ _, kit2 fl.l fl.t, _, rfl, iteF ?_⟩⟩
    refine ⟨_, rfl, v, _, _, _, false, rfl, .ty _, fl.ty _ _, kit_ty fl.d, _, rfl, iteF ⟨(by show 0 ≤ sizeLine; decide), fun p np => ?_⟩⟩
    refine kk p _ ?_ (fun b o e => ?_) upd_same
    · cases e : H p with
      | none => rfl
      | some o => rw [upd_ne (ne_of_none e ntp), e] at np; cases np
    · have e1 : upd H tp (.tup [.ty "list", .ty "tuple"]) b = some o := by rw [upd_ne (ne_of_none e ntp)]; exact e
      rw [upd_ne (ne_of_none e1 np)]; exact e1
theorem kit3 {K : PySem.W.Frag} {T a b c : String} (h1 : kitB T a = some false) (h2 : kitB T b = some false) (h3 : kitB T c = some false) : PySem.W.kitAny K (.type T) [.type a, .type b, .type c] = some false :=
  kitAny_cons (kit_ty h1) (fun _ => kitAny_cons (kit_ty h2) (fun _ => kitAny_cons (kit_ty h3) (fun _ => kitAny_nil) (fun z => by cases z)) (fun z => by cases z)) (fun z => by cases z)
theorem scKept : FnScope ["value"] ["value"] (defScope sKept) := ⟨rfl, rfl, rfl, by decide +kernel, rfl, by decide +kernel, by decide +kernel⟩
theorem ok_kept {f : Addr} {fd : FuncData} (F : Fun K "kept" "kept" sKept f fd) (T : Blt mg) (md : mg "dict" = none) (ma : mg "any" = none) (D : Df P w K mg base 1 "parts_of" ["value"] spParts) : FnOk P w K mg base CX0 2 f fd ["value"] spKept := by
  refine F.ok scKept (fun vs H Q E h => ?_) (fun cdv A outer s H vs Q E hr h => ?_)
  · obtain ⟨v, TT, rfl, _⟩ := h
    rfl
  · obtain ⟨v, TT, rfl, fl, kk⟩ := h
    refine ⟨_, pss_cons (ps_if (pt_not (pt_val (pe_callB call_isiT (by rfl) T.isi (by decide +kernel) (pa_cons (pv 0) (pa_cons (pe_tup (pa_cons (pe_bltn (v := .ty "list") (by rfl) T.list (by decide +kernel) rfl) (pa_cons (pe_bltn (v := .ty "tuple") (by rfl) T.tuple (by decide +kernel) rfl) (pa_cons (pe_bltn (v := .ty "dict") (by rfl) md (by decide +kernel) rfl) pa_nil)))) pa_nil))))) (pss_one (ps_ret (pv 0))) pss_nil)
      (pss_cons ps_never (pss_one ps_never)), ?_⟩
    refine ⟨_, rfl, (by show 3 ≤ sizeLine; decide), fun tp ntp => ⟨v, tp, _, _, _, false, rfl, upd_same, .cons (.ty _) (.cons (.ty _) (.cons (.ty _) .nil)), fl.ty _ _, kit3 fl.l fl.t fl.d, _, rfl, iteT ⟨_, rfl, ?_⟩⟩⟩
    exact kk _ (fun b u e => by rw [upd_ne (ne_of_none e ntp)]; exact e)
end
end Ev
namespace Ev
open PySem L2 PySem.Spec PyProof.Rows
/-! Promises of defs that are called while no repr is under way (so what they make can be shown). -/
structure FnG (P : Program) (w : World) (K : PySem.W.Frag) (mg : Str → Option Value) (base : Heap) (k : Nat) (f : Addr)
    (fd : FuncData) (ps : List Str) (sp : Sp) : Prop where
  many : ∀ vs H Q E, sp vs H Q E → vs.length = ps.length
  goes : ∀ (A : Around) (above : List Env) (s : Shared) (H : Hp) (args : Args) (us : List Value) (vs : List V) (Q : VK)
    (E : XK), Room k A → A.guards = some [] → Env0 P w K mg base A above s H → BindsTo s fd args (ps.zip us) → Vals vs us →
    sp vs H Q E → codeAny (model P w) A (.call (.ref f) args) (CR CX0 above P w H s Q E) s
theorem FnG.of {P : Program} {w : World} {K : PySem.W.Frag} {mg : Str → Option Value} {base : Heap} {k : Nat} {f : Addr}
    {fd : FuncData} {ps : List Str} {sp : Sp} (F : FnOk P w K mg base CX0 k f fd ps sp) : FnG P w K mg base k f fd ps sp :=
  ⟨F.len, fun A above s H args us vs Q E hr _ => F.run A above s H args us vs Q E hr⟩
section
variable {P : Program} {w : World} {K : PySem.W.Frag} {mg : Str → Option Value} {base : Heap}
/-- a def by its body, where no repr is under way -/
theorem fng_of {x qual : Str} {st : Stmt} {f : Addr} {fd : FuncData} {N ps : List Str} {k : Nat} {sp : Sp} (F : Fun K x qual st f fd)
    (S : FnScope N ps (defScope st)) (many : ∀ vs H Q E, sp vs H Q E → vs.length = ps.length)
    (body : ∀ (cdv : Value) (A : Around) (above : List Env) (s : Shared) (H : Hp) (vs : List V) (Q : VK) (E : XK),
      Room k (A.deeper (envOfC qual (defScope st) s.heap.objs.size f cdv)) → A.guards = some [] → sp vs H Q E →
      ∃ t, PSs (cxOf CX0 P w K mg base N qual (defScope st) f cdv A above s H E).nox (defBody st) t ∧
        t { nx := fun _ H' => Q .non H', rt := Q } (start N vs) H) : FnG P w K mg base (k + 1) f fd ps sp := by
  obtain ⟨oc, od, kV, doc, pm, an, cdv, ct, osl, rfl, lk, hcd⟩ := F.ex
  constructor
  · exact many
  · intro A above s H args us vs Q E room gd env bt rv hs
    have inK : K.In s.heap := env.mod.kin.keeps fun b o e => (env.bs b o e).1
    have noLim : s.heap.NoLimit := env.mod.nolimit.keeps fun b o e => (env.bs b o e).1
    have kinds : ∀ y ∈ ps.zip us, (defScope st).names.lookup y.1 = some .local ∨
        ((defScope st).names.lookup y.1 = some .cell ∧ ((cellsFrom (s.heap.objs.size + 1) (defScope st).names []).lookup y.1).isSome = true) := by
      rintro ⟨n, v⟩ hy
      cases S.par n (List.of_mem_zip hy).1 with
      | inl q => exact .inl q
      | inr q => exact .inr ⟨q, PySem.W.cellsFrom_some _ _ _ (.inl q)⟩
    refine codeAny_call_function room.depth (inK _ _ lk) rfl S.co S.gen rfl (PySem.W.codeRec_of inK hcd) (bt _ _ _ _ ?_)
    refine wpAny_newFunctionEnv_cells S.kind kinds fun e2 he s2 x => ?_
    subst he
    refine ⟨noLim.keeps x.toInCall.keep, codeAny_func ?_⟩
    obtain ⟨t, ht, hq⟩ := body cdv A above s H vs Q E (room.deeper _) gd hs
    have inv := inv_start (CX := CX0) (E := E) S room.hd env (many _ _ _ _ hs) rv x
    refine wpAny_mono (ht.nox.run [] s2 (start N vs) H _ inv hq) (fun fl s3 h3 => ?_) fun e s3 h3 => h3
    cases fl with
    | ret u =>
      obtain ⟨v, σ3, H3, J, rr, q⟩ := h3
      exact ⟨v, H3, J.os, J.bare, J.base, J.hok, rr, q⟩
    | next =>
      obtain ⟨σ3, H3, J, q⟩ := h3
      exact ⟨.non, H3, J.os, J.bare, J.base, J.hok, rfl, q⟩
    | brk =>
      obtain ⟨_, _, _, z⟩ := h3
      exact False.elim z
    | cont =>
      obtain ⟨_, _, _, z⟩ := h3
      exact False.elim z
end
section
variable {X : Cx}
/-- f(e, ..) of such a def -/
theorem pe_callG {k : Nat} {f : Addr} {fd : FuncData} {ps : List Str} {sp : Sp} {E : XK} {x : Str} {p pos : Pos} {e : Expr} {es : List Expr} {t : TA}
    (F : FnG X.prog X.w X.K X.mg X.base k f fd ps sp) (room : Room k X.A) (gd : X.A.guards = some []) (hg : Gl X x)
    (hm : X.mg x = some (.ref f)) (kp : PySem.W.keepIn X.K (.ref f) = true) (hb : Binds X.K fd ps []) (ha : PA X (e :: es) t)
    (hdb : (x == ("__debug__" : Str)) = false := by decide)
    (he : starEach (e :: es) X.env = (false, eval e X.env) :: starEach es X.env := by rfl)
    (hpl : (backTo pos (starEach es X.env)).any (·.1) = false := by rfl) :
    PE X (.Call (.Name x p) (e :: es) [] pos) (tCall sp [] E t) := by
  constructor
  intro pins s σ H Q I h
  refine wpAny_Call_Name_kw (ld_glob I hg hm ?_ hdb)
  refine PySem.W.callWith_K (h₀ := X.base) I.ok.mod.kin kp (thn (ha.run pos pins s σ H _ I h) fun us s1 d => ?_) he hpl
  obtain ⟨vs, H1, I1, rv, q⟩ := d
  refine ⟨I1.kIn, ?_⟩
  have q : sp vs H1 Q E := by
    have q' : sp (vs ++ []) H1 Q E := q
    rw [List.append_nil] at q'
    exact q'
  have hl : us.length = ps.length := rv.length.symm.trans (F.many _ _ _ _ q)
  have bt := hb s1 us I1.kIn (by rw [List.append_nil]; exact hl)
  rw [List.append_nil] at bt
  refine wpAny_call (codeAny_mono (F.goes X.A X.stack s1 H1 ⟨us, []⟩ us vs Q E room gd I1.env0 bt rv q) fun r s2 h2 => ?_)
  cases r with
  | error e => exact False.elim h2
  | ok fl =>
    cases fl with
    | ret u => exact I1.after h2
    | next => exact False.elim h2
    | brk => exact False.elim h2
    | cont => exact False.elim h2
/-- repr of data, where none is under way -/
def rRepr (K : PySem.W.Frag) : List V → Hp → VK → Prop := fun xs H Q => ∃ (a : Addr) (d : PyData), xs = [.ref a] ∧ Dp K H (.ref a) d ∧
  d.showable = true ∧ d.hasDict = false ∧ d.depth ≤ 32 ∧ d.shown.length ≤ sizeLine ∧ Q (.str d.shown) H
theorem call_repr (gd : X.A.guards = some []) (hu : X.A.units + 64 < cLine) : CallR X (.builtin "repr") (rRepr X.K) := by
  intro pins s σ H xs us Q I r h
  obtain ⟨a, d, rfl, hd, h1, h2, h3, h4, q⟩ := h
  cases r with
  | cons r1 r2 =>
    cases r2
    cases r1
    obtain ⟨as, rd⟩ := Dp.reads I d (.ref a) (.ref a) hd rfl
    exact repr_of_reads' rd h1 (fun z => by rw [h2] at z; cases z) gd (by omega) (fun _ _ e => e)
      (fun h' u tk hk => ⟨.str d.shown, H, I.kept hk, ⟨u, rfl⟩, q⟩) h4
end
/-! ### the law's own call -/
section
variable {P : Program} {w : World} {K : PySem.W.Frag} {mg mb : Str → Option Value}
theorem law_callG {k : Nat} {fa a : Addr} {fd : FuncData} {x : Str} {sp : Sp} {s : Shared} {vs : List Value} {ns : List Int}
    (inK : K.In s.heap) (ns1 : s.heap.Ns mainGlobals mg) (ns2 : s.heap.Ns builtinsNs mb) (blt : ∀ x : Str, x ≠ "__name__" → mb x = bootBuiltins x)
    (noLim : s.heap.NoLimit) (hg : s.gens = #[]) (ha : s.heap.get? a = some { cls := .type "list", data := .seq vs.toArray })
    (hi : IntsAre vs ns) (hl : ns.length ≤ sizeLine) (hr : Room k callerA)
    (F : ∀ base : Heap, K.In base → base.Ns mainGlobals mg → FnG P w K mg base k fa fd [x] sp)
    (bt : ∀ (s : Shared) (u : Value), BindsTo s fd ⟨[u], []⟩ [(x, u)])
    (hsp : ∀ H : Hp, SqL K H a (ns.map V.int) → sp [.ref a] H (fun v _ => v = .bl true) fun _ _ _ => False) :
    codeAny (model P w) callerA (.call (.ref fa) ⟨[.ref a], []⟩)
      (fun r s' => r = .ok (.ret (.bool true)) ∧ OldK s.heap s'.heap ∧ s'.os = s.os ∧ AllBare s'.gens) s := by
  have rv := vals_ints hi
  have lv := hi.length
  have key : ∀ H : Hp, (∀ b u, H b = some u → b = a ∧ K.lookup a = none ∧ u = .frz { cls := .type "list", data := .seq vs.toArray } (.lst (ns.map V.int))) →
      SqL K H a (ns.map V.int) → codeAny (model P w) callerA (.call (.ref fa) ⟨[.ref a], []⟩)
        (fun r s' => r = .ok (.ret (.bool true)) ∧ OldK s.heap s'.heap ∧ s'.os = s.os ∧ AllBare s'.gens) s := by
    intro H only sq
    have ok : HOk P w H s.heap := by
      intro b u e
      obtain ⟨rfl, _, rfl⟩ := only b u e
      exact ⟨ha, by rw [List.length_map]; exact hl, vs, _, rv, ha⟩
    have plain : ∀ {b : Addr} {o : Obj} {es : Array DictEntry} {n : Nat}, s.heap.get? b = some o → o.data = .dict es n → H b = none := by
      intro b o es n e d
      cases q : H b with
      | none => rfl
      | some u =>
        obtain ⟨rfl, _, _⟩ := only b u q
        rw [ha] at e
        cases e
        exact nomatch d
    have names : ∀ {b : Addr} {m : Str → Option Value}, s.heap.Ns b m → (hidT s.heap H).Ns b m := by
      rintro b m ⟨o, es, n, e, d, r⟩
      exact ⟨o, es, n, hidT_get e (plain e d), d, r⟩
    have inB : K.In (hidT s.heap H) := by
      intro b o e
      refine hidT_get (inK b o e) ?_
      cases q : H b with
      | none => rfl
      | some u =>
        obtain ⟨rfl, n, _⟩ := only b u q
        rw [n] at e
        cases e
    obtain ⟨mc, l1, l2⟩ := noLim
    have md : Mod K mg (hidT s.heap H) := ⟨inB, names ns1, ⟨mb, names ns2, blt⟩, ⟨mc, names l1, l2⟩⟩
    have env : Env0 P w K mg (hidT s.heap H) callerA [] s H :=
      ⟨rfl, md, fun b o e => of_hidT e, Nat.le_of_eq (hidT_size _ _), trivial, (fun b hb => by cases hb), ok, .of_eq hg⟩
    have go := (F _ inB (names ns1)).goes callerA [] s H ⟨[.ref a], []⟩ [.ref a] [.ref a] _ _ hr rfl env (bt s (.ref a)) (.cons rfl .nil) (hsp H sq)
    refine codeAny_mono go fun r s2 h2 => ?_
    cases r with
    | error e => exact False.elim h2
    | ok fl =>
      cases fl with
      | next => exact False.elim h2
      | brk => exact False.elim h2
      | cont => exact False.elim h2
      | ret u =>
        obtain ⟨v, H2, os, bare, un, ok2, rr, q⟩ := h2
        obtain rfl : v = V.bl true := q
        obtain rfl : u = Value.bool true := rr
        refine ⟨rfl, OldK.of_keep fun b o e => ?_, os, bare⟩
        cases q : H b with
        | none => exact un.keep b o e q (by intro z; cases z) (by simp)
        | some u =>
          obtain ⟨rfl, _, rfl⟩ := only b u q
          obtain ⟨e1, _⟩ := ok b _ q
          obtain ⟨e2, _⟩ := ok2 b _ (un.frzs b _ _ q)
          rw [e] at e1
          cases e1
          exact e2
  cases hk : K.lookup a with
  | none =>
    refine key (fun b => if b = a then some (.frz { cls := .type "list", data := .seq vs.toArray } (.lst (ns.map V.int))) else none) (fun b u e => ?_) (.inl (.inr ⟨_, if_pos rfl⟩))
    by_cases z : b = a
    · rw [if_pos z] at e
      cases e
      exact ⟨z, hk, rfl⟩
    · rw [if_neg z] at e
      cases e
  | some o =>
    have e := inK a o hk
    rw [ha] at e
    cases e
    refine key (fun _ => none) (fun b u e => by cases e) (.inr ⟨_, vs.toArray, _, hk, rfl, rfl, rfl, ?_, by simpa using rv⟩)
    rw [List.size_toArray, lv]
    exact hl
end
theorem walk_ofG {l : PySem.W.OpenLaw} {n k : Nat} {q : Program} {loose : List Str} {XP : (Str → Option Value) → Heap → Prop} {YP : World → Heap → Prop}
    {d : DefRec} {K : Params → PySem.W.Frag} {sp : World → Sp} {x : Str} (hn : l.most = some n) (hn2 : n ≤ sizeLine) (hdf : d.params.defaults = [])
    (hr : Room k callerA) (hY : ∀ (w : World) (h : Heap), YP w h → (K w.params).In h)
    (F : ∀ (w : World) (mg : Str → Option Value) (fa : Addr) (h : Heap), (K w.params).In h → h.Ns mainGlobals mg → mg d.name = some (.ref fa) →
      ∃ fd : FuncData, (∀ (s : Shared) (u : Value), BindsTo s fd ⟨[u], []⟩ [(x, u)]) ∧
        ∀ base : Heap, (K w.params).In base → base.Ns mainGlobals mg → FnG l.prog w (K w.params) mg base k fa fd [x] (sp w))
    (hsp : ∀ (w : World) (H : Hp) (a : Addr) (ns : List Int), ns.length ≤ n → SqL (K w.params) H a (ns.map V.int) → sp w [.ref a] H (fun v _ => v = .bl true) fun _ _ _ => False) :
    PySem.W.WalkO q loose XP YP l.row.toRowW d [] (fun f vs => PySem.call f vs) := by
  refine Att.attach_call hn hdf fun w s0 s1 mg mb fa o pm cd doc a vs ns G Y h1 h2 h3 h4 h5 h6 h7 h8 => ?_
  obtain ⟨fd, bt, hF⟩ := F w mg fa _ (hY w _ Y) G.T.g h4
  exact law_callG (hY w _ Y) G.T.g G.T.b G.T.builtins G.T.nolimit h8 h5 h6 (Nat.le_trans h7 hn2) hr hF bt (fun H sq => hsp w H a ns h7 sq)
end Ev
namespace Ev
open PySem L2 PySem.Spec PyProof.Rows
theorem walk_ofGE {l : PySem.W.OpenLaw} {n k : Nat} {q : Program} {loose : List Str} {XP : (Str → Option Value) → Heap → Prop} {YP : World → Heap → Prop}
    {d : DefRec} {x : Str} (hn : l.most = some n) (hn2 : n ≤ sizeLine) (hdf : d.params.defaults = []) (hr : Room k callerA)
    (F : ∀ (w : World) (mg : Str → Option Value) (fa : Addr) (h : Heap), YP w h → h.Ns mainGlobals mg → mg d.name = some (.ref fa) →
      ∃ (K : PySem.W.Frag) (fd : FuncData) (sp : Sp), K.In h ∧ (∀ (s : Shared) (u : Value), BindsTo s fd ⟨[u], []⟩ [(x, u)]) ∧
        (∀ (H : Hp) (a : Addr) (ns : List Int), ns.length ≤ n → SqL K H a (ns.map V.int) → sp [.ref a] H (fun v _ => v = .bl true) fun _ _ _ => False) ∧
        ∀ base : Heap, K.In base → base.Ns mainGlobals mg → FnG l.prog w K mg base k fa fd [x] sp) :
    PySem.W.WalkO q loose XP YP l.row.toRowW d [] (fun f vs => PySem.call f vs) := by
  refine Att.attach_call hn hdf fun w s0 s1 mg mb fa o pm cd doc a vs ns G Y h1 h2 h3 h4 h5 h6 h7 h8 => ?_
  obtain ⟨K, fd, sp, inK, bt, hsp, hF⟩ := F w mg fa _ Y G.T.g h4
  exact law_callG inK G.T.g G.T.b G.T.builtins G.T.nolimit h8 h5 h6 (Nat.le_trans h7 hn2) hr hF bt (fun H sq => hsp H a ns h7 sq)
end Ev
namespace Ev
open PySem L2 PySem.Spec PyProof.Rows
abbrev sPen : Stmt := top 46
abbrev sPick : Stmt := top 48
abbrev sNums : Stmt := top 49
abbrev sRule : Stmt := top 50
abbrev sLFair : Stmt := top 51
abbrev sLaw : Stmt := top 55
theorem Pen.new {L : Addr} {H : Hp} {p q : Addr} {B : Int} {o : HO} (h : Pen L H p B) (n : H q = none) : Pen L (upd H q o) p B := h.keep (fun b u e => by rw [upd_ne (ne_of_none e n)]; exact e)
theorem Pen.some {L : Addr} {H : Hp} {p : Addr} {B : Int} (h : Pen L H p B) : ∃ xs, H p = some (.lst xs) := by
  obtain ⟨ns, t, c, h1, _⟩ := h
  exact ⟨_, h1⟩
theorem Pen.ne {L : Addr} {H : Hp} {p q : Addr} {B : Int} (h : Pen L H p B) (n : H q = none) : q ≠ p := by
  obtain ⟨xs, e⟩ := h.some
  exact (ne_of_none e n).symm
theorem But.free {L p a : Addr} {H H' : Hp} {B : Int} (t : But p H H') (h : Pen L H' p B) (n : H' a = none) : H a = none := by
  cases e : H a with
  | none => rfl
  | some o =>
    have := t a o (h.ne n) e
    rw [n] at this
    cases this
def spPick : Sp := fun vs H Q _ => ∃ (p l L : Addr) (xs : List V) (B : Int), vs = [.ref p, .ref l] ∧ H l = some (.lst xs) ∧ l ≠ p ∧ 1 ≤ xs.length ∧ xs.length ≤ 1000 ∧ B ≤ 1000000 ∧ Pen L H p B ∧
  ∀ (d : V) (H' : Hp), d ∈ xs → But p H H' → Pen L H' p (B + 1) → Q d H'
inductive Row
  | tr (p q k : Int)
  | tn (p q k t s c : Int)
def Row.vs : Row → List V
  | .tr p q k => [.int p, .int q, .int k]
  | .tn p q k t s c => [.int p, .int q, .int k, .int t, .int s, .int c]
def Row.p : Row → Int
  | .tr p _ _ => p
  | .tn p _ _ _ _ _ => p
def Row.q : Row → Int
  | .tr _ q _ => q
  | .tn _ q _ _ _ _ => q
def Row.k : Row → Int
  | .tr _ _ k => k
  | .tn _ _ k _ _ _ => k
def okN (p q k : Int) : Prop := 1 ≤ q ∧ q ≤ p ∧ p ≤ 6 ∧ -6 ≤ k ∧ k ≤ 6 ∧ 2 * q ≤ p + k
def okT (t s c : Int) : Prop := (1 ≤ t ∧ t ≤ 8) ∧ (1 ≤ s ∧ s ≤ 8) ∧ -6 ≤ c ∧ c ≤ 6
def Row.ok : Row → Prop
  | .tr p q k => okN p q k
  | .tn p q k t s c => okN p q k ∧ okT t s c
def spNums : Sp := fun vs H Q _ => ∃ (p L : Addr) (B : Int), vs = [.ref p] ∧ B ≤ 900000 ∧ Pen L H p B ∧
  ∀ (a : Addr) (p' q k t s c : Int) (H' : Hp), okN p' q k → okT t s c → H a = none → H' a = some (.tup (Row.tn p' q k t s c).vs) → But p H H' → Pen L H' p (B + 8) → Q (.ref a) H'
section
variable {P : Program} {w : World} {K : PySem.W.Frag} {mg : Str → Option Value} {base : Heap}
theorem scPick : FnScope ["_law_pen_here", "_law_some"] ["_law_pen_here", "_law_some"] (defScope sPick) := ⟨rfl, rfl, rfl, by decide +kernel, rfl, by decide +kernel, by decide +kernel⟩
theorem ok_pick {f : Addr} {fd : FuncData} (F : Fun K "_law_pick" "_law_pick" sPick f fd) (T : Blt mg) (D : Df P w K mg base 1 "_law_draw" ["_law_pen_here", "_law_many"] spDraw) : FnOk P w K mg base CX0 2 f fd ["_law_pen_here", "_law_some"] spPick := by
  obtain ⟨f1, fd1, G1, g1, k1, b1⟩ := D.ex
  refine F.ok scPick (fun vs H Q E h => ?_) (fun cdv A outer s H vs Q E hr h => ?_)
  · obtain ⟨p, l, L, xs, B, rfl, _⟩ := h
    rfl
  · obtain ⟨p, l, L, xs, B, rfl, hl, hne, x1, x2, hB, hp, kk⟩ := h
    refine ⟨_, pss_one (ps_ret (pe_ix ix_list (pv 1) (pe_call G1 hr (by rfl) g1 k1 b1 .nil pass0 (pa_cons (pv 0) (pa_cons (pe_callB call_len_seq (by rfl) T.len PySem.boot_len (pa_cons (pv 1) pa_nil)) pa_nil))) (fun _ _ => rfl))), ?_⟩
    refine ⟨_, rfl, _, rfl, _, rfl, l, _, rfl, .inl (SqL.of hl), p, L, _, B, rfl, by omega, by omega, hB, hp, fun d H1 bt pn d0 d1 => ?_⟩
    obtain ⟨j, rfl⟩ := Int.eq_ofNat_of_zero_le d0
    have hj : j < xs.length := by omega
    refine ⟨l, xs, _, xs[j], rfl, rfl, SqL.of (bt _ _ hne hl), atI_nat (List.getElem?_eq_getElem hj), ?_⟩
    exact kk _ _ (List.getElem_mem hj) bt pn
theorem scNums : FnScope ["_law_pen_here", "_law_q", "_law_p", "_law_k", "_law_s", "_law_t"] ["_law_pen_here"] (defScope sNums) := ⟨rfl, rfl, rfl, by decide +kernel, rfl, by decide +kernel, by decide +kernel⟩
theorem min2 {i j : Int} : (if j < i then j else i) = min i j := by
  by_cases h : j < i
  · rw [if_pos h]; omega
  · rw [if_neg h]; omega
theorem ok_nums {f : Addr} {fd : FuncData} (F : Fun K "_law_numbers" "_law_numbers" sNums f fd) (T : Blt mg) (D1 : Df P w K mg base 1 "_law_draw" ["_law_pen_here", "_law_many"] spDraw) (D2 : Df P w K mg base 2 "_law_pick" ["_law_pen_here", "_law_some"] spPick) :
    FnOk P w K mg base CX0 3 f fd ["_law_pen_here"] spNums := by
  obtain ⟨f1, fd1, G1, g1, k1, b1⟩ := D1.ex
  obtain ⟨f2, fd2, G2, g2, k2, b2⟩ := D2.ex
  refine F.ok scNums (fun vs H Q E h => ?_) (fun cdv A outer s H vs Q E hr h => ?_)
  · obtain ⟨p, L, B, rfl, _⟩ := h
    rfl
  · obtain ⟨p, L, B, rfl, hB, hp, kk⟩ := h
    have hr1 : Room 1 _ := hr.mono (by decide)
    refine ⟨_, pss_cons (ps_set (i := 1) scNums.nd rfl (.inl rfl) (pe_op op_add pe_int (pe_call G1 hr1 (by rfl) g1 k1 b1 .nil pass0 (pa_cons (pv 0) (pa_cons pe_int pa_nil)))))
      (pss_cons (ps_set (i := 2) scNums.nd rfl (.inl rfl) (pe_callB (call_min2 rfl) (by rfl) T.min (by decide +kernel) (pa_cons pe_int (pa_cons (pe_op op_add (pv 1) (pe_call G1 hr1 (by rfl) g1 k1 b1 .nil pass0 (pa_cons (pv 0) (pa_cons (pe_op op_add pe_int (pe_op op_mul pe_int (pv 1))) pa_nil)))) pa_nil))))
      (pss_cons (ps_set (i := 3) scNums.nd rfl (.inl rfl) (pe_call G2 hr (by rfl) g2 k2 b2 .nil pass0 (pa_cons (pv 0) (pa_cons (pe_lst (pa_cons pe_int (pa_cons pe_int (pa_cons pe_int (pa_cons (pe_op op_sub (pe_call G1 hr1 (by rfl) g1 k1 b1 .nil pass0 (pa_cons (pv 0) (pa_cons pe_int pa_nil))) pe_int) (pa_cons pe_int (pa_cons (pe_un un_neg pe_int) pa_nil))))))) pa_nil))))
      (pss_cons (ps_if (pt_cmpR op_lt (pe_op op_add (pv 2) (pv 3)) (pe_op op_mul pe_int (pv 1)) (nomark _)) (pss_one (ps_set (i := 3) scNums.nd rfl (.inl rfl) (pe_op op_sub (pe_op op_mul pe_int (pv 1)) (pv 2)))) pss_nil)
      (pss_cons (ps_set (i := 4) scNums.nd rfl (.inl rfl) (pe_op op_add pe_int (pe_call G1 hr1 (by rfl) g1 k1 b1 .nil pass0 (pa_cons (pv 0) (pa_cons pe_int pa_nil)))))
      (pss_cons (ps_set (i := 5) scNums.nd rfl (.inl rfl) (pe_callB (call_min2 rfl) (by rfl) T.min (by decide +kernel) (pa_cons pe_int (pa_cons (pe_op op_add (pv 4) (pe_call G1 hr1 (by rfl) g1 k1 b1 .nil pass0 (pa_cons (pv 0) (pa_cons (pe_op op_add (pe_op op_mul pe_int (pv 4)) pe_int) pa_nil)))) pa_nil))))
      (pss_one (ps_ret (pe_tup (pa_cons (pv 2) (pa_cons (pv 1) (pa_cons (pe_callB (call_min2 rfl) (by rfl) T.min (by decide +kernel) (pa_cons pe_int (pa_cons (pv 3) pa_nil))) (pa_cons (pv 5) (pa_cons (pv 4)
        (pa_cons (pe_call G2 hr (by rfl) g2 k2 b2 .nil pass0 (pa_cons (pv 0) (pa_cons (pe_lst (pa_cons pe_int (pa_cons (pe_un un_neg pe_int) (pa_cons (pe_un un_neg (pv 4)) (pa_cons (pe_op op_sub (pe_call G1 hr1 (by rfl) g1 k1 b1 .nil pass0 (pa_cons (pv 0) (pa_cons pe_int pa_nil))) pe_int) pa_nil))))) pa_nil))) pa_nil)))))))))))))), ?_⟩
    -- q, p
    refine ⟨_, rfl, p, L, _, B, rfl, by decide, by decide, by omega, hp, fun d1 H1 t1 p1 a1 c1 => ⟨_, _, rfl, rfl, ?_⟩⟩
    refine ⟨_, rfl, _, rfl, _, rfl, _, _, rfl, rfl, .inl ⟨by decide, by decide⟩, _, _, rfl, rfl, p, L, _, _, rfl, by omega, by omega, by omega, p1, fun d2 H2 t2 p2 a2 c2 => ⟨_, _, rfl, rfl, _, _, rfl, ?_⟩⟩
    rw [min2]
    -- k
    refine ⟨_, rfl, _, rfl, p, L, _, _, rfl, by decide, by decide, by omega, p2, fun d3 H3 t3 p3 a3 c3 => ⟨_, _, rfl, rfl, _, rfl, (by show 6 ≤ sizeLine; decide), fun l hl => ⟨p, l, L, _, _, rfl, upd_same, p3.ne hl, (by show 1 ≤ 6; decide), (by show 6 ≤ 1000; decide), by omega, p3.new hl, fun d4 H4 m4 t4 p4 => ?_⟩⟩⟩
    obtain ⟨k0, rfl, k0lo, k0hi⟩ : ∃ k0 : Int, d4 = .int k0 ∧ -6 ≤ k0 ∧ k0 ≤ 6 := by
      simp only [List.mem_cons, List.not_mem_nil, or_false] at m4
      rcases m4 with e | e | e | e | e | e
      · exact ⟨_, e, by decide, by decide⟩
      · exact ⟨_, e, by decide, by decide⟩
      · exact ⟨_, e, by decide, by decide⟩
      · exact ⟨_, e, by omega, by omega⟩
      · exact ⟨_, e, by decide, by decide⟩
      · exact ⟨_, e, by decide, by decide⟩
    have t04 : But p H H4 := ((t1.trans t2).trans t3).trans ((Same.but (same_new hl)).trans t4)
    refine ⟨_, rfl, _, rfl, _, _, rfl, rfl, _, rfl, _, _, rfl, rfl, .inl ⟨by decide, by decide⟩, _, _, rfl, rfl, _, rfl, ite2 (fun e => ?_) (fun e => ?_)⟩
    · have e := of_decide_eq_true e
      refine ⟨_, rfl, _, _, rfl, rfl, .inl ⟨by decide, by decide⟩, _, rfl, _, _, rfl, rfl, ?_⟩
      refine ⟨_, rfl, p, L, _, _, rfl, by decide, by decide, by omega, p4, fun d5 H5 t5 p5 a5 c5 => ⟨_, _, rfl, rfl, ?_⟩⟩
      refine ⟨_, rfl, _, rfl, _, rfl, _, _, rfl, rfl, .inl ⟨by decide, by decide⟩, _, _, rfl, rfl, p, L, _, _, rfl, by omega, by omega, by omega, p5, fun d6 H6 t6 p6 a6 c6 => ⟨_, _, rfl, rfl, _, _, rfl, ?_⟩⟩
      refine ⟨_, rfl, _, rfl, _, rfl, _, _, rfl, _, rfl, _, rfl, _, rfl, _, rfl, _, rfl, _, rfl, _, rfl, p, L, _, _, rfl, by decide, by decide, by omega, p6, fun d7 H7 t7 p7 a7 c7 => ⟨_, _, rfl, rfl, (by show 4 ≤ sizeLine; decide), fun l2 hl2 => ⟨p, l2, L, _, _, rfl, upd_same, p7.ne hl2, (by show 1 ≤ 4; decide), (by show 4 ≤ 1000; decide), by omega, p7.new hl2, fun d8 H8 m8 t8 p8 => ⟨(by show 6 ≤ sizeLine; decide), fun a na => ?_⟩⟩⟩⟩
      obtain ⟨c0, rfl, c0lo, c0hi⟩ : ∃ c0 : Int, d8 = .int c0 ∧ -6 ≤ c0 ∧ c0 ≤ 6 := by
        simp only [List.mem_cons, List.not_mem_nil, or_false] at m8
        rcases m8 with e | e | e | e
        · exact ⟨_, e, by decide, by decide⟩
        · exact ⟨_, e, by decide, by decide⟩
        · exact ⟨_, e, by omega, by omega⟩
        · exact ⟨_, e, by omega, by omega⟩
      have t08 : But p H H8 := t04.trans (((t5.trans t6).trans t7).trans ((Same.but (same_new hl2)).trans t8))
      refine kk a _ _ _ _ _ _ _ ?_ ?_ (t08.free p8 na) upd_same (t08.trans (Same.but (same_new na))) ((p8.new na).mono (by omega))
      · rw [min2]
        exact ⟨by omega, by omega, by omega, by omega, by omega, by omega⟩
      · rw [min2]
        exact ⟨⟨by omega, by omega⟩, ⟨by omega, by omega⟩, by omega, by omega⟩
    · have e : ¬ (min 6 (1 + d1 + d2) + k0 < 2 * (1 + d1)) := fun z => e (decide_eq_true z)
      refine ⟨_, rfl, p, L, _, _, rfl, by decide, by decide, by omega, p4, fun d5 H5 t5 p5 a5 c5 => ⟨_, _, rfl, rfl, ?_⟩⟩
      refine ⟨_, rfl, _, rfl, _, rfl, _, _, rfl, rfl, .inl ⟨by decide, by decide⟩, _, _, rfl, rfl, p, L, _, _, rfl, by omega, by omega, by omega, p5, fun d6 H6 t6 p6 a6 c6 => ⟨_, _, rfl, rfl, _, _, rfl, ?_⟩⟩
      refine ⟨_, rfl, _, rfl, _, rfl, _, _, rfl, _, rfl, _, rfl, _, rfl, _, rfl, _, rfl, _, rfl, _, rfl, p, L, _, _, rfl, by decide, by decide, by omega, p6, fun d7 H7 t7 p7 a7 c7 => ⟨_, _, rfl, rfl, (by show 4 ≤ sizeLine; decide), fun l2 hl2 => ⟨p, l2, L, _, _, rfl, upd_same, p7.ne hl2, (by show 1 ≤ 4; decide), (by show 4 ≤ 1000; decide), by omega, p7.new hl2, fun d8 H8 m8 t8 p8 => ⟨(by show 6 ≤ sizeLine; decide), fun a na => ?_⟩⟩⟩⟩
      obtain ⟨c0, rfl, c0lo, c0hi⟩ : ∃ c0 : Int, d8 = .int c0 ∧ -6 ≤ c0 ∧ c0 ≤ 6 := by
        simp only [List.mem_cons, List.not_mem_nil, or_false] at m8
        rcases m8 with e | e | e | e
        · exact ⟨_, e, by decide, by decide⟩
        · exact ⟨_, e, by decide, by decide⟩
        · exact ⟨_, e, by omega, by omega⟩
        · exact ⟨_, e, by omega, by omega⟩
      have t08 : But p H H8 := t04.trans (((t5.trans t6).trans t7).trans ((Same.but (same_new hl2)).trans t8))
      refine kk a _ _ _ _ _ _ _ ?_ ?_ (t08.free p8 na) upd_same (t08.trans (Same.but (same_new na))) ((p8.new na).mono (by omega))
      · rw [min2]
        exact ⟨by omega, by omega, by omega, by omega, by omega, by omega⟩
      · rw [min2]
        exact ⟨⟨by omega, by omega⟩, ⟨by omega, by omega⟩, by omega, by omega⟩
end
end Ev
namespace Ev
open PySem L2 PySem.Spec PyProof.Rows
def ObjAt (Ct Cn : Addr) (H : Hp) (r : Addr) : Row → Prop
  | .tr p q k => ∃ dx a : Addr, H r = some (.ins Ct dx (tryF a k)) ∧ H a = some (.tup [.int p, .int q])
  | .tn p q k t s c => ∃ dx a b : Addr, H r = some (.ins Cn dx (turnF a k b c)) ∧ H a = some (.tup [.int p, .int q]) ∧ H b = some (.tup [.int t, .int s])
theorem ObjAt.keep {Ct Cn : Addr} {H H' : Hp} {r : Addr} {row : Row} (h : ObjAt Ct Cn H r row) (k : Same H H') : ObjAt Ct Cn H' r row := by
  cases row with
  | tr p q kk =>
    obtain ⟨dx, a, h1, h2⟩ := h
    exact ⟨dx, a, k _ _ h1, k _ _ h2⟩
  | tn p q kk t s c =>
    obtain ⟨dx, a, b, h1, h2, h3⟩ := h
    exact ⟨dx, a, b, k _ _ h1, k _ _ h2, k _ _ h3⟩
theorem ObjAt.but {Ct Cn p : Addr} {H H' : Hp} {r : Addr} {row : Row} {xs : List V} (h : ObjAt Ct Cn H r row) (hp : H p = some (.lst xs)) (k : But p H H') : ObjAt Ct Cn H' r row := by
  cases row with
  | tr p q kk =>
    obtain ⟨dx, a, h1, h2⟩ := h
    exact ⟨dx, a, k _ _ (ne_of h1 hp (by intro z; cases z)) h1, k _ _ (ne_of h2 hp (by intro z; cases z)) h2⟩
  | tn p q kk t s c =>
    obtain ⟨dx, a, b, h1, h2, h3⟩ := h
    exact ⟨dx, a, b, k _ _ (ne_of h1 hp (by intro z; cases z)) h1, k _ _ (ne_of h2 hp (by intro z; cases z)) h2, k _ _ (ne_of h3 hp (by intro z; cases z)) h3⟩
theorem ObjAt.rb {K : PySem.W.Frag} {Ct Cn : Addr} {H : Hp} {r : Addr} {row : Row} (h : ObjAt Ct Cn H r row) (T : RCls K Ct) (N : RCls K Cn) (o : row.ok) : RB K H r row.p row.q row.k := by
  cases row with
  | tr p q kk =>
    obtain ⟨dx, a, h1, h2⟩ := h
    obtain ⟨o1, o2, o3, o4, o5, o6⟩ := o
    exact ⟨⟨Ct, dx, _, a, h1, T.cl, T.n1, T.n2, try_times a kk, try_plus a kk, h2⟩, o1, o2, o3, o4, o5⟩
  | tn p q kk t s c =>
    obtain ⟨dx, a, b, h1, h2, h3⟩ := h
    obtain ⟨⟨o1, o2, o3, o4, o5, o6⟩, _⟩ := o
    exact ⟨⟨Cn, dx, _, a, h1, N.cl, N.n1, N.n2, turn_times a kk b c, turn_plus a kk b c, h2⟩, o1, o2, o3, o4, o5⟩
def spRule (Ct Cn : Addr) : Sp := fun vs H Q _ => ∃ (l : Addr) (row : Row), vs = [.ref l] ∧ H l = some (.tup row.vs) ∧ row.ok ∧ ∀ (r : Addr) (H' : Hp), Same H H' → ObjAt Ct Cn H' r row → Q (.ref r) H'
def spLFair : Sp := fun vs H Q _ => ∃ (l : Addr) (row : Row) (x y : Int), vs = [.ref l, .int x, .int y] ∧ H l = some (.tup row.vs) ∧ (1 ≤ row.p ∧ row.p ≤ 8 ∧ 1 ≤ row.q ∧ row.q ≤ 8) ∧ ∀ H' : Hp, Same H H' → Q (.bl (fairB row.p row.q row.k x y)) H'
theorem fairB_comm (p q k x y : Int) : fairB p q k x y = fairB p q k y x := Bool.and_comm _ _
theorem slice3 {K : PySem.W.Frag} {l : Addr} {row : Row} {H : Hp} {Q : VK} (h : H l = some (.tup row.vs)) (k : ∀ (a : Addr) (H' : Hp), Same H H' → H' a = some (.tup [.int row.p, .int row.q, .int row.k]) → Q (.ref a) H') :
    rSlA K (.ref l) none (some 3) H Q := by
  refine ⟨l, _, rfl, SqT.of h, fun z => ?_, fun z a na => ?_⟩
  · cases row with
    | tr p q kk => exact k l H (Same.refl H) h
    | tn p q kk t s c => exact absurd z.2 (by show ¬ (HT.sIx 6 6 (some 3) = 6); decide)
  · cases row with
    | tr p q kk => exact absurd (show HT.sIx 3 0 none = 0 ∧ HT.sIx 3 3 (some 3) = 3 by decide) z
    | tn p q kk t s c => exact k a _ (same_new na) upd_same
section
variable {P : Program} {w : World} {K : PySem.W.Frag} {mg : Str → Option Value} {base : Heap}
theorem Row.okN {row : Row} (o : row.ok) : Ev.okN row.p row.q row.k := by
  cases row with
  | tr p q k => exact o
  | tn p q k t s c => exact o.1
theorem scLFair : FnScope ["_law_some", "_law_one", "_law_other", "_law_p", "_law_q", "_law_k"] ["_law_some", "_law_one", "_law_other"] (defScope sLFair) := ⟨rfl, rfl, rfl, by decide +kernel, rfl, by decide +kernel, by decide +kernel⟩
theorem ok_lfair {f : Addr} {fd : FuncData} (F : Fun K "_law_fair" "_law_fair" sLFair f fd) : FnOk P w K mg base CX0 1 f fd ["_law_some", "_law_one", "_law_other"] spLFair := by
  refine F.ok scLFair (fun vs H Q E h => ?_) (fun cdv A outer s H vs Q E hr h => ?_)
  · obtain ⟨l, row, x, y, rfl, _⟩ := h
    rfl
  · obtain ⟨l, row, x, y, rfl, hl, o, kk⟩ := h
    refine ⟨_, pss_cons (ps_asg (pe_slice sl_tupA (pv 0) po_none (po_some pe_int)) (pg_tup (by rfl) (pgs_cons (pg_name (i := 3) scLFair.nd rfl (.inl rfl)) (pgs_cons (pg_name (i := 4) scLFair.nd rfl (.inl rfl)) (pgs_cons (pg_name (i := 5) scLFair.nd rfl (.inl rfl)) pgs_nil)))))
      (pss_one (ps_ret (pe_and (pe_cmpR op_le (pe_op op_mul (pv 4) (pv 1)) (pe_op op_add (pe_op op_mul (pv 3) (pv 2)) (pv 5)) (nomark _))
        (pe_one (pe_cmpR op_le (pe_op op_mul (pv 4) (pv 2)) (pe_op op_add (pe_op op_mul (pv 3) (pv 1)) (pv 5)) (nomark _)))))), ?_⟩
    obtain ⟨o1, o2, o3, o4⟩ := o
    have q6 := m64 o3 o4
    have p6 := m64 o1 o2
    refine ⟨_, rfl, _, rfl, slice3 hl fun a H1 s1 ha => ⟨a, _, rfl, SqT.of ha, rfl, _, _, rfl, _, _, rfl, _, _, rfl, rfl, ?_⟩⟩
    refine ⟨_, rfl, _, rfl, _, _, rfl, rfl, .inl q6, _, rfl, _, rfl, _, _, rfl, rfl, .inl p6, _, rfl, _, _, rfl, rfl, _, _, rfl, rfl, _, rfl, ite2 (fun e => ?_) (fun e => ?_)⟩
    · have kk := kk H1 s1
      rw [fairB_comm, show fairB row.p row.q row.k y x = decide (row.q * y ≤ row.p * x + row.k) by unfold fairB; rw [show decide (row.q * x ≤ row.p * y + row.k) = true from e, Bool.true_and]] at kk
      exact ⟨_, rfl, _, rfl, _, _, rfl, rfl, .inl q6, _, rfl, _, rfl, _, _, rfl, rfl, .inl p6, _, rfl, _, _, rfl, rfl, _, _, rfl, rfl, kk⟩
    · have kk := kk H1 s1
      rw [fairB_comm, show fairB row.p row.q row.k y x = false by unfold fairB; rw [show decide (row.q * x ≤ row.p * y + row.k) = false from Bool.eq_false_iff.mpr e, Bool.false_and]] at kk
      exact kk
theorem scRule : FnScope ["_law_some", "_law_p", "_law_q", "_law_k"] ["_law_some"] (defScope sRule) := ⟨rfl, rfl, rfl, by decide +kernel, rfl, by decide +kernel, by decide +kernel⟩
theorem ok_rule {f Ct Cn fT fN : Addr} {fd fdT fdN : FuncData} {g : List Value → List Value → List Value} (F : Fun K "_law_rule" "_law_rule" sRule f fd) (T : Blt mg) (gT : mg "TryRule" = some (.ref Ct)) (gN : mg "TurnRule" = some (.ref Cn)) (MT : Mk K Ct fT) (MN : Mk K Cn fN)
    (GT : FnOk P w K mg base CX0 6 fT fdT ["self", "times", "plus"] (spTryInit Ct)) (bT : Binds K fdT ["self", "times", "plus"] [])
    (GN : FnOk P w K mg base CX0 6 fN fdN ["self", "times", "plus", "turn", "turn_plus"] (spTurnInit Cn)) (bN : KBn K fdN ["self", "times", "plus", "turn", "turn_plus"] 3 ["turn", "turn_plus"] g (fun vs zs => vs ++ zs)) :
    FnOk P w K mg base CX0 8 f fd ["_law_some"] (spRule Ct Cn) := by
  refine F.ok scRule (fun vs H Q E h => ?_) (fun cdv A outer s H vs Q E hr h => ?_)
  · obtain ⟨l, row, rfl, _⟩ := h
    rfl
  · obtain ⟨l, row, rfl, hl, o, kk⟩ := h
    refine ⟨_, pss_cons (ps_asg (pe_slice sl_tupA (pv 0) po_none (po_some pe_int)) (pg_tup (by rfl) (pgs_cons (pg_name (i := 1) scRule.nd rfl (.inl rfl)) (pgs_cons (pg_name (i := 2) scRule.nd rfl (.inl rfl)) (pgs_cons (pg_name (i := 3) scRule.nd rfl (.inl rfl)) pgs_nil)))))
      (pss_cons (ps_if (pt_cmpR op_eq (pe_callB call_len_seq (by rfl) T.len PySem.boot_len (pa_cons (pv 0) pa_nil)) pe_int (nomark _))
        (pss_one (ps_ret (pe_make MT GT hr (by rfl) gT bT .nil pass0 (pa_cons (pe_tup (pa_cons (pv 1) (pa_cons (pv 2) pa_nil))) (pa_cons (pv 3) pa_nil))))) pss_nil)
      (pss_one (ps_ret (pe_makeN (n := 2) MN GN hr (by rfl) gN bN pass0 (pa_cons (pe_tup (pa_cons (pv 1) (pa_cons (pv 2) pa_nil))) (pa_cons (pv 3) pa_nil))
        (pk_cons (pe_tup (pa_cons (pe_ix ix_tup (pv 0) pe_int (fun _ _ => rfl)) (pa_cons (pe_ix ix_tup (pv 0) pe_int (fun _ _ => rfl)) pa_nil))) (pk_cons (pe_ix ix_tup (pv 0) pe_int (fun _ _ => rfl)) pk_nil)))))), ?_⟩
    have o' := Row.okN o
    refine ⟨_, rfl, _, rfl, slice3 hl fun a H1 s1 ha => ⟨a, _, rfl, SqT.of ha, rfl, _, _, rfl, _, _, rfl, _, _, rfl, rfl, ?_⟩⟩
    have hl1 := s1 _ _ hl
    obtain ⟨o1, o2, o3, o4, o5, o6⟩ := o'
    refine ⟨_, rfl, l, _, rfl, .inr (SqT.of hl1), rfl, _, rfl, ite2 (fun e => ?_) (fun e => ?_)⟩
    · cases row with
      | tn p q k t s c => exact absurd (V.int.inj (of_decide_eq_true e)) (show ¬ (((6 : Nat) : Int) = 3) by decide)
      | tr p q k =>
        refine ⟨_, rfl, _, rfl, (by show 2 ≤ sizeLine; decide), fun tp ntp => ⟨_, rfl, fun x dx nx ndx nex => ?_⟩⟩
        have e1 : ∀ o1 o2 : HO, upd (upd (upd H1 tp (.tup [.int p, .int q])) dx o1) x o2 tp = some (.tup [.int p, .int q]) := fun o1 o2 => by
          rw [upd_ne (ne_of_none (upd_same) nx), upd_ne (ne_of_none (upd_same) ndx)]; exact upd_same
        refine ⟨x, dx, tp, p, q, k, rfl, upd_same, e1 _ _, o1, o2, o3, o4, o5, o6, fun H2 t2 hx2 => ⟨rfl, ?_⟩⟩
        refine kk x H2 (fun b u e => ?_) ⟨dx, tp, hx2, t2 _ _ (ne_of_none upd_same nx) (e1 _ _)⟩
        have e3 : upd H1 tp (.tup [.int p, .int q]) b = some u := same_new ntp _ _ (s1 _ _ e)
        exact t2 _ _ (ne_of_none e3 nx) (by rw [upd_ne (ne_of_none e3 nx), upd_ne (ne_of_none e3 ndx)]; exact e3)
    · cases row with
      | tr p q k => exact absurd (decide_eq_true (show V.int ((3 : Nat) : Int) = V.int 3 from rfl)) e
      | tn p q k t s c =>
        refine ⟨_, rfl, _, rfl, (by show 2 ≤ sizeLine; decide), fun tp ntp => ⟨_, rfl, ?_⟩⟩
        have hl2 : upd H1 tp (.tup [.int p, .int q]) l = some (.tup (Row.tn p q k t s c).vs) := same_new ntp _ _ hl1
        refine ⟨_, rfl, l, _, 3, .int t, rfl, rfl, SqT.of hl2, atI_nat (j := 3) rfl, _, rfl, l, _, 4, .int s, rfl, rfl, SqT.of hl2, atI_nat (j := 4) rfl, (by show 2 ≤ sizeLine; decide), fun tq ntq => ?_⟩
        have hl3 : upd (upd H1 tp (.tup [.int p, .int q])) tq (.tup [.int t, .int s]) l = some (.tup (Row.tn p q k t s c).vs) := same_new ntq _ _ hl2
        refine ⟨_, rfl, l, _, 5, .int c, rfl, rfl, SqT.of hl3, atI_nat (j := 5) rfl, rfl, rfl, fun x dx nx ndx nex => ?_⟩
        have f1 : upd (upd H1 tp (.tup [.int (Row.tn p q k t s c).p, .int (Row.tn p q k t s c).q])) tq (.tup [.int t, .int s]) tp = some (.tup [.int p, .int q]) := same_new ntq _ _ upd_same
        have f2 : upd (upd H1 tp (.tup [.int (Row.tn p q k t s c).p, .int (Row.tn p q k t s c).q])) tq (.tup [.int t, .int s]) tq = some (.tup [.int t, .int s]) := upd_same
        have s2 : Same H (upd (upd H1 tp (.tup [.int (Row.tn p q k t s c).p, .int (Row.tn p q k t s c).q])) tq (.tup [.int t, .int s])) := s1.trans ((same_new ntp).trans (same_new ntq))
        generalize upd (upd H1 tp (.tup [.int (Row.tn p q k t s c).p, .int (Row.tn p q k t s c).q])) tq (.tup [.int t, .int s]) = H2 at f1 f2 s2 nx ndx ⊢
        have keep : ∀ (o1 o2 : HO) (b : Addr) (u : HO), H2 b = some u → upd (upd H2 dx o1) x o2 b = some u := fun o1 o2 b u e => by
          rw [upd_ne (ne_of_none e nx), upd_ne (ne_of_none e ndx)]; exact e
        obtain ⟨_, ot1, ot2, ot3, ot4⟩ := o
        refine ⟨x, dx, tp, tq, p, q, k, t, s, c, rfl, upd_same, keep _ _ _ _ f1, keep _ _ _ _ f2, o1, o2, o3, o4, o5, o6, ot1, ot2, ot3, ot4, fun H3 t3 hx3 => ⟨rfl, ?_⟩⟩
        have s3 : ∀ b u, H2 b = some u → H3 b = some u := fun b u e => t3 _ _ (ne_of_none e nx) (keep _ _ _ _ e)
        exact kk x H3 (fun b u e => s3 _ _ (s2 _ _ e)) ⟨dx, tp, tq, hx3, s3 _ _ f1, s3 _ _ f2⟩
end
end Ev
namespace Ev
open PySem L2 PySem.Spec PyProof.Rows
abbrev sNHInit : Stmt := inClass (top 9) 0
def spNH (C : Addr) : Sp := fun vs H Q _ => ∃ (a : Addr) (v : Int), vs = [.ref a, .int v] ∧ H a = some (exo a C none) ∧
  ∀ (d : Addr) (H' : Hp), H d = none → H' a = some (exo a C (some d)) → H' d = some (exd d [(("weight" : Str), .int v)]) → (∀ b o, b ≠ a → H b = some o → H' b = some o) → Q .non H'
def spHalvesG : Sp := fun vs H Q _ => ∃ (a : Addr) (p q k : Int), vs = [.ref a, .int k] ∧ H a = some (.tup [.int p, .int q]) ∧ Q (.bl (decide (2 * q ≤ p + k))) H
def spNeedHX (C : Addr) : Sp := fun vs H Q E => ∃ (a : Addr) (p q k : Int), vs = [.ref a, .int k] ∧ H a = some (.tup [.int p, .int q]) ∧ 0 ≤ q ∧ (2 * q ≤ p + k → Q .non H) ∧
  (¬ 2 * q ≤ p + k → ∀ (d : Option Addr) (H' : Hp), Same H H' → E (.ref C) d H')
def spTryInitX (C N : Addr) : Sp := fun vs H Q E => ∃ (x dx a : Addr) (p q k : Int), vs = [.ref x, .ref a, .int k] ∧ H x = some (.ins C dx []) ∧ H a = some (.tup [.int p, .int q]) ∧ 1 ≤ q ∧ q ≤ p ∧ p ≤ 6 ∧ -6 ≤ k ∧ k ≤ 6 ∧
  (2 * q ≤ p + k → ∀ H', But x H H' → H' x = some (.ins C dx (tryF a k)) → Q .non H') ∧ (¬ 2 * q ≤ p + k → ∀ (d : Option Addr) (H' : Hp), Same H H' → E (.ref N) d H')
def spRuleX (C N : Addr) : Sp := fun vs H Q E => ∃ (l : Addr) (p q k : Int), vs = [.ref l] ∧ H l = some (.tup [.int p, .int q, .int k]) ∧ 1 ≤ q ∧ q ≤ p ∧ p ≤ 6 ∧ -6 ≤ k ∧ k ≤ 6 ∧
  (2 * q ≤ p + k → ∀ (r dx a : Addr) (H' : Hp), Same H H' → H' r = some (.ins C dx (tryF a k)) → Q (.ref r) H') ∧ (¬ 2 * q ≤ p + k → ∀ (d : Option Addr) (H' : Hp), Same H H' → E (.ref N) d H')
/-- NoHalves, as it is made -/
structure NhC (P : Program) (w : World) (K : PySem.W.Frag) (mg : Str → Option Value) (base : Heap) (C : Addr) : Prop where
  cl : OexC K C
  g : mg "NoHalves" = some (.ref C)
  ex : ∃ (f : Addr) (fd : FuncData), PySem.W.findIn K (.ref C) "__init__" = some (some (.ref f)) ∧ PySem.W.typeIn K (.ref f) = some (.type "function") ∧ FnOk P w K mg base CX0 3 f fd ["self", "weight"] (spNH C) ∧ Binds K fd ["self", "weight"] []
section
variable {P : Program} {w : World} {K : PySem.W.Frag} {mg : Str → Option Value} {base : Heap}
theorem scNH : FnScope ["self", "weight"] ["self", "weight"] (defScope sNHInit) := ⟨rfl, rfl, rfl, by decide +kernel, rfl, by decide +kernel, by decide +kernel⟩
theorem ok_nh {f C : Addr} {fd : FuncData} (F : Fun K "__init__" "NoHalves.__init__" sNHInit f fd) (T : OexC K C) (no : PySem.W.findIn K (.ref C) "weight" = some none) (D : Df P w K mg base 2 "kept" ["value"] spKept) : FnOk P w K mg base CX0 3 f fd ["self", "weight"] (spNH C) := by
  obtain ⟨f1, fd1, G1, g1, k1, b1⟩ := D.ex
  refine F.ok scNH (fun vs H Q E h => ?_) (fun cdv A outer s H vs Q E hr h => ?_)
  · obtain ⟨a, v, rfl, _⟩ := h
    rfl
  · obtain ⟨a, v, rfl, ha, kk⟩ := h
    refine ⟨_, pss_one (ps_ost (pv 0) (pe_call G1 hr (by rfl) g1 k1 b1 .nil pass0 (pa_cons (pv 1) pa_nil))), ?_⟩
    refine ⟨_, rfl, .int v, "int", rfl, flat_int v, fun H1 s1 => ⟨_, rfl, a, C, rfl, T, no, .inl ⟨s1 _ _ ha, fun dx nd dne => ?_⟩⟩⟩
    refine kk dx _ (s1.free nd) upd_same (by rw [upd_ne dne]; exact upd_same) fun b o nb e => ?_
    rw [upd_ne nb, upd_ne (ne_of_none (s1 _ _ e) nd)]
    exact s1 _ _ e
theorem ok_halvesG {f : Addr} {fd : FuncData} (F : Fun K "has_halves" "has_halves" sHalves f fd) : FnOk P w K mg base CX0 1 f fd ["times", "plus"] spHalvesG := by
  refine F.ok scHalves (fun vs H Q E h => ?_) (fun cdv A outer s H vs Q E hr h => ?_)
  · obtain ⟨a, p, q, k, rfl, _⟩ := h
    rfl
  · obtain ⟨a, p, q, k, rfl, ha, kk⟩ := h
    refine ⟨_, pss_cons (ps_asg (pv 0) (pg_tup (by rfl) (pgs_cons (pg_name (i := 2) scHalves.nd rfl (.inl rfl)) (pgs_cons (pg_name (i := 3) scHalves.nd rfl (.inl rfl)) pgs_nil))))
      (pss_one (ps_ret (pe_cmpR op_ge (pe_op op_add (pv 2) (pv 1)) (pe_op op_mul pe_int (pv 3)) (nomark _)))), ?_⟩
    refine ⟨_, rfl, a, _, rfl, SqT.of ha, rfl, _, _, rfl, _, _, rfl, rfl, ?_⟩
    exact ⟨_, rfl, _, rfl, _, _, rfl, rfl, _, rfl, _, _, rfl, rfl, .inl ⟨by decide, by decide⟩, _, _, rfl, rfl, kk⟩
theorem ok_needHX {f C : Addr} {fd : FuncData} (F : Fun K "need_halves" "need_halves" sNeedH f fd) (D : Df P w K mg base 1 "has_halves" ["times", "plus"] spHalvesG) (Nh : NhC P w K mg base C) :
    FnOk P w K mg base (L2.CX P w) 5 f fd ["times", "plus"] (spNeedHX C) := by
  obtain ⟨f1, fd1, G1, g1, k1, b1⟩ := D.ex
  obtain ⟨TC, gC, fi, fdi, iC, tI, GI, bI⟩ := id Nh
  refine F.okX scNeedH (fun vs H Q E h => ?_) (fun cdv A outer s H vs Q E hr h => ?_)
  · obtain ⟨a, p, q, k, rfl, _⟩ := h
    rfl
  · obtain ⟨a, p, q, k, rfl, ha, q0, h1, h2⟩ := h
    refine ⟨_, pss_cons (ps_asg (pv 0) (pg_tup (by rfl) (pgs_cons (pg_name (i := 2) scNeedH.nd rfl (.inl rfl)) (pgs_cons (pg_name (i := 3) scNeedH.nd rfl (.inl rfl)) pgs_nil))))
      (pss_cons (ps_if (pt_cmpR op_lt (pe_op op_add (pv 2) (pv 1)) (pv 3) (nomark _)) (pss_one (ps_raise rfl (takes_of rfl rfl rfl rfl) (pmk_oex TC iC tI GI hr bI .nil pass0 (by rfl) gC (pa_cons pe_int pa_nil)))) pss_nil)
      (pss_one (ps_if (pt_not (pt_val (pe_call G1 (hr.mono (by decide)) (by rfl) g1 k1 b1 .nil pass0 (pa_cons (pv 0) (pa_cons (pv 1) pa_nil))))) (pss_one (ps_raise rfl (takes_of rfl rfl rfl rfl) (pmk_oex TC iC tI GI hr bI .nil pass0 (by rfl) gC (pa_cons pe_int pa_nil)))) pss_nil))), ?_⟩
    have out : ¬ 2 * q ≤ p + k → ∀ v : Int, ∀ (H0 : Hp), Same H H0 → ∀ a' : Addr, H0 a' = none → spNH C [.ref a', .int v] (upd H0 a' (exo a' C none)) (fun v' H2 => v' = .non ∧ ∃ (d : Addr) (fs : List (Str × V)), H2 a' = some (exo a' C (some d)) ∧ H2 d = some (exd d fs) ∧ H0 d = none ∧ E (.ref C) (some d) (upd (del H2 a') d (.xd fs))) (fun _ _ _ => False) := by
      intro hn v H0 s0 a' na
      refine ⟨a', v, rfl, upd_same, fun d H' nd ha' hd bt => ⟨rfl, d, _, ha', hd, ?_, ?_⟩⟩
      · have dne : d ≠ a' := fun z => by rw [z, upd_same] at nd; cases nd
        rw [upd_ne dne] at nd
        exact nd
      · have dne : d ≠ a' := fun z => by rw [z, upd_same] at nd; cases nd
        rw [upd_ne dne] at nd
        refine h2 hn _ _ fun b o e => ?_
        have e0 := s0 _ _ e
        rw [upd_ne (ne_of_none e0 nd), del_ne (ne_of_none e0 na)]
        exact bt b o (ne_of_none e0 na) (by rw [upd_ne (ne_of_none e0 na)]; exact e0)
    refine ⟨_, rfl, a, _, rfl, SqT.of ha, rfl, _, _, rfl, _, _, rfl, rfl, ?_⟩
    refine ⟨_, rfl, _, rfl, _, _, rfl, rfl, _, rfl, _, _, rfl, rfl, _, rfl, ite2 (fun e => ?_) (fun _ => ?_)⟩
    · have e := of_decide_eq_true e
      exact ⟨by decide, out (by omega) 2 H (Same.refl H)⟩
    · refine ⟨_, rfl, _, rfl, a, p, q, k, rfl, ha, _, rfl, ?_⟩
      by_cases z : 2 * q ≤ p + k
      · rw [decide_eq_true z]
        exact iteF (h1 z)
      · rw [decide_eq_false z]
        exact iteT ⟨by decide, out z 3 H (Same.refl H)⟩
theorem ok_tryInitX {f C N : Addr} {fd : FuncData} {dvs : List V} {kws : List (Str × V)} (F : FunD K "__init__" "TryRule.__init__" (defArgs sTryInit) (defBody sTryInit) (defScope sTryInit) dvs kws f fd) (T : RCls K C) (D1 : Df P w K mg base 5 "need_times" ["times", "plus"] (spNeedT K))
    {f2 : Addr} {fd2 : FuncData} (G2 : FnOk P w K mg base (L2.CX P w) 5 f2 fd2 ["times", "plus"] (spNeedHX N)) (g2 : mg "need_halves" = some (.ref f2)) (k2 : PySem.W.keepIn K (.ref f2) = true) (bb2 : Binds K fd2 ["times", "plus"] []) :
    FnOk P w K mg base (L2.CX P w) 6 f fd ["self", "times", "plus"] (spTryInitX C N) := by
  obtain ⟨f1, fd1, G1, g1, k1, bb1⟩ := D1.ex
  refine F.ok scTryInit (fun vs H Q E h => ?_) (fun cdv A outer s H vs Q E hr h => ?_)
  · obtain ⟨x, dx, a, p, q, k, rfl, _⟩ := h
    rfl
  · obtain ⟨x, dx, a, p, q, k, rfl, hx, ha, h1, h2, h3, h4, h5, kk, ex⟩ := h
    refine ⟨_, pss_cons (ps_expr (pe_call G1 hr (by rfl) g1 k1 bb1 .nil pass0 (pa_cons (pv 1) (pa_cons (pv 2) pa_nil))))
      (pss_cons (ps_expr (pe_callS G2 hr (by rfl) g2 k2 bb2 (fun σ => passAt (takes_of rfl rfl rfl rfl) σ) (pa_cons (pv 1) (pa_cons (pv 2) pa_nil))))
      (pss_cons (ps_fld (pv 0) (pv 1) rfl) (pss_one (ps_fld (pv 0) (pv 2) rfl)))), ?_⟩
    refine ⟨_, rfl, _, rfl, a, p, q, k, rfl, ha, h1, h2, h3, h4, h5, fun H1 s1 => ?_⟩
    refine ⟨_, rfl, _, rfl, a, p, q, k, rfl, s1 _ _ ha, by omega, fun h6 => ?_, fun h6 d H' s' => ex h6 d H' (s1.trans s')⟩
    refine ⟨_, rfl, _, rfl, x, C, dx, _, rfl, s1 _ _ hx, T.cl, T.n1, (by show 0 < 1000; decide), _, rfl, _, rfl, x, C, dx, _, rfl, upd_same, T.cl, T.n2, (by show 1 < 1000; decide), ?_⟩
    refine kk h6 _ ((Same.but s1).trans (But.upd_at.trans But.upd_at)) ?_
    rw [upd_same, put_try]
theorem ok_ruleX {f Ct N fT : Addr} {fd fdT : FuncData} (F : Fun K "_law_rule" "_law_rule" sRule f fd) (T : Blt mg) (gT : mg "TryRule" = some (.ref Ct)) (MT : Mk K Ct fT)
    (GT : FnOk P w K mg base (L2.CX P w) 6 fT fdT ["self", "times", "plus"] (spTryInitX Ct N)) (bT : Binds K fdT ["self", "times", "plus"] []) :
    FnOk P w K mg base (L2.CX P w) 8 f fd ["_law_some"] (spRuleX Ct N) := by
  refine F.okX scRule (fun vs H Q E h => ?_) (fun cdv A outer s H vs Q E hr h => ?_)
  · obtain ⟨l, p, q, k, rfl, _⟩ := h
    rfl
  · obtain ⟨l, p, q, k, rfl, hl, o1, o2, o3, o4, o5, kk, ex⟩ := h
    refine ⟨_, pss_cons (ps_asg (pe_slice sl_tupA (pv 0) po_none (po_some pe_int)) (pg_tup (by rfl) (pgs_cons (pg_name (i := 1) scRule.nd rfl (.inl rfl)) (pgs_cons (pg_name (i := 2) scRule.nd rfl (.inl rfl)) (pgs_cons (pg_name (i := 3) scRule.nd rfl (.inl rfl)) pgs_nil)))))
      (pss_cons (ps_if (pt_cmpR op_eq (pe_callB call_len_seq (by rfl) T.len PySem.boot_len (pa_cons (pv 0) pa_nil)) pe_int (nomark _))
        (pss_one (ps_ret (pe_make MT GT hr (by rfl) gT bT .nil (E := E) (passes_call (takes_of rfl rfl rfl rfl) (fun _ _ _ _ h => h)) (pa_cons (pe_tup (pa_cons (pv 1) (pa_cons (pv 2) pa_nil))) (pa_cons (pv 3) pa_nil))))) pss_nil)
      (pss_one ps_never)), ?_⟩
    refine ⟨_, rfl, _, rfl, slice3 (row := .tr p q k) hl fun a H1 s1 ha => ⟨a, _, rfl, SqT.of ha, rfl, _, _, rfl, _, _, rfl, _, _, rfl, rfl, ?_⟩⟩
    have hl1 := s1 _ _ hl
    refine ⟨_, rfl, l, _, rfl, .inr (SqT.of hl1), rfl, _, rfl, ite2 (fun e => ?_) (fun e => absurd (decide_eq_true (show V.int ((3 : Nat) : Int) = V.int 3 from rfl)) e)⟩
    refine ⟨_, rfl, _, rfl, (by show 2 ≤ sizeLine; decide), fun tp ntp => ⟨_, rfl, fun x dx nx ndx nex => ?_⟩⟩
    have e1 : ∀ o1 o2 : HO, upd (upd (upd H1 tp (.tup [.int p, .int q])) dx o1) x o2 tp = some (.tup [.int p, .int q]) := fun o1 o2 => by
      rw [upd_ne (ne_of_none (upd_same) nx), upd_ne (ne_of_none (upd_same) ndx)]; exact upd_same
    have old : ∀ b u, H b = some u → upd H1 tp (.tup [.int p, .int q]) b = some u := fun b u e => same_new ntp _ _ (s1 _ _ e)
    refine ⟨x, dx, tp, p, q, k, rfl, upd_same, e1 _ _, o1, o2, o3, o4, o5, fun h6 H2 t2 hx2 => ⟨rfl, ?_⟩, fun h6 d H2 s2 => ?_⟩
    · refine kk h6 x dx tp H2 (fun b u e => ?_) hx2
      have e3 := old b u e
      exact t2 _ _ (ne_of_none e3 nx) (by rw [upd_ne (ne_of_none e3 nx), upd_ne (ne_of_none e3 ndx)]; exact e3)
    · refine ex h6 d H2 (fun b u e => ?_)
      have e3 := old b u e
      exact s2 _ _ (by rw [upd_ne (ne_of_none e3 nx), upd_ne (ne_of_none e3 ndx)]; exact e3)
end
end Ev
namespace Ev
open PySem L2 PySem.Spec PyProof.Rows
abbrev sCall : Stmt := inClass (top 28) 1
abbrev sLeast : Stmt := inClass (top 28) 3
abbrev sRef : Stmt := top 52
abbrev sHasH : Stmt := top 53
abbrev sRises : Stmt := top 54
def zeros (k : Nat) : Str := ⟨(List.replicate k ("0" : Str).cps).foldl (· ++ ·) #[]⟩
theorem zeros_int : ∀ k : Fin 30, PySem.intText? (("1" : Str) ++ zeros k) = some ((10 : Int) ^ (k : Nat)) := by decide +kernel
theorem zeros_len : ∀ k : Fin 30, (("1" : Str) ++ zeros k).length ≤ 640 := by decide +kernel
theorem zeros_len1 : ∀ k : Fin 30, (zeros k).length ≤ 640 := by decide +kernel
section
variable {X : Cx}
theorem op_zeros : OpR X (binaryOp .Mult) (fun x y H Q => ∃ n : Int, x = .str "0" ∧ y = .int n ∧ 0 ≤ n ∧ n ≤ 29 ∧ Q (.str (zeros n.toNat)) H) := by
  intro pins s σ H x y v u Q I rx ry h
  obtain ⟨n, rfl, rfl, n0, n1, q⟩ := h
  obtain ⟨t, rfl⟩ := rx
  obtain ⟨t', rfl⟩ := ry
  refine PySem.P.mul_str ?_ (fun h1 _ => ?_) (fun h1 _ => ?_) ?_
  · rw [decide_eq_false (by omega), decide_eq_false (by omega)]; rfl
  · have : (1 : Int) ≤ (2 ^ 63 - 1) / n := (Int.le_ediv_iff_mul_le (by omega)).mpr (by omega)
    show ¬ ((1 : Nat) : Int) > (2 ^ 63 - 1) / n
    omega
  · have hk : n.toNat ≤ 29 := by omega
    have h2 : ∀ m, m ≤ 29 → _root_.PySem.Builtin.Str.tooLong (1 * m) = false := by decide +kernel
    exact h2 _ hk
  · by_cases h0 : n < 1
    · have e0 : n = 0 := by omega
      subst e0
      rw [if_pos h0]
      refine ⟨by decide, .str (zeros 0), H, I.tok _, ⟨_, rfl⟩, q⟩
    · by_cases h1 : n = 1
      · subst h1
        rw [if_neg h0, if_pos (by decide)]
        refine ⟨.str "0", H, I, ⟨_, rfl⟩, ?_⟩
        have e : zeros (Int.toNat 1) = ("0" : Str) := by decide +kernel
        rw [e] at q
        exact q
      · rw [if_neg h0, if_neg (by simp [h1]; decide)]
        exact ⟨Nat.le_trans (zeros_len1 ⟨n.toNat, by omega⟩) (by decide), .str (zeros n.toNat), H, I.tok _, ⟨_, rfl⟩, q⟩
end
def leastV (p q k y : Int) : Int := if -((k - q * y).fdiv p) > 1 then -((k - q * y).fdiv p) else 1
theorem least_le {p q k y x : Int} (hp : 1 ≤ p) (hx : 1 ≤ x) : leastV p q k y ≤ x ↔ q * y ≤ p * x + k := by
  unfold leastV
  rw [Int.fdiv_eq_ediv_of_nonneg _ (by omega)]
  have h1 : -x ≤ (k - q * y) / p ↔ -x * p ≤ k - q * y := Int.le_ediv_iff_mul_le (by omega)
  have h2 : -x * p = -(p * x) := by rw [Int.neg_mul, Int.mul_comm]
  rw [h2] at h1
  generalize q * y = a at h1 ⊢
  generalize p * x = b at h1 ⊢
  generalize (k - a) / p = c at h1 ⊢
  by_cases z : -c > 1
  · rw [if_pos z]
    constructor
    · intro h; have := h1.mp (by omega); omega
    · intro h; have := h1.mpr (by omega); omega
  · rw [if_neg z]
    constructor
    · intro h; have := h1.mp (by omega); omega
    · intro h; omega
theorem least_pos (p q k y : Int) : 1 ≤ leastV p q k y := by
  unfold leastV
  by_cases z : -((k - q * y).fdiv p) > 1
  · rw [if_pos z]; omega
  · rw [if_neg z]; omega
def greatV (p q k x : Int) : Int := (p * x + k).fdiv q
theorem le_great {p q k x y : Int} (hq : 1 ≤ q) : y ≤ greatV p q k x ↔ q * y ≤ p * x + k := by
  unfold greatV
  rw [Int.fdiv_eq_ediv_of_nonneg _ (by omega), Int.le_ediv_iff_mul_le (by omega), Int.mul_comm]
theorem great_ge {p q k x : Int} (o : okN p q k) (hx : 1 ≤ x) : x + 1 ≤ greatV p q k x := by
  obtain ⟨o1, o2, o3, o4, o5, o6⟩ := o
  refine (le_great o1).mpr ?_
  have h1 : q * (x - 1) ≤ p * (x - 1) := Int.mul_le_mul_of_nonneg_right o2 (by omega)
  rw [Int.mul_sub, Int.mul_sub, Int.mul_one, Int.mul_one] at h1
  rw [Int.mul_add, Int.mul_one]
  omega
theorem great_step {p q k x : Int} (o : okN p q k) : greatV p q k x + 1 ≤ greatV p q k (x + 1) := by
  obtain ⟨o1, o2, o3, o4, o5, o6⟩ := o
  refine (le_great o1).mpr ?_
  have h := (le_great (p := p) (k := k) (x := x) o1).mp (Int.le_refl _)
  rw [Int.mul_add, Int.mul_add, Int.mul_one, Int.mul_one]
  omega
theorem great_le {p q k x : Int} (o : okN p q k) (hx : 1 ≤ x) : greatV p q k x ≤ 6 * x + 6 := by
  obtain ⟨o1, o2, o3, o4, o5, o6⟩ := o
  have h := (le_great (p := p) (k := k) (x := x) o1).mp (Int.le_refl _)
  have h1 : p * x ≤ 6 * x := Int.mul_le_mul_of_nonneg_right o3 (by omega)
  have g1 : x + 1 ≤ greatV p q k x := great_ge ⟨o1, o2, o3, o4, o5, o6⟩ hx
  have h2 : 1 * greatV p q k x ≤ q * greatV p q k x := Int.mul_le_mul_of_nonneg_right o1 (by omega)
  omega
theorem fair_iff {p q k x y : Int} (o : okN p q k) (hx : 1 ≤ x) (hy : x ≤ y) : fairB p q k x y = decide (q * y ≤ p * x + k) := by
  obtain ⟨o1, o2, o3, o4, o5, o6⟩ := o
  have h1 : q * x ≤ p * y + k := by
    have a1 : q * (x - 1) ≤ p * (x - 1) := Int.mul_le_mul_of_nonneg_right o2 (by omega)
    have a2 : p * x ≤ p * y := Int.mul_le_mul_of_nonneg_left hy (by omega)
    rw [Int.mul_sub, Int.mul_sub, Int.mul_one, Int.mul_one] at a1
    omega
  unfold fairB
  rw [decide_eq_true h1, Bool.and_true]
def spCall (K : PySem.W.Frag) : Sp := fun vs H Q _ => ∃ (r : Addr) (p q k x y : Int), vs = [.ref r, .int x, .int y] ∧ RB K H r p q k ∧ (1 ≤ x ∧ x ≤ 10 ^ 60) ∧ (1 ≤ y ∧ y ≤ 10 ^ 60) ∧ Q (.bl (fairB p q k x y)) H
def spLeast (K : PySem.W.Frag) : Sp := fun vs H Q _ => ∃ (r : Addr) (p q k y : Int), vs = [.ref r, .int y] ∧ RB K H r p q k ∧ 1 ≤ y ∧ y ≤ 10 ^ 60 ∧ Q (.int (leastV p q k y)) H
abbrev sLeastB : Stmt := top 33
def spLeastB (K : PySem.W.Frag) : Sp := fun vs H Q _ => ∃ (r : Addr) (p q k y : Int), vs = [.ref r, .int y] ∧ RB K H r p q k ∧ Q (.int (leastV p q k y)) H
def spRef : Sp := fun vs H Q _ => ∃ (l : Addr) (p q k : Int), vs = [.ref l] ∧ H l = some (.tup [.int p, .int q, .int k]) ∧ 1 ≤ q ∧ q ≤ p ∧ p ≤ 6 ∧ -6 ≤ k ∧ k ≤ 6 ∧ ∀ H', Same H H' → Q (.bl (!decide (2 * q ≤ p + k))) H'
def spHasH : Sp := fun vs H Q _ => ∃ (l : Addr) (p q k : Int), vs = [.ref l] ∧ H l = some (.tup [.int p, .int q, .int k]) ∧ 1 ≤ q ∧ q ≤ p ∧ p ≤ 6 ∧ -6 ≤ k ∧ k ≤ 6 ∧ ∀ H', Same H H' → Q (.bl (decide (2 * q ≤ p + k))) H'
section
variable {P : Program} {w : World} {K : PySem.W.Frag} {mg : Str → Option Value} {base : Heap}
theorem fnr_of {CX : CXT} {k : Nat} {f : Addr} {fd : FuncData} {ps : List Str} {sp : Sp} (F : FnOk P w K mg base CX k f fd ps sp) (b : Binds K fd ps []) : FnR P w K mg base CX k f sp := by
  intro A above s H us vs Q E room env rv hs
  have hl : us.length = ps.length := rv.length.symm.trans (F.len _ _ _ _ hs)
  have bt := b s us (env.mod.kin.keeps fun b o e => (env.bs b o e).1) (by rw [List.append_nil]; exact hl)
  rw [List.append_nil] at bt
  exact F.run A above s H ⟨us, []⟩ us vs Q E room env bt rv hs
theorem scCall : FnScope ["self", "x", "y"] ["self", "x", "y"] (defScope sCall) := ⟨rfl, rfl, rfl, by decide +kernel, rfl, by decide +kernel, by decide +kernel⟩
theorem ok_call {f : Addr} {fd : FuncData} (F : Fun K "__call__" "WeightRule.__call__" sCall f fd) (D : Df P w K mg base 3 "need_weight" ["value"] spNeedW) (D2 : Df P w K mg base 1 "are_fair" ["rule", "x", "y"] (spFair K)) : FnOk P w K mg base CX0 4 f fd ["self", "x", "y"] (spCall K) := by
  obtain ⟨f1, fd1, G1, g1, k1, b1⟩ := D.ex
  obtain ⟨f2, fd2, G2, g2, k2, b2⟩ := D2.ex
  refine F.ok scCall (fun vs H Q E h => ?_) (fun cdv A outer s H vs Q E hr h => ?_)
  · obtain ⟨r, p, q, k, x, y, rfl, _⟩ := h
    rfl
  · obtain ⟨r, p, q, k, x, y, rfl, R, hx, hy, kk⟩ := h
    refine ⟨_, pss_cons (ps_expr (pe_call G1 hr (by rfl) g1 k1 b1 .nil pass0 (pa_cons (pv 1) pa_nil)))
      (pss_cons (ps_expr (pe_call G1 hr (by rfl) g1 k1 b1 .nil pass0 (pa_cons (pv 2) pa_nil)))
      (pss_one (ps_ret (pe_call G2 (hr.mono (by decide)) (by rfl) g2 k2 b2 .nil pass0 (pa_cons (pv 0) (pa_cons (pv 1) (pa_cons (pv 2) pa_nil))))))), ?_⟩
    exact ⟨_, rfl, x, rfl, hx.1, hx.2, _, rfl, y, rfl, hy.1, hy.2, _, rfl, _, rfl, _, rfl, r, p, q, k, x, y, rfl, R, kk⟩
theorem scLeastB : FnScope ["rule", "y", "over", "under"] ["rule", "y"] (defScope sLeastB) := ⟨rfl, rfl, rfl, by decide +kernel, rfl, by decide +kernel, by decide +kernel⟩
theorem ok_leastB {f : Addr} {fd : FuncData} (F : Fun K "least_beside" "least_beside" sLeastB f fd) (T : Blt mg) : FnOk P w K mg base CX0 1 f fd ["rule", "y"] (spLeastB K) := by
  refine F.ok scLeastB (fun vs H Q E h => ?_) (fun cdv A outer s H vs Q E hr h => ?_)
  · obtain ⟨r, p, q, k, x, rfl, _⟩ := h
    rfl
  · obtain ⟨r, p, q, k, x, rfl, ⟨⟨C, dx, fs, a, hr1, cl, n1, n2, l1, l2, ha⟩, b1, b2, b3, b4, b5⟩, kk⟩ := h
    refine ⟨_, pss_cons (ps_asg (pe_fld (pv 0) rfl) (pg_tup (by rfl) (pgs_cons (pg_name (i := 2) scLeastB.nd rfl (.inl rfl)) (pgs_cons (pg_name (i := 3) scLeastB.nd rfl (.inl rfl)) pgs_nil))))
      (pss_one (ps_ret (pe_callB (call_max2 rfl) (by rfl) T.max (by decide +kernel) (pa_cons pe_int (pa_cons (pe_un un_neg (pe_op op_fdivN (pe_op op_sub (pe_fld (pv 0) rfl) (pe_op op_mul (pv 3) (pv 1))) (pv 2))) pa_nil))))), ?_⟩
    have q6 := m64 b1 (show q ≤ 8 by omega)
    refine ⟨_, rfl, r, C, dx, fs, _, rfl, hr1, cl, n1, l1, a, _, rfl, SqT.of ha, rfl, _, _, rfl, _, _, rfl, rfl, ?_⟩
    exact ⟨_, rfl, r, C, dx, fs, _, rfl, hr1, cl, n2, l2, _, rfl, _, rfl, _, _, rfl, rfl, .inl q6, _, _, rfl, rfl, _, rfl, _, _, rfl, rfl, ⟨by omega, by omega⟩, _, rfl, _, _, rfl, kk⟩
theorem scLeast : FnScope ["self", "y"] ["self", "y"] (defScope sLeast) := ⟨rfl, rfl, rfl, by decide +kernel, rfl, by decide +kernel, by decide +kernel⟩
theorem ok_least {f : Addr} {fd : FuncData} (F : Fun K "least" "WeightRule.least" sLeast f fd) (T : Blt mg) (D : Df P w K mg base 3 "need_weight" ["value"] spNeedW) (DB : Df P w K mg base 1 "least_beside" ["rule", "y"] (spLeastB K)) : FnOk P w K mg base CX0 4 f fd ["self", "y"] (spLeast K) := by
  obtain ⟨f1, fd1, G1, g1, k1, bb1⟩ := D.ex
  obtain ⟨f2, fd2, G2, g2, k2, bb2⟩ := DB.ex
  refine F.ok scLeast (fun vs H Q E h => ?_) (fun cdv A outer s H vs Q E hr h => ?_)
  · obtain ⟨r, p, q, k, x, rfl, _⟩ := h
    rfl
  · obtain ⟨r, p, q, k, x, rfl, rb, x1, x2, kk⟩ := h
    refine ⟨_, pss_cons (ps_expr (pe_call G1 hr (by rfl) g1 k1 bb1 .nil pass0 (pa_cons (pv 1) pa_nil)))
      (pss_one (ps_ret (pe_call G2 (hr.mono (by decide)) (by rfl) g2 k2 bb2 .nil pass0 (pa_cons (pv 0) (pa_cons (pv 1) pa_nil))))), ?_⟩
    exact ⟨_, rfl, x, rfl, x1, x2, _, rfl, _, rfl, r, p, q, k, x, rfl, rb, kk⟩
theorem scHasH : FnScope ["_law_some", "_law_one"] ["_law_some"] (defScope sHasH) := ⟨rfl, rfl, rfl, by decide +kernel, rfl, by decide +kernel, by decide +kernel⟩
theorem ok_hasH {f : Addr} {fd : FuncData} (F : Fun K "_law_has_halves" "_law_has_halves" sHasH f fd) (T : Blt mg) (D : Df P w K mg base 1 "_law_fair" ["_law_some", "_law_one", "_law_other"] spLFair) : FnOk P w K mg base CX0 2 f fd ["_law_some"] spHasH := by
  obtain ⟨f1, fd1, G1, g1, k1, b1⟩ := D.ex
  refine F.ok scHasH (fun vs H Q E h => ?_) (fun cdv A outer s H vs Q E hr h => ?_)
  · obtain ⟨l, p, q, k, rfl, _⟩ := h
    rfl
  · obtain ⟨l, p, q, k, rfl, hl, o1, o2, o3, o4, o5, kk⟩ := h
    refine ⟨_, pss_cons (ps_for PassesOwn.never rfl (pi_range2 rfl T.range (pa_cons pe_int (pa_cons pe_int pa_nil))) (pg_name (i := 1) scHasH.nd rfl (.inl rfl))
        (pss_one (ps_if (PW.pt (pw_or (pt_not (pt_val (pe_call G1 hr (by rfl) g1 k1 b1 .nil pass0 (pa_cons (pv 0) (pa_cons (pv 1) (pa_cons (pv 1) pa_nil))))))
          (pw_or1 (pt_not (pt_val (pe_call G1 hr (by rfl) g1 k1 b1 .nil pass0 (pa_cons (pv 0) (pa_cons (pv 1) (pa_cons (pe_op op_add (pv 1) pe_int) pa_nil))))))))) (pss_one (ps_ret pe_bl)) pss_nil)))
      (pss_one (ps_ret pe_bl)), ?_⟩
    have ob : 1 ≤ (Row.tr p q k).p ∧ (Row.tr p q k).p ≤ 8 ∧ 1 ≤ (Row.tr p q k).q ∧ (Row.tr p q k).q ≤ 8 := ⟨by show 1 ≤ p; omega, by show p ≤ 8; omega, o1, by show q ≤ 8; omega⟩
    refine ⟨1, 41, rfl, ⟨by decide, by decide, by decide, by decide⟩, for_range (lo := 1) (n := 40) (fun i σ H2 => ∃ v1 : Option V, σ = [some (.ref l), v1] ∧ Same H H2 ∧ (i = 0 ∨ 2 * q ≤ p + k)) ⟨none, rfl, Same.refl _, .inl rfl⟩ ?_ ?_⟩
    · rintro i σ H2 hi ⟨v1, rfl, s2, hz⟩
      by_cases z : 2 * q ≤ p + k
      · have hf : ∀ y, 1 + (i : Int) ≤ y → y ≤ 1 + (i : Int) + 1 → fairB p q k (1 + (i : Int)) y = true := fun y y1 y2 => by
          rw [fair_iff ⟨o1, o2, o3, o4, o5, z⟩ (by omega) y1]
          refine decide_eq_true ?_
          have a1 : q * y ≤ q * (1 + (i : Int) + 1) := Int.mul_le_mul_of_nonneg_left y2 (by omega)
          have a2 : q * (i : Int) ≤ p * (i : Int) := Int.mul_le_mul_of_nonneg_right o2 (by omega)
          rw [Int.mul_add, Int.mul_add, Int.mul_one] at a1
          rw [Int.mul_add, Int.mul_one]
          omega
        refine ⟨_, rfl, _, rfl, _, rfl, l, .tr p q k, _, _, rfl, s2 _ _ hl, ob, fun H3 s3 => ⟨_, rfl, ?_⟩⟩
        rw [show fairB (Row.tr p q k).p (Row.tr p q k).q (Row.tr p q k).k (1 + (i : Int)) (1 + (i : Int)) = true from hf _ (by omega) (by omega)]
        refine iteF ⟨_, rfl, _, rfl, _, rfl, _, _, rfl, rfl, l, .tr p q k, _, _, rfl, s3 _ _ (s2 _ _ hl), ob, fun H4 s4 => ⟨_, rfl, ?_⟩⟩
        rw [show fairB (Row.tr p q k).p (Row.tr p q k).q (Row.tr p q k).k (1 + (i : Int)) (1 + (i : Int) + 1) = true from hf _ (by omega) (by omega)]
        exact iteF ⟨_, rfl, s2.trans (s3.trans s4), .inr z⟩
      · obtain rfl : i = 0 := by omega
        have e2 : fairB p q k (1 + ((0 : Nat) : Int)) (1 + ((0 : Nat) : Int) + 1) = false := by
          unfold fairB
          rw [Bool.and_eq_false_iff]
          left
          refine decide_eq_false ?_
          show ¬ (q * (1 + 0 + 1) ≤ p * (1 + 0) + k)
          omega
        have fin : ∀ H3, Same H H3 → Q (.bl false) H3 := fun H3 s3 => by
          have kk := kk H3 s3
          rw [decide_eq_false z] at kk
          exact kk
        refine ⟨_, rfl, _, rfl, _, rfl, l, .tr p q k, _, _, rfl, s2 _ _ hl, ob, fun H3 s3 => ⟨_, rfl, ite2 (fun _ => fin H3 (s2.trans s3)) (fun _ => ?_)⟩⟩
        refine ⟨_, rfl, _, rfl, _, rfl, _, _, rfl, rfl, l, .tr p q k, _, _, rfl, s3 _ _ (s2 _ _ hl), ob, fun H4 s4 => ⟨_, rfl, ?_⟩⟩
        rw [show fairB (Row.tr p q k).p (Row.tr p q k).q (Row.tr p q k).k (1 + ((0 : Nat) : Int)) (1 + ((0 : Nat) : Int) + 1) = false from e2]
        exact iteT (fin H4 (s2.trans (s3.trans s4)))
    · rintro σ H2 ⟨v1, rfl, s2, hz⟩
      have kk := kk H2 s2
      rw [decide_eq_true (by omega)] at kk
      exact kk
end
end Ev
namespace Ev
open PySem L2 PySem.Spec PyProof.Rows
theorem or_of {F : Addr → Prop} {C A B : Addr} (h : C = A ∨ C = B) (f : F C) : F A ∨ F B := by
  rcases h with rfl | rfl
  · exact .inl f
  · exact .inr f
theorem ObjAt.cls {Ct Cn : Addr} {H : Hp} {r : Addr} {row : Row} (h : ObjAt Ct Cn H r row) :
    ∃ C, (C = Ct ∨ C = Cn) ∧ ∃ (dx : Addr) (fs : List (Str × V)), H r = some (.ins C dx fs) ∧ ∀ m : Str, ¬ m = "times" → ¬ m = "plus" → ¬ m = "turn" → ¬ m = "turn_plus" → fs.lookup m = none := by
  cases row with
  | tr p q k =>
    obtain ⟨dx, a, e1, e2⟩ := h
    exact ⟨Ct, .inl rfl, dx, _, e1, fun m h1 h2 h3 h4 => try_no a k h1 h2⟩
  | tn p q k t s c =>
    obtain ⟨dx, a, b, e1, e2, e3⟩ := h
    exact ⟨Cn, .inr rfl, dx, _, e1, fun m h1 h2 h3 h4 => turn_no a k b c h1 h2 h3 h4⟩
def spRises (Ct Cn : Addr) : Sp := fun vs H Q _ => ∃ (r : Addr) (row : Row) (x : Int), vs = [.ref r, .int x] ∧ ObjAt Ct Cn H r row ∧ row.ok ∧ 1 ≤ x ∧ x ≤ 10 ^ 50 ∧ Q (.bl true) H
/-- a class of rules, with what its methods are -/
structure RMeth (P : Program) (w : World) (K : PySem.W.Frag) (mg : Str → Option Value) (base : Heap) (C CW : Addr) : Prop where
  cl : RCls K C
  g : ∃ (f : Addr) (fd : FuncData), FnOk P w K mg base CX0 4 f fd ["self", "x"] (spGreatest K) ∧ Binds K fd ["self", "x"] [] ∧ Meth K C "greatest" f
  l : ∃ (f : Addr) (fd : FuncData), FnOk P w K mg base CX0 4 f fd ["self", "y"] (spLeast K) ∧ Binds K fd ["self", "y"] [] ∧ Meth K C "least" f
  c : ∃ (f : Addr) (fd : FuncData), FnOk P w K mg base CX0 4 f fd ["self", "x", "y"] (spCall K) ∧ Binds K fd ["self", "x", "y"] [] ∧ StX.CallO K C f
  ha : PySem.W.findIn K (.ref C) "__class__" = some (some (.builtin "object.__class__"))
  hm : PySem.W.mroIn K C (.type "object") = some true
  is : PySem.W.kitOne K (.ref C) (.ref CW) = some true
/-- what the kind of an instance asks -/
structure InsK (K : PySem.W.Frag) : Prop where
  hn : PySem.W.specialIn K (.builtin "object.__class__") "__get__" = some (some (.builtin "getset_descriptor.__get__"))
  htk : PySem.W.takesIn K (.builtin "object.__class__") = some true
section
variable {P : Program} {w : World} {K : PySem.W.Frag} {mg : Str → Option Value} {base : Heap}
theorem scRef : FnScope ["_law_some"] ["_law_some"] (defScope sRef) := ⟨rfl, rfl, rfl, by decide +kernel, rfl, by decide +kernel, by decide +kernel⟩
theorem ok_ref {f fR Ct N : Addr} {fd fdR : FuncData} (F : Fun K "_law_is_refused" "_law_is_refused" sRef f fd) (T : Blt mg) (GR : FnOk P w K mg base (L2.CX P w) 8 fR fdR ["_law_some"] (spRuleX Ct N)) (gR : mg "_law_rule" = some (.ref fR)) (kR : PySem.W.keepIn K (.ref fR) = true) (bR : Binds K fdR ["_law_some"] [])
    (gT : mg "TryRule" = some (.ref Ct)) (gN : mg "NoHalves" = some (.ref N)) (RT : RCls K Ct) (ik : InsK K) (ha : PySem.W.findIn K (.ref Ct) "__class__" = some (some (.builtin "object.__class__"))) (hm : PySem.W.mroIn K Ct (.type "object") = some true)
    (me : PySem.W.kitOne K (.ref Ct) (.ref Ct) = some true) (te : PySem.W.exmOne K (.ref N) (.ref N) = some true) : FnOk P w K mg base CX0 9 f fd ["_law_some"] spRef := by
  refine F.ok scRef (fun vs H Q E h => ?_) (fun cdv A outer s H vs Q E hr h => ?_)
  · obtain ⟨l, p, q, k, rfl, _⟩ := h
    rfl
  · obtain ⟨l, p, q, k, rfl, hl, o1, o2, o3, o4, o5, kk⟩ := h
    refine ⟨_, pss_one (ps_try_only rfl rfl ⟨rfl, by decide, .inl gN⟩ takes0 (fun W pn xe tk _ => pss_one (ps_ret (pe_not (pe_callB (id := "isinstance") (r := rIsi K) call_isi (by rfl) T.isi (by decide +kernel) (pa_cons (pe_callS GR hr (by rfl) gR kR bR (fun σ => passAt tk σ) (pa_cons (pv 0) pa_nil)) (pa_cons (pe_glob (v := .ref Ct) rfl gT rfl) pa_nil))))))
      (fun a oe cls d pn _ _ => pss_one (ps_ret pe_bl))), ?_⟩
    refine ⟨_, rfl, l, p, q, k, rfl, hl, o1, o2, o3, o4, o5, fun h6 r dx a H1 s1 hr1 => ?_, fun h6 d H1 s1 => ⟨true, te, fun _ a ha => ?_, fun z => by cases z⟩⟩
    · have kk := kk H1 s1
      rw [decide_eq_true h6] at kk
      exact ⟨_, _, _, _, true, rfl, .own Ct, .base (.ins hr1 RT.cl ha ik.hn ik.htk hm), me, true, rfl, kk⟩
    · have kk := kk H1 s1
      rw [decide_eq_false h6] at kk
      exact kk
theorem scRises : FnScope ["_law_rule_so", "_law_one", "_law_first", "_law_later"] ["_law_rule_so", "_law_one"] (defScope sRises) := ⟨rfl, rfl, rfl, by decide +kernel, rfl, by decide +kernel, by decide +kernel⟩
theorem ng1 : ¬ (("greatest" : Str) = "times") := by decide +kernel
theorem ng2 : ¬ (("greatest" : Str) = "plus") := by decide +kernel
theorem ng3 : ¬ (("greatest" : Str) = "turn") := by decide +kernel
theorem ng4 : ¬ (("greatest" : Str) = "turn_plus") := by decide +kernel
theorem nl1 : ¬ (("least" : Str) = "times") := by decide +kernel
theorem nl2 : ¬ (("least" : Str) = "plus") := by decide +kernel
theorem nl3 : ¬ (("least" : Str) = "turn") := by decide +kernel
theorem nl4 : ¬ (("least" : Str) = "turn_plus") := by decide +kernel
theorem le60' {x : Int} (h : x ≤ 100 * 10 ^ 50) : x ≤ 10 ^ 60 := Int.le_trans h (by decide)
theorem ok_rises {f Ct Cn CW : Addr} {fd : FuncData} (F : Fun K "_law_rises" "_law_rises" sRises f fd) (T : Blt mg) (gW : mg "WeightRule" = some (.ref CW)) (MT : RMeth P w K mg base Ct CW) (MN : RMeth P w K mg base Cn CW) (ik : InsK K) : FnOk P w K mg base CX0 5 f fd ["_law_rule_so", "_law_one"] (spRises Ct Cn) := by
  obtain ⟨cT, ⟨fg, fdg, GG, bG, mG⟩, ⟨fl, fdl, GL, bL, mL⟩, _, haT, hmT, isT⟩ := id MT
  obtain ⟨cN, ⟨fg', fdg', GG', bG', mG'⟩, ⟨fl', fdl', GL', bL', mL'⟩, _, haN, hmN, isN⟩ := id MN
  refine F.ok scRises (fun vs H Q E h => ?_) (fun cdv A outer s H vs Q E hr h => ?_)
  · obtain ⟨r, row, x, rfl, _⟩ := h
    rfl
  · obtain ⟨r, row, x, rfl, ob, ok, x1, x2, kk⟩ := h
    refine ⟨_, pss_cons (ps_par (i := 2) (j := 3) rfl scRises.nd rfl rfl (by decide) rfl rfl (pa_cons (pe_or (pe_meth (pv 0) cT.cl mG GG hr bG .nil pass0 (pa_cons (pv 1) pa_nil)) (pe_meth (pv 0) cN.cl mG' GG' hr bG' .nil pass0 (pa_cons (pv 1) pa_nil)))
        (pa_cons (pe_or (pe_meth (pv 0) cT.cl mG GG hr bG .nil pass0 (pa_cons (pe_op op_add (pv 1) pe_int) pa_nil)) (pe_meth (pv 0) cN.cl mG' GG' hr bG' .nil pass0 (pa_cons (pe_op op_add (pv 1) pe_int) pa_nil))) pa_nil)) (by rfl))
      (pss_cons (ps_if (pt_not (pt_val (pe_callB call_isi (by rfl) T.isi (by decide +kernel) (pa_cons (pv 0) (pa_cons (pe_glob (v := .ref CW) rfl gW rfl) pa_nil))))) (pss_one (ps_ret pe_bl)) pss_nil)
      (pss_one (ps_ret (pe_and (pe_cmpR op_ge (pv 2) (pe_op op_add (pv 1) pe_int) (nomark _)) (pe_and (pe_cmpR op_ge (pv 3) (pe_op op_add (pv 2) pe_int) (nomark _))
        (pe_one (pe_chain op_le op_le (pe_or (pe_meth (pv 0) cT.cl mL GL hr bL .nil pass0 (pa_cons (pv 2) pa_nil)) (pe_meth (pv 0) cN.cl mL' GL' hr bL' .nil pass0 (pa_cons (pv 2) pa_nil))) (pv 1)
          (pe_op op_sub (pe_or (pe_meth (pv 0) cT.cl mL GL hr bL .nil pass0 (pa_cons (pe_op op_add (pv 2) pe_int) pa_nil)) (pe_meth (pv 0) cN.cl mL' GL' hr bL' .nil pass0 (pa_cons (pe_op op_add (pv 2) pe_int) pa_nil))) pe_int)))))))), ?_⟩
    have R := ob.rb cT cN ok
    have o := Row.okN ok
    obtain ⟨C, hC, dx, fs, hr0, no⟩ := ob.cls
    have g1 := great_ge o x1
    have g2 := great_step (x := x) o
    have g3 := great_le o x1
    have hP : 1 ≤ row.p := by obtain ⟨o1, o2, _⟩ := o; omega
    have e1 : leastV row.p row.q row.k (greatV row.p row.q row.k x) ≤ x := (least_le hP x1).mpr ((le_great o.1).mp (Int.le_refl _))
    have e2 : ¬ leastV row.p row.q row.k (greatV row.p row.q row.k x + 1) ≤ x := fun z => by
      have := (le_great (y := greatV row.p row.q row.k x + 1) o.1).mpr ((least_le hP x1).mp z)
      omega
    refine or_of (F := fun C => tMeth C _ _ _ _ _ _ _ _ _) hC ⟨_, rfl, r, dx, fs, rfl, hr0, no _ ng1 ng2 ng3 ng4, _, rfl, r, row.p, row.q, row.k, x, rfl, R, x1, le60' (by omega), ?_⟩
    refine or_of (F := fun C => tMeth C _ _ _ _ _ _ _ _ _) hC ⟨_, rfl, r, dx, fs, rfl, hr0, no _ ng1 ng2 ng3 ng4, _, rfl, _, _, rfl, rfl, r, row.p, row.q, row.k, _, rfl, R, by omega, le60' (by omega), _, _, rfl, ?_⟩
    change 1 ≤ row.p at hP
    have i1 : ∀ C, (C = Ct ∨ C = Cn) → H r = some (.ins C dx fs) → TyX K H (.ref r) (.ref C) ∧ PySem.W.kitOne K (.ref C) (.ref CW) = some true := fun C hC hr0 => by
      rcases hC with rfl | rfl
      · exact ⟨.base (.ins hr0 cT.cl haT ik.hn ik.htk hmT), isT⟩
      · exact ⟨.base (.ins hr0 cN.cl haN ik.hn ik.htk hmN), isN⟩
    obtain ⟨i2, i3⟩ := i1 C hC hr0
    refine ⟨_, rfl, _, _, _, _, true, rfl, .own CW, i2, i3, true, rfl, iteF ?_⟩
    refine ⟨_, rfl, _, rfl, _, _, rfl, rfl, _, _, rfl, rfl, true, congrArg V.bl (decide_eq_true (show x + 1 ≤ greatV row.p row.q row.k x from g1)), iteT ?_⟩
    refine ⟨_, rfl, _, rfl, _, _, rfl, rfl, _, _, rfl, rfl, true, congrArg V.bl (decide_eq_true (show greatV row.p row.q row.k x + 1 ≤ greatV row.p row.q row.k (x + 1) from g2)), iteT ?_⟩
    refine or_of (F := fun C => tMeth C _ _ _ _ _ _ _ _ _) hC ⟨_, rfl, r, dx, fs, rfl, hr0, no _ nl1 nl2 nl3 nl4, _, rfl, r, row.p, row.q, row.k, _, rfl, R, (show 1 ≤ greatV row.p row.q row.k x by omega), le60' (show greatV row.p row.q row.k x ≤ 100 * 10 ^ 50 by omega), _, rfl, _, _, rfl, rfl, true, congrArg V.bl (decide_eq_true e1), iteT ?_⟩
    refine or_of (F := fun C => tMeth C _ _ _ _ _ _ _ _ _) hC ⟨_, rfl, r, dx, fs, rfl, hr0, no _ nl1 nl2 nl3 nl4, _, rfl, _, _, rfl, rfl, r, row.p, row.q, row.k, _, rfl, R, (show 1 ≤ greatV row.p row.q row.k x + 1 by omega), le60' (show greatV row.p row.q row.k x + 1 ≤ 100 * 10 ^ 50 by omega), _, _, rfl, rfl, _, _, rfl, rfl, ?_⟩
    show Q (.bl (decide (x ≤ leastV row.p row.q row.k (greatV row.p row.q row.k x + 1) - 1))) H
    rw [decide_eq_true (by omega)]
    exact kk
end
end Ev
namespace Ev
open PySem L2 PySem.Spec PyProof.Rows
def spPen (K : PySem.W.Frag) : Sp := fun vs H Q _ => ∃ (a : Addr) (ns : List Int), vs = [.ref a] ∧ SqL K H a (ns.map V.int) ∧ ns.length ≤ 63 ∧
  ∀ (p L : Addr) (H' : Hp), H p = none → Same H H' → Pen L H' p 0 → Q (.ref p) H'
def spLaw (K : PySem.W.Frag) : Sp := fun vs H Q _ => ∃ (a : Addr) (ns : List Int), vs = [.ref a] ∧ SqL K H a (ns.map V.int) ∧ ns.length ≤ 63 ∧ ∀ H', Q (.bl true) H'
theorem But.tup {L p a : Addr} {H H' : Hp} {B : Int} {xs : List V} (h : H a = some (.tup xs)) (pn : Pen L H p B) (t : But p H H') : H' a = some (.tup xs) := by
  obtain ⟨ys, e⟩ := pn.some
  exact t _ _ (ne_of h e (by intro z; cases z)) h
theorem Pen.put {L p D : Addr} {H : Hp} {B : Int} {o : HO} (h : Pen L H p B) (d1 : D ≠ p) (d2 : D ≠ L) : Pen L (upd H D o) p B := by
  obtain ⟨ns, t, c, h1, h2, h3⟩ := h
  exact ⟨ns, t, c, by rw [upd_ne d1.symm]; exact h1, by rw [upd_ne d2.symm]; exact h2, h3⟩
theorem Pen.neL {L p D : Addr} {H : Hp} {B : Int} (h : Pen L H p B) (n : H D = none) : D ≠ L := by
  obtain ⟨ns, t, c, h1, h2, h3⟩ := h
  exact (ne_of_none h2 n).symm
theorem cut_ints (ns : List Int) (h : Int) : ∃ ms : List Int, cutV (ns.map V.int) none (some h) = ms.map V.int ∧ ms.length ≤ ns.length := by
  unfold cutV
  generalize HT.sIx (ns.map V.int).length 0 none = x
  generalize HT.sIx (ns.map V.int).length (ns.map V.int).length (some h) - x = y
  refine ⟨(ns.drop x).take y, ?_, ?_⟩
  · rw [List.map_take, List.map_drop]
  · rw [List.length_take, List.length_drop]; omega
section
variable {P : Program} {w : World} {K : PySem.W.Frag} {mg : Str → Option Value} {base : Heap}
theorem scPen : FnScope ["_law_script"] ["_law_script"] (defScope sPen) := ⟨rfl, rfl, rfl, by decide +kernel, rfl, by decide +kernel, by decide +kernel⟩
theorem ok_pen {f : Addr} {fd : FuncData} (F : Fun K "_law_pen" "_law_pen" sPen f fd) (T : Blt mg) : FnOk P w K mg base CX0 1 f fd ["_law_script"] (spPen K) := by
  refine F.ok scPen (fun vs H Q E h => ?_) (fun cdv A outer s H vs Q E hr h => ?_)
  · obtain ⟨a, ns, rfl, _⟩ := h
    rfl
  · obtain ⟨a, ns, rfl, hS, hlen, kk⟩ := h
    refine ⟨_, pss_one (ps_ret (pe_lst (pa_cons (pe_callTy call_list_of (by rfl) T.list (by decide +kernel) (pa_cons (pe_slice sl_list (pv 0) po_none (po_some pe_int)) pa_nil)) (pa_cons pe_int (pa_cons pe_int pa_nil))))), ?_⟩
    refine ⟨_, rfl, _, rfl, a, _, rfl, hS, fun l1 nl1 => ⟨l1, _, rfl, .inl (SqL.of upd_same), fun l2 nl2 => ⟨(by show 3 ≤ sizeLine; decide), fun p np => ?_⟩⟩⟩
    obtain ⟨ms, e1, e2⟩ := cut_ints ns 63
    rw [e1] at nl2 np ⊢
    have s1 : Same H (upd (upd H l1 (.lst (ms.map V.int))) l2 (.lst (ms.map V.int))) := (same_new nl1).trans (same_new nl2)
    have s2 := s1.trans (same_new (o := .lst [.ref l2, .int 0, .int 0]) np)
    refine kk p l2 _ ?_ s2 ⟨ms, 0, 0, upd_same, by rw [upd_ne (ne_of_none upd_same np)]; exact upd_same, ne_of_none upd_same np, by omega, by decide, by decide, by decide⟩
    cases z : H p with
    | none => rfl
    | some o => rw [s1 _ _ z] at np; cases np
theorem scLaw : FnScope ["_law_script", "_law_pen_here", "_law_p", "_law_q", "_law_some", "_law_lap", "_law_rule_so", "_law_far", "_law_one", "_law_other"] ["_law_script"] (defScope sLaw) := ⟨rfl, rfl, rfl, by decide +kernel, rfl, by decide +kernel, by decide +kernel⟩
theorem hmin {x : Int} (h : 1 ≤ x) : 1 ≤ (if (200 : Int) < x then 200 else x) ∧ (if (200 : Int) < x then 200 else x) ≤ 200 := by
  by_cases z : (200 : Int) < x
  · rw [if_pos z]; omega
  · rw [if_neg z]; omega
theorem ten_pow (k : Fin 30) : 1 ≤ (10 : Int) ^ (k : Nat) ∧ (10 : Int) ^ (k : Nat) ≤ 10 ^ 29 := by
  revert k
  decide +kernel
theorem far_le {d n : Int} (h0 : 0 ≤ d) (h1 : d < 10 ^ 9) (n1 : 1 ≤ n ∧ n ≤ 10 ^ 29) : 1 ≤ 1 + d * n ∧ 1 + d * n ≤ 10 ^ 40 := by
  have h2 := Int.mul_nonneg h0 (show 0 ≤ n by omega)
  have h3 : d * n ≤ 10 ^ 9 * 10 ^ 29 := Int.mul_le_mul (by omega) n1.2 (by omega) (by decide)
  have h4 : (10 : Int) ^ 9 * 10 ^ 29 + 1 ≤ 10 ^ 40 := by decide
  omega
theorem lt_of_lt9 {d : Int} (h : d < 10 ^ Int.toNat 9) : d < 2 ^ 64 := Int.lt_trans h (by decide)
theorem le50 {x : Int} (h : x ≤ 10 ^ 40) : x ≤ 10 ^ 50 := Int.le_trans h (by decide)
theorem ok_law {f Ct Cn CW : Addr} {fd : FuncData} (F : Fun K "law" "law" sLaw f fd) (T : Blt mg) (MT : RMeth P w K mg base Ct CW) (MN : RMeth P w K mg base Cn CW)
    (D1 : Df P w K mg base 1 "_law_draw" ["_law_pen_here", "_law_many"] spDraw) (D2 : Df P w K mg base 2 "_law_pick" ["_law_pen_here", "_law_some"] spPick) (D3 : Df P w K mg base 3 "_law_numbers" ["_law_pen_here"] spNums)
    (D4 : Df P w K mg base 8 "_law_rule" ["_law_some"] (spRule Ct Cn)) (D5 : Df P w K mg base 9 "_law_is_refused" ["_law_some"] spRef) (D6 : Df P w K mg base 1 "_law_pen" ["_law_script"] (spPen K)) (D7 : Df P w K mg base 2 "_law_has_halves" ["_law_some"] spHasH)
    (D8 : Df P w K mg base 5 "_law_rises" ["_law_rule_so", "_law_one"] (spRises Ct Cn)) : FnOk P w K mg base CX0 10 f fd ["_law_script"] (spLaw K) := by
  obtain ⟨f1, fd1, G1, g1, k1, b1⟩ := D1.ex
  obtain ⟨f2, fd2, G2, g2, k2, b2⟩ := D2.ex
  obtain ⟨f3, fd3, G3, g3, k3, b3⟩ := D3.ex
  obtain ⟨f4, fd4, G4, g4, k4, b4⟩ := D4.ex
  obtain ⟨f5, fd5, G5, g5, k5, b5⟩ := D5.ex
  obtain ⟨f6, fd6, G6, g6, k6, b6⟩ := D6.ex
  obtain ⟨f7, fd7, G7, g7, k7, b7⟩ := D7.ex
  obtain ⟨f8, fd8, G8, g8, k8, b8⟩ := D8.ex
  obtain ⟨cT, ⟨fg, fdg, GG, bG, mG⟩, ⟨fl, fdl, GL, bL, mL⟩, ⟨fc, fdc, GC, bC, mC⟩, haT, hmT, isT⟩ := id MT
  obtain ⟨cN, ⟨fg', fdg', GG', bG', mG'⟩, ⟨fl', fdl', GL', bL', mL'⟩, ⟨fc', fdc', GC', bC', mC'⟩, haN, hmN, isN⟩ := id MN
  have RC := fnr_of GC bC
  have RC' := fnr_of GC' bC'
  refine F.ok scLaw (fun vs H Q E h => ?_) (fun cdv A outer s H vs Q E hr h => ?_)
  · obtain ⟨a, ns, rfl, _⟩ := h
    rfl
  · obtain ⟨a, ns, rfl, hS, hlen, kk⟩ := h
    have hr1 : Room 1 _ := hr.mono (by decide)
    have hr2 : Room 2 _ := hr.mono (by decide)
    have hr3 : Room 3 _ := hr.mono (by decide)
    have hr4 : Room 4 _ := hr.mono (by decide)
    have hr5 : Room 5 _ := hr.mono (by decide)
    have hr8 : Room 8 _ := hr.mono (by decide)
    refine ⟨_, pss_cons (ps_set (i := 1) scLaw.nd rfl (.inl rfl) (pe_call G6 hr1 (by rfl) g6 k6 b6 .nil pass0 (pa_cons (pv 0) pa_nil)))
      (pss_cons (ps_for PassesOwn.never rfl (pi_range2 rfl T.range (pa_cons pe_int (pa_cons pe_int pa_nil))) (pg_name (i := 2) scLaw.nd rfl (.inl rfl))
        (pss_one (ps_for PassesOwn.never rfl (pi_range2 rfl T.range (pa_cons pe_int (pa_cons (pe_op op_add (pv 2) pe_int) pa_nil))) (pg_name (i := 3) scLaw.nd rfl (.inl rfl))
          (pss_cons (ps_set (i := 4) scLaw.nd rfl (.inl rfl) (pe_tup (pa_cons (pv 2) (pa_cons (pv 3) (pa_cons (pe_op op_sub (pe_call G1 hr1 (by rfl) g1 k1 b1 .nil pass0 (pa_cons (pv 1) (pa_cons pe_int pa_nil))) pe_int) pa_nil)))))
          (pss_one (ps_if (pt_cmpR op_ne (pe_call G5 hr (by rfl) g5 k5 b5 .nil pass0 (pa_cons (pv 4) pa_nil)) (pe_not (pe_call G7 hr2 (by rfl) g7 k7 b7 .nil pass0 (pa_cons (pv 4) pa_nil))) (nomark _)) (pss_one (ps_ret pe_bl)) pss_nil))))))
      (pss_cons (ps_for PassesOwn.never rfl (pi_range1 rfl T.range (pa_cons pe_int pa_nil)) (pg_name (i := 5) scLaw.nd rfl (.inl rfl))
        (pss_cons (ps_set (i := 4) scLaw.nd rfl (.inl rfl) (pe_call G3 hr3 (by rfl) g3 k3 b3 .nil pass0 (pa_cons (pv 1) pa_nil)))
        (pss_cons (ps_set (i := 6) scLaw.nd rfl (.inl rfl) (pe_call G4 hr8 (by rfl) g4 k4 b4 .nil pass0 (pa_cons (pe_call G2 hr2 (by rfl) g2 k2 b2 .nil pass0 (pa_cons (pv 1) (pa_cons (pe_lst (pa_cons (pv 4) (pa_cons (pe_slice sl_tupA (pv 4) po_none (po_some pe_int)) pa_nil))) pa_nil))) pa_nil)))
        (pss_cons (ps_set (i := 7) scLaw.nd rfl (.inl rfl) (pe_op op_add pe_int (pe_op op_mul (pe_call G1 hr1 (by rfl) g1 k1 b1 .nil pass0 (pa_cons (pv 1) (pa_cons (pe_op op_pow pe_int pe_int) pa_nil)))
          (pe_callTy call_int_str (by rfl) T.int (by decide +kernel) (pa_cons (pe_op op_add_str pe_str (pe_op op_zeros pe_str (pe_call G1 hr1 (by rfl) g1 k1 b1 .nil pass0 (pa_cons (pv 1) (pa_cons pe_int pa_nil))))) pa_nil)))))
        (pss_one (ps_for PassesOwn.never rfl (pi_list (pe_lst (pa_cons pe_int (pa_cons pe_int (pa_cons pe_int (pa_cons (pe_op op_add pe_int (pe_call G1 hr1 (by rfl) g1 k1 b1 .nil pass0 (pa_cons (pv 1) (pa_cons pe_int pa_nil)))) (pa_cons (pv 7) pa_nil))))))) (pg_name (i := 8) scLaw.nd rfl (.inl rfl))
          (pss_cons (ps_if (pt_not (pt_val (pe_call G8 hr5 (by rfl) g8 k8 b8 .nil pass0 (pa_cons (pv 6) (pa_cons (pv 8) pa_nil))))) (pss_one (ps_ret pe_bl)) pss_nil)
          (pss_cons (ps_set (i := 9) scLaw.nd rfl (.inl rfl) (pe_op op_add (pv 8) (pe_call G1 hr1 (by rfl) g1 k1 b1 .nil pass0 (pa_cons (pv 1) (pa_cons (pe_op op_add (pe_op op_mul pe_int
            (pe_callB (call_min2 rfl) (by rfl) T.min (by decide +kernel) (pa_cons (pe_callTy call_int1 (by rfl) T.int (by decide +kernel) (pa_cons (pv 8) pa_nil)) (pa_cons pe_int pa_nil)))) pe_int) pa_nil)))))
          (pss_cons (ps_if (pt_cmpR op_ne (pe_or (StX.pe_callO (pv 6) mC RC hr4 (E := E0) pass0 (pa_cons (pv 8) (pa_cons (pv 9) pa_nil))) (StX.pe_callO (pv 6) mC' RC' hr4 (E := E0) pass0 (pa_cons (pv 8) (pa_cons (pv 9) pa_nil))))
            (pe_cmpR op_le (pv 9) (pe_or (pe_meth (pv 6) cT.cl mG GG hr4 bG .nil pass0 (pa_cons (pv 8) pa_nil)) (pe_meth (pv 6) cN.cl mG' GG' hr4 bG' .nil pass0 (pa_cons (pv 8) pa_nil))) (nomark _)) (nomark _)) (pss_one (ps_ret pe_bl)) pss_nil)
          (pss_one (ps_if (pt_cmpR op_ne (pe_or (StX.pe_callO (pv 6) mC RC hr4 (E := E0) pass0 (pa_cons (pv 9) (pa_cons (pv 8) pa_nil))) (StX.pe_callO (pv 6) mC' RC' hr4 (E := E0) pass0 (pa_cons (pv 9) (pa_cons (pv 8) pa_nil))))
            (pe_cmpR op_ge (pv 8) (pe_or (pe_meth (pv 6) cT.cl mL GL hr4 bL .nil pass0 (pa_cons (pv 9) pa_nil)) (pe_meth (pv 6) cN.cl mL' GL' hr4 bL' .nil pass0 (pa_cons (pv 9) pa_nil))) (nomark _)) (nomark _)) (pss_one (ps_ret pe_bl)) pss_nil)))))))))))
      (pss_one (ps_ret pe_bl)))), ?_⟩
    refine ⟨_, rfl, a, ns, rfl, hS, hlen, fun p L H1 np s1 pn0 => ?_⟩
    refine ⟨1, 7, rfl, ⟨by decide, by decide, by decide, by decide⟩, for_range (lo := 1) (n := 6) (fun i σ H2 => ∃ v2 v3 v4 v5 v6 v7 v8 v9 : Option V, σ = [some (.ref a), some (.ref p), v2, v3, v4, v5, v6, v7, v8, v9] ∧ Pen L H2 p (10 * (i : Int)))
      ⟨none, none, none, none, none, none, none, none, rfl, pn0.mono (by decide)⟩ ?_ ?_⟩
    · rintro i σ H2 hi ⟨v2, v3, v4, v5, v6, v7, v8, v9, rfl, pn⟩
      refine ⟨_, rfl, _, _, rfl, rfl, 1, _, rfl, ⟨by decide, by decide, by omega, by omega⟩, for_range (lo := 1) (fun j σ H2 => ∃ v3 v4 v5 v6 v7 v8 v9 : Option V, σ = [some (.ref a), some (.ref p), some (.int (1 + (i : Int))), v3, v4, v5, v6, v7, v8, v9] ∧ Pen L H2 p (10 * (i : Int) + (j : Int)))
        ⟨v3, v4, v5, v6, v7, v8, v9, rfl, pn.mono (by omega)⟩ ?_ ?_⟩
      · rintro j σ H3 hj ⟨v3, v4, v5, v6, v7, v8, v9, rfl, pn3⟩
        have hj2 : j < i + 1 := by omega
        refine ⟨_, rfl, _, rfl, _, rfl, p, L, _, _, rfl, by decide, by decide, by omega, pn3, fun d H4 t4 p4 lo hi' => ⟨_, _, rfl, rfl, (by show 3 ≤ sizeLine; decide), fun l nl => ?_⟩⟩
        refine ⟨_, rfl, l, _, _, _, rfl, upd_same, by omega, by omega, by omega, by omega, by omega, fun H5 s5 => ⟨_, rfl, l, _, _, _, rfl, s5 _ _ upd_same, by omega, by omega, by omega, by omega, by omega, fun H6 s6 => ⟨_, rfl, rfl, _, rfl, iteNS rfl ?_⟩⟩⟩
        exact ⟨_, _, _, _, _, _, _, rfl, (((p4.new nl).keep s5).keep s6).mono (by omega)⟩
      · rintro σ H3 ⟨v3, v4, v5, v6, v7, v8, v9, rfl, pn3⟩
        exact ⟨_, _, _, _, _, _, _, _, rfl, pn3.mono (by omega)⟩
    · rintro σ H2 ⟨v2, v3, v4, v5, v6, v7, v8, v9, rfl, pn⟩
      refine ⟨6, rfl, by decide, by decide, for_range (n := 6) (fun i σ H2 => ∃ v2 v3 v4 v5 v6 v7 v8 v9 : Option V, σ = [some (.ref a), some (.ref p), v2, v3, v4, v5, v6, v7, v8, v9] ∧ Pen L H2 p (100 + 100 * (i : Int)))
        ⟨v2, v3, v4, v5, v6, v7, v8, v9, rfl, pn.mono (by decide)⟩ ?_ ?_⟩
      · rintro i σ H2 hi ⟨v2, v3, v4, v5, v6, v7, v8, v9, rfl, pn⟩
        refine ⟨_, rfl, p, L, _, rfl, by omega, pn, fun ra p' q k t s c H3 okn okt nra hra bt3 pn3 => ?_⟩
        refine ⟨_, rfl, _, rfl, _, rfl, _, rfl, slice3 (row := .tn p' q k t s c) hra fun a3 H4 s4 ha3 => ⟨(by show 2 ≤ sizeLine; decide), fun ll nll => ?_⟩⟩
        have pn4 := pn3.keep s4
        refine ⟨p, ll, L, _, _, rfl, upd_same, pn4.ne nll, (by show 1 ≤ 2; decide), (by show 2 ≤ 1000; decide), by omega, pn4.new nll, fun dv H6 mem t6 p6 => ?_⟩
        have t46 : But p H4 H6 := (Same.but (same_new nll)).trans t6
        obtain ⟨lr, row, rfl, hlr, ok⟩ : ∃ (lr : Addr) (row : Row), dv = .ref lr ∧ H6 lr = some (.tup row.vs) ∧ row.ok := by
          simp only [List.mem_cons, List.not_mem_nil, or_false] at mem
          rcases mem with e | e
          · exact ⟨ra, .tn p' q k t s c, e, But.tup (s4 _ _ hra) pn4 t46, okn, okt⟩
          · exact ⟨a3, .tr p' q k, e, But.tup (xs := (Row.tr p' q k).vs) ha3 pn4 t46, okn⟩
        refine ⟨lr, row, rfl, hlr, ok, fun r H7 s7 ob => ?_⟩
        have pn7 := p6.keep s7
        obtain ⟨ys, hp7⟩ := pn7.some
        refine ⟨_, rfl, _, _, rfl, rfl, ⟨by decide, by decide, by decide⟩, p, L, _, _, rfl, by decide, by decide, by omega, pn7, fun d1 H8 t8 p8 lo1 hi1 => ?_⟩
        refine ⟨_, rfl, p, L, _, _, rfl, by decide, by decide, by omega, p8, fun d2 H9 t9 p9 lo2 hi2 => ?_⟩
        have hd2 : d2.toNat < 30 := by omega
        refine ⟨d2, rfl, rfl, lo2, by omega, _, _, rfl, rfl, (Nat.le_trans (Nat.add_le_add_left (zeros_len1 ⟨d2.toNat, hd2⟩) _) (by decide)), _, _, rfl, zeros_int ⟨d2.toNat, hd2⟩, zeros_len ⟨d2.toNat, hd2⟩, _, _, rfl, rfl, .inl ⟨by omega, lt_of_lt9 hi1⟩, _, _, rfl, rfl, ?_⟩
        have hfar := far_le lo1 hi1 (ten_pow ⟨d2.toNat, hd2⟩)
        generalize (10 : Int) ^ ((⟨d2.toNat, hd2⟩ : Fin 30) : Nat) = N at hfar ⊢
        refine ⟨_, rfl, p, L, _, _, rfl, by decide, by decide, by omega, p9, fun d3 H10 t10 p10 lo3 hi3 => ⟨_, _, rfl, rfl, _, rfl, (by show 5 ≤ sizeLine; decide), fun lo nlo => ⟨lo, rfl, ⟨_, SqL.of upd_same⟩, ?_⟩⟩⟩
        have bt10 : But p H7 H10 := t8.trans (t9.trans t10)
        have pn11 := p10.new (o := .lst [.int 1, .int 2, .int 3, .int (1 + d3), .int (1 + d1 * N)]) nlo
        have hlo : upd H10 lo (.lst [.int 1, .int 2, .int 3, .int (1 + d3), .int (1 + d1 * N)]) lo = some (.lst [.int 1, .int 2, .int 3, .int (1 + d3), .int (1 + d1 * N)]) := upd_same
        have bt11 : But p H7 (upd H10 lo (.lst [.int 1, .int 2, .int 3, .int (1 + d3), .int (1 + d1 * N)])) := bt10.trans (Same.but (same_new nlo))
        have nlp := p10.ne nlo
        refine for_list (K := K) (a := lo) (xs := [.int 1, .int 2, .int 3, .int (1 + d3), .int (1 + d1 * N)]) (fun j σ H2 => ∃ v8 v9 : Option V, σ = [some (.ref a), some (.ref p), v2, v3, some (.ref ra), some (.int (0 + (i : Int))), some (.ref r), some (.int (1 + d1 * N)), v8, v9] ∧ Pen L H2 p (100 + 100 * (i : Int) + 20 + (j : Int)) ∧ But p (upd H10 lo (.lst [.int 1, .int 2, .int 3, .int (1 + d3), .int (1 + d1 * N)])) H2)
          ⟨v8, v9, rfl, pn11.mono (by omega), But.refl _ _⟩ (fun j σ H2 _ ⟨_, _, _, _, bt⟩ => SqL.of (bt _ _ nlp hlo)) ?_ ?_
        · rintro j y σ H12 hj ⟨v8, v9, rfl, pn12, bt12⟩
          obtain ⟨x, rfl, x1, x2⟩ : ∃ x : Int, y = .int x ∧ 1 ≤ x ∧ x ≤ 10 ^ 40 := by
            have hj' := List.mem_of_getElem? hj
            simp only [List.mem_cons, List.not_mem_nil, or_false] at hj'
            rcases hj' with e | e | e | e | e
            · exact ⟨_, e, by decide, by decide⟩
            · exact ⟨_, e, by decide, by decide⟩
            · exact ⟨_, e, by decide, by decide⟩
            · exact ⟨_, e, by omega, by omega⟩
            · exact ⟨_, e, hfar.1, hfar.2⟩
          have hj5 : j < 5 := (List.getElem?_eq_some_iff.mp hj).1
          have ob12 := ob.but hp7 (bt11.trans bt12)
          refine ⟨_, rfl, _, rfl, r, row, x, rfl, ob12, ok, x1, le50 x2, true, rfl, iteF ?_⟩
          have hm := hmin x1
          refine ⟨_, rfl, _, rfl, _, rfl, .inl ⟨_, rfl, _, _, rfl, _, _, rfl, rfl, .inl ⟨by decide, by decide⟩, _, _, rfl, rfl, p, L, _, _, rfl, by omega, by omega, by omega, pn12, fun d4 H13 t13 p13 lo4 hi4 => ⟨_, _, rfl, rfl, ?_⟩⟩⟩
          have y2 : x + d4 ≤ 100 * 10 ^ 50 := by
            have : (10 : Int) ^ 40 + 5000 ≤ 100 * 10 ^ 50 := by decide
            omega
          have y3 : x ≤ 100 * 10 ^ 50 := Int.le_trans x2 (by decide)
          have ob13 := ob.but hp7 ((bt11.trans bt12).trans t13)
          have R := ob13.rb cT cN ok
          have o := Row.okN ok
          obtain ⟨C, hC, dx, fs, hr0, no⟩ := ob13.cls
          have e1 : fairB row.p row.q row.k x (x + d4) = decide (x + d4 ≤ greatV row.p row.q row.k x) := by
            rw [fair_iff o x1 (by omega)]
            exact decide_eq_decide.mpr (le_great o.1).symm
          have e2 : fairB row.p row.q row.k (x + d4) x = decide (leastV row.p row.q row.k (x + d4) ≤ x) := by
            rw [fairB_comm, fair_iff o x1 (by omega)]
            exact decide_eq_decide.mpr (least_le (by obtain ⟨o1, o2, _⟩ := o; omega) x1).symm
          refine or_of (F := fun C => StX.tCallO _ C _ _ _ _ _ _ _) hC ⟨_, rfl, r, rfl, _, rfl, _, rfl, .inr ⟨dx, fs, hr0⟩, r, row.p, row.q, row.k, x, _, rfl, R, ⟨x1, le60' y3⟩, ⟨by omega, le60' y2⟩, ?_⟩
          refine ⟨_, rfl, ?_⟩
          refine or_of (F := fun C => tMeth C _ _ _ _ _ _ _ _ _) hC ⟨_, rfl, r, dx, fs, rfl, hr0, no _ ng1 ng2 ng3 ng4, _, rfl, r, row.p, row.q, row.k, x, rfl, R, x1, le60' y3, _, _, rfl, rfl, rfl, _, rfl, iteNS (congrArg V.bl e1) ?_⟩
          refine or_of (F := fun C => StX.tCallO _ C _ _ _ _ _ _ _) hC ⟨_, rfl, r, rfl, _, rfl, _, rfl, .inr ⟨dx, fs, hr0⟩, r, row.p, row.q, row.k, _, x, rfl, R, ⟨by omega, le60' y2⟩, ⟨x1, le60' y3⟩, ?_⟩
          refine ⟨_, rfl, ?_⟩
          refine or_of (F := fun C => tMeth C _ _ _ _ _ _ _ _ _) hC ⟨_, rfl, r, dx, fs, rfl, hr0, no _ nl1 nl2 nl3 nl4, _, rfl, r, row.p, row.q, row.k, _, rfl, R, by omega, le60' y2, _, _, rfl, rfl, rfl, _, rfl, iteNS (congrArg V.bl e2) ?_⟩
          exact ⟨_, _, rfl, p13.mono (by omega), bt12.trans t13⟩
        · rintro σ H12 ⟨v8, v9, rfl, pn12, bt12⟩
          exact ⟨_, _, _, _, _, _, _, _, rfl, pn12.mono (by show 100 + 100 * (i : Int) + 20 + ((5 : Nat) : Int) ≤ 100 + 100 * ((i + 1 : Nat) : Int); omega)⟩
      · rintro σ H2 ⟨v2, v3, v4, v5, v6, v7, v8, v9, rfl, pn⟩
        exact kk H2
end
end Ev
namespace Ev
open PySem L2 PySem.Spec PyProof.Rows
theorem kit_cls' {K : PySem.W.Frag} {t : Value} {C : Addr} (h1 : PySem.W.isClsIn K C = true) (h2 : PySem.W.typeIn K (.ref C) = some (.type "type")) (h3 : PySem.W.subIn K t (.ref C) = some true) : PySem.W.kitCls K t (.ref C) = some true := by
  have h1 : (PySem.W.clsIn K C).isSome = true := h1
  unfold PySem.W.kitCls
  simp only [h1, h2, h3]
  decide
theorem kit_own {K : PySem.W.Frag} {t : Value} {C : Addr} (h1 : PySem.W.isClsIn K C = true) (h2 : PySem.W.typeIn K (.ref C) = some (.type "type")) (h3 : PySem.W.subIn K t (.ref C) = some true) : PySem.W.kitOne K t (.ref C) = some true := by
  unfold PySem.W.kitOne
  split
  · rfl
  · exact kit_cls' h1 h2 h3
theorem exm_own {K : PySem.W.Frag} {t : Value} {C : Addr} (h1 : PySem.W.isClsIn K C = true) (h2 : PySem.W.typeIn K (.ref C) = some (.type "type")) (h3 : PySem.W.subIn K t (.ref C) = some true) (h4 : PySem.W.subIn K (.ref C) (.type "BaseException") = some true) : PySem.W.exmOne K t (.ref C) = some true := by
  unfold PySem.W.exmOne
  rw [h4, if_pos (by decide)]
  exact kit_cls' h1 h2 h3
set_option maxHeartbeats 4000000 in
theorem all_mk {l : PySem.W.OpenLaw} {w : World} {K : PySem.W.Frag} {h : Heap} {mg : Str → Option Value} {f0 f1 f2 f3 f4 f5 f6 f7 f8 f9 f10 f11 f12 f13 f14 f15 f16 f17 f18 f19 f20 f21 f22 Ct Cn CW Nh T30 f30 T33 f33 f35 f37 f38 f39 fa : Addr} {od0 an0 od1 an1 od2 an2 od3 an3 od4 an4 od5 an5 od6 an6 od7 an7 od8 an8 od9 an9 od10 an10 od11 an11 od12 an12 od13 an13 od14 an14 od15 an15 od16 an16 od17 an17 od18 an18 od19 an19 od20 an20 od21 an21 od22 an22 td30 od30 an30 td33 od33 an33 od35 an35 od37 an37 od38 an38 od39 an39 : Option Addr} {sl0 sl1 sl2 sl3 sl4 sl5 sl6 sl7 sl8 sl9 sl10 sl11 sl12 sl13 sl14 sl15 sl16 sl17 sl18 sl19 sl20 sl21 sl22 ts30 sl30 ts33 sl33 sl35 sl37 sl38 sl39 : Array (Option Value)} {oc0 kV0 dc0 pm0 cd0 ct0 oc1 kV1 dc1 pm1 cd1 ct1 oc2 kV2 dc2 pm2 cd2 ct2 oc3 kV3 dc3 pm3 cd3 ct3 oc4 kV4 dc4 pm4 cd4 ct4 oc5 kV5 dc5 pm5 cd5 ct5 oc6 kV6 dc6 pm6 cd6 ct6 oc7 kV7 dc7 pm7 cd7 ct7 oc8 kV8 dc8 pm8 cd8 ct8 oc9 kV9 dc9 pm9 cd9 ct9 oc10 kV10 dc10 pm10 cd10 ct10 oc11 kV11 dc11 pm11 cd11 ct11 oc12 kV12 dc12 pm12 cd12 ct12 oc13 kV13 dc13 pm13 cd13 ct13 oc14 kV14 dc14 pm14 cd14 ct14 oc15 kV15 dc15 pm15 cd15 ct15 oc16 kV16 dc16 pm16 cd16 ct16 oc17 kV17 dc17 pm17 cd17 ct17 oc18 kV18 dc18 pm18 cd18 ct18 oc19 kV19 dc19 pm19 cd19 ct19 oc20 kV20 dc20 pm20 cd20 ct20 oc21 kV21 dc21 pm21 cd21 ct21 oc22 kV22 dc22 pm22 cd22 ct22 tc30 oc30 kV30 dc30 pm30 cd30 ct30 tc33 oc33 kV33 dc33 pm33 cd33 ct33 oc35 kV35 dc35 pm35 cd35 ct35 oc37 kV37 dc37 pm37 cd37 ct37 oc38 kV38 dc38 pm38 cd38 ct38 oc39 kV39 dc39 pm39 cd39 ct39 : Value} {tt30 tt33 tW tP tT tM : Tok} {tn30 tn33 : Nat} {nmN qN nsN bsN bmN snN subN abN colN ddN k0N k1N k2N k3N k5N : _} {f90 : Addr} {od90 an90 : Option Addr} {sl90 : Array (Option Value)} {oc90 kV90 dc90 pm90 cd90 ct90 : Value} {f91 : Addr} {od91 an91 : Option Addr} {sl91 : Array (Option Value)} {oc91 kV91 dc91 pm91 cd91 ct91 : Value} (X : K.In h) (G : h.Ns mainGlobals mg) (hfa : mg "law" = some (.ref fa))
    (a0 : PySem.W.nsIn K mainGlobals "is_integer" = some (some (.ref f0)))
    (l0 : K.lookup f0 = some ⟨oc0, od0, .func (PySem.W.fnOf "is_integer" "is_integer" (defArgs sIsInt) (defBody sIsInt) (defScope sIsInt) .none kV0 dc0 pm0 an0 cd0 ct0), sl0⟩)
    (c0 : PySem.W.codeIn K cd0 "is_integer" = true)
    (k0 : PySem.W.keepIn K (.ref f0) = true)
    (a1 : PySem.W.nsIn K mainGlobals "is_within" = some (some (.ref f1)))
    (l1 : K.lookup f1 = some ⟨oc1, od1, .func (PySem.W.fnOf "is_within" "is_within" (defArgs sWithin) (defBody sWithin) (defScope sWithin) .none kV1 dc1 pm1 an1 cd1 ct1), sl1⟩)
    (c1 : PySem.W.codeIn K cd1 "is_within" = true)
    (k1 : PySem.W.keepIn K (.ref f1) = true)
    (a2 : PySem.W.nsIn K mainGlobals "are_fair" = some (some (.ref f2)))
    (l2 : K.lookup f2 = some ⟨oc2, od2, .func (PySem.W.fnOf "are_fair" "are_fair" (defArgs sFair) (defBody sFair) (defScope sFair) .none kV2 dc2 pm2 an2 cd2 ct2), sl2⟩)
    (c2 : PySem.W.codeIn K cd2 "are_fair" = true)
    (k2 : PySem.W.keepIn K (.ref f2) = true)
    (a3 : PySem.W.nsIn K mainGlobals "need_weight" = some (some (.ref f3)))
    (l3 : K.lookup f3 = some ⟨oc3, od3, .func (PySem.W.fnOf "need_weight" "need_weight" (defArgs sNeedW) (defBody sNeedW) (defScope sNeedW) .none kV3 dc3 pm3 an3 cd3 ct3), sl3⟩)
    (c3 : PySem.W.codeIn K cd3 "need_weight" = true)
    (k3 : PySem.W.keepIn K (.ref f3) = true)
    (a4 : PySem.W.nsIn K mainGlobals "is_pair" = some (some (.ref f4)))
    (l4 : K.lookup f4 = some ⟨oc4, od4, .func (PySem.W.fnOf "is_pair" "is_pair" (defArgs sPair) (defBody sPair) (defScope sPair) .none kV4 dc4 pm4 an4 cd4 ct4), sl4⟩)
    (c4 : PySem.W.codeIn K cd4 "is_pair" = true)
    (k4 : PySem.W.keepIn K (.ref f4) = true)
    (a5 : PySem.W.nsIn K mainGlobals "is_times" = some (some (.ref f5)))
    (l5 : K.lookup f5 = some ⟨oc5, od5, .func (PySem.W.fnOf "is_times" "is_times" (defArgs sTimes) (defBody sTimes) (defScope sTimes) .none kV5 dc5 pm5 an5 cd5 ct5), sl5⟩)
    (c5 : PySem.W.codeIn K cd5 "is_times" = true)
    (k5 : PySem.W.keepIn K (.ref f5) = true)
    (a6 : PySem.W.nsIn K mainGlobals "is_plus" = some (some (.ref f6)))
    (l6 : K.lookup f6 = some ⟨oc6, od6, .func (PySem.W.fnOf "is_plus" "is_plus" (defArgs sPlus) (defBody sPlus) (defScope sPlus) .none kV6 dc6 pm6 an6 cd6 ct6), sl6⟩)
    (c6 : PySem.W.codeIn K cd6 "is_plus" = true)
    (k6 : PySem.W.keepIn K (.ref f6) = true)
    (a7 : PySem.W.nsIn K mainGlobals "is_turn" = some (some (.ref f7)))
    (l7 : K.lookup f7 = some ⟨oc7, od7, .func (PySem.W.fnOf "is_turn" "is_turn" (defArgs sTurn) (defBody sTurn) (defScope sTurn) .none kV7 dc7 pm7 an7 cd7 ct7), sl7⟩)
    (c7 : PySem.W.codeIn K cd7 "is_turn" = true)
    (k7 : PySem.W.keepIn K (.ref f7) = true)
    (a8 : PySem.W.nsIn K mainGlobals "need_times" = some (some (.ref f8)))
    (l8 : K.lookup f8 = some ⟨oc8, od8, .func (PySem.W.fnOf "need_times" "need_times" (defArgs sNeedT) (defBody sNeedT) (defScope sNeedT) .none kV8 dc8 pm8 an8 cd8 ct8), sl8⟩)
    (c8 : PySem.W.codeIn K cd8 "need_times" = true)
    (k8 : PySem.W.keepIn K (.ref f8) = true)
    (a9 : PySem.W.nsIn K mainGlobals "has_halves" = some (some (.ref f9)))
    (l9 : K.lookup f9 = some ⟨oc9, od9, .func (PySem.W.fnOf "has_halves" "has_halves" (defArgs sHalves) (defBody sHalves) (defScope sHalves) .none kV9 dc9 pm9 an9 cd9 ct9), sl9⟩)
    (c9 : PySem.W.codeIn K cd9 "has_halves" = true)
    (k9 : PySem.W.keepIn K (.ref f9) = true)
    (a10 : PySem.W.nsIn K mainGlobals "need_halves" = some (some (.ref f10)))
    (l10 : K.lookup f10 = some ⟨oc10, od10, .func (PySem.W.fnOf "need_halves" "need_halves" (defArgs sNeedH) (defBody sNeedH) (defScope sNeedH) .none kV10 dc10 pm10 an10 cd10 ct10), sl10⟩)
    (c10 : PySem.W.codeIn K cd10 "need_halves" = true)
    (k10 : PySem.W.keepIn K (.ref f10) = true)
    (a11 : PySem.W.nsIn K mainGlobals "_law_pen" = some (some (.ref f11)))
    (l11 : K.lookup f11 = some ⟨oc11, od11, .func (PySem.W.fnOf "_law_pen" "_law_pen" (defArgs sPen) (defBody sPen) (defScope sPen) .none kV11 dc11 pm11 an11 cd11 ct11), sl11⟩)
    (c11 : PySem.W.codeIn K cd11 "_law_pen" = true)
    (k11 : PySem.W.keepIn K (.ref f11) = true)
    (a12 : PySem.W.nsIn K mainGlobals "_law_draw" = some (some (.ref f12)))
    (l12 : K.lookup f12 = some ⟨oc12, od12, .func (PySem.W.fnOf "_law_draw" "_law_draw" (defArgs sDraw) (defBody sDraw) (defScope sDraw) .none kV12 dc12 pm12 an12 cd12 ct12), sl12⟩)
    (c12 : PySem.W.codeIn K cd12 "_law_draw" = true)
    (k12 : PySem.W.keepIn K (.ref f12) = true)
    (a13 : PySem.W.nsIn K mainGlobals "_law_pick" = some (some (.ref f13)))
    (l13 : K.lookup f13 = some ⟨oc13, od13, .func (PySem.W.fnOf "_law_pick" "_law_pick" (defArgs sPick) (defBody sPick) (defScope sPick) .none kV13 dc13 pm13 an13 cd13 ct13), sl13⟩)
    (c13 : PySem.W.codeIn K cd13 "_law_pick" = true)
    (k13 : PySem.W.keepIn K (.ref f13) = true)
    (a14 : PySem.W.nsIn K mainGlobals "_law_numbers" = some (some (.ref f14)))
    (l14 : K.lookup f14 = some ⟨oc14, od14, .func (PySem.W.fnOf "_law_numbers" "_law_numbers" (defArgs sNums) (defBody sNums) (defScope sNums) .none kV14 dc14 pm14 an14 cd14 ct14), sl14⟩)
    (c14 : PySem.W.codeIn K cd14 "_law_numbers" = true)
    (k14 : PySem.W.keepIn K (.ref f14) = true)
    (a15 : PySem.W.nsIn K mainGlobals "_law_rule" = some (some (.ref f15)))
    (l15 : K.lookup f15 = some ⟨oc15, od15, .func (PySem.W.fnOf "_law_rule" "_law_rule" (defArgs sRule) (defBody sRule) (defScope sRule) .none kV15 dc15 pm15 an15 cd15 ct15), sl15⟩)
    (c15 : PySem.W.codeIn K cd15 "_law_rule" = true)
    (k15 : PySem.W.keepIn K (.ref f15) = true)
    (a16 : PySem.W.nsIn K mainGlobals "_law_fair" = some (some (.ref f16)))
    (l16 : K.lookup f16 = some ⟨oc16, od16, .func (PySem.W.fnOf "_law_fair" "_law_fair" (defArgs sLFair) (defBody sLFair) (defScope sLFair) .none kV16 dc16 pm16 an16 cd16 ct16), sl16⟩)
    (c16 : PySem.W.codeIn K cd16 "_law_fair" = true)
    (k16 : PySem.W.keepIn K (.ref f16) = true)
    (a17 : PySem.W.nsIn K mainGlobals "_law_is_refused" = some (some (.ref f17)))
    (l17 : K.lookup f17 = some ⟨oc17, od17, .func (PySem.W.fnOf "_law_is_refused" "_law_is_refused" (defArgs sRef) (defBody sRef) (defScope sRef) .none kV17 dc17 pm17 an17 cd17 ct17), sl17⟩)
    (c17 : PySem.W.codeIn K cd17 "_law_is_refused" = true)
    (k17 : PySem.W.keepIn K (.ref f17) = true)
    (a18 : PySem.W.nsIn K mainGlobals "_law_has_halves" = some (some (.ref f18)))
    (l18 : K.lookup f18 = some ⟨oc18, od18, .func (PySem.W.fnOf "_law_has_halves" "_law_has_halves" (defArgs sHasH) (defBody sHasH) (defScope sHasH) .none kV18 dc18 pm18 an18 cd18 ct18), sl18⟩)
    (c18 : PySem.W.codeIn K cd18 "_law_has_halves" = true)
    (k18 : PySem.W.keepIn K (.ref f18) = true)
    (a19 : PySem.W.nsIn K mainGlobals "law" = some (some (.ref f19)))
    (l19 : K.lookup f19 = some ⟨oc19, od19, .func (PySem.W.fnOf "law" "law" (defArgs sLaw) (defBody sLaw) (defScope sLaw) .none kV19 dc19 pm19 an19 cd19 ct19), sl19⟩)
    (c19 : PySem.W.codeIn K cd19 "law" = true)
    (k19 : PySem.W.keepIn K (.ref f19) = true)
    (a20 : PySem.W.nsIn K mainGlobals "_law_rises" = some (some (.ref f20)))
    (l20 : K.lookup f20 = some ⟨oc20, od20, .func (PySem.W.fnOf "_law_rises" "_law_rises" (defArgs sRises) (defBody sRises) (defScope sRises) .none kV20 dc20 pm20 an20 cd20 ct20), sl20⟩)
    (c20 : PySem.W.codeIn K cd20 "_law_rises" = true)
    (k20 : PySem.W.keepIn K (.ref f20) = true)
    (a21 : PySem.W.nsIn K mainGlobals "kept" = some (some (.ref f21)))
    (l21 : K.lookup f21 = some ⟨oc21, od21, .func (PySem.W.fnOf "kept" "kept" (defArgs sKept) (defBody sKept) (defScope sKept) .none kV21 dc21 pm21 an21 cd21 ct21), sl21⟩)
    (c21 : PySem.W.codeIn K cd21 "kept" = true)
    (k21 : PySem.W.keepIn K (.ref f21) = true)
    (a22 : PySem.W.nsIn K mainGlobals "parts_of" = some (some (.ref f22)))
    (l22 : K.lookup f22 = some ⟨oc22, od22, .func (PySem.W.fnOf "parts_of" "parts_of" (defArgs sParts) (defBody sParts) (defScope sParts) .none kV22 dc22 pm22 an22 cd22 ct22), sl22⟩)
    (c22 : PySem.W.codeIn K cd22 "parts_of" = true)
    (k22 : PySem.W.keepIn K (.ref f22) = true)
    (aCt : PySem.W.nsIn K mainGlobals "TryRule" = some (some (.ref Ct)))
    (aCn : PySem.W.nsIn K mainGlobals "TurnRule" = some (some (.ref Cn)))
    (aCW : PySem.W.nsIn K mainGlobals "WeightRule" = some (some (.ref CW)))
    (aNh : PySem.W.nsIn K mainGlobals "NoHalves" = some (some (.ref Nh)))
    (pgCt : PySem.W.plainGet K Ct Str.empty = true)
    (hdCt : PySem.W.hasDictIn K Ct = true)
    (poCt : PySem.W.plainOver K Ct = true)
    (saCt : PySem.W.findIn K (.ref Ct) "__setattr__" = some (some (.builtin "object.__setattr__")))
    (mkCt : PySem.W.makesIn K Ct = true)
    (kcCt : PySem.W.keepIn K (.ref Ct) = true)
    (n0Ct : PySem.W.findIn K (.ref Ct) "times" = some none)
    (n1Ct : PySem.W.findIn K (.ref Ct) "plus" = some none)
    (n2Ct : PySem.W.findIn K (.ref Ct) "turn" = some none)
    (n3Ct : PySem.W.findIn K (.ref Ct) "turn_plus" = some none)
    (hcCt : PySem.W.findIn K (.ref Ct) "__class__" = some (some (.builtin "object.__class__")))
    (moCt : PySem.W.mroIn K Ct (.type "object") = some true)
    (suCt : PySem.W.subIn K (.ref Ct) (.ref CW) = some true)
    (pgCn : PySem.W.plainGet K Cn Str.empty = true)
    (hdCn : PySem.W.hasDictIn K Cn = true)
    (poCn : PySem.W.plainOver K Cn = true)
    (saCn : PySem.W.findIn K (.ref Cn) "__setattr__" = some (some (.builtin "object.__setattr__")))
    (mkCn : PySem.W.makesIn K Cn = true)
    (kcCn : PySem.W.keepIn K (.ref Cn) = true)
    (n0Cn : PySem.W.findIn K (.ref Cn) "times" = some none)
    (n1Cn : PySem.W.findIn K (.ref Cn) "plus" = some none)
    (n2Cn : PySem.W.findIn K (.ref Cn) "turn" = some none)
    (n3Cn : PySem.W.findIn K (.ref Cn) "turn_plus" = some none)
    (hcCn : PySem.W.findIn K (.ref Cn) "__class__" = some (some (.builtin "object.__class__")))
    (moCn : PySem.W.mroIn K Cn (.type "object") = some true)
    (suCn : PySem.W.subIn K (.ref Cn) (.ref CW) = some true)
    (suTT : PySem.W.subIn K (.ref Ct) (.ref Ct) = some true)
    (icCW : PySem.W.isClsIn K CW = true)
    (icCt : PySem.W.isClsIn K Ct = true)
    (icNh : PySem.W.isClsIn K Nh = true)
    (ttCW : PySem.W.typeIn K (.ref CW) = some (.type "type"))
    (ttCt : PySem.W.typeIn K (.ref Ct) = some (.type "type"))
    (suNN : PySem.W.subIn K (.ref Nh) (.ref Nh) = some true)
    (ikn : PySem.W.specialIn K (.builtin "object.__class__") "__get__" = some (some (.builtin "getset_descriptor.__get__")))
    (ikt : PySem.W.takesIn K (.builtin "object.__class__") = some true)
    (m30 : PySem.W.findIn K (.ref Ct) "__init__" = some (some (.ref f30)))
    (i30 : PySem.W.isFn K (.ref f30) = true)
    (l30 : K.lookup f30 = some ⟨oc30, od30, .func (PySem.W.fnOf "__init__" "TryRule.__init__" (defArgs sTryInit) (defBody sTryInit) (defScope sTryInit) (.ref T30) kV30 dc30 pm30 an30 cd30 ct30), sl30⟩)
    (c30 : PySem.W.codeIn K cd30 "TryRule.__init__" = true)
    (k30 : PySem.W.keepIn K (.ref f30) = true)
    (t30 : K.lookup T30 = some ⟨tc30, td30, .seq #[Value.int 0 tt30] tn30, ts30⟩)
    (m33 : PySem.W.findIn K (.ref Cn) "__init__" = some (some (.ref f33)))
    (i33 : PySem.W.isFn K (.ref f33) = true)
    (l33 : K.lookup f33 = some ⟨oc33, od33, .func (PySem.W.fnOf "__init__" "TurnRule.__init__" (defArgs sTurnInit) (defBody sTurnInit) (defScope sTurnInit) (.ref T33) kV33 dc33 pm33 an33 cd33 ct33), sl33⟩)
    (c33 : PySem.W.codeIn K cd33 "TurnRule.__init__" = true)
    (k33 : PySem.W.keepIn K (.ref f33) = true)
    (t33 : K.lookup T33 = some ⟨tc33, td33, .seq #[Value.int 0 tt33] tn33, ts33⟩)
    (m35 : PySem.W.findIn K (.ref Ct) "greatest" = some (some (.ref f35)))
    (i35 : PySem.W.isFn K (.ref f35) = true)
    (l35 : K.lookup f35 = some ⟨oc35, od35, .func (PySem.W.fnOf "greatest" "WeightRule.greatest" (defArgs sGreatest) (defBody sGreatest) (defScope sGreatest) .none kV35 dc35 pm35 an35 cd35 ct35), sl35⟩)
    (c35 : PySem.W.codeIn K cd35 "WeightRule.greatest" = true)
    (k35 : PySem.W.keepIn K (.ref f35) = true)
    (m37 : PySem.W.findIn K (.ref Ct) "least" = some (some (.ref f37)))
    (i37 : PySem.W.isFn K (.ref f37) = true)
    (l37 : K.lookup f37 = some ⟨oc37, od37, .func (PySem.W.fnOf "least" "WeightRule.least" (defArgs sLeast) (defBody sLeast) (defScope sLeast) .none kV37 dc37 pm37 an37 cd37 ct37), sl37⟩)
    (c37 : PySem.W.codeIn K cd37 "WeightRule.least" = true)
    (k37 : PySem.W.keepIn K (.ref f37) = true)
    (m38 : PySem.W.findIn K (.ref Ct) "__call__" = some (some (.ref f38)))
    (i38 : PySem.W.isFn K (.ref f38) = true)
    (l38 : K.lookup f38 = some ⟨oc38, od38, .func (PySem.W.fnOf "__call__" "WeightRule.__call__" (defArgs sCall) (defBody sCall) (defScope sCall) .none kV38 dc38 pm38 an38 cd38 ct38), sl38⟩)
    (c38 : PySem.W.codeIn K cd38 "WeightRule.__call__" = true)
    (k38 : PySem.W.keepIn K (.ref f38) = true)
    (m39 : PySem.W.findIn K (.ref Nh) "__init__" = some (some (.ref f39)))
    (i39 : PySem.W.isFn K (.ref f39) = true)
    (l39 : K.lookup f39 = some ⟨oc39, od39, .func (PySem.W.fnOf "__init__" "NoHalves.__init__" (defArgs sNHInit) (defBody sNHInit) (defScope sNHInit) .none kV39 dc39 pm39 an39 cd39 ct39), sl39⟩)
    (c39 : PySem.W.codeIn K cd39 "NoHalves.__init__" = true)
    (k39 : PySem.W.keepIn K (.ref f39) = true)
    (m36 : PySem.W.findIn K (.ref Cn) "greatest" = some (some (.ref f35)))
    (m47 : PySem.W.findIn K (.ref Cn) "least" = some (some (.ref f37)))
    (m48 : PySem.W.findIn K (.ref Cn) "__call__" = some (some (.ref f38)))
    (fi38 : PySem.W.fnIn K f38 = true)
    (ty39 : PySem.W.typeIn K (.ref f39) = some (.type "function"))
    (lN : K.lookup Nh = some (excClassObj nmN qN Nh nsN bsN bmN true snN subN abN colN ddN k0N k1N k2N k3N k5N "ValueError.__new__"))
    (rN : PySem.HandSPX.refsVE bmN = true)
    (saN : PySem.W.findIn K (.ref Nh) "__setattr__" = some (some (.builtin "object.__setattr__")))
    (exN : PySem.W.subIn K (.ref Nh) (.type "BaseException") = some true)
    (tyN : PySem.W.typeIn K (.ref Nh) = some (.type "type"))
    (kN : PySem.W.keepIn K (.ref Nh) = true)
    (noN : PySem.W.findIn K (.ref Nh) "weight" = some none)
    (rdW : PySem.W.readsIn K CW (.type "type") = true)
    (gaW : PySem.W.specialIn K (.ref CW) "__getattribute__" = some (some (.builtin "type.__getattribute__")))
    (cvW : PySem.W.findCls K (.ref CW) (.type "type") "MOST" = some (.val (.int 6 tW)))
    (hgP : PySem.W.nsIn K mainGlobals "MOST_PLUS" = some (some (.int 6 tP)))
    (hgT : PySem.W.nsIn K mainGlobals "MOST_TURN" = some (some (.int 8 tT)))
    (hgM : PySem.W.nsIn K mainGlobals "MOST_WEIGHT" = some (some (.int (10 ^ 60) tM)))
    (zint : PySem.W.nsIn K mainGlobals "int" = some none)
    (zlen : PySem.W.nsIn K mainGlobals "len" = some none)
    (zabs : PySem.W.nsIn K mainGlobals "abs" = some none)
    (zlist : PySem.W.nsIn K mainGlobals "list" = some none)
    (zmin : PySem.W.nsIn K mainGlobals "min" = some none)
    (zmax : PySem.W.nsIn K mainGlobals "max" = some none)
    (zisinstance : PySem.W.nsIn K mainGlobals "isinstance" = some none)
    (zbool : PySem.W.nsIn K mainGlobals "bool" = some none)
    (ztuple : PySem.W.nsIn K mainGlobals "tuple" = some none)
    (zall : PySem.W.nsIn K mainGlobals "all" = some none)
    (zrange : PySem.W.nsIn K mainGlobals "range" = some none)
    (zrepr : PySem.W.nsIn K mainGlobals "repr" = some none)
    (zany : PySem.W.nsIn K mainGlobals "any" = some none)
    (zdict : PySem.W.nsIn K mainGlobals "dict" = some none)
    (a90 : PySem.W.nsIn K mainGlobals "greatest_beside" = some (some (.ref f90)))
    (l90 : K.lookup f90 = some ⟨oc90, od90, .func (PySem.W.fnOf "greatest_beside" "greatest_beside" (defArgs sGreatB) (defBody sGreatB) (defScope sGreatB) .none kV90 dc90 pm90 an90 cd90 ct90), sl90⟩)
    (c90 : PySem.W.codeIn K cd90 "greatest_beside" = true)
    (k90 : PySem.W.keepIn K (.ref f90) = true)
    (a91 : PySem.W.nsIn K mainGlobals "least_beside" = some (some (.ref f91)))
    (l91 : K.lookup f91 = some ⟨oc91, od91, .func (PySem.W.fnOf "least_beside" "least_beside" (defArgs sLeastB) (defBody sLeastB) (defScope sLeastB) .none kV91 dc91 pm91 an91 cd91 ct91), sl91⟩)
    (c91 : PySem.W.codeIn K cd91 "least_beside" = true)
    (k91 : PySem.W.keepIn K (.ref f91) = true) :
    ∃ fd : FuncData, (∀ (s : Shared) (v : Value), BindsTo s fd ⟨[v], []⟩ [("_law_script", v)]) ∧ ∀ base : Heap, K.In base → base.Ns mainGlobals mg → FnOk l.prog w K mg base CX0 10 fa fd ["_law_script"] (spLaw K) := by
  have e := hfa.symm.trans (PySem.W.mg_of X G a19)
  cases e
  have F0 := fun_mk (st := sIsInt) l0 c0 k0
  have b0 := F0.binds (ps := ["value"]) fun _ _ _ _ _ _ us hl => match us, hl with | [_], _ => rfl
  have F1 := fun_mk (st := sWithin) l1 c1 k1
  have b1 := F1.binds (ps := ["value", "least", "most"]) fun _ _ _ _ _ _ us hl => match us, hl with | [_, _, _], _ => rfl
  have F2 := fun_mk (st := sFair) l2 c2 k2
  have b2 := F2.binds (ps := ["rule", "x", "y"]) fun _ _ _ _ _ _ us hl => match us, hl with | [_, _, _], _ => rfl
  have F3 := fun_mk (st := sNeedW) l3 c3 k3
  have b3 := F3.binds (ps := ["value"]) fun _ _ _ _ _ _ us hl => match us, hl with | [_], _ => rfl
  have F4 := fun_mk (st := sPair) l4 c4 k4
  have b4 := F4.binds (ps := ["value", "most"]) fun _ _ _ _ _ _ us hl => match us, hl with | [_, _], _ => rfl
  have F5 := fun_mk (st := sTimes) l5 c5 k5
  have b5 := F5.binds (ps := ["value"]) fun _ _ _ _ _ _ us hl => match us, hl with | [_], _ => rfl
  have F6 := fun_mk (st := sPlus) l6 c6 k6
  have b6 := F6.binds (ps := ["value"]) fun _ _ _ _ _ _ us hl => match us, hl with | [_], _ => rfl
  have F7 := fun_mk (st := sTurn) l7 c7 k7
  have b7 := F7.binds (ps := ["value"]) fun _ _ _ _ _ _ us hl => match us, hl with | [_], _ => rfl
  have F8 := fun_mk (st := sNeedT) l8 c8 k8
  have b8 := F8.binds (ps := ["times", "plus"]) fun _ _ _ _ _ _ us hl => match us, hl with | [_, _], _ => rfl
  have F9 := fun_mk (st := sHalves) l9 c9 k9
  have b9 := F9.binds (ps := ["times", "plus"]) fun _ _ _ _ _ _ us hl => match us, hl with | [_, _], _ => rfl
  have F10 := fun_mk (st := sNeedH) l10 c10 k10
  have b10 := F10.binds (ps := ["times", "plus"]) fun _ _ _ _ _ _ us hl => match us, hl with | [_, _], _ => rfl
  have F11 := fun_mk (st := sPen) l11 c11 k11
  have b11 := F11.binds (ps := ["_law_script"]) fun _ _ _ _ _ _ us hl => match us, hl with | [_], _ => rfl
  have F12 := fun_mk (st := sDraw) l12 c12 k12
  have b12 := F12.binds (ps := ["_law_pen_here", "_law_many"]) fun _ _ _ _ _ _ us hl => match us, hl with | [_, _], _ => rfl
  have F13 := fun_mk (st := sPick) l13 c13 k13
  have b13 := F13.binds (ps := ["_law_pen_here", "_law_some"]) fun _ _ _ _ _ _ us hl => match us, hl with | [_, _], _ => rfl
  have F14 := fun_mk (st := sNums) l14 c14 k14
  have b14 := F14.binds (ps := ["_law_pen_here"]) fun _ _ _ _ _ _ us hl => match us, hl with | [_], _ => rfl
  have F15 := fun_mk (st := sRule) l15 c15 k15
  have b15 := F15.binds (ps := ["_law_some"]) fun _ _ _ _ _ _ us hl => match us, hl with | [_], _ => rfl
  have F16 := fun_mk (st := sLFair) l16 c16 k16
  have b16 := F16.binds (ps := ["_law_some", "_law_one", "_law_other"]) fun _ _ _ _ _ _ us hl => match us, hl with | [_, _, _], _ => rfl
  have F17 := fun_mk (st := sRef) l17 c17 k17
  have b17 := F17.binds (ps := ["_law_some"]) fun _ _ _ _ _ _ us hl => match us, hl with | [_], _ => rfl
  have F18 := fun_mk (st := sHasH) l18 c18 k18
  have b18 := F18.binds (ps := ["_law_some"]) fun _ _ _ _ _ _ us hl => match us, hl with | [_], _ => rfl
  have F19 := fun_mk (st := sLaw) l19 c19 k19
  have b19 := F19.binds (ps := ["_law_script"]) fun _ _ _ _ _ _ us hl => match us, hl with | [_], _ => rfl
  have F20 := fun_mk (st := sRises) l20 c20 k20
  have b20 := F20.binds (ps := ["_law_rule_so", "_law_one"]) fun _ _ _ _ _ _ us hl => match us, hl with | [_, _], _ => rfl
  have F21 := fun_mk (st := sKept) l21 c21 k21
  have b21 := F21.binds (ps := ["value"]) fun _ _ _ _ _ _ us hl => match us, hl with | [_], _ => rfl
  have F22 := fun_mk (st := sParts) l22 c22 k22
  have b22 := F22.binds (ps := ["value"]) fun _ _ _ _ _ _ us hl => match us, hl with | [_], _ => rfl
  have F35 := fun_mk (st := sGreatest) l35 c35 k35
  have b35 := F35.binds (ps := ["self", "x"]) fun _ _ _ _ _ _ us hl => match us, hl with | [_, _], _ => rfl
  have F37 := fun_mk (st := sLeast) l37 c37 k37
  have b37 := F37.binds (ps := ["self", "y"]) fun _ _ _ _ _ _ us hl => match us, hl with | [_, _], _ => rfl
  have F38 := fun_mk (st := sCall) l38 c38 k38
  have b38 := F38.binds (ps := ["self", "x", "y"]) fun _ _ _ _ _ _ us hl => match us, hl with | [_, _, _], _ => rfl
  have F39 := fun_mk (st := sNHInit) l39 c39 k39
  have b39 := F39.binds (ps := ["self", "weight"]) fun _ _ _ _ _ _ us hl => match us, hl with | [_, _], _ => rfl
  have T : Blt mg := ⟨PySem.W.mg_none_of X G zint, PySem.W.mg_none_of X G zlen, PySem.W.mg_none_of X G zabs, PySem.W.mg_none_of X G zlist, PySem.W.mg_none_of X G zmin, PySem.W.mg_none_of X G zmax, PySem.W.mg_none_of X G zisinstance, PySem.W.mg_none_of X G zbool, PySem.W.mg_none_of X G ztuple, PySem.W.mg_none_of X G zall, PySem.W.mg_none_of X G zrange, PySem.W.mg_none_of X G zrepr⟩
  have RT : RCls K Ct := ⟨⟨pgCt, hdCt, poCt, saCt⟩, n0Ct, n1Ct, n2Ct, n3Ct⟩
  have RN : RCls K Cn := ⟨⟨pgCn, hdCn, poCn, saCn⟩, n0Cn, n1Cn, n2Cn, n3Cn⟩
  have ik : InsK K := ⟨ikn, ikt⟩
  have D30 : FunD K "__init__" "TryRule.__init__" (defArgs sTryInit) (defBody sTryInit) (defScope sTryInit) [.int 0] [] f30 _ := ⟨⟨_, _, _, _, _, _, _, _, _, _, rfl, l30, c30, .inr ⟨by simp, T30, _, [Value.int 0 tt30], tn30, rfl, t30, rfl, .cons ⟨_, rfl⟩ .nil⟩, .inl rfl⟩, k30⟩
  have D33 : FunD K "__init__" "TurnRule.__init__" (defArgs sTurnInit) (defBody sTurnInit) (defScope sTurnInit) [.int 0] [] f33 _ := ⟨⟨_, _, _, _, _, _, _, _, _, _, rfl, l33, c33, .inr ⟨by simp, T33, _, [Value.int 0 tt33], tn33, rfl, t33, rfl, .cons ⟨_, rfl⟩ .nil⟩, .inl rfl⟩, k33⟩
  obtain ⟨ds30, v30, b30⟩ := FunD.binds1 (ps := ["self", "times", "plus"]) D30 3 1 (by simp) rfl (fun _ _ _ _ _ _ _ us its h1 h2 => match us, its, h1, h2 with | [_, _, _], [_], _, _ => ⟨_, rfl, rfl⟩)
  cases v30
  obtain ⟨its33, b33⟩ := FunD.kbindsD (ps := ["self", "times", "plus", "turn", "turn_plus"]) D33 3 ["turn", "turn_plus"] (fun us _ ws => us ++ ws) (by simp) (fun r1 _ r2 => r1.append r2)
    (fun _ _ _ _ _ _ _ us its ws h1 h2 h3 => match us, its, ws, h1, h2, h3 with | [_, _, _], [_], [_, _], _, _, _ => ⟨_, rfl, rfl⟩)
  refine ⟨PySem.W.fnOf "law" "law" (defArgs sLaw) (defBody sLaw) (defScope sLaw) .none kV19 dc19 pm19 an19 cd19 ct19, fun s v => .of_eq rfl, fun base _ _ => ?_⟩
  have d0 : Df l.prog w K mg base 1 "is_integer" ["value"] _ := ⟨f0, _, ok_isInt F0 T, PySem.W.mg_of X G a0, F0.kp, b0⟩
  obtain ⟨_, _, GI, gI, kI, bI⟩ := d0.ex
  have d1 : Df l.prog w K mg base 2 "is_within" ["value", "least", "most"] _ := ⟨f1, _, ok_within F1 T GI gI kI bI, PySem.W.mg_of X G a1, F1.kp, b1⟩
  have d2 : Df l.prog w K mg base 1 "are_fair" ["rule", "x", "y"] _ := ⟨f2, _, ok_fair F2, PySem.W.mg_of X G a2, F2.kp, b2⟩
  have d3 : Df l.prog w K mg base 3 "need_weight" ["value"] _ := ⟨f3, _, ok_needW F3 d1 (PySem.W.mg_of X G hgM), PySem.W.mg_of X G a3, F3.kp, b3⟩
  have d4 : Df l.prog w K mg base 3 "is_pair" ["value", "most"] _ := ⟨f4, _, ok_pair F4 T d1, PySem.W.mg_of X G a4, F4.kp, b4⟩
  have d5 : Df l.prog w K mg base 4 "is_times" ["value"] _ := ⟨f5, _, ok_times F5 d4 (PySem.W.mg_of X G aCW) ⟨rdW, gaW⟩ ⟨cvW, ⟨_, rfl⟩⟩, PySem.W.mg_of X G a5, F5.kp, b5⟩
  have d6 : Df l.prog w K mg base 3 "is_plus" ["value"] _ := ⟨f6, _, ok_plus F6 d1 (PySem.W.mg_of X G hgP), PySem.W.mg_of X G a6, F6.kp, b6⟩
  have d7 : Df l.prog w K mg base 4 "is_turn" ["value"] _ := ⟨f7, _, ok_turn F7 d4 (PySem.W.mg_of X G hgT), PySem.W.mg_of X G a7, F7.kp, b7⟩
  have d8 : Df l.prog w K mg base 5 "need_times" ["times", "plus"] _ := ⟨f8, _, ok_needT F8 d5 d6, PySem.W.mg_of X G a8, F8.kp, b8⟩
  have d9 : Df l.prog w K mg base 1 "has_halves" ["times", "plus"] _ := ⟨f9, _, ok_halves F9, PySem.W.mg_of X G a9, F9.kp, b9⟩
  have d9g : Df l.prog w K mg base 1 "has_halves" ["times", "plus"] _ := ⟨f9, _, ok_halvesG F9, PySem.W.mg_of X G a9, F9.kp, b9⟩
  have d10 : Df l.prog w K mg base 2 "need_halves" ["times", "plus"] _ := ⟨f10, _, ok_needH F10 d9, PySem.W.mg_of X G a10, F10.kp, b10⟩
  have d11 : Df l.prog w K mg base 1 "_law_pen" ["_law_script"] _ := ⟨f11, _, ok_pen F11 T, PySem.W.mg_of X G a11, F11.kp, b11⟩
  have d12 : Df l.prog w K mg base 1 "_law_draw" ["_law_pen_here", "_law_many"] _ := ⟨f12, _, ok_draw F12 T, PySem.W.mg_of X G a12, F12.kp, b12⟩
  have d13 : Df l.prog w K mg base 2 "_law_pick" ["_law_pen_here", "_law_some"] _ := ⟨f13, _, ok_pick F13 T d12, PySem.W.mg_of X G a13, F13.kp, b13⟩
  have d14 : Df l.prog w K mg base 3 "_law_numbers" ["_law_pen_here"] _ := ⟨f14, _, ok_nums F14 T d12 d13, PySem.W.mg_of X G a14, F14.kp, b14⟩
  have d22 : Df l.prog w K mg base 1 "parts_of" ["value"] _ := ⟨f22, _, ok_parts F22 T (PySem.W.mg_none_of X G zdict), PySem.W.mg_of X G a22, F22.kp, b22⟩
  have d21 : Df l.prog w K mg base 2 "kept" ["value"] _ := ⟨f21, _, ok_kept F21 T (PySem.W.mg_none_of X G zdict) (PySem.W.mg_none_of X G zany) d22, PySem.W.mg_of X G a21, F21.kp, b21⟩
  have oN : OexC K Nh := ⟨⟨_, _, _, _, _, _, _, _, _, _, _, _, _, _, _, lN, rN⟩, saN, exN, tyN, kN⟩
  have G39 := ok_nh (P := l.prog) (w := w) (mg := mg) (base := base) F39 oN noN d21
  have NH : NhC l.prog w K mg base Nh := ⟨oN, PySem.W.mg_of X G aNh, _, _, m39, ty39, G39, b39⟩
  have GHX := ok_needHX F10 d9g NH
  have GT0 := ok_tryInit (P := l.prog) (w := w) (mg := mg) (base := base) D30 RT d8 d10
  have GN0 := ok_turnInit (P := l.prog) (w := w) (mg := mg) (base := base) D33 RN d8 d10 d7 d6
  have GTX := ok_tryInitX D30 RT d8 GHX (PySem.W.mg_of X G a10) k10 b10
  have MTT : Mk K Ct f30 := ⟨mkCt, m30, i30, kcCt⟩
  have GRX := ok_ruleX F15 T (PySem.W.mg_of X G aCt) MTT GTX b30
  have d15 : Df l.prog w K mg base 8 "_law_rule" ["_law_some"] _ := ⟨f15, _, ok_rule F15 T (PySem.W.mg_of X G aCt) (PySem.W.mg_of X G aCn) MTT ⟨mkCn, m33, i33, kcCn⟩ GT0 b30 GN0 b33, PySem.W.mg_of X G a15, F15.kp, b15⟩
  have d16 : Df l.prog w K mg base 1 "_law_fair" ["_law_some", "_law_one", "_law_other"] _ := ⟨f16, _, ok_lfair F16, PySem.W.mg_of X G a16, F16.kp, b16⟩
  have d17 : Df l.prog w K mg base 9 "_law_is_refused" ["_law_some"] _ := ⟨f17, _, ok_ref F17 T GRX (PySem.W.mg_of X G a15) k15 b15 (PySem.W.mg_of X G aCt) (PySem.W.mg_of X G aNh) RT ik hcCt moCt (kit_own icCt ttCt suTT) (exm_own icNh tyN suNN exN), PySem.W.mg_of X G a17, F17.kp, b17⟩
  have d18 : Df l.prog w K mg base 2 "_law_has_halves" ["_law_some"] _ := ⟨f18, _, ok_hasH F18 T d16, PySem.W.mg_of X G a18, F18.kp, b18⟩
  have F90 := fun_mk (st := sGreatB) l90 c90 k90
  have b90 := F90.binds (ps := ["rule", "x"]) fun _ _ _ _ _ _ us hl => match us, hl with | [_, _], _ => rfl
  have d90 : Df l.prog w K mg base 1 "greatest_beside" ["rule", "x"] _ := ⟨f90, _, ok_greatB F90, PySem.W.mg_of X G a90, F90.kp, b90⟩
  have G35 := ok_greatest F35 d3 d90
  have F91 := fun_mk (st := sLeastB) l91 c91 k91
  have b91 := F91.binds (ps := ["rule", "y"]) fun _ _ _ _ _ _ us hl => match us, hl with | [_, _], _ => rfl
  have d91 : Df l.prog w K mg base 1 "least_beside" ["rule", "y"] _ := ⟨f91, _, ok_leastB F91 T, PySem.W.mg_of X G a91, F91.kp, b91⟩
  have G37 := ok_least F37 T d3 d91
  have G38 := ok_call F38 d3 d2
  have MT : RMeth l.prog w K mg base Ct CW := ⟨RT, ⟨_, _, G35, b35, ⟨m35, i35, k35⟩⟩, ⟨_, _, G37, b37, ⟨m37, i37, k37⟩⟩, ⟨_, _, G38, b38, ⟨m38, i38, fi38⟩⟩, hcCt, moCt, kit_own icCW ttCW suCt⟩
  have MN : RMeth l.prog w K mg base Cn CW := ⟨RN, ⟨_, _, G35, b35, ⟨m36, i35, k35⟩⟩, ⟨_, _, G37, b37, ⟨m47, i37, k37⟩⟩, ⟨_, _, G38, b38, ⟨m48, i38, fi38⟩⟩, hcCn, moCn, kit_own icCW ttCW suCn⟩
  have d20 : Df l.prog w K mg base 5 "_law_rises" ["_law_rule_so", "_law_one"] _ := ⟨f20, _, ok_rises F20 T (PySem.W.mg_of X G aCW) MT MN ik, PySem.W.mg_of X G a20, F20.kp, b20⟩
  exact ok_law F19 T MT MN d12 d13 d14 d15 d17 d11 d18 d20
end Ev
open PySem PySem.W PyProof.Rows
set_option maxRecDepth 100000 in
set_option maxHeartbeats 0 in
theorem PySem.Challenge.cw_evenrules_k19_whole_halves_and_greatest_holds : PySem.Challenge.rw_evenrules_k19_whole_halves_and_greatest.Holds := by
  exact hd (by
    k_fill
    refine L2.walk_of (l := PySem.Challenge.rw_evenrules_k19_whole_halves_and_greatest) (n := 63) (k := 10) (x := "_law_script") (CX := fun _ => L2.CX0) (sp := fun w => Ev.spLaw _) rfl (by decide) rfl ⟨rfl, by decide, by decide⟩ (fun w h Y => PySem.W.kIn_of Y) ?F (fun _ _ a ns hl _ hS => ⟨a, ns, rfl, hS, hl, fun _ => rfl⟩) (fun _ _ _ _ _ h => h)
    case F =>
      intro w mg fa h KX G hmg
      refine' Ev.all_mk KX G hmg ?a0 ?l0 ?c0 ?k0 ?a1 ?l1 ?c1 ?k1 ?a2 ?l2 ?c2 ?k2 ?a3 ?l3 ?c3 ?k3 ?a4 ?l4 ?c4 ?k4 ?a5 ?l5 ?c5 ?k5 ?a6 ?l6 ?c6 ?k6 ?a7 ?l7 ?c7 ?k7 ?a8 ?l8 ?c8 ?k8 ?a9 ?l9 ?c9 ?k9 ?a10 ?l10 ?c10 ?k10 ?a11 ?l11 ?c11 ?k11 ?a12 ?l12 ?c12 ?k12 ?a13 ?l13 ?c13 ?k13 ?a14 ?l14 ?c14 ?k14 ?a15 ?l15 ?c15 ?k15 ?a16 ?l16 ?c16 ?k16 ?a17 ?l17 ?c17 ?k17 ?a18 ?l18 ?c18 ?k18 ?a19 ?l19 ?c19 ?k19 ?a20 ?l20 ?c20 ?k20 ?a21 ?l21 ?c21 ?k21 ?a22 ?l22 ?c22 ?k22 ?aCt ?aCn ?aCW ?aNh ?pgCt ?hdCt ?poCt ?saCt ?mkCt ?kcCt ?n0Ct ?n1Ct ?n2Ct ?n3Ct ?hcCt ?moCt ?suCt ?pgCn ?hdCn ?poCn ?saCn ?mkCn ?kcCn ?n0Cn ?n1Cn ?n2Cn ?n3Cn ?hcCn ?moCn ?suCn ?suTT ?icCW ?icCt ?icNh ?ttCW ?ttCt ?suNN ?ikn ?ikt ?m30 ?i30 ?l30 ?c30 ?k30 ?t30 ?m33 ?i33 ?l33 ?c33 ?k33 ?t33 ?m35 ?i35 ?l35 ?c35 ?k35 ?m37 ?i37 ?l37 ?c37 ?k37 ?m38 ?i38 ?l38 ?c38 ?k38 ?m39 ?i39 ?l39 ?c39 ?k39 ?m36 ?m47 ?m48 ?fi38 ?ty39 ?lN ?rN ?saN ?exN ?tyN ?kN ?noN ?rdW ?gaW ?cvW ?hgP ?hgT ?hgM ?zint ?zlen ?zabs ?zlist ?zmin ?zmax ?zisinstance ?zbool ?ztuple ?zall ?zrange ?zrepr ?zany ?zdict ?a90 ?l90 ?c90 ?k90 ?a91 ?l91 ?c91 ?k91
      (case a0 => first | k_is | decide +kernel)
      (case l0 => first | k_is | decide +kernel)
      (case c0 => first | k_is | decide +kernel)
      (case k0 => first | k_is | decide +kernel)
      (case a1 => first | k_is | decide +kernel)
      (case l1 => first | k_is | decide +kernel)
      (case c1 => first | k_is | decide +kernel)
      (case k1 => first | k_is | decide +kernel)
      (case a2 => first | k_is | decide +kernel)
      (case l2 => first | k_is | decide +kernel)
      (case c2 => first | k_is | decide +kernel)
      (case k2 => first | k_is | decide +kernel)
      (case a3 => first | k_is | decide +kernel)
      (case l3 => first | k_is | decide +kernel)
      (case c3 => first | k_is | decide +kernel)
      (case k3 => first | k_is | decide +kernel)
      (case a4 => first | k_is | decide +kernel)
      (case l4 => first | k_is | decide +kernel)
      (case c4 => first | k_is | decide +kernel)
      (case k4 => first | k_is | decide +kernel)
      (case a5 => first | k_is | decide +kernel)
      (case l5 => first | k_is | decide +kernel)
      (case c5 => first | k_is | decide +kernel)
      (case k5 => first | k_is | decide +kernel)
      (case a6 => first | k_is | decide +kernel)
      (case l6 => first | k_is | decide +kernel)
      (case c6 => first | k_is | decide +kernel)
      (case k6 => first | k_is | decide +kernel)
      (case a7 => first | k_is | decide +kernel)
      (case l7 => first | k_is | decide +kernel)
      (case c7 => first | k_is | decide +kernel)
      (case k7 => first | k_is | decide +kernel)
      (case a8 => first | k_is | decide +kernel)
      (case l8 => first | k_is | decide +kernel)
      (case c8 => first | k_is | decide +kernel)
      (case k8 => first | k_is | decide +kernel)
      (case a9 => first | k_is | decide +kernel)
      (case l9 => first | k_is | decide +kernel)
      (case c9 => first | k_is | decide +kernel)
      (case k9 => first | k_is | decide +kernel)
      (case a10 => first | k_is | decide +kernel)
      (case l10 => first | k_is | decide +kernel)
      (case c10 => first | k_is | decide +kernel)
      (case k10 => first | k_is | decide +kernel)
      (case a11 => first | k_is | decide +kernel)
      (case l11 => first | k_is | decide +kernel)
      (case c11 => first | k_is | decide +kernel)
      (case k11 => first | k_is | decide +kernel)
      (case a12 => first | k_is | decide +kernel)
      (case l12 => first | k_is | decide +kernel)
      (case c12 => first | k_is | decide +kernel)
      (case k12 => first | k_is | decide +kernel)
      (case a13 => first | k_is | decide +kernel)
      (case l13 => first | k_is | decide +kernel)
      (case c13 => first | k_is | decide +kernel)
      (case k13 => first | k_is | decide +kernel)
      (case a14 => first | k_is | decide +kernel)
      (case l14 => first | k_is | decide +kernel)
      (case c14 => first | k_is | decide +kernel)
      (case k14 => first | k_is | decide +kernel)
      (case a15 => first | k_is | decide +kernel)
      (case l15 => first | k_is | decide +kernel)
      (case c15 => first | k_is | decide +kernel)
      (case k15 => first | k_is | decide +kernel)
      (case a16 => first | k_is | decide +kernel)
      (case l16 => first | k_is | decide +kernel)
      (case c16 => first | k_is | decide +kernel)
      (case k16 => first | k_is | decide +kernel)
      (case a17 => first | k_is | decide +kernel)
      (case l17 => first | k_is | decide +kernel)
      (case c17 => first | k_is | decide +kernel)
      (case k17 => first | k_is | decide +kernel)
      (case a18 => first | k_is | decide +kernel)
      (case l18 => first | k_is | decide +kernel)
      (case c18 => first | k_is | decide +kernel)
      (case k18 => first | k_is | decide +kernel)
      (case a19 => first | k_is | decide +kernel)
      (case l19 => first | k_is | decide +kernel)
      (case c19 => first | k_is | decide +kernel)
      (case k19 => first | k_is | decide +kernel)
      (case a20 => first | k_is | decide +kernel)
      (case l20 => first | k_is | decide +kernel)
      (case c20 => first | k_is | decide +kernel)
      (case k20 => first | k_is | decide +kernel)
      (case a21 => first | k_is | decide +kernel)
      (case l21 => first | k_is | decide +kernel)
      (case c21 => first | k_is | decide +kernel)
      (case k21 => first | k_is | decide +kernel)
      (case a22 => first | k_is | decide +kernel)
      (case l22 => first | k_is | decide +kernel)
      (case c22 => first | k_is | decide +kernel)
      (case k22 => first | k_is | decide +kernel)
      (case aCt => first | k_is | decide +kernel)
      (case aCn => first | k_is | decide +kernel)
      (case aCW => first | k_is | decide +kernel)
      (case aNh => first | k_is | decide +kernel)
      (case pgCt => first | k_is | decide +kernel)
      (case hdCt => first | k_is | decide +kernel)
      (case poCt => first | k_is | decide +kernel)
      (case saCt => first | k_is | decide +kernel)
      (case mkCt => first | k_is | decide +kernel)
      (case kcCt => first | k_is | decide +kernel)
      (case n0Ct => first | k_is | decide +kernel)
      (case n1Ct => first | k_is | decide +kernel)
      (case n2Ct => first | k_is | decide +kernel)
      (case n3Ct => first | k_is | decide +kernel)
      (case hcCt => first | k_is | decide +kernel)
      (case moCt => first | k_is | decide +kernel)
      (case suCt => first | k_is | decide +kernel)
      (case pgCn => first | k_is | decide +kernel)
      (case hdCn => first | k_is | decide +kernel)
      (case poCn => first | k_is | decide +kernel)
      (case saCn => first | k_is | decide +kernel)
      (case mkCn => first | k_is | decide +kernel)
      (case kcCn => first | k_is | decide +kernel)
      (case n0Cn => first | k_is | decide +kernel)
      (case n1Cn => first | k_is | decide +kernel)
      (case n2Cn => first | k_is | decide +kernel)
      (case n3Cn => first | k_is | decide +kernel)
      (case hcCn => first | k_is | decide +kernel)
      (case moCn => first | k_is | decide +kernel)
      (case suCn => first | k_is | decide +kernel)
      (case suTT => first | k_is | decide +kernel)
      (case icCW => first | k_is | decide +kernel)
      (case icCt => first | k_is | decide +kernel)
      (case icNh => first | k_is | decide +kernel)
      (case ttCW => first | k_is | decide +kernel)
      (case ttCt => first | k_is | decide +kernel)
      (case suNN => first | k_is | decide +kernel)
      (case ikn => first | k_is | decide +kernel)
      (case ikt => first | k_is | decide +kernel)
      (case m30 => first | k_is | decide +kernel)
      (case i30 => first | k_is | decide +kernel)
      (case l30 => first | k_is | decide +kernel)
      (case c30 => first | k_is | decide +kernel)
      (case k30 => first | k_is | decide +kernel)
      (case t30 => first | k_is | decide +kernel)
      (case m33 => first | k_is | decide +kernel)
      (case i33 => first | k_is | decide +kernel)
      (case l33 => first | k_is | decide +kernel)
      (case c33 => first | k_is | decide +kernel)
      (case k33 => first | k_is | decide +kernel)
      (case t33 => first | k_is | decide +kernel)
      (case m35 => first | k_is | decide +kernel)
      (case i35 => first | k_is | decide +kernel)
      (case l35 => first | k_is | decide +kernel)
      (case c35 => first | k_is | decide +kernel)
      (case k35 => first | k_is | decide +kernel)
      (case m37 => first | k_is | decide +kernel)
      (case i37 => first | k_is | decide +kernel)
      (case l37 => first | k_is | decide +kernel)
      (case c37 => first | k_is | decide +kernel)
      (case k37 => first | k_is | decide +kernel)
      (case m38 => first | k_is | decide +kernel)
      (case i38 => first | k_is | decide +kernel)
      (case l38 => first | k_is | decide +kernel)
      (case c38 => first | k_is | decide +kernel)
      (case k38 => first | k_is | decide +kernel)
      (case m39 => first | k_is | decide +kernel)
      (case i39 => first | k_is | decide +kernel)
      (case l39 => first | k_is | decide +kernel)
      (case c39 => first | k_is | decide +kernel)
      (case k39 => first | k_is | decide +kernel)
      (case m36 => first | k_is | decide +kernel)
      (case m47 => first | k_is | decide +kernel)
      (case m48 => first | k_is | decide +kernel)
      (case fi38 => first | k_is | decide +kernel)
      (case ty39 => first | k_is | decide +kernel)
      (case lN => first | k_is | decide +kernel)
      (case rN => first | k_is | decide +kernel)
      (case saN => first | k_is | decide +kernel)
      (case exN => first | k_is | decide +kernel)
      (case tyN => first | k_is | decide +kernel)
      (case kN => first | k_is | decide +kernel)
      (case noN => first | k_is | decide +kernel)
      (case rdW => first | k_is | decide +kernel)
      (case gaW => first | k_is | decide +kernel)
      (case cvW => first | k_is | decide +kernel)
      (case hgP => first | k_is | decide +kernel)
      (case hgT => first | k_is | decide +kernel)
      (case hgM => first | k_is | decide +kernel)
      (case zint => first | k_is | decide +kernel)
      (case zlen => first | k_is | decide +kernel)
      (case zabs => first | k_is | decide +kernel)
      (case zlist => first | k_is | decide +kernel)
      (case zmin => first | k_is | decide +kernel)
      (case zmax => first | k_is | decide +kernel)
      (case zisinstance => first | k_is | decide +kernel)
      (case zbool => first | k_is | decide +kernel)
      (case ztuple => first | k_is | decide +kernel)
      (case zall => first | k_is | decide +kernel)
      (case zrange => first | k_is | decide +kernel)
      (case zrepr => first | k_is | decide +kernel)
      (case zany => first | k_is | decide +kernel)
      (case zdict => first | k_is | decide +kernel)
      (case a90 => first | k_is | decide +kernel)
      (case l90 => first | k_is | decide +kernel)
      (case c90 => first | k_is | decide +kernel)
      (case k90 => first | k_is | decide +kernel)
      (case a91 => first | k_is | decide +kernel)
      (case l91 => first | k_is | decide +kernel)
      (case c91 => first | k_is | decide +kernel)
      (case k91 => first | k_is | decide +kernel))
