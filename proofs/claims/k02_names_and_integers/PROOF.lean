import PyProof.Rows.All
import Wide.All
import OpenK.AllK
import Wide.FinOn
import HandS.Base
import HandS.Call
import HandS.List
import HandS.Comp
import HandS.Ends
import HandS.Dict
import HandS.Iter
import HandS.Text
import HandS.Words
import HandS.IsInst
import HandS.Style
import HandS.Walk
import PySem.Challenge.RW_pulledout_k02_names_and_integers
set_option Elab.async false
set_option linter.all false
set_option maxRecDepth 100000
set_option maxHeartbeats 4000000
/-! The names and the integers of the program, by the hand layer. -/
namespace K02
open PySem PySem.Spec PyProof.Rows L2
/-! ### the text -/
def topS (i : Nat) : Stmt := PySem.Challenge.pw_pulledout_k02_names_and_integers.main.body.getD i (.Pass ⟨0, 0, 0, 0⟩)
abbrev sIsName : Stmt := topS 2
abbrev sIsInt : Stmt := topS 3
abbrev sNum : Stmt := topS 5
abbrev sText : Stmt := topS 6
abbrev sGood : Stmt := topS 7
abbrev sLaw : Stmt := topS 8
theorem scNum : FnScope ["_law_cell", "_law_salt", "_law_sizes", "_law_whole", "_law_left", "_law_result", "_law_k", "_law_one"] ["_law_cell", "_law_salt", "_law_sizes"] (defScope sNum) := ⟨rfl, rfl, rfl, by decide +kernel, rfl, by decide +kernel, by decide +kernel⟩
/-! ### heaps -/
theorem same_upd {H : Hp} {p : Addr} {o : HO} (h : H p = none) : Same H (upd H p o) := fun b x e => by
  rw [upd_ne (ne_of_none e h)]
  exact e
/-- behind a store into a new object all that stood before stands -/
theorem same_st {H H1 : Hp} {p : Addr} {o : HO} (s : Same H H1) (h : H p = none) : Same H (upd H1 p o) := fun b x e => by
  rw [upd_ne (ne_of_none e h)]
  exact s b x e
section
variable {P : Program} {w : World} {K : PySem.W.Frag} {mg : Str → Option Value} {base : Heap}
/-! ### the law's numbers -/
/-- each number lies below its size -/
def Below (zs ns : List Int) : Prop := ∀ (i : Nat) (z n : Int), zs[i]? = some z → ns[i]? = some n → 0 ≤ n ∧ n < z
def spNum (K : PySem.W.Frag) : Sp := fun vs H Q _ => ∃ (c s : Int) (a : Addr) (zs : List Int), vs = [.int c, .int s, .ref a] ∧ SqL K H a (zs.map V.int) ∧ (0 ≤ s ∧ s ≤ 100000) ∧ zs.length ≤ 1000 ∧ (∀ z ∈ zs, 0 < z ∧ z < 1000000) ∧
  ∀ (H' : Hp) (p : Addr) (ns : List Int), Same H H' → H p = none → H' p = some (.lst (ns.map V.int)) → ns.length = zs.length → Below zs ns → Q (.ref p) H'
theorem below_snoc {zs ns : List Int} {z n : Int} (h : Below zs ns) (hz : zs[ns.length]? = some z) (h0 : 0 ≤ n) (h1 : n < z) : Below zs (ns ++ [n]) := by
  intro i y m hy hm
  by_cases hi : i < ns.length
  · rw [List.getElem?_append_left hi] at hm
    exact h i y m hy hm
  · rw [List.getElem?_append_right (by omega)] at hm
    have e : i - ns.length = 0 := by
      have q := (List.getElem?_eq_some_iff.mp hm).1
      simp at q
      omega
    have ei : i = ns.length := by omega
    subst ei
    rw [e] at hm
    have em : n = m := Option.some.inj hm
    have ey : z = y := Option.some.inj (hz.symm.trans hy)
    subst em ey
    exact ⟨h0, h1⟩
theorem small_mod (x : Int) : (x % 2147483629).natAbs < 2 ^ 64 := by
  have h1 := Int.emod_nonneg x (show (2147483629 : Int) ≠ 0 by decide)
  have h2 := Int.emod_lt_of_pos x (show (0 : Int) < 2147483629 by decide)
  omega
theorem ok_num {f : Addr} {fd : FuncData} (F : Fun K "_law_numbers" "_law_numbers" sNum f fd) (mm : mg "max" = none) (mr : mg "range" = none) (ml : mg "len" = none) : FnOk P w K mg base CX0 1 f fd ["_law_cell", "_law_salt", "_law_sizes"] (spNum K) := by
  refine F.ok scNum (fun vs H Q E h => ?_) (fun cdv A outer s H vs Q E hr h => ?_)
  · obtain ⟨c, s, a, zs, rfl, _⟩ := h
    rfl
  · obtain ⟨c, sa, a, zs, rfl, hS, ⟨hs0, hs1⟩, hlen, hz, q⟩ := h
    refine ⟨_, (pss_cons (ps_set (i := 3) scNum.nd rfl (.inl rfl) (pe_callB (call_max2 rfl) (by rfl) mm (by decide +kernel) (pa_cons (pv 0) (pa_cons (pe_op op_sub (pe_un un_neg pe_int) (pv 0)) pa_nil)))) 
        (pss_cons (ps_set (i := 4) scNum.nd rfl (.inl rfl) (pv 3)) 
        (pss_cons (ps_set (i := 5) scNum.nd rfl (.inl rfl) (pe_lst pa_nil)) 
        (pss_cons (ps_for PassesOwn.never rfl (pi_range1 rfl mr (pa_cons (pe_callB call_len_seq (by rfl) ml PySem.boot_len (pa_cons (pv 2) pa_nil)) pa_nil)) (pg_name (i := 6) scNum.nd rfl (.inl rfl)) 
          (pss_one (ps_if (PW.pt (pw_and (pt_cmpR op_ge (pv 3) (pe_op op_pow pe_int pe_int) (nomark _)) (pw_and1 (pt_cmpR op_gt (pv 4) pe_int (nomark _))))) 
            (pss_cons (ps_expr (pe_bm PySem.F.plainAttrs_list PySem.F.slot_list_append PySem.F.type_list_append mt_append (pv 5) (pa_cons (pe_op op_mod (pv 4) (pe_ix ix_list (pv 2) (pv 6) (fun _ _ => rfl))) pa_nil))) 
            (pss_one (ps_set (i := 4) scNum.nd rfl (.inl rfl) (pe_op op_fdivN (pv 4) (pe_ix ix_list (pv 2) (pv 6) (fun _ _ => rfl)))))) 
            (pss_cons (ps_set (i := 7) scNum.nd rfl (.inl rfl) (pe_op op_mod (pe_op op_pow (pe_op op_add (pe_op op_add (pe_op op_mod (pv 3) pe_int) (pe_op op_mul pe_int (pv 1))) pe_int) pe_int) pe_int)) 
            (pss_cons (ps_set (i := 7) scNum.nd rfl (.inl rfl) (pe_op op_mod (pe_op op_mul (pe_op op_add (pv 7) (pe_op op_mul pe_int (pe_op op_add (pv 6) pe_int))) (pe_op op_add (pv 6) pe_int)) pe_int)) 
            (pss_cons (ps_set (i := 7) scNum.nd rfl (.inl rfl) (pe_op op_mod (pe_op op_mul (pe_op op_mod (pe_op op_pow (pv 7) pe_int) pe_int) pe_int) pe_int)) 
            (pss_one (ps_expr (pe_bm PySem.F.plainAttrs_list PySem.F.slot_list_append PySem.F.type_list_append mt_append (pv 5) (pa_cons (pe_op op_mod (pe_op op_fdivN (pv 7) pe_int) (pe_ix ix_list (pv 2) (pv 6) (fun _ _ => rfl))) pa_nil)))))))))) 
        (pss_one (ps_ret (pv 5))))))), ?_⟩
    -- whole = max(cell, -1 - cell); left = whole; result = []
    refine ⟨_, rfl, _, rfl, _, rfl, _, _, rfl, rfl, _, _, rfl, _, rfl, ?_⟩
    generalize hwh : (if -1 - c > c then -1 - c else c) = wh
    refine ⟨Nat.zero_le _, fun p hp => ?_⟩
    have s0 : Same H (upd H p (.lst [])) := same_upd hp
    refine ⟨_, rfl, a, zs.map V.int, rfl, .inl (s0.seq hS), _, rfl, by rw [List.length_map]; omega, by rw [List.length_map]; omega, for_range (lo := 0) (fun i σ H' => ∃ (left : Int) (ns : List Int) (y6 y7 : Option V), σ = [some (.int c), some (.int sa), some (.ref a), some (.int wh), some (.int left), some (.ref p), y6, y7] ∧ Same H H' ∧ H' p = some (.lst (ns.map V.int)) ∧ ns.length = i ∧ Below zs ns)
      ⟨wh, [], none, none, rfl, s0, upd_same, rfl, fun i z n _ h => by simp at h⟩ ?_ ?_⟩
    · rintro i σ H' hi ⟨left, ns, y6, y7, rfl, s1, hp1, hn, hb⟩
      have hi2 : i < zs.length := by
        rw [List.length_map] at hi
        omega
      have hzi : zs[i]? = some zs[i] := List.getElem?_eq_getElem hi2
      obtain ⟨hz0, hz1⟩ := hz zs[i] (List.getElem_mem hi2)
      have hat : atI (zs.map V.int) (0 + (i : Int)) = some (.int zs[i]) := by
        rw [Int.zero_add]
        exact atI_nat (by rw [List.getElem?_map, hzi]; rfl)
      have fin : ∀ (r : Int), 0 ≤ r → r < zs[i] → ns.length < sizeLine ∧ Same H (upd H' p (.lst (ns.map V.int ++ [V.int r]))) ∧ (upd H' p (.lst (ns.map V.int ++ [V.int r]))) p = some (.lst ((ns ++ [r]).map V.int)) ∧ (ns ++ [r]).length = i + 1 ∧ Below zs (ns ++ [r]) := fun r h0 h1 =>
        ⟨small1000 (by omega), same_st s1 hp, by rw [upd_same, List.map_append]; rfl, by rw [List.length_append, List.length_singleton, hn], below_snoc hb (by rw [hn]; exact hzi) h0 h1⟩
      refine ⟨_, rfl, _, _, rfl, rfl, ⟨by decide, by decide, by decide⟩, _, _, rfl, rfl, _, rfl, ite2 (fun _ => ⟨_, rfl, _, _, rfl, rfl, _, rfl, ite2 (fun _ => ?thn) (fun _ => ?els1)⟩) (fun _ => iteF ?els2)⟩
      case thn =>
        obtain ⟨f1, f2, f3, f4, f5⟩ := fin (left % zs[i]) (Int.emod_nonneg _ (by omega)) (Int.emod_lt_of_pos _ hz0)
        refine ⟨_, rfl, .inl ⟨rfl, _, .inl (.inl hp1)⟩, _, rfl, _, rfl, _, rfl, a, zs.map V.int, _, _, rfl, rfl, s1.seq hS, hat, _, _, rfl, rfl, hz0, p, _, _, rfl, rfl, hp1, (by rw [List.length_map]; exact f1), ?_⟩
        refine ⟨_, rfl, _, rfl, _, rfl, a, zs.map V.int, _, _, rfl, rfl, f2.seq hS, hat, _, _, rfl, rfl, ⟨by omega, by omega⟩, ?_⟩
        exact ⟨_, _, _, _, rfl, f2, f3, f4, f5⟩
      all_goals
        refine ⟨_, rfl, _, _, rfl, rfl, by show (0 : Int) < 2147483629; decide, _, rfl, _, _, rfl, rfl, .inl ⟨by decide, by decide⟩, _, _, rfl, rfl, _, _, rfl, rfl, _, _, rfl, rfl, ⟨by decide, by decide, ?b1⟩, _, _, rfl, rfl, by show (0 : Int) < 2147483647; decide, ?_⟩
        case b1 =>
          have h1 := Int.emod_nonneg wh (show (2147483629 : Int) ≠ 0 by decide)
          have h2 := Int.emod_lt_of_pos wh (show (0 : Int) < 2147483629 by decide)
          show (wh % 2147483629 + 7919 * sa + 1).natAbs < 2 ^ 64
          omega
        refine ⟨_, rfl, _, rfl, _, _, rfl, rfl, _, _, rfl, rfl, .inl ⟨by decide, by decide⟩, _, _, rfl, rfl, _, rfl, _, _, rfl, rfl, _, _, rfl, rfl, .inr ⟨?b2, ?b3⟩, _, _, rfl, rfl, by show (0 : Int) < 2147483629; decide, ?_⟩
        case b2 =>
          show -(2 ^ 64) < (0 + (i : Int)) + 3
          omega
        case b3 =>
          show (0 + (i : Int)) + 3 < 2 ^ 64
          omega
        refine ⟨_, rfl, _, _, rfl, rfl, ⟨by decide, by decide, small_mod _⟩, _, _, rfl, rfl, by show (0 : Int) < 2147483647; decide, _, _, rfl, rfl, .inr ⟨by decide, by decide⟩, _, _, rfl, rfl, by show (0 : Int) < 2147483629; decide, ?_⟩
        have fe := fun r : Int => fin (r % zs[i]) (Int.emod_nonneg _ (by omega)) (Int.emod_lt_of_pos _ hz0)
        refine ⟨_, rfl, .inl ⟨rfl, _, .inl (.inl hp1)⟩, _, rfl, _, _, rfl, rfl, ⟨by decide, by decide⟩, _, rfl, _, rfl, a, zs.map V.int, _, _, rfl, rfl, s1.seq hS, hat, _, _, rfl, rfl, hz0, p, _, _, rfl, rfl, hp1, (by rw [List.length_map]; exact (fe 0).1), ?_⟩
        exact ⟨_, _, _, _, rfl, (fe _).2.1, (fe _).2.2.1, (fe _).2.2.2.1, (fe _).2.2.2.2⟩
    · rintro σ H' ⟨left, ns, y6, y7, rfl, s1, hp1, hn, hb⟩
      exact ⟨_, rfl, q H' p ns s1 hp hp1 (by rw [hn, List.length_map]; omega) hb⟩
end
end K02

namespace K02
open PySem PySem.Spec PyProof.Rows L2
/-- what the module's names hold -/
structure Txt (K : PySem.W.Frag) (mg : Str → Option Value) (lt : Tok) : Prop where
  m_max : mg "max" = none
  m_range : mg "range" = none
  m_len : mg "len" = none
  m_isinstance : mg "isinstance" = none
  m_str : mg "str" = none
  m_int : mg "int" = none
  m_bool : mg "bool" = none
  m_all : mg "all" = none
  m_enumerate : mg "enumerate" = none
  c_LONGEST_NAME : mg "_LONGEST_NAME" = some (.int 8 lt)
/-- one sign is a small letter -/
def letB (c : Nat) : Bool := !decide ([c] < [97]) && !decide ([122] < [c])
def isName (z : Str) : Bool := decide (1 ≤ (z.length : Int)) && decide ((z.length : Int) ≤ 8) && z.cps.toList.all letB
theorem snoc_let {z : Str} {i c : Nat} (hc : z.cps[i]? = some c) : ((z.cps.toList.take (i + 1)).map letB).map V.bl = ((z.cps.toList.take i).map letB).map V.bl ++ [V.bl (letB c)] := by
  have h : z.cps.toList[i]? = some c := by rw [Array.getElem?_toList]; exact hc
  rw [List.take_add_one, h, List.map_append, List.map_append]
  rfl
theorem yes_then {A B : Hp → Prop} {σ : L2.St} {H : Hp} (h : A H) : tYes σ H (fun b H3 => if b = true then A H3 else B H3) := by
  show (if true = true then A H else B H)
  rw [if_pos rfl]
  exact h
theorem sc_is_name : FnScope ["value", "letter"] ["value"] (defScope sIsName) := ⟨rfl, rfl, rfl, by decide +kernel, rfl, by decide +kernel, by decide +kernel⟩
section
variable {P : Program} {w : World} {K : PySem.W.Frag} {mg : Str → Option Value} {base : Heap} {lt : Tok}
def spIsName (K : PySem.W.Frag) : Sp := fun vs H Q _ => ∃ x : V, vs = [x] ∧ ((∃ z : Str, x = .str z ∧ z.length ≤ 1000 ∧ ∀ H', Same H H' → Q (.bl (isName z)) H') ∨ (∃ T : String, TyX K H x (.type T) ∧ kitB T "str" = some false ∧ Q (.bl false) H))
theorem ok_is_name {f : Addr} {fd : FuncData} (F : Fun K "is_name" "is_name" sIsName f fd) (T : Txt K mg lt) : FnOk P w K mg base CX0 1 f fd ["value"] (spIsName K) := by
  refine F.ok sc_is_name (fun vs H Q E h => ?_) (fun cdv A outer s H vs Q E hr h => ?_)
  · obtain ⟨x, rfl, _⟩ := h
    rfl
  · obtain ⟨x, rfl, h⟩ := h
    refine ⟨_, (pss_cons (ps_if (PW.pt (pw_or (pt_not (pt_val (pe_callB call_isi (by rfl) T.m_isinstance (by decide +kernel) (pa_cons (pv 0) (pa_cons (pe_bltn (v := .ty "str") (u := .type "str") (by rfl) T.m_str (by decide +kernel) rfl) pa_nil))))) (pw_or1 (pt_not (pt_chain op_le op_le pe_int (pe_callB call_len_str (by rfl) T.m_len PySem.boot_len (pa_cons (pv 0) pa_nil)) (pe_glob (v := .int 8) rfl T.c_LONGEST_NAME ⟨_, rfl⟩)))))) 
      (pss_one (ps_ret pe_bl)) pss_nil) 
    (pss_one (ps_ret (pe_callB (cr_all rfl) (by rfl) T.m_all (by decide +kernel) (pa_cons (pe_lc (own := [("letter", 1)]) (g := gName 1) rfl sc_is_name.nd (pi_str (pv 0)) (blkOk_by (N := ["value", "letter"]) (sc := defScope sIsName) (by decide +kernel)) (fun _ _ _ _ _ => pg_name (i := 1) sc_is_name.nd rfl (.inl rfl)) (fun _ _ _ _ _ => pts_nil) (fun _ _ _ _ _ => (pe_chain op_le_str op_le_str pe_str (pv 1) pe_str))) pa_nil))))), ?_⟩
    rcases h with ⟨z, rfl, hz, q⟩ | ⟨t, hx, ht, q⟩
    · refine ⟨_, rfl, _, _, _, _, true, rfl, .ty "str", .base (.str z), kit_ty (by decide +kernel), _, rfl, iteF ⟨_, rfl, z, rfl, Nat.le_of_lt (small1000 hz), _, _, rfl, rfl, _, rfl, ite2 (fun h1 => ⟨_, _, rfl, rfl, _, rfl, ite2 (fun h2 => ?f2) (fun h2 => ?go)⟩) (fun h1 => ⟨_, rfl, iteT ?f1⟩)⟩⟩
      case f1 =>
        have e : isName z = false := by
          unfold isName
          simp only [Bool.not_eq_true] at h1
          rw [h1]
          rfl
        have := q H (Same.refl H)
        rw [e] at this
        exact this
      case f2 =>
        have h2' : decide ((z.length : Int) ≤ 8) = false := by simpa using h2
        have e : isName z = false := by
          unfold isName
          rw [h2', Bool.and_false]
          rfl
        have := q H (Same.refl H)
        rw [e] at this
        exact this
      case go =>
        have h2' : decide ((z.length : Int) ≤ 8) = true := by simpa using h2
        refine ⟨_, rfl, z, rfl, fun D hD => lc_it walk_str (fun i H' => Same H H' ∧ H' D = some (.lst (((z.cps.toList.take i).map letB).map V.bl))) ⟨same_upd hD, upd_same⟩ (fun _ _ _ _ => trivial) ?_ ?_⟩
        · rintro i x H1 H2 hi ⟨s1, h1⟩ ⟨rfl, c, hc, rfl⟩
          have hlt : (((z.cps.toList.take i).map letB).map V.bl).length < sizeLine := by
            rw [List.length_map, List.length_map, List.length_take]
            exact Nat.lt_of_le_of_lt (Nat.min_le_right _ _) (small1000 hz)
          have fin : ∀ r : Bool, r = letB c → ∃ acc, H2 D = some (.lst acc) ∧ acc.length < sizeLine ∧ Same H (upd H2 D (.lst (acc ++ [V.bl r]))) ∧ upd H2 D (.lst (acc ++ [V.bl r])) D = some (.lst (((z.cps.toList.take (i + 1)).map letB).map V.bl)) := fun r hr =>
            ⟨_, h1, hlt, same_st s1 hD, by rw [upd_same, snoc_let hc, hr]⟩
          refine ⟨rfl, yes_then ?_⟩
          refine ⟨_, rfl, _, _, rfl, rfl, _, rfl, ite2 (fun g1 => ⟨_, _, rfl, rfl, fin _ ?_⟩) (fun g1 => fin _ ?_)⟩
          · show (!decide ([122] < [c])) = letB c
            have g1' : (!decide ([c] < [97])) = true := g1
            unfold letB
            rw [g1', Bool.true_and]
          · have g1' : (!decide ([c] < [97])) = false := by
              cases e : (!decide ([c] < [97])) with
              | true => exact absurd e g1
              | false => rfl
            unfold letB
            rw [g1', Bool.false_and]
        · rintro H1 ⟨s1, h1⟩
          refine ⟨D, z.cps.toList.map letB, rfl, .inl (.inl (by rw [h1, List.take_of_length_le (Nat.le_of_eq (Array.length_toList ..))])), ?_⟩
          have e : (z.cps.toList.map letB).all id = isName z := by
            unfold isName
            have h1' : decide (1 ≤ (z.length : Int)) = true := by assumption
            rw [h1', h2', List.all_map]
            rfl
          rw [e]
          exact q H1 s1
    · refine ⟨_, rfl, _, _, _, _, false, rfl, .ty "str", hx, kit_ty ht, _, rfl, iteT (iteT ?_)⟩
      exact q
end
end K02

namespace K02
open PySem PySem.Spec PyProof.Rows L2 TL
theorem sc_is_integer : FnScope ["value", "lowest", "highest"] ["value", "lowest", "highest"] (defScope sIsInt) := ⟨rfl, rfl, rfl, by decide +kernel, rfl, by decide +kernel, by decide +kernel⟩
theorem sc_text : FnScope ["_law_digits", "_law_signs", "_law_text_here", "_law_at", "_law_digit"] ["_law_digits"] (defScope sText) := ⟨rfl, rfl, rfl, by decide +kernel, rfl, by decide +kernel, by decide +kernel⟩
theorem sc_is_good : FnScope ["_law_text_here", "_law_odd", "_law_sign"] ["_law_text_here"] (defScope sGood) := ⟨rfl, rfl, rfl, by decide +kernel, rfl, by decide +kernel, by decide +kernel⟩
/-! ### the mathematics of the texts -/
/-- the 26 letters, as the law writes them -/
abbrev abcS : Str := "abcdefghijklmnopqrstuvwxyz"
theorem abc_list : abcS.cps.toList = (List.range 26).map (97 + ·) := by decide +kernel
theorem abc_mem (c : Nat) : c ∈ abcS.cps.toList ↔ 97 ≤ c ∧ c ≤ 122 := by
  rw [abc_list]
  simp only [List.mem_map, List.mem_range]
  constructor
  · rintro ⟨a, h, rfl⟩
    omega
  · intro h
    exact ⟨c - 97, by omega, by omega⟩
theorem one_lt (a b : Nat) : ([a] < [b]) ↔ a < b := by
  simp [List.cons_lt_cons_iff]
theorem letB_abc (c : Nat) : letB c = decide (c ∈ abcS.cps.toList) := by
  unfold letB
  rw [Bool.eq_iff_iff]
  simp only [Bool.and_eq_true, Bool.not_eq_true', decide_eq_false_iff_not, decide_eq_true_eq, one_lt, abc_mem]
  omega
/-- a text of Python's own signs -/
def Sane (z : Str) : Prop := ∀ c ∈ z.cps.toList, c < 1114112
theorem abc_at (d : Int) : ∃ c, atI abcS.cps.toList (d % 26) = some c ∧ c < 1114112 := by
  have h0 := Int.emod_nonneg d (show (26 : Int) ≠ 0 by decide)
  have h1 := Int.emod_lt_of_pos d (show (0 : Int) < 26 by decide)
  have hl : abcS.cps.toList.length = 26 := by decide +kernel
  have hi : (d % 26).toNat < abcS.cps.toList.length := by omega
  have e : d % 26 = (((d % 26).toNat : Nat) : Int) := by omega
  rw [e]
  refine ⟨_, atI_nat (List.getElem?_eq_getElem hi), ?_⟩
  have := (abc_mem _).mp (List.getElem_mem hi)
  omega
theorem joinL_mem : ∀ (ls : List (List Nat)) (c : Nat), c ∈ joinL [] ls → ∃ l ∈ ls, c ∈ l
  | [], c, h => by cases h
  | [l], c, h => ⟨l, List.mem_cons_self .., h⟩
  | l :: m :: r, c, h => by
    have h : c ∈ l ++ ([] ++ joinL [] (m :: r)) := h
    rw [List.nil_append, List.mem_append] at h
    rcases h with h | h
    · exact ⟨l, List.mem_cons_self .., h⟩
    · obtain ⟨x, hx, hc⟩ := joinL_mem (m :: r) c h
      exact ⟨x, List.mem_cons_of_mem _ hx, hc⟩
theorem joinL_len : ∀ (ls : List (List Nat)), (joinL [] ls).length = (ls.map List.length).sum
  | [] => rfl
  | [l] => by show l.length = _; simp
  | l :: m :: r => by
    show (l ++ ([] ++ joinL [] (m :: r))).length = _
    rw [List.nil_append, List.length_append, joinL_len (m :: r)]
    rfl
theorem join_facts (ys : List Str) (h : ∀ y ∈ ys, y.length = 1 ∧ Sane y) : (Txt.join "" ys).length = ys.length ∧ Sane (Txt.join "" ys) := by
  have e : (Txt.join "" ys).cps.toList = joinL [] (ys.map tl) := by
    rw [join_eq]
    exact tl_join "" ys
  refine ⟨?_, ?_⟩
  · show (Txt.join "" ys).cps.size = ys.length
    rw [← Array.length_toList, e, joinL_len, List.map_map]
    clear e
    induction ys with
    | nil => rfl
    | cons y r ih =>
      rw [List.map_cons, List.sum_cons, List.length_cons, ih fun z hz => h z (List.mem_cons_of_mem _ hz)]
      have e1 : (List.length ∘ tl) y = 1 := by
        show y.cps.toList.length = 1
        rw [Array.length_toList]
        exact (h y (List.mem_cons_self ..)).1
      rw [e1]
      omega
  · intro c hc
    rw [e] at hc
    obtain ⟨l, hl, hcl⟩ := joinL_mem _ c hc
    obtain ⟨y, hy, rfl⟩ := List.mem_map.mp hl
    exact (h y hy).2 c hcl
theorem sane_cut {z : Str} (h : Sane z) (lo hi : Option Int) : Sane (cutS z lo hi) := by
  intro c hc
  unfold cutS at hc
  rw [List.toList_toArray] at hc
  exact h c (List.mem_of_mem_drop (List.mem_of_mem_take hc))
theorem sane_app {x y : Str} (h : Sane x) (k : Sane y) : Sane (x ++ y) := by
  intro c hc
  have e : (x ++ y).cps.toList = x.cps.toList ++ y.cps.toList := tl_append x y
  rw [e, List.mem_append] at hc
  rcases hc with hc | hc
  · exact h c hc
  · exact k c hc
theorem len_app (x y : Str) : (x ++ y).length = x.length + y.length := by
  have e : (x ++ y).cps.toList = x.cps.toList ++ y.cps.toList := tl_append x y
  show (x ++ y).cps.size = x.cps.size + y.cps.size
  rw [← Array.length_toList, e, List.length_append, Array.length_toList, Array.length_toList]
theorem sane_odds {z : Str} (h : Sane z) : ∀ y ∈ (z.cps.toList.filter fun c => !decide (c ∈ abcS.cps.toList)).map (fun c => (⟨#[c]⟩ : Str)), Sane y := by
  intro y hy c hc
  obtain ⟨d, hd, rfl⟩ := List.mem_map.mp hy
  have e : c = d := by simpa using hc
  rw [e]
  exact h d ((List.mem_filter.mp hd).1)
theorem join_le (ys : List Str) (h : ∀ y ∈ ys, y.length = 1) : (ys.map (·.length)).sum = ys.length := by
  induction ys with
  | nil => rfl
  | cons y r ih =>
    rw [List.map_cons, List.sum_cons, List.length_cons, ih fun z hz => h z (List.mem_cons_of_mem _ hz), h y (List.mem_cons_self ..)]
    omega
theorem cut_len (xs : List V) (m : Nat) : (cutV xs (some 1) (some (1 + (m : Int)))).length ≤ m := by
  unfold cutV
  rw [List.length_take]
  have h1 : HT.sIx xs.length 0 (some 1) = min 1 xs.length := HT.sIx_nat xs.length 0 1
  have h2 : HT.sIx xs.length xs.length (some (1 + (m : Int))) = min (1 + m) xs.length := by
    have := HT.sIx_nat xs.length xs.length (1 + m)
    rw [← this]
    congr 2
  rw [h1, h2]
  omega
theorem cut_mem {xs : List V} {lo hi : Option Int} {x : V} {i : Nat} (h : (cutV xs lo hi)[i]? = some x) : x ∈ xs := by
  have h1 := List.mem_of_getElem? h
  unfold cutV at h1
  exact List.mem_of_mem_drop (List.mem_of_mem_take h1)
section
variable {P : Program} {w : World} {K : PySem.W.Frag} {mg : Str → Option Value} {base : Heap} {lt : Tok}
/-! ### is_integer -/
def isInt (n lo hi : Int) : Bool := decide (lo ≤ n) && decide (n ≤ hi)
def spIsInt (K : PySem.W.Frag) : Sp := fun vs H Q _ => ∃ (x : V) (lo hi : Int), vs = [x, .int lo, .int hi] ∧ ((∃ n : Int, x = .int n ∧ Q (.bl (isInt n lo hi)) H) ∨
  (∃ T : String, TyX K H x (.type T) ∧ (kitB T "int" = some false ∨ (kitB T "int" = some true ∧ kitB T "bool" = some true)) ∧ Q (.bl false) H))
theorem ok_is_int {f : Addr} {fd : FuncData} (F : Fun K "is_integer" "is_integer" sIsInt f fd) (T : Txt K mg lt) : FnOk P w K mg base CX0 1 f fd ["value", "lowest", "highest"] (spIsInt K) := by
  refine F.ok sc_is_integer (fun vs H Q E h => ?_) (fun cdv A outer s H vs Q E hr h => ?_)
  · obtain ⟨x, lo, hi, rfl, _⟩ := h
    rfl
  · obtain ⟨x, lo, hi, rfl, h⟩ := h
    refine ⟨_, (pss_cons (ps_if (PW.pt (pw_or (pt_not (pt_val (pe_callB call_isi (by rfl) T.m_isinstance (by decide +kernel) (pa_cons (pv 0) (pa_cons (pe_bltn (v := .ty "int") (u := .type "int") (by rfl) T.m_int (by decide +kernel) rfl) pa_nil))))) (pw_or1 (pt_val (pe_callB call_isi (by rfl) T.m_isinstance (by decide +kernel) (pa_cons (pv 0) (pa_cons (pe_bltn (v := .ty "bool") (u := .type "bool") (by rfl) T.m_bool (by decide +kernel) rfl) pa_nil))))))) 
      (pss_one (ps_ret pe_bl)) pss_nil) 
    (pss_one (ps_ret (pe_chain op_le op_le (pv 1) (pv 0) (pv 2))))), ?_⟩
    rcases h with ⟨n, rfl, q⟩ | ⟨t, hx, ht, q⟩
    · refine ⟨_, rfl, _, _, _, _, true, rfl, .ty "int", .base (.int n), kit_ty (by decide +kernel), _, rfl, iteF ⟨_, rfl, _, _, _, _, false, rfl, .ty "bool", .base (.int n), kit_ty (by decide +kernel), _, rfl, iteF ?_⟩⟩
      refine ⟨_, rfl, _, rfl, _, _, rfl, rfl, _, rfl, ite2 (fun h1 => ⟨_, rfl, _, _, rfl, rfl, ?_⟩) (fun h1 => ?_)⟩
      · have e : isInt n lo hi = decide (n ≤ hi) := by
          have h1' : decide (lo ≤ n) = true := h1
          unfold isInt
          rw [h1', Bool.true_and]
        rw [e] at q
        exact q
      · have e : isInt n lo hi = false := by
          have h1' : decide (lo ≤ n) = false := by simpa using h1
          unfold isInt
          rw [h1', Bool.false_and]
        rw [e] at q
        exact q
    · rcases ht with ht | ⟨ht, hb⟩
      · exact ⟨_, rfl, _, _, _, _, false, rfl, .ty "int", hx, kit_ty ht, _, rfl, iteT (iteT q)⟩
      · exact ⟨_, rfl, _, _, _, _, true, rfl, .ty "int", hx, kit_ty ht, _, rfl, iteF ⟨_, rfl, _, _, _, _, true, rfl, .ty "bool", hx, kit_ty hb, _, rfl, iteT q⟩⟩
/-! ### the law's own look at a text -/
def spGood (K : PySem.W.Frag) : Sp := fun vs H Q _ => ∃ z : Str, vs = [.str z] ∧ z.length ≤ 1000 ∧ Sane z ∧ ∀ H', Same H H' → Q (.bl (isName z)) H'
def oddC (c : Nat) : Bool := !decide (c ∈ abcS.cps.toList)
def odds (cs : List Nat) : List Str := (cs.filter oddC).map fun c => ⟨#[c]⟩
theorem odds_snoc {cs : List Nat} {i c : Nat} (hc : cs[i]? = some c) : odds (cs.take (i + 1)) = odds (cs.take i) ++ (if oddC c = true then [⟨#[c]⟩] else []) := by
  unfold odds
  rw [List.take_add_one, hc, List.filter_append, List.map_append]
  congr 1
  show List.map _ (List.filter oddC [c]) = _
  cases h : oddC c <;> simp [h]
theorem odds_len (cs : List Nat) : (odds cs).length ≤ cs.length := by
  unfold odds
  rw [List.length_map]
  exact List.length_filter_le ..
theorem odds_nil (cs : List Nat) : (odds cs).isEmpty = cs.all letB := by
  unfold odds
  rw [List.isEmpty_map]
  induction cs with
  | nil => rfl
  | cons c r ih =>
    rw [List.filter_cons, List.all_cons, letB_abc, ← ih]
    unfold oddC
    cases decide (c ∈ abcS.cps.toList) <;> rfl
theorem dp_strs {K : PySem.W.Frag} {H : Hp} : ∀ ys : List Str, DpAll K H (ys.map V.str) (ys.map PyData.str)
  | [] => .nil
  | y :: r => .cons (.str y) (dp_strs r)
theorem strs_can : ∀ ys : List Str, (∀ y ∈ ys, Sane y) → PyData.canLayAll0 (ys.map PyData.str) = true ∧ PyData.depthAll (ys.map PyData.str) ≤ 1
  | [], _ => ⟨rfl, by decide⟩
  | y :: r, h => by
    obtain ⟨h1, h2⟩ := strs_can r fun z hz => h z (List.mem_cons_of_mem _ hz)
    refine ⟨?_, ?_⟩
    · show (PyData.canLay0 (PyData.str y) && PyData.canLayAll0 (r.map PyData.str)) = true
      rw [h1, Bool.and_true]
      show y.cps.all (· < 0x110000) = true
      rw [← Array.all_toList, List.all_eq_true]
      intro c hc
      exact decide_eq_true (h y (List.mem_cons_self ..) c hc)
    · show max (PyData.depth (PyData.str y)) (PyData.depthAll (r.map PyData.str)) ≤ 1
      exact Nat.max_le.mpr ⟨by simp [PyData.depth], h2⟩
theorem strs_lay (ys : List Str) (h : ∀ y ∈ ys, Sane y) : SeqAt.shaped (PyData.list (ys.map PyData.str)) = true := by
  obtain ⟨h1, h2⟩ := strs_can ys h
  unfold SeqAt.shaped
  rw [Bool.and_eq_true, decide_eq_true_eq]
  refine ⟨h1, ?_⟩
  show PyData.depthAll (ys.map PyData.str) + 1 ≤ 64
  omega
theorem strs_eqv (ys : List Str) : PyData.eqv (PyData.list (ys.map PyData.str)) (PyData.list []) = ys.isEmpty := by
  cases ys with
  | nil => rfl
  | cons y r => rfl
theorem ok_good {f : Addr} {fd : FuncData} (F : Fun K "_law_is_good" "_law_is_good" sGood f fd) (T : Txt K mg lt) : FnOk P w K mg base CX0 1 f fd ["_law_text_here"] (spGood K) := by
  refine F.ok sc_is_good (fun vs H Q E h => ?_) (fun cdv A outer s H vs Q E hr h => ?_)
  · obtain ⟨x, rfl, _⟩ := h
    rfl
  · obtain ⟨z, rfl, hz, hsz, q⟩ := h
    refine ⟨_, (pss_cons (ps_setLc (i := 1) (own := [("_law_sign", 2)]) (g := gName 2) rfl sc_is_good.nd rfl rfl (sw_true rfl rfl rfl (by decide +kernel)) (pi_str (pv 0)) (blkOk_by (N := ["_law_text_here", "_law_odd", "_law_sign"]) (sc := defScope sGood) (by decide +kernel)) (fun _ _ _ _ _ => pg_name (i := 2) sc_is_good.nd rfl (.inl rfl)) (fun _ _ _ _ _ => (pts_one (pt_cmpR op_notIn_sign (pv 2) pe_str rfl))) (fun _ _ _ _ _ => (pv 2))) 
    (pss_one (ps_ret (pe_and (pe_cmpR (op_eqD hr.units) (pv 1) (pe_lst pa_nil) (nomark _)) (pe_one (pe_chain op_le op_le pe_int (pe_callB call_len_str (by rfl) T.m_len PySem.boot_len (pa_cons (pv 0) pa_nil)) pe_int)))))), ?_⟩
    refine ⟨_, rfl, z, rfl, fun D hD => lc_it walk_str (fun i H' => Same H H' ∧ H' D = some (.lst ((odds (z.cps.toList.take i)).map V.str))) ⟨same_upd hD, upd_same⟩ (fun _ _ _ _ => trivial) ?_ ?_⟩
    · rintro i x H1 H2 hi ⟨s1, h1⟩ ⟨rfl, c, hc, rfl⟩
      have hc' : z.cps.toList[i]? = some c := by rw [Array.getElem?_toList]; exact hc
      refine ⟨rfl, _, rfl, c, abcS, rfl, rfl, _, rfl, ?_⟩
      refine ite2 (fun g => ?_) (fun g => ?_)
      · have g' : oddC c = true := g
        have e := odds_snoc hc'
        rw [if_pos g'] at e
        refine ⟨_, rfl, _, h1, ?_, same_st s1 hD, ?_⟩
        · rw [List.length_map]
          have := odds_len (z.cps.toList.take i)
          rw [List.length_take] at this
          exact Nat.lt_of_le_of_lt this (Nat.lt_of_le_of_lt (Nat.min_le_right _ _) (small1000 hz))
        · rw [upd_same, e, List.map_append]
          rfl
      · have g' : ¬ oddC c = true := g
        have e := odds_snoc hc'
        rw [if_neg g', List.append_nil] at e
        exact ⟨s1, by rw [e]; exact h1⟩
    · rintro H1 ⟨s1, h1⟩
      have h1 : H1 D = some (.lst ((odds z.cps.toList).map V.str)) := by
        rw [h1, List.take_of_length_le (Nat.le_of_eq (Array.length_toList ..))]
      refine ⟨_, rfl, Nat.zero_le _, fun p hp => ⟨_, _, .lst (.inl (.inl ((same_upd hp) _ _ h1))) (dp_strs _), .lst (xs := []) (.inl (.inl upd_same)) .nil, strs_lay _ (sane_odds hsz), rfl, _, rfl, ?_⟩⟩
      rw [strs_eqv, odds_nil]
      have s2 : Same H (upd H1 p (.lst [])) := s1.trans (same_upd hp)
      have key : ∀ b : Bool, b = isName z → Q (.bl b) (upd H1 p (.lst [])) := fun b e => by
        rw [e]
        exact q _ s2
      refine ite2 (fun g => ⟨_, rfl, z, rfl, Nat.le_of_lt (small1000 hz), _, _, rfl, rfl, _, rfl, ite2 (fun g1 => ⟨_, _, rfl, rfl, key _ ?_⟩) (fun g1 => key _ ?_)⟩) (fun g => key _ ?_)
      · have g1' : decide (1 ≤ (z.length : Int)) = true := g1
        unfold isName
        rw [g, g1', Bool.true_and, Bool.and_true]
      · have g1' : decide (1 ≤ (z.length : Int)) = false := by simpa using g1
        unfold isName
        rw [g1', Bool.false_and, Bool.false_and]
      · unfold isName
        rw [(by simpa using g : z.cps.toList.all letB = false), Bool.and_false]
/-! ### the law's text -/
def spText (K : PySem.W.Frag) : Sp := fun vs H Q _ => ∃ (a : Addr) (ns : List Int), vs = [.ref a] ∧ SqL K H a (ns.map V.int) ∧ ns.length = 16 ∧ ∀ H' z, Same H H' → z.length ≤ 100 → Sane z → Q (.str z) H'
theorem at_of {ns : List Int} {i : Nat} (h : i < ns.length) : atI (ns.map V.int) (i : Int) = some (.int ns[i]) := atI_nat (by rw [List.getElem?_map, List.getElem?_eq_getElem h]; rfl)
def oddV : List V := [.str "A", .str "1", .str " ", .str "-", .str "_", .str "Z", .str ".", .str "{"]
theorem odd_at (d : Int) : ∃ s : Str, atI oddV (d % 8) = some (.str s) ∧ s.length = 1 ∧ Sane s := by
  have h0 := Int.emod_nonneg d (show (8 : Int) ≠ 0 by decide)
  have h1 := Int.emod_lt_of_pos d (show (0 : Int) < 8 by decide)
  generalize d % 8 = e at h0 h1
  have : e = 0 ∨ e = 1 ∨ e = 2 ∨ e = 3 ∨ e = 4 ∨ e = 5 ∨ e = 6 ∨ e = 7 := by omega
  rcases this with rfl | rfl | rfl | rfl | rfl | rfl | rfl | rfl <;> exact ⟨_, rfl, rfl, by unfold Sane; decide⟩
theorem ok_text {f : Addr} {fd : FuncData} (F : Fun K "_law_text" "_law_text" sText f fd) (T : Txt K mg lt) : FnOk P w K mg base CX0 1 f fd ["_law_digits"] (spText K) := by
  refine F.ok sc_text (fun vs H Q E h => ?_) (fun cdv A outer s H vs Q E hr h => ?_)
  · obtain ⟨x, ns, rfl, _⟩ := h
    rfl
  · obtain ⟨a, ns, rfl, hS, hlen, q⟩ := h
    refine ⟨_, (pss_cons (ps_set (i := 1) sc_text.nd rfl (.inr rfl) pe_str) 
    (pss_cons (ps_set (i := 2) sc_text.nd rfl (.inl rfl) (pe_join pe_str (pe_lc (own := [("_law_digit", 4)]) (g := gName 4) rfl sc_text.nd (pi_list (pe_slice sl_list (pv 0) (po_some pe_int) (po_some (pe_op op_add pe_int (pe_op op_mod (pe_ix ix_list (pv 0) pe_int (fun _ _ => rfl)) pe_int))))) (blkOk_by (N := ["_law_digits", "_law_signs", "_law_text_here", "_law_at", "_law_digit"]) (sc := defScope sText) (by decide +kernel)) (fun _ _ _ _ _ => pg_name (i := 4) sc_text.nd rfl (.inl rfl)) (fun _ _ _ _ _ => pts_nil) (fun _ _ _ _ _ => (pe_ix ix_str (pv 1) (pe_op op_mod (pv 4) pe_int) (fun _ _ => rfl)))))) 
    (pss_cons (ps_if (PW.pt (pw_and (pt_cmpR op_eq (pe_op op_mod (pe_ix ix_list (pv 0) pe_int (fun _ _ => rfl)) pe_int) pe_int (nomark _)) (pw_and1 (pt_cmpR op_ne (pv 2) pe_str (nomark _))))) 
      (pss_cons (ps_set (i := 3) sc_text.nd rfl (.inl rfl) (pe_op op_mod (pe_ix ix_list (pv 0) pe_int (fun _ _ => rfl)) (pe_callB call_len_str (by rfl) T.m_len PySem.boot_len (pa_cons (pv 2) pa_nil)))) 
      (pss_one (ps_set (i := 2) sc_text.nd rfl (.inl rfl) (pe_op op_add_str (pe_op op_add_str (pe_slice sl_str (pv 2) po_none (po_some (pv 3))) (pe_ix ix_list (pe_lst (pa_cons pe_str (pa_cons pe_str (pa_cons pe_str (pa_cons pe_str (pa_cons pe_str (pa_cons pe_str (pa_cons pe_str (pa_cons pe_str pa_nil))))))))) (pe_op op_mod (pe_ix ix_list (pv 0) pe_int (fun _ _ => rfl)) pe_int) (fun _ _ => rfl))) (pe_slice sl_str (pv 2) (po_some (pe_op op_add (pv 3) pe_int)) po_none))))) pss_nil) 
    (pss_one (ps_ret (pv 2)))))), ?_⟩
    have i0 : (0 : Nat) < ns.length := by omega
    have i10 : (10 : Nat) < ns.length := by omega
    have i11 : (11 : Nat) < ns.length := by omega
    have i12 : (12 : Nat) < ns.length := by omega
    have hm0 := Int.emod_nonneg ns[0] (show (10 : Int) ≠ 0 by decide)
    have hm1 := Int.emod_lt_of_pos ns[0] (show (0 : Int) < 10 by decide)
    have em : ns[0] % (10 : Int) = (((ns[0] % (10 : Int)).toNat : Nat) : Int) := by omega
    refine ⟨⟨_, rfl⟩, _, rfl, _, rfl, _, rfl, a, _, _, _, rfl, rfl, hS, at_of i0, _, _, rfl, rfl, (by show (0 : Int) < 10; decide), _, _, rfl, rfl, _, rfl, a, _, rfl, hS, fun p hp => ⟨_, rfl, ⟨_, .inl (.inl upd_same)⟩, fun D hD => ?_⟩⟩
    have s1 : Same H (upd H p (.lst (cutV (ns.map V.int) (some (1 : Int)) (some ((1 : Int) + ns[0] % (10 : Int)))))) := same_upd hp
    refine lc_list (xs := cutV (ns.map V.int) (some (1 : Int)) (some ((1 : Int) + ns[0] % (10 : Int)))) (fun i H' => Same H H' ∧ H' p = some (.lst (cutV (ns.map V.int) (some (1 : Int)) (some ((1 : Int) + ns[0] % (10 : Int))))) ∧ ∃ ys : List Str, H' D = some (.lst (ys.map V.str)) ∧ ys.length = i ∧ ∀ y ∈ ys, y.length = 1 ∧ Sane y)
      ⟨s1.trans (same_upd hD), (same_upd hD) _ _ upd_same, [], upd_same, rfl, fun y h => by cases h⟩ (fun i H' _ h => .inl (.inl h.2.1)) ?_ ?_
    · rintro i x H1 hx ⟨s2, e2, ys, e3, hl, hy⟩
      obtain ⟨d, hd, rfl⟩ := List.mem_map.mp (cut_mem hx)
      obtain ⟨c, hc, hcs⟩ := abc_at d
      have hlx : ys.length < sizeLine := by
        have h1 := (List.getElem?_eq_some_iff.mp hx).1
        have h2 := cut_len (ns.map V.int) (ns[0] % (10 : Int)).toNat
        rw [← em] at h2
        exact small1000 (by omega)
      refine ⟨rfl, yes_then ⟨_, rfl, _, rfl, _, _, rfl, rfl, (by show (0 : Int) < 26; decide), abcS, _, c, rfl, rfl, (by decide), hc, _, e3, (by rw [List.length_map]; exact hlx), same_st s2 (s1.free hD), ?_, ys ++ [⟨#[c]⟩], ?_, ?_, ?_⟩⟩
      · have npD : p ≠ D := fun e => by
          rw [← e, upd_same] at hD
          cases hD
        rw [upd_ne npD]
        exact e2
      · rw [upd_same, List.map_append]
        rfl
      · rw [List.length_append, List.length_singleton, hl]
      · intro y hm
        rw [List.mem_append, List.mem_singleton] at hm
        rcases hm with hm | rfl
        · exact hy y hm
        · exact ⟨rfl, fun e he => by
            have : e = c := by simpa using he
            omega⟩
    · rintro H1 ⟨s2, e2, ys, e3, hl, hy⟩
      have hl9 : ys.length ≤ 9 := by
        have h2 := cut_len (ns.map V.int) (ns[0] % (10 : Int)).toNat
        rw [← em] at h2
        omega
      obtain ⟨j1, j2⟩ := join_facts ys hy
      have fits : (ys.map (·.length)).sum + ys.length * (Str.ofString "").length ≤ 16777216 := by
        rw [join_le ys fun y h => (hy y h).1]
        show ys.length + ys.length * 0 ≤ 16777216
        omega
      have big : (Txt.join (Str.ofString "") ys).length ≤ sizeLine := by
        have e : (Txt.join (Str.ofString "") ys).length = ys.length := j1
        exact Nat.le_of_lt (small1000 (by omega))
      refine ⟨_, D, ys, rfl, rfl, .inl (.inl (.inl e3)), fits, ?_⟩
      refine ⟨_, rfl, a, _, _, _, rfl, rfl, s2.seq hS, at_of i10, _, _, rfl, rfl, (by show (0 : Int) < 3; decide), rfl, _, rfl, ite2 (fun _ => ⟨_, rfl, rfl, _, rfl, ite2 (fun hne => ?thn) (fun _ => ?els1)⟩) (fun _ => iteF ?els2)⟩
      case thn =>
        have hpos : (0 : Int) < ((Txt.join (Str.ofString "") ys).length : Nat) := by
          cases h0 : (Txt.join (Str.ofString "") ys).length with
          | succ n => omega
          | zero =>
            exfalso
            have e : Txt.join (Str.ofString "") ys = Str.ofString "" := by
              apply ext_toList
              have e0 : (Txt.join (Str.ofString "") ys).cps.toList = [] := List.eq_nil_of_length_eq_zero (by rw [Array.length_toList]; exact h0)
              rw [e0]
              rfl
            rw [e] at hne
            exact absurd hne (by decide)
        obtain ⟨o, ho, ho1, hos⟩ := odd_at ns[12]
        refine ⟨_, rfl, a, _, _, _, rfl, rfl, s2.seq hS, at_of i11, _, rfl, _, rfl, big, _, _, rfl, rfl, hpos, ?_⟩
        have c1 := cutS_length (Txt.join (Str.ofString "") ys)
        refine ⟨_, rfl, _, rfl, _, rfl, _, rfl, big, (by show 8 ≤ sizeLine; decide), fun l hl => ?_⟩
        have s3 : Same H (upd H1 l (.lst oddV)) := s2.trans (same_upd hl)
        refine ⟨_, rfl, a, _, _, _, rfl, rfl, s3.seq hS, at_of i12, _, _, rfl, rfl, (by show (0 : Int) < 8; decide), l, oddV, _, _, rfl, rfl, .inl (.inl upd_same), ho, ?_⟩
        have j1' : (Txt.join (Str.ofString "") ys).length = ys.length := j1
        refine ⟨_, _, rfl, rfl, ?l1, _, rfl, _, rfl, _, _, rfl, rfl, _, rfl, _, rfl, big, _, _, rfl, rfl, ?l2, _, rfl, q _ _ s3 ?l3 ?l4⟩
        case l1 => exact Nat.le_of_lt (small1000 (by have := c1 none (some (ns[11] % ((Txt.join (Str.ofString "") ys).length : Int))); omega))
        case l2 =>
          refine Nat.le_of_lt (small1000 ?_)
          rw [len_app]
          have k1 := c1 none (some (ns[11] % ((Txt.join (Str.ofString "") ys).length : Int)))
          have k2 := c1 (some (ns[11] % ((Txt.join (Str.ofString "") ys).length : Int) + 1)) none
          omega
        case l3 =>
          rw [len_app, len_app]
          have k1 := c1 none (some (ns[11] % ((Txt.join (Str.ofString "") ys).length : Int)))
          have k2 := c1 (some (ns[11] % ((Txt.join (Str.ofString "") ys).length : Int) + 1)) none
          omega
        case l4 => exact sane_app (sane_app (sane_cut j2 _ _) hos) (sane_cut j2 _ _)
      all_goals exact ⟨_, rfl, q H1 _ s2 (by have e : (Txt.join (Str.ofString "") ys).length = ys.length := j1; omega) j2⟩
end
end K02

namespace K02
open PySem PySem.Spec PyProof.Rows L2 TL
theorem sc_law : FnScope ["_law_script", "_law_k", "_law_cell", "_law_digits", "_law_text_here", "_law_low", "_law_high", "_law_number", "_law_thing"] ["_law_script"] (defScope sLaw) := ⟨rfl, rfl, rfl, by decide +kernel, rfl, by decide +kernel, by decide +kernel⟩
theorem ints_can : ∀ ns : List Int, PyData.canLayAll0 (ns.map PyData.int) = true ∧ PyData.depthAll (ns.map PyData.int) ≤ 1
  | [] => ⟨rfl, by decide⟩
  | y :: r => by
    obtain ⟨h1, h2⟩ := ints_can r
    refine ⟨?_, ?_⟩
    · show (PyData.canLay0 (PyData.int y) && PyData.canLayAll0 (r.map PyData.int)) = true
      rw [h1]
      rfl
    · show max (PyData.depth (PyData.int y)) (PyData.depthAll (r.map PyData.int)) ≤ 1
      exact Nat.max_le.mpr ⟨by simp [PyData.depth], h2⟩
theorem ints_lay (ns : List Int) : SeqAt.shaped (PyData.list (ns.map PyData.int)) = true := by
  obtain ⟨h1, h2⟩ := ints_can ns
  unfold SeqAt.shaped
  rw [Bool.and_eq_true, decide_eq_true_eq]
  refine ⟨h1, ?_⟩
  show PyData.depthAll (ns.map PyData.int) + 1 ≤ 64
  omega
theorem dp_ints {K : PySem.W.Frag} {H : Hp} : ∀ ys : List Int, DpAll K H (ys.map V.int) (ys.map PyData.int)
  | [] => .nil
  | y :: r => .cons (.int y) (dp_ints r)
theorem kind1 {K : PySem.W.Frag} {H : Hp} {x : V} {l1 l2 t3 d4 : Addr} {v1 v2 v3 : List V} {v4 : List (Key × V)} (a1 : H l1 = some (.lst v1)) (a2 : H l2 = some (.lst v2)) (a3 : H t3 = some (.tup v3)) (a4 : H d4 = some (.dK v4))
    (hm : x = .non ∨ x = .int 5 ∨ x = .bl true ∨ x = .ref l1 ∨ x = .ref l2 ∨ x = .ref t3 ∨ x = .ref d4) : ∃ T : String, TyX K H x (.type T) ∧ kitB T "str" = some false := by
  rcases hm with rfl | rfl | rfl | rfl | rfl | rfl | rfl
  · exact ⟨_, .base .non, by decide +kernel⟩
  · exact ⟨_, .base (.int _), by decide +kernel⟩
  · exact ⟨_, .base (.bl _), by decide +kernel⟩
  · exact ⟨_, .base (.lst a1), by decide +kernel⟩
  · exact ⟨_, .base (.lst a2), by decide +kernel⟩
  · exact ⟨_, .base (.tup a3), by decide +kernel⟩
  · exact ⟨_, .base (.dK a4), by decide +kernel⟩
theorem kind2 {K : PySem.W.Frag} {H : Hp} {x : V} {l1 t3 d4 : Addr} {v1 v3 : List V} {v4 : List (Key × V)} (a1 : H l1 = some (.lst v1)) (a3 : H t3 = some (.tup v3)) (a4 : H d4 = some (.dK v4))
    (hm : x = .non ∨ x = .str "1" ∨ x = .bl true ∨ x = .bl false ∨ x = .ref l1 ∨ x = .ref t3 ∨ x = .ref d4) : ∃ T : String, TyX K H x (.type T) ∧ (kitB T "int" = some false ∨ (kitB T "int" = some true ∧ kitB T "bool" = some true)) := by
  rcases hm with rfl | rfl | rfl | rfl | rfl | rfl | rfl
  · exact ⟨_, .base .non, .inl (by decide +kernel)⟩
  · exact ⟨_, .base (.str _), .inl (by decide +kernel)⟩
  · exact ⟨_, .base (.bl _), .inr ⟨by decide +kernel, by decide +kernel⟩⟩
  · exact ⟨_, .base (.bl _), .inr ⟨by decide +kernel, by decide +kernel⟩⟩
  · exact ⟨_, .base (.lst a1), .inl (by decide +kernel)⟩
  · exact ⟨_, .base (.tup a3), .inl (by decide +kernel)⟩
  · exact ⟨_, .base (.dK a4), .inl (by decide +kernel)⟩
theorem same_of {H H1 : Hp} {p : Addr} {o : HO} (s : Same H H1) (h : H1 p = none) : Same H (upd H1 p o) := s.trans (same_upd h)
section
variable {P : Program} {w : World} {K : PySem.W.Frag} {mg : Str → Option Value} {base : Heap} {lt : Tok}
def spLaw (K : PySem.W.Frag) : Sp := fun vs H Q _ => ∃ (a : Addr) (ns : List Int), vs = [.ref a] ∧ SqL K H a (ns.map V.int) ∧ ns.length ≤ 63 ∧ ∀ H', Q (.bl true) H'
theorem ok_law {f f1 f2 f3 f4 f5 : Addr} {fd fd1 fd2 fd3 fd4 fd5 : FuncData} (F : Fun K "law" "law" sLaw f fd) (T : Txt K mg lt)
    (F_is_name : Fun K "is_name" "is_name" sIsName f1 fd1) (b_is_name : Binds K fd1 ["value"] []) (g_is_name : mg "is_name" = some (.ref f1))
    (F_is_int : Fun K "is_integer" "is_integer" sIsInt f2 fd2) (b_is_int : Binds K fd2 ["value", "lowest", "highest"] []) (g_is_int : mg "is_integer" = some (.ref f2))
    (F_num : Fun K "_law_numbers" "_law_numbers" sNum f3 fd3) (b_num : Binds K fd3 ["_law_cell", "_law_salt", "_law_sizes"] []) (g_num : mg "_law_numbers" = some (.ref f3))
    (F_text : Fun K "_law_text" "_law_text" sText f4 fd4) (b_text : Binds K fd4 ["_law_digits"] []) (g_text : mg "_law_text" = some (.ref f4))
    (F_good : Fun K "_law_is_good" "_law_is_good" sGood f5 fd5) (b_good : Binds K fd5 ["_law_text_here"] []) (g_good : mg "_law_is_good" = some (.ref f5)) : FnOk P w K mg base CX0 2 f fd ["_law_script"] (spLaw K) := by
  have G_is_name : FnOk P w K mg base CX0 1 f1 fd1 ["value"] (spIsName K) := ok_is_name F_is_name T
  have G_is_int : FnOk P w K mg base CX0 1 f2 fd2 ["value", "lowest", "highest"] (spIsInt K) := ok_is_int F_is_int T
  have G_num : FnOk P w K mg base CX0 1 f3 fd3 ["_law_cell", "_law_salt", "_law_sizes"] (spNum K) := ok_num F_num T.m_max T.m_range T.m_len
  have G_text : FnOk P w K mg base CX0 1 f4 fd4 ["_law_digits"] (spText K) := ok_text F_text T
  have G_good : FnOk P w K mg base CX0 1 f5 fd5 ["_law_text_here"] (spGood K) := ok_good F_good T
  refine F.ok sc_law (fun vs H Q E h => ?_) (fun cdv A outer s H vs Q E hr h => ?_)
  · obtain ⟨x, ns, rfl, _⟩ := h
    rfl
  · obtain ⟨a, ns, rfl, hS, hlen, q⟩ := h
    refine ⟨_, (pss_cons (ps_for PassesOwn.never rfl (pi_enum (by rfl) T.m_enumerate (pa_cons (pe_op op_cat (pe_slice sl_list (pv 0) po_none (po_some pe_int)) (pe_op op_rep (pe_lst (pa_cons pe_int pa_nil)) (pe_callTy call_int1 (by rfl) T.m_int (by decide +kernel) (pa_cons (pe_cmpR (op_eqD hr.units) (pv 0) (pe_lst pa_nil) (nomark _)) pa_nil)))) pa_nil)) (pg_tup rfl (pgs_cons (pg_name (i := 1) sc_law.nd rfl (.inl rfl)) (pgs_cons (pg_name (i := 2) sc_law.nd rfl (.inl rfl)) pgs_nil))) 
          (pss_cons (ps_set (i := 3) sc_law.nd rfl (.inl rfl) (pe_call G_num hr (by rfl) g_num F_num.kp b_num .nil pass0 (pa_cons (pv 2) (pa_cons (pe_op op_add pe_int (pv 1)) (pa_cons (pe_op op_rep (pe_lst (pa_cons pe_int pa_nil)) pe_int) pa_nil))))) 
          (pss_cons (ps_set (i := 4) sc_law.nd rfl (.inl rfl) (pe_call G_text hr (by rfl) g_text F_text.kp b_text .nil pass0 (pa_cons (pv 3) pa_nil))) 
          (pss_cons (ps_if (pt_cmpR op_ne (pe_call G_is_name hr (by rfl) g_is_name F_is_name.kp b_is_name .nil pass0 (pa_cons (pv 4) pa_nil)) (pe_call G_good hr (by rfl) g_good F_good.kp b_good .nil pass0 (pa_cons (pv 4) pa_nil)) (nomark _)) 
            (pss_one (ps_ret pe_bl)) pss_nil) 
          (pss_cons (ps_par (i := 5) (j := 6) rfl sc_law.nd rfl rfl (by decide) rfl rfl (pa_cons (pe_op op_sub (pe_op op_mod (pe_ix ix_list (pv 3) pe_int (fun _ _ => rfl)) pe_int) pe_int) (pa_cons (pe_op op_sub (pe_op op_mod (pe_ix ix_list (pv 3) pe_int (fun _ _ => rfl)) pe_int) pe_int) pa_nil)) (by rfl)) 
          (pss_cons (ps_set (i := 7) sc_law.nd rfl (.inl rfl) (pe_op op_sub (pe_op op_mod (pe_ix ix_list (pv 3) pe_int (fun _ _ => rfl)) pe_int) pe_int)) 
          (pss_one (ps_if (pt_cmpR op_ne (pe_call G_is_int hr (by rfl) g_is_int F_is_int.kp b_is_int .nil pass0 (pa_cons (pv 7) (pa_cons (pv 5) (pa_cons (pv 6) pa_nil)))) (pe_chain op_le op_le (pv 5) (pv 7) (pv 6)) (nomark _)) 
            (pss_one (ps_ret pe_bl)) pss_nil)))))))) 
        (pss_cons (ps_for PassesOwn.never rfl (pi_list (pe_lst (pa_cons pe_non (pa_cons pe_int (pa_cons pe_bl (pa_cons (pe_lst pa_nil) (pa_cons (pe_lst (pa_cons pe_str pa_nil)) (pa_cons (pe_tup (pa_cons pe_str pa_nil)) (pa_cons pe_dnewK pa_nil))))))))) (pg_name (i := 8) sc_law.nd rfl (.inl rfl)) 
          (pss_one (ps_if (pt_cmpR op_notBl (pe_call G_is_name hr (by rfl) g_is_name F_is_name.kp b_is_name .nil pass0 (pa_cons (pv 8) pa_nil)) pe_bl (nomark _)) 
            (pss_one (ps_ret pe_bl)) pss_nil))) 
        (pss_cons (ps_for PassesOwn.never rfl (pi_list (pe_lst (pa_cons pe_non (pa_cons pe_str (pa_cons pe_bl (pa_cons pe_bl (pa_cons (pe_lst (pa_cons pe_int pa_nil)) (pa_cons (pe_tup (pa_cons pe_int pa_nil)) (pa_cons pe_dnewK pa_nil))))))))) (pg_name (i := 8) sc_law.nd rfl (.inl rfl)) 
          (pss_one (ps_if (pt_cmpR op_notBl (pe_call G_is_int hr (by rfl) g_is_int F_is_int.kp b_is_int .nil pass0 (pa_cons (pv 8) (pa_cons (pe_un un_neg pe_int) (pa_cons pe_int pa_nil)))) pe_bl (nomark _)) 
            (pss_one (ps_ret pe_bl)) pss_nil))) 
        (pss_one (ps_ret (pe_cmpR op_isBl (pe_call G_is_int hr (by rfl) g_is_int F_is_int.kp b_is_int .nil pass0 (pa_cons (pe_op op_pow pe_int pe_int) (pa_cons pe_int (pa_cons (pe_op op_pow pe_int pe_int) pa_nil)))) pe_bl (nomark _))))))), ?_⟩
    have hcl : (cutV (ns.map V.int) none (some (20 : Int))).length ≤ 63 := by
      unfold cutV
      rw [List.length_take, List.length_drop, List.length_map]
      omega
    refine ⟨_, rfl, _, rfl, a, _, rfl, hS, fun c0 hc0 => ⟨(by show 1 ≤ sizeLine; decide), fun l1 hl1 => ⟨_, rfl, Nat.zero_le _, fun e0 he0 => ?_⟩⟩⟩
    have s1 : Same H (upd H c0 (.lst (cutV (ns.map V.int) none (some (20 : Int))))) := same_upd hc0
    have s2 := same_of (o := .lst [V.int 7]) s1 hl1
    have s3 := same_of (o := .lst []) s2 he0
    have ec0 := (same_of (o := .lst []) (same_upd (o := .lst [V.int 7]) hl1) he0) c0 _ upd_same
    have el1 := same_upd (o := .lst []) he0 l1 _ upd_same
    refine ⟨_, _, .lst (s3.seq hS) (dp_ints ns), .lst (xs := []) (.inl (.inl upd_same)) .nil, ints_lay ns, rfl, .inr ⟨_, rfl, l1, _, [V.int 7], rfl, rfl, el1, ?z1, ?z2, ?z3, fun r0 hr0 => ⟨c0, r0, _, _, rfl, rfl, same_upd hr0 c0 _ ec0, upd_same, ?z4, fun p hp => ⟨p, _, rfl, .inl (.inl upd_same), ?_⟩⟩⟩⟩
    case z1 => split <;> decide
    case z2 => split <;> decide
    case z3 => split <;> decide
    case z4 =>
      refine Nat.le_of_lt (small1000 ?_)
      have : (List.replicate (if PyData.eqv (.list (ns.map PyData.int)) (.list []) = true then (1 : Int) else 0).toNat [V.int 7]).flatten.length ≤ 1 := by
        split <;> decide
      omega
    have hxs : ∀ x ∈ cutV (ns.map V.int) none (some (20 : Int)) ++ (List.replicate (if PyData.eqv (.list (ns.map PyData.int)) (.list []) = true then (1 : Int) else 0).toNat [V.int 7]).flatten, ∃ c, x = V.int c := by
      intro x hx
      rw [List.mem_append] at hx
      rcases hx with hx | hx
      · obtain ⟨i, hi⟩ := List.getElem?_of_mem hx
        obtain ⟨c, _, e⟩ := List.mem_map.mp (cut_mem hi)
        exact ⟨c, e.symm⟩
      · obtain ⟨l, h1, h2⟩ := List.mem_flatten.mp hx
        rw [(List.mem_replicate.mp h1).2, List.mem_singleton] at h2
        exact ⟨7, h2⟩
    have hxl : (cutV (ns.map V.int) none (some (20 : Int)) ++ (List.replicate (if PyData.eqv (.list (ns.map PyData.int)) (.list []) = true then (1 : Int) else 0).toNat [V.int 7]).flatten).length ≤ 100 := by
      have : (List.replicate (if PyData.eqv (.list (ns.map PyData.int)) (.list []) = true then (1 : Int) else 0).toNat [V.int 7]).flatten.length ≤ 1 := by
        split <;> decide
      rw [List.length_append]
      omega
    have s5 := same_of (o := .lst (cutV (ns.map V.int) none (some (20 : Int)) ++ (List.replicate (if PyData.eqv (.list (ns.map PyData.int)) (.list []) = true then (1 : Int) else 0).toNat [V.int 7]).flatten)) (same_of (o := .lst (List.replicate (if PyData.eqv (.list (ns.map PyData.int)) (.list []) = true then (1 : Int) else 0).toNat [V.int 7]).flatten) s3 hr0) hp
    refine for_it walk_enum (fun i σ H' => Same H H' ∧ H' p = some (.lst (cutV (ns.map V.int) none (some (20 : Int)) ++ (List.replicate (if PyData.eqv (.list (ns.map PyData.int)) (.list []) = true then (1 : Int) else 0).toNat [V.int 7]).flatten)) ∧ ∃ y1 y2 y3 y4 y5 y6 y7 y8 : Option V, σ = [some (.ref a), y1, y2, y3, y4, y5, y6, y7, y8]) ⟨s5, upd_same, _, _, _, _, _, _, _, _, rfl⟩ (fun i σ H' _ h => .inl (.inl h.2.1)) ?_ ?_
    · rintro i x σ H1 H2 hi ⟨s6, e6, y1, y2, y3, y4, y5, y6, y7, y8, rfl⟩ ⟨t, k, x, rfl, ht, rfl, hk, hx⟩
      obtain ⟨c, rfl⟩ := hxs x (List.mem_of_getElem? hx)
      have ek : k = .int (i : Nat) := (Option.some.inj hk).symm
      subst ek
      have hi100 : i < 100 := by
        have := (List.getElem?_eq_some_iff.mp hx).1
        omega
      have s7 := same_of (o := .tup [.int (i : Nat), .int c]) s6 ht
      have e7 := same_upd (o := .tup [.int (i : Nat), .int c]) ht p _ e6
      refine ⟨t, _, rfl, .inl (.inl upd_same), rfl, _, _, rfl, _, [], rfl, rfl, ?_⟩
      refine ⟨_, rfl, _, rfl, _, _, rfl, rfl, (by show 1 ≤ sizeLine; decide), fun l hl => ⟨l, 16, [V.int 420], rfl, rfl, upd_same, by decide, by decide, by decide, fun r hr => ?_⟩⟩
      have s8 := same_of (o := .lst (List.replicate (16 : Int).toNat [V.int 420]).flatten) (same_of (o := .lst [V.int 420]) s7 hl) hr
      have e8 := same_upd (o := .lst (List.replicate (16 : Int).toNat [V.int 420]).flatten) hr p _ (same_upd (o := .lst [V.int 420]) hl p _ e7)
      refine ⟨c, _, r, List.replicate 16 420, rfl, .inl (.inl upd_same), ⟨by omega, by omega⟩, by decide, (fun z hz => by rw [(List.mem_replicate.mp hz).2]; decide), fun H3 d ds s9 _ ed hdl hb => ?_⟩
      rw [List.length_replicate] at hdl
      have s10 := s8.trans s9
      have e10 := s9 _ _ e8
      -- the text
      refine ⟨_, rfl, d, ds, rfl, .inl (.inl ed), hdl, fun H4 z s11 hz hsz => ?_⟩
      have s12 := s10.trans s11
      refine ⟨_, rfl, _, rfl, .inl ⟨z, rfl, by omega, fun H5 s13 => ⟨_, rfl, z, rfl, by omega, hsz, fun H6 s14 => ⟨rfl, _, rfl, iteNS rfl ?_⟩⟩⟩⟩
      have s15 := s12.trans (s13.trans s14)
      have hd15 : SqL K H6 d (ds.map V.int) := .inl (.inl ((s11.trans (s13.trans s14)) _ _ ed))
      have e15 := (s9.trans (s11.trans (s13.trans s14))) _ _ e8
      have i13 : (13 : Nat) < ds.length := by omega
      have i14 : (14 : Nat) < ds.length := by omega
      have i15 : (15 : Nat) < ds.length := by omega
      refine ⟨_, rfl, d, _, _, _, rfl, rfl, hd15, at_of i13, _, _, rfl, rfl, (by show (0 : Int) < 9; decide), _, _, rfl, rfl, _, rfl, d, _, _, _, rfl, rfl, hd15, at_of i14, _, _, rfl, rfl, (by show (0 : Int) < 9; decide), _, _, rfl, rfl, _, _, rfl, ?_⟩
      refine ⟨_, rfl, d, _, _, _, rfl, rfl, hd15, at_of i15, _, _, rfl, rfl, (by show (0 : Int) < 21; decide), _, _, rfl, rfl, ?_⟩
      refine ⟨_, rfl, _, rfl, _, rfl, _, _, _, rfl, .inl ⟨_, rfl, _, rfl, _, rfl, _, _, rfl, rfl, _, rfl, ite2 (fun h1 => ⟨_, rfl, _, _, rfl, rfl, rfl, _, rfl, iteNS ?_ ⟨s15, e15, _, _, _, _, _, _, _, _, rfl⟩⟩) (fun h1 => ⟨rfl, _, rfl, iteNS ?_ ⟨s15, e15, _, _, _, _, _, _, _, _, rfl⟩⟩)⟩⟩
      · unfold isInt
        rw [h1, Bool.true_and]
      · unfold isInt
        rw [(by simpa using h1 : decide (_ ≤ _) = false), Bool.false_and]
    · rintro σ H1 ⟨s6, e6, y1, y2, y3, y4, y5, y6, y7, y8, rfl⟩
      refine ⟨Nat.zero_le _, fun l1 n1 => ⟨(by show 1 ≤ sizeLine; decide), fun l2 n2 => ⟨(by show 1 ≤ sizeLine; decide), fun t3 n3 => fun d4 n4 => ⟨(by show 7 ≤ sizeLine; decide), fun p5 n5 => ?_⟩⟩⟩⟩
      have k4 := same_upd (o := .lst [.non, .int 5, .bl true, .ref l1, .ref l2, .ref t3, .ref d4]) n5
      have k3 := (same_upd (o := .dK []) n4).trans k4
      have k2 := (same_upd (o := .tup [.str "a"]) n3).trans k3
      have k1 := (same_upd (o := .lst [.str "a"]) n2).trans k2
      have a1 := k1 l1 _ upd_same
      have a2 := k2 l2 _ upd_same
      have a3 := k3 t3 _ upd_same
      have a4 := k4 d4 _ upd_same
      refine ⟨_, rfl, ⟨_, .inl (.inl upd_same)⟩, ?_⟩
      refine for_list (xs := [.non, .int 5, .bl true, .ref l1, .ref l2, .ref t3, .ref d4]) (fun i σ H' => H' = upd (upd (upd (upd (upd H1 l1 (.lst [])) l2 (.lst [.str "a"])) t3 (.tup [.str "a"])) d4 (.dK [])) p5 (.lst [.non, .int 5, .bl true, .ref l1, .ref l2, .ref t3, .ref d4]) ∧ ∃ y1 y2 y3 y4 y5 y6 y7 y8 : Option V, σ = [some (.ref a), y1, y2, y3, y4, y5, y6, y7, y8]) ⟨rfl, _, _, _, _, _, _, _, _, rfl⟩ (fun i σ H' _ h => by rw [h.1]; exact .inl (.inl upd_same)) ?_ ?_
      · rintro i x σ H2 hx ⟨rfl, z1, z2, z3, z4, z5, z6, z7, z8, rfl⟩
        have hm := List.mem_of_getElem? hx
        simp only [List.mem_cons, List.not_mem_nil, or_false] at hm
        obtain ⟨t, hT, hb⟩ := kind1 (K := K) a1 a2 a3 a4 hm
        exact ⟨_, rfl, _, rfl, .inr ⟨t, hT, hb, false, false, rfl, rfl, _, rfl, iteNS rfl ⟨rfl, _, _, _, _, _, _, _, _, rfl⟩⟩⟩
      · rintro σ H2 ⟨rfl, z1, z2, z3, z4, z5, z6, z7, z8, rfl⟩
        clear k1 k2 k3 k4 a1 a2 a3 a4
        generalize upd (upd (upd (upd (upd H1 l1 (.lst [])) l2 (.lst [.str "a"])) t3 (.tup [.str "a"])) d4 (.dK [])) p5 (.lst [.non, .int 5, .bl true, .ref l1, .ref l2, .ref t3, .ref d4]) = H2
        refine ⟨(by show 1 ≤ sizeLine; decide), fun m1 n1 => ⟨(by show 1 ≤ sizeLine; decide), fun t3 n3 => fun d4 n4 => ⟨(by show 7 ≤ sizeLine; decide), fun p5 n5 => ?_⟩⟩⟩
        have k4 := same_upd (o := .lst [.non, .str "1", .bl true, .bl false, .ref m1, .ref t3, .ref d4]) n5
        have k3 := (same_upd (o := .dK []) n4).trans k4
        have k2 := (same_upd (o := .tup [.int 0]) n3).trans k3
        have a1 := k2 m1 _ upd_same
        have a3 := k3 t3 _ upd_same
        have a4 := k4 d4 _ upd_same
        refine ⟨_, rfl, ⟨_, .inl (.inl upd_same)⟩, ?_⟩
        refine for_list (xs := [.non, .str "1", .bl true, .bl false, .ref m1, .ref t3, .ref d4]) (fun i σ H' => H' = upd (upd (upd (upd H2 m1 (.lst [.int 1])) t3 (.tup [.int 0])) d4 (.dK [])) p5 (.lst [.non, .str "1", .bl true, .bl false, .ref m1, .ref t3, .ref d4]) ∧ ∃ y1 y2 y3 y4 y5 y6 y7 y8 : Option V, σ = [some (.ref a), y1, y2, y3, y4, y5, y6, y7, y8]) ⟨rfl, _, _, _, _, _, _, _, _, rfl⟩ (fun i σ H' _ h => by rw [h.1]; exact .inl (.inl upd_same)) ?_ ?_
        · rintro i x σ H3 hx ⟨rfl, z1, z2, z3, z4, z5, z6, z7, z8, rfl⟩
          have hm := List.mem_of_getElem? hx
          simp only [List.mem_cons, List.not_mem_nil, or_false] at hm
          obtain ⟨t, hT, hb⟩ := kind2 (K := K) a1 a3 a4 hm
          exact ⟨_, rfl, _, rfl, _, _, _, rfl, .inr ⟨t, hT, hb, false, false, rfl, rfl, _, rfl, iteNS rfl ⟨rfl, _, _, _, _, _, _, _, _, rfl⟩⟩⟩
        · rintro σ H3 ⟨rfl, z1, z2, z3, z4, z5, z6, z7, z8, rfl⟩
          refine ⟨_, _, rfl, rfl, ⟨by decide, by decide, by decide⟩, _, _, rfl, rfl, ⟨by decide, by decide, by decide⟩, _, _, _, rfl, .inl ⟨_, rfl, _, _, rfl, rfl, ?_⟩⟩
          have e : decide (isInt (10 ^ (30 : Int).toNat) 0 (10 ^ (31 : Int).toNat) = true) = true := by decide +kernel
          have := q (upd (upd (upd (upd H2 m1 (.lst [.int 1])) t3 (.tup [.int 0])) d4 (.dK [])) p5 (.lst [.non, .str "1", .bl true, .bl false, .ref m1, .ref t3, .ref d4]))
          rw [← e] at this
          exact this
end
end K02

namespace K02
open PySem PySem.Spec PyProof.Rows L2 TL
/-! ### what the top has written, the head -/
theorem all_mk {l : PySem.W.OpenLaw} {w : World} {K : PySem.W.Frag} {h : Heap} {mg : Str → Option Value} {fa f1 f2 f3 f4 f5 f6 : Addr} {lt0 : Tok} (X : K.In h) (G : h.Ns mainGlobals mg) (hfa : mg "law" = some (.ref fa))
    {od1 an1 od2 an2 od3 an3 od4 an4 od5 an5 od6 an6 : Option Addr} {sl1 sl2 sl3 sl4 sl5 sl6 : Array (Option Value)} {oc1 kV1 dc1 pm1 cd1 ct1 oc2 kV2 dc2 pm2 cd2 ct2 oc3 kV3 dc3 pm3 cd3 ct3 oc4 kV4 dc4 pm4 cd4 ct4 oc5 kV5 dc5 pm5 cd5 ct5 oc6 kV6 dc6 pm6 cd6 ct6 : Value}
    (a1 : PySem.W.nsIn K mainGlobals "is_name" = some (some (.ref f1))) (l1 : K.lookup f1 = some ⟨oc1, od1, .func (PySem.W.fnOf "is_name" "is_name" (defArgs sIsName) (defBody sIsName) (defScope sIsName) .none kV1 dc1 pm1 an1 cd1 ct1), sl1⟩) (c1 : PySem.W.codeIn K cd1 "is_name" = true) (k1 : PySem.W.keepIn K (.ref f1) = true)
    (a2 : PySem.W.nsIn K mainGlobals "is_integer" = some (some (.ref f2))) (l2 : K.lookup f2 = some ⟨oc2, od2, .func (PySem.W.fnOf "is_integer" "is_integer" (defArgs sIsInt) (defBody sIsInt) (defScope sIsInt) .none kV2 dc2 pm2 an2 cd2 ct2), sl2⟩) (c2 : PySem.W.codeIn K cd2 "is_integer" = true) (k2 : PySem.W.keepIn K (.ref f2) = true)
    (a3 : PySem.W.nsIn K mainGlobals "_law_numbers" = some (some (.ref f3))) (l3 : K.lookup f3 = some ⟨oc3, od3, .func (PySem.W.fnOf "_law_numbers" "_law_numbers" (defArgs sNum) (defBody sNum) (defScope sNum) .none kV3 dc3 pm3 an3 cd3 ct3), sl3⟩) (c3 : PySem.W.codeIn K cd3 "_law_numbers" = true) (k3 : PySem.W.keepIn K (.ref f3) = true)
    (a4 : PySem.W.nsIn K mainGlobals "_law_text" = some (some (.ref f4))) (l4 : K.lookup f4 = some ⟨oc4, od4, .func (PySem.W.fnOf "_law_text" "_law_text" (defArgs sText) (defBody sText) (defScope sText) .none kV4 dc4 pm4 an4 cd4 ct4), sl4⟩) (c4 : PySem.W.codeIn K cd4 "_law_text" = true) (k4 : PySem.W.keepIn K (.ref f4) = true)
    (a5 : PySem.W.nsIn K mainGlobals "_law_is_good" = some (some (.ref f5))) (l5 : K.lookup f5 = some ⟨oc5, od5, .func (PySem.W.fnOf "_law_is_good" "_law_is_good" (defArgs sGood) (defBody sGood) (defScope sGood) .none kV5 dc5 pm5 an5 cd5 ct5), sl5⟩) (c5 : PySem.W.codeIn K cd5 "_law_is_good" = true) (k5 : PySem.W.keepIn K (.ref f5) = true)
    (a6 : PySem.W.nsIn K mainGlobals "law" = some (some (.ref f6))) (l6 : K.lookup f6 = some ⟨oc6, od6, .func (PySem.W.fnOf "law" "law" (defArgs sLaw) (defBody sLaw) (defScope sLaw) .none kV6 dc6 pm6 an6 cd6 ct6), sl6⟩) (c6 : PySem.W.codeIn K cd6 "law" = true) (k6 : PySem.W.keepIn K (.ref f6) = true)
    (z_max : PySem.W.nsIn K mainGlobals "max" = some none)
    (z_range : PySem.W.nsIn K mainGlobals "range" = some none)
    (z_len : PySem.W.nsIn K mainGlobals "len" = some none)
    (z_isinstance : PySem.W.nsIn K mainGlobals "isinstance" = some none)
    (z_str : PySem.W.nsIn K mainGlobals "str" = some none)
    (z_int : PySem.W.nsIn K mainGlobals "int" = some none)
    (z_bool : PySem.W.nsIn K mainGlobals "bool" = some none)
    (z_all : PySem.W.nsIn K mainGlobals "all" = some none)
    (z_enumerate : PySem.W.nsIn K mainGlobals "enumerate" = some none)
    (y_0 : PySem.W.nsIn K mainGlobals "_LONGEST_NAME" = some (some (.int 8 lt0)))
    : ∃ fd : FuncData, (∀ (s : Shared) (v : Value), BindsTo s fd ⟨[v], []⟩ [("_law_script", v)]) ∧ ∀ base : Heap, K.In base → base.Ns mainGlobals mg → FnOk l.prog w K mg base CX0 2 fa fd ["_law_script"] (spLaw K) := by
  have e := hfa.symm.trans (PySem.W.mg_of X G a6)
  cases e
  have T : Txt K mg lt0 := { m_max := PySem.W.mg_none_of X G z_max, m_range := PySem.W.mg_none_of X G z_range, m_len := PySem.W.mg_none_of X G z_len, m_isinstance := PySem.W.mg_none_of X G z_isinstance, m_str := PySem.W.mg_none_of X G z_str, m_int := PySem.W.mg_none_of X G z_int, m_bool := PySem.W.mg_none_of X G z_bool, m_all := PySem.W.mg_none_of X G z_all, m_enumerate := PySem.W.mg_none_of X G z_enumerate, c_LONGEST_NAME := PySem.W.mg_of X G y_0 }
  have F1 := fun_mk (st := sIsName) l1 c1 k1
  have b1 := F1.binds (ps := ["value"]) fun _ _ _ _ _ _ us hl => match us, hl with | [_], _ => rfl
  have F2 := fun_mk (st := sIsInt) l2 c2 k2
  have b2 := F2.binds (ps := ["value", "lowest", "highest"]) fun _ _ _ _ _ _ us hl => match us, hl with | [_, _, _], _ => rfl
  have F3 := fun_mk (st := sNum) l3 c3 k3
  have b3 := F3.binds (ps := ["_law_cell", "_law_salt", "_law_sizes"]) fun _ _ _ _ _ _ us hl => match us, hl with | [_, _, _], _ => rfl
  have F4 := fun_mk (st := sText) l4 c4 k4
  have b4 := F4.binds (ps := ["_law_digits"]) fun _ _ _ _ _ _ us hl => match us, hl with | [_], _ => rfl
  have F5 := fun_mk (st := sGood) l5 c5 k5
  have b5 := F5.binds (ps := ["_law_text_here"]) fun _ _ _ _ _ _ us hl => match us, hl with | [_], _ => rfl
  exact ⟨PySem.W.fnOf "law" "law" (defArgs sLaw) (defBody sLaw) (defScope sLaw) .none kV6 dc6 pm6 an6 cd6 ct6, fun s v => .of_eq rfl, fun base _ _ =>
    ok_law (fun_mk (st := sLaw) l6 c6 k6) T F1 b1 (PySem.W.mg_of X G a1) F2 b2 (PySem.W.mg_of X G a2) F3 b3 (PySem.W.mg_of X G a3) F4 b4 (PySem.W.mg_of X G a4) F5 b5 (PySem.W.mg_of X G a5)⟩
theorem walk {l : PySem.W.OpenLaw} {q : Program} {loose : List Str} {XP : (Str → Option Value) → Heap → Prop} {YP : World → Heap → Prop} {d : DefRec} {K : Params → PySem.W.Frag} (hn : l.most = some 63) (hdf : d.params.defaults = [])
    (hY : ∀ (w : World) (h : Heap), YP w h → (K w.params).In h)
    (F : ∀ (w : World) (mg : Str → Option Value) (fa : Addr) (h : Heap), (K w.params).In h → h.Ns mainGlobals mg → mg d.name = some (.ref fa) →
      ∃ fd : FuncData, (∀ (s : Shared) (u : Value), BindsTo s fd ⟨[u], []⟩ [("_law_script", u)]) ∧ ∀ base : Heap, (K w.params).In base → base.Ns mainGlobals mg → FnOk l.prog w (K w.params) mg base CX0 2 fa fd ["_law_script"] (spLaw (K w.params))) :
    PySem.W.WalkO q loose XP YP l.row.toRowW d [] (fun f vs => PySem.call f vs) :=
  L2.walk_of (n := 63) (k := 2) (x := "_law_script") (CX := fun _ => CX0) (sp := fun w => spLaw (K w.params)) hn (by decide) hdf ⟨rfl, by decide, by decide⟩ hY F (fun _ _ a ns hl _ hS => ⟨a, ns, rfl, hS, hl, fun _ => rfl⟩) fun _ _ _ _ _ z => z
end K02

open PySem PySem.W PyProof.Rows in
set_option maxRecDepth 100000 in
set_option maxHeartbeats 0 in
theorem PySem.Challenge.cw_pulledout_k02_names_and_integers_holds : PySem.Challenge.rw_pulledout_k02_names_and_integers.Holds := by
  w_on; o_law; k_head; (case hw => w_witness2)
  k_fill
  refine K02.walk (l := PySem.Challenge.rw_pulledout_k02_names_and_integers) rfl rfl (fun w h Y => PySem.W.kIn_of Y) ?F
  case F =>
    intro w mg fa h KX G hmg
    refine' K02.all_mk KX G hmg ?a1 ?l1 ?c1 ?k1 ?a2 ?l2 ?c2 ?k2 ?a3 ?l3 ?c3 ?k3 ?a4 ?l4 ?c4 ?k4 ?a5 ?l5 ?c5 ?k5 ?a6 ?l6 ?c6 ?k6 ?z_max ?z_range ?z_len ?z_isinstance ?z_str ?z_int ?z_bool ?z_all ?z_enumerate ?y_0
    (case a1 => k_is)
    (case l1 => k_is)
    (case c1 => k_is)
    (case k1 => k_is)
    (case a2 => k_is)
    (case l2 => k_is)
    (case c2 => k_is)
    (case k2 => k_is)
    (case a3 => k_is)
    (case l3 => k_is)
    (case c3 => k_is)
    (case k3 => k_is)
    (case a4 => k_is)
    (case l4 => k_is)
    (case c4 => k_is)
    (case k4 => k_is)
    (case a5 => k_is)
    (case l5 => k_is)
    (case c5 => k_is)
    (case k5 => k_is)
    (case a6 => k_is)
    (case l6 => k_is)
    (case c6 => k_is)
    (case k6 => k_is)
    (case z_max => k_is)
    (case z_range => k_is)
    (case z_len => k_is)
    (case z_isinstance => k_is)
    (case z_str => k_is)
    (case z_int => k_is)
    (case z_bool => k_is)
    (case z_all => k_is)
    (case z_enumerate => k_is)
    (case y_0 => k_is)

