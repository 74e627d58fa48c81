import PyProof.Rows.All
import Wide.All
import OpenK.AllK
import Wide.FinOn
import HandS.ForMost
import HandS.Wide
import PyProof.ReprRoads
import PyProof.ReprLen
import HandS.ForExc
import KE.KExcIs
import HandS.ExcInit
import HandS.ExcIs
import HandS.IsInst
import HandS.ExcValue
import HandS.ExcField
import HandS.Defaults
import HandS.Comp
import PySem.Challenge.RW_waypairs_k00_errors_and_their_fields
set_option Elab.async false
set_option linter.all false
set_option maxRecDepth 100000
set_option maxHeartbeats 4000000
namespace Wp
open PySem L2
def top (i : Nat) : Stmt := PySem.Challenge.pw_waypairs_k00_errors_and_their_fields.main.body.getD i (.Pass ⟨0, 0, 0, 0⟩)
abbrev sPen : Stmt := top 24
abbrev sTake : Stmt := top 25
abbrev sOne : Stmt := top 26
/-! ## The pen: a dict of six names -/
def penD (c : Addr) (a r d m t : Int) : List (Key × V) :=
  [(Sum.inr "cells", .ref c), (Sum.inr "at", .int a), (Sum.inr "rest", .int r), (Sum.inr "digits", .int d), (Sum.inr "mix", .int m), (Sum.inr "turn", .int t)]
theorem kne {x y : Str} (h : ¬ x = y) : ¬ (Sum.inr x : Key) = Sum.inr y := fun z => h (Sum.inr.inj z)
section
variable {c : Addr} {a r d m t z : Int}
theorem pd_cells : valV (penD c a r d m t) (Sum.inr "cells") = some (.ref c) := valV_pos rfl
theorem pd_at : valV (penD c a r d m t) (Sum.inr "at") = some (.int a) := (valV_neg (kne (by decide +kernel))).trans (valV_pos rfl)
theorem pd_rest : valV (penD c a r d m t) (Sum.inr "rest") = some (.int r) :=
  (valV_neg (kne (by decide +kernel))).trans ((valV_neg (kne (by decide +kernel))).trans (valV_pos rfl))
theorem pd_digits : valV (penD c a r d m t) (Sum.inr "digits") = some (.int d) :=
  (valV_neg (kne (by decide +kernel))).trans ((valV_neg (kne (by decide +kernel))).trans ((valV_neg (kne (by decide +kernel))).trans (valV_pos rfl)))
theorem pd_mix : valV (penD c a r d m t) (Sum.inr "mix") = some (.int m) :=
  (valV_neg (kne (by decide +kernel))).trans ((valV_neg (kne (by decide +kernel))).trans ((valV_neg (kne (by decide +kernel))).trans ((valV_neg (kne (by decide +kernel))).trans (valV_pos rfl))))
theorem pd_turn : valV (penD c a r d m t) (Sum.inr "turn") = some (.int t) :=
  (valV_neg (kne (by decide +kernel))).trans ((valV_neg (kne (by decide +kernel))).trans ((valV_neg (kne (by decide +kernel))).trans ((valV_neg (kne (by decide +kernel))).trans ((valV_neg (kne (by decide +kernel))).trans (valV_pos rfl)))))
theorem put_of {kvs : List (Key × V)} {k : Key} {u w : V} (h : valV kvs k = some u) : putK kvs k w = kvs.map fun kv => if kv.1 = k then (kv.1, w) else kv := by
  unfold putK
  rw [if_pos (by rw [valV_any, h]; rfl)]
theorem n1 : ¬ ("cells" : Str) = "at" := by decide +kernel
theorem n2 : ¬ ("cells" : Str) = "rest" := by decide +kernel
theorem n3 : ¬ ("cells" : Str) = "digits" := by decide +kernel
theorem n4 : ¬ ("cells" : Str) = "mix" := by decide +kernel
theorem n5 : ¬ ("cells" : Str) = "turn" := by decide +kernel
theorem n6 : ¬ ("at" : Str) = "rest" := by decide +kernel
theorem n7 : ¬ ("at" : Str) = "digits" := by decide +kernel
theorem n8 : ¬ ("at" : Str) = "mix" := by decide +kernel
theorem n9 : ¬ ("at" : Str) = "turn" := by decide +kernel
theorem n10 : ¬ ("rest" : Str) = "digits" := by decide +kernel
theorem n11 : ¬ ("rest" : Str) = "mix" := by decide +kernel
theorem n12 : ¬ ("rest" : Str) = "turn" := by decide +kernel
theorem n13 : ¬ ("digits" : Str) = "mix" := by decide +kernel
theorem n14 : ¬ ("digits" : Str) = "turn" := by decide +kernel
theorem n15 : ¬ ("mix" : Str) = "turn" := by decide +kernel
theorem pp_at : putK (penD c a r d m t) (Sum.inr "at") (.int z) = penD c z r d m t := by
  rw [put_of pd_at]
  simp [penD, n1, n2, n3, n4, n5, n6, n7, n8, n9, n10, n11, n12, n13, n14, n15, Ne.symm n1, Ne.symm n6, Ne.symm n7, Ne.symm n8, Ne.symm n9]
theorem pp_rest : putK (penD c a r d m t) (Sum.inr "rest") (.int z) = penD c a z d m t := by
  rw [put_of pd_rest]
  simp [penD, n1, n2, n3, n4, n5, n6, n7, n8, n9, n10, n11, n12, n13, n14, n15, Ne.symm n10, Ne.symm n11, Ne.symm n12]
theorem pp_digits : putK (penD c a r d m t) (Sum.inr "digits") (.int z) = penD c a r z m t := by
  rw [put_of pd_digits]
  simp [penD, n1, n2, n3, n4, n5, n6, n7, n8, n9, n10, n11, n12, n13, n14, n15, Ne.symm n13, Ne.symm n14]
theorem pp_mix : putK (penD c a r d m t) (Sum.inr "mix") (.int z) = penD c a r d z t := by
  rw [put_of pd_mix]
  simp [penD, n1, n2, n3, n4, n5, n6, n7, n8, n9, n10, n11, n12, n13, n14, n15, Ne.symm n15]
theorem pp_turn : putK (penD c a r d m t) (Sum.inr "turn") (.int z) = penD c a r d m z := by
  rw [put_of pd_turn]
  simp [penD, n1, n2, n3, n4, n5, n6, n7, n8, n9, n10, n11, n12, n13, n14, n15]
end
/-- the pen at p: its cells at c hold ns; at is a place, mix is small -/
structure PenAt (H : Hp) (p c : Addr) (ns : List Int) (a r d m t : Int) : Prop where
  pd : H p = some (.dK (penD c a r d m t))
  cl : H c = some (.lst (ns.map V.int))
  a0 : 0 ≤ a
  m0 : 0 ≤ m
  m1 : m < 2147483647
theorem PenAt.ne {H : Hp} {p c : Addr} {ns : List Int} {a r d m t : Int} (h : PenAt H p c ns a r d m t) : c ≠ p := ne_of h.cl h.pd (by intro z; cases z)
theorem PenAt.set {H : Hp} {p c : Addr} {ns : List Int} {a r d m t a' r' d' m' t' : Int} (h : PenAt H p c ns a r d m t) (a0 : 0 ≤ a') (m0 : 0 ≤ m') (m1 : m' < 2147483647) :
    PenAt (upd H p (.dK (penD c a' r' d' m' t'))) p c ns a' r' d' m' t' := ⟨upd_same, by rw [upd_ne h.ne]; exact h.cl, a0, m0, m1⟩
/-- take(pen, bound): a number below the bound; the pen alone changes -/
def spTake : Sp := fun vs H Q _ => ∃ (p c : Addr) (ns : List Int) (a r d m t b : Int), vs = [.ref p, .int b] ∧ PenAt H p c ns a r d m t ∧ 0 < b ∧ b < 2 ^ 60 ∧
  ∀ (v a' r' d' m' t' : Int), 0 ≤ v → v < b → 0 ≤ a' → 0 ≤ m' → m' < 2147483647 → Q (.int v) (upd H p (.dK (penD c a' r' d' m' t')))
end Wp

set_option Elab.async false
set_option linter.all false
set_option maxRecDepth 100000
set_option maxHeartbeats 4000000
namespace Wp
open PySem L2
theorem upd_id {H : Hp} {p : Addr} {o : HO} (h : H p = some o) : upd H p o = H := by
  funext b
  by_cases e : b = p
  · rw [e, upd_same, h]
  · rw [upd_ne e]
section
variable {H : Hp} {p c : Addr} {a r d m t z : Int}
theorem gq_cells : DGet (upd H p (.dK (penD c a r d m t))) p (.str "cells") (some (.ref c)) := by
  have q := DGet.k (H := upd H p (.dK (penD c a r d m t))) (a := p) (k := Sum.inr "cells") upd_same
  rw [pd_cells] at q
  exact q
theorem gq_at : DGet (upd H p (.dK (penD c a r d m t))) p (.str "at") (some (.int a)) := by
  have q := DGet.k (H := upd H p (.dK (penD c a r d m t))) (a := p) (k := Sum.inr "at") upd_same
  rw [pd_at] at q
  exact q
theorem gq_rest : DGet (upd H p (.dK (penD c a r d m t))) p (.str "rest") (some (.int r)) := by
  have q := DGet.k (H := upd H p (.dK (penD c a r d m t))) (a := p) (k := Sum.inr "rest") upd_same
  rw [pd_rest] at q
  exact q
theorem gq_digits : DGet (upd H p (.dK (penD c a r d m t))) p (.str "digits") (some (.int d)) := by
  have q := DGet.k (H := upd H p (.dK (penD c a r d m t))) (a := p) (k := Sum.inr "digits") upd_same
  rw [pd_digits] at q
  exact q
theorem gq_mix : DGet (upd H p (.dK (penD c a r d m t))) p (.str "mix") (some (.int m)) := by
  have q := DGet.k (H := upd H p (.dK (penD c a r d m t))) (a := p) (k := Sum.inr "mix") upd_same
  rw [pd_mix] at q
  exact q
theorem gq_turn : DGet (upd H p (.dK (penD c a r d m t))) p (.str "turn") (some (.int t)) := by
  have q := DGet.k (H := upd H p (.dK (penD c a r d m t))) (a := p) (k := Sum.inr "turn") upd_same
  rw [pd_turn] at q
  exact q
theorem pq_of {kvs kvs' : List (Key × V)} {k : Key} {v : V} (e : putK kvs k v = kvs') (hl : kvs.length < sizeLine) : DPut (upd H p (.dK kvs)) p (kV k) v (upd H p (.dK kvs')) := by
  have q := DPut.k (H := upd H p (.dK kvs)) (a := p) (k := k) (v := v) upd_same hl
  rw [upd_upd, e] at q
  exact q
theorem pq_at : DPut (upd H p (.dK (penD c a r d m t))) p (.str "at") (.int z) (upd H p (.dK (penD c z r d m t))) := pq_of (k := Sum.inr "at") pp_at (by show 6 < sizeLine; decide)
theorem pq_rest : DPut (upd H p (.dK (penD c a r d m t))) p (.str "rest") (.int z) (upd H p (.dK (penD c a z d m t))) := pq_of (k := Sum.inr "rest") pp_rest (by show 6 < sizeLine; decide)
theorem pq_digits : DPut (upd H p (.dK (penD c a r d m t))) p (.str "digits") (.int z) (upd H p (.dK (penD c a r z m t))) := pq_of (k := Sum.inr "digits") pp_digits (by show 6 < sizeLine; decide)
theorem pq_mix : DPut (upd H p (.dK (penD c a r d m t))) p (.str "mix") (.int z) (upd H p (.dK (penD c a r d z t))) := pq_of (k := Sum.inr "mix") pp_mix (by show 6 < sizeLine; decide)
theorem pq_turn : DPut (upd H p (.dK (penD c a r d m t))) p (.str "turn") (.int z) (upd H p (.dK (penD c a r d m z))) := pq_of (k := Sum.inr "turn") pp_turn (by show 6 < sizeLine; decide)
end
structure Blt (mg : Str → Option Value) : Prop where
  int : mg "int" = none
  len : mg "len" = none
  list : mg "list" = none
section
variable {P : Program} {w : World} {K : PySem.W.Frag} {mg : Str → Option Value} {base : Heap}
theorem scT : FnScope ["_law_pen_here", "_law_bound", "_law_cell", "_law_mixed", "_law_digit"] ["_law_pen_here", "_law_bound"] (defScope sTake) :=
  ⟨rfl, rfl, rfl, by decide +kernel, rfl, by decide +kernel, by decide +kernel⟩
theorem mod7 {x b : Int} (hb : 0 < b) : 0 ≤ x % b ∧ x % b < b := ⟨Int.emod_nonneg _ (by omega), Int.emod_lt_of_pos _ hb⟩
theorem wb {b : Int} (h0 : 0 < b) (h1 : b < 2 ^ 60) : CDivW 0 b := wide_div (b := 60) h0 (by omega) (by decide) (by decide)
theorem ok_take {f : Addr} {fd : FuncData} (F : Fun K "_law_take" "_law_take" sTake f fd) (T : Blt mg) : FnOk P w K mg base CX0 1 f fd ["_law_pen_here", "_law_bound"] spTake := by
  refine F.ok scT (fun vs H Q E h => ?_) (fun cdv A outer s H vs Q E hr h => ?_)
  · obtain ⟨p, c, ns, a, r, d, m, t, b, rfl, _⟩ := h
    rfl
  · obtain ⟨p, c, ns, a, r, d, m, t, b, rfl, S, hb, hb2, k⟩ := h
    have hu := hu_of hr
    -- the two ends: what is left of a number, and the mixing alone
    obtain ⟨tC, hC, qC⟩ : ∃ t, PSs (cxOf CX0 P w K mg base ["_law_pen_here", "_law_bound", "_law_cell", "_law_mixed", "_law_digit"] "_law_take" (defScope sTake) f cdv A outer s H E).nox ((defBody sTake).drop 2) t ∧
        ∀ (v2 v3 v4 : Option V) (a r d m t' : Int), 0 ≤ a → 0 ≤ m → m < 2147483647 → t { nx := fun _ H' => Q .non H', rt := Q } [some (.ref p), some (.int b), v2, v3, v4] (upd H p (.dK (penD c a r d m t'))) := by
      refine ⟨_, pss_cons (ps_if (pt_cmpR op_gt (pe_dget hu (pv 0) pe_str (fun _ _ => rfl)) pe_int (nomark _))
        (pss_cons (ps_dput hu (pv 0) pe_str (pe_op op_sub (pe_dget hu (pv 0) pe_str (fun _ _ => rfl)) pe_int) rfl)
        (pss_cons (ps_set (i := 4) scT.nd rfl (.inl rfl) (pe_op op_mod (pe_callTy call_int1 (by rfl) T.int PyProof.Rows.boot_int (pa_cons (pe_dget hu (pv 0) pe_str (fun _ _ => rfl)) pa_nil)) (pv 1)))
        (pss_cons (ps_dput hu (pv 0) pe_str (pe_op op_fdivW (pe_dget hu (pv 0) pe_str (fun _ _ => rfl)) (pv 1)) rfl)
        (pss_one (ps_ret (pv 4))))))
        pss_nil)
        (pss_cons (ps_dput hu (pv 0) pe_str (pe_op op_mod (pe_callTy call_int1 (by rfl) T.int PyProof.Rows.boot_int (pa_cons (pe_op op_add (pe_op op_add (pe_op op_mul (pe_dget hu (pv 0) pe_str (fun _ _ => rfl)) pe_int) (pe_op op_mul (pe_dget hu (pv 0) pe_str (fun _ _ => rfl)) pe_int)) pe_int) pa_nil)) pe_int) rfl)
        (pss_one (ps_ret (pe_op op_mod (pe_op op_fdiv (pe_op op_mod (pe_callTy call_int1 (by rfl) T.int PyProof.Rows.boot_int (pa_cons (pe_op op_add (pe_op op_mul (pe_dget hu (pv 0) pe_str (fun _ _ => rfl)) (pe_dget hu (pv 0) pe_str (fun _ _ => rfl))) (pe_dget hu (pv 0) pe_str (fun _ _ => rfl))) pa_nil)) pe_int) pe_int) (pv 1))))), ?_⟩
      intro v2 v3 v4 a r d m t' ha hm hm2
      refine ⟨_, rfl, p, _, rfl, gq_digits, _, _, rfl, rfl, _, rfl, ?_⟩
      refine ite2 (fun _ => ?_) (fun _ => ?_)
      · refine ⟨_, rfl, p, _, rfl, gq_digits, _, _, rfl, rfl, _, rfl, p, _, rfl, pq_digits, ?_⟩
        refine ⟨_, rfl, p, _, rfl, gq_rest, .inl ⟨_, rfl, _, rfl, _, _, rfl, rfl, hb, ?_⟩⟩
        refine ⟨_, rfl, p, _, rfl, gq_rest, _, rfl, _, _, rfl, rfl, wide_div (b := 60) hb (by omega) (by decide) (by decide), _, rfl, p, _, rfl, pq_rest, ?_⟩
        refine ⟨_, rfl, ?_⟩
        exact k _ _ _ _ _ _ (mod7 hb).1 (mod7 hb).2 ha hm hm2
      · refine ⟨_, rfl, p, _, rfl, gq_mix, _, _, rfl, rfl, .inr (by decide), _, rfl, p, _, rfl, gq_turn, _, _, rfl, rfl, .inr (by decide), _, _, rfl, rfl, _, _, rfl, rfl, .inl ⟨_, rfl, _, _, rfl, rfl, (by show (0 : Int) < 2147483647; decide), _, rfl, p, _, rfl, pq_mix, ?_⟩⟩
        have q1 := mod7 (x := m * 69621 + t' * 16807 + 5) (b := 2147483647) (by decide)
        refine ⟨_, rfl, p, _, rfl, gq_mix, _, rfl, p, _, rfl, gq_mix, _, _, rfl, rfl, .inl ⟨by omega, by omega⟩, _, rfl, p, _, rfl, gq_turn, _, _, rfl, rfl, .inl ⟨_, rfl, _, _, rfl, rfl, (by show (0 : Int) < 2147483579; decide), _, _, rfl, rfl, ⟨by decide, by decide⟩, _, rfl, _, _, rfl, rfl, hb, ?_⟩⟩
        exact k _ _ _ _ _ _ (mod7 hb).1 (mod7 hb).2 ha q1.1 q1.2
    refine ⟨_, pss_cons (ps_dput hu (pv 0) pe_str (pe_op op_add (pe_dget hu (pv 0) pe_str (fun _ _ => rfl)) pe_int) rfl)
      (pss_cons (ps_if (PW.pt (pw_and (pt_cmpR op_eq (pe_dget hu (pv 0) pe_str (fun _ _ => rfl)) pe_int (nomark _))
          (pw_and1 (pt_cmpR op_lt (pe_dget hu (pv 0) pe_str (fun _ _ => rfl)) (pe_callB call_len_seq (by rfl) T.len PySem.boot_len (pa_cons (pe_dget hu (pv 0) pe_str (fun _ _ => rfl)) pa_nil)) (nomark _)))))
        (pss_cons (ps_set (i := 2) scT.nd rfl (.inl rfl) (pe_ix ix_list (pe_dget hu (pv 0) pe_str (fun _ _ => rfl)) (pe_dget hu (pv 0) pe_str (fun _ _ => rfl)) (fun _ _ => rfl)))
        (pss_cons (ps_dput hu (pv 0) pe_str (pe_op op_add (pe_dget hu (pv 0) pe_str (fun _ _ => rfl)) pe_int) rfl)
        (pss_cons (ps_if (pt_cmpR op_lt (pv 2) (pe_op op_pow pe_int pe_int) (nomark _))
          (pss_cons (ps_set (i := 3) scT.nd rfl (.inl rfl) (pe_op op_mod (pe_callTy call_int1 (by rfl) T.int PyProof.Rows.boot_int (pa_cons (pe_op op_add (pe_op op_add (pe_op op_mul (pe_op op_mod (pe_callTy call_int1 (by rfl) T.int PyProof.Rows.boot_int (pa_cons (pv 2) pa_nil)) pe_int) pe_int) (pe_dget hu (pv 0) pe_str (fun _ _ => rfl))) (pe_op op_mul (pe_dget hu (pv 0) pe_str (fun _ _ => rfl)) pe_int)) pa_nil)) pe_int))
          (pss_cons (ps_dput hu (pv 0) pe_str (pe_op op_mod (pe_callTy call_int1 (by rfl) T.int PyProof.Rows.boot_int (pa_cons (pe_op op_add (pe_op op_add (pe_op op_mul (pe_dget hu (pv 0) pe_str (fun _ _ => rfl)) pe_int) (pv 3)) pe_int) pa_nil)) pe_int) rfl)
          (pss_one (ps_ret (pe_op op_mod (pe_op op_fdiv (pe_op op_mod (pe_callTy call_int1 (by rfl) T.int PyProof.Rows.boot_int (pa_cons (pe_op op_add (pe_op op_mul (pv 3) (pv 3)) (pe_dget hu (pv 0) pe_str (fun _ _ => rfl))) pa_nil)) pe_int) pe_int) (pv 1))))))
          pss_nil)
        (pss_cons (ps_dput hu (pv 0) pe_str (pe_op op_sub (pv 2) (pe_op op_pow pe_int pe_int)) rfl)
        (pss_one (ps_dput hu (pv 0) pe_str pe_int rfl))))))
        pss_nil)
      hC), ?_⟩
    have hc2 : ∀ {a r d m t : Int}, upd H p (.dK (penD c a r d m t)) c = some (.lst (ns.map V.int)) := by
      intro a r d m t
      rw [upd_ne S.ne]
      exact S.cl
    have e0 : H = upd H p (.dK (penD c a r d m t)) := (upd_id S.pd).symm
    rw [e0]
    refine ⟨_, rfl, p, _, rfl, gq_turn, _, _, rfl, rfl, _, rfl, p, _, rfl, pq_turn, ?_⟩
    refine ⟨_, rfl, p, _, rfl, gq_digits, rfl, _, rfl, ?_⟩
    refine ite2 (fun _ => ?_) (fun _ => ?_)
    · refine ⟨_, rfl, p, _, rfl, gq_at, _, rfl, p, _, rfl, gq_cells, c, _, rfl, .inl (SqL.of hc2), _, _, rfl, rfl, _, rfl, ?_⟩
      refine ite2 (fun hlt => ?_) (fun _ => ?_)
      · have hlt := of_decide_eq_true hlt
        rw [List.length_map] at hlt
        obtain ⟨j, rfl⟩ := Int.eq_ofNat_of_zero_le S.a0
        have hj : j < ns.length := by omega
        have hx : (ns.map V.int)[j]? = some (V.int ns[j]) := by
          rw [List.getElem?_map, List.getElem?_eq_getElem hj]
          rfl
        refine ⟨_, rfl, p, _, rfl, gq_cells, _, rfl, p, _, rfl, gq_at, c, _, _, _, rfl, rfl, SqL.of hc2, atI_nat hx, ?_⟩
        refine ⟨_, rfl, p, _, rfl, gq_at, _, _, rfl, rfl, _, rfl, p, _, rfl, pq_at, ?_⟩
        refine ⟨_, rfl, _, _, rfl, rfl, ⟨by decide, by decide, by decide⟩, _, _, rfl, rfl, _, rfl, ?_⟩
        have a1 : (0 : Int) ≤ (j : Int) + 1 := by omega
        refine ite2 (fun _ => ?_) (fun _ => ?_)
        · refine ⟨_, rfl, .inl ⟨_, rfl, _, _, rfl, rfl, (by show (0 : Int) < 2147483587; decide), _, _, rfl, rfl, .inr (by decide), ?_⟩⟩
          refine ⟨_, rfl, p, _, rfl, gq_mix, _, _, rfl, rfl, _, rfl, p, _, rfl, gq_turn, _, _, rfl, rfl, .inr (by decide), _, _, rfl, rfl, .inl ⟨_, rfl, _, _, rfl, rfl, (by show (0 : Int) < 2147483647; decide), ?_⟩⟩
          have q1 := mod7 (x := ns[j] % 2147483587 * 69621 + m + (t + 1) * 40692) (b := 2147483647) (by decide)
          refine ⟨_, rfl, p, _, rfl, gq_mix, _, _, rfl, rfl, .inr (by decide), _, rfl, _, _, rfl, rfl, _, _, rfl, rfl, .inl ⟨_, rfl, _, _, rfl, rfl, (by show (0 : Int) < 2147483587; decide), _, rfl, p, _, rfl, pq_mix, ?_⟩⟩
          have q2 := mod7 (x := m * 16807 + (ns[j] % 2147483587 * 69621 + m + (t + 1) * 40692) % 2147483647 + 13) (b := 2147483587) (by decide)
          refine ⟨_, rfl, _, rfl, _, _, rfl, rfl, .inl ⟨by omega, by omega⟩, _, rfl, p, _, rfl, gq_mix, _, _, rfl, rfl, .inl ⟨_, rfl, _, _, rfl, rfl, (by show (0 : Int) < 2147483563; decide), _, _, rfl, rfl, ⟨by decide, by decide⟩, _, rfl, _, _, rfl, rfl, hb, ?_⟩⟩
          exact k _ _ _ _ _ _ (mod7 hb).1 (mod7 hb).2 a1 q2.1 (by omega)
        · refine ⟨_, rfl, _, _, rfl, rfl, ⟨by decide, by decide, by decide⟩, _, _, rfl, rfl, _, rfl, p, _, rfl, pq_rest, ?_⟩
          refine ⟨_, rfl, p, _, rfl, pq_digits, ?_⟩
          exact qC _ _ _ _ _ _ _ _ a1 S.m0 S.m1
      · exact qC _ _ _ _ _ _ _ _ S.a0 S.m0 S.m1
    · exact qC _ _ _ _ _ _ _ _ S.a0 S.m0 S.m1
end
end Wp

set_option Elab.async false
set_option linter.all false
set_option maxRecDepth 100000
set_option maxHeartbeats 4000000
namespace Wp
open PySem L2
/-! ## one of a menu; the pen made; a plain value -/
theorem SqL.over {K : PySem.W.Frag} {H : Hp} {p q : Addr} {xs : List V} {kvs kvs' : List (Key × V)} (h : SqL K H q xs) (hp : H p = some (.dK kvs)) : SqL K (upd H p (.dK kvs')) q xs := by
  have key : ∀ o, H q = some o → (∀ l, o ≠ .dK l) → upd H p (.dK kvs') q = some o := fun o e n => by
    rw [upd_ne (fun z => by rw [z, hp] at e; exact n kvs (Option.some.inj e).symm)]
    exact e
  rcases h with (h | ⟨o, h⟩) | h
  · exact .inl (.inl (key _ h fun l z => by cases z))
  · exact .inl (.inr ⟨o, key _ h fun l z => by cases z⟩)
  · exact .inr h
def spOne (K : PySem.W.Frag) : Sp := fun vs H Q _ => ∃ (p c q : Addr) (ns : List Int) (a r d m t : Int) (xs : List V), vs = [.ref p, .ref q] ∧ PenAt H p c ns a r d m t ∧ SqL K H q xs ∧ 0 < xs.length ∧ xs.length ≤ 1000 ∧
  ∀ (x : V) (a' r' d' m' t' : Int), x ∈ xs → 0 ≤ a' → 0 ≤ m' → m' < 2147483647 → Q x (upd H p (.dK (penD c a' r' d' m' t')))
section
variable {P : Program} {w : World} {K : PySem.W.Frag} {mg : Str → Option Value} {base : Heap}
theorem scO : FnScope ["_law_pen_here", "_law_menu"] ["_law_pen_here", "_law_menu"] (defScope sOne) := ⟨rfl, rfl, rfl, by decide +kernel, rfl, by decide +kernel, by decide +kernel⟩
theorem ok_one {f fT : Addr} {fd fdT : FuncData} (F : Fun K "_law_one_of" "_law_one_of" sOne f fd) (T : Blt mg) (GT : FnOk P w K mg base CX0 1 fT fdT ["_law_pen_here", "_law_bound"] spTake) (bT : Binds K fdT ["_law_pen_here", "_law_bound"] [])
    (mT : mg "_law_take" = some (.ref fT)) (kT : PySem.W.keepIn K (.ref fT) = true) : FnOk P w K mg base CX0 2 f fd ["_law_pen_here", "_law_menu"] (spOne K) := by
  refine F.ok scO (fun vs H Q E h => ?_) (fun cdv A outer s H vs Q E hr h => ?_)
  · obtain ⟨p, c, q, ns, a, r, d, m, t, xs, rfl, _⟩ := h
    rfl
  · obtain ⟨p, c, q, ns, a, r, d, m, t, xs, rfl, S, hq, h0, h1, k⟩ := h
    refine ⟨_, pss_one (ps_ret (pe_ix ix_list (pv 1) (pe_call GT (hr.mono (by decide)) rfl mT kT bT .nil pass0 (pa_cons (pv 0) (pa_cons (pe_callB call_len_seq (by rfl) T.len PySem.boot_len (pa_cons (pv 1) pa_nil)) pa_nil))) (fun _ _ => rfl))), ?_⟩
    refine ⟨_, rfl, _, rfl, _, rfl, q, _, rfl, .inl hq, p, c, ns, a, r, d, m, t, (xs.length : Int), rfl, S, by omega, by omega, fun v a' r' d' m' t' v0 v1 ha hm hm2 => ?_⟩
    obtain ⟨j, rfl⟩ := Int.eq_ofNat_of_zero_le v0
    have hj : j < xs.length := by omega
    have hx : xs[j]? = some xs[j] := List.getElem?_eq_getElem hj
    exact ⟨q, _, _, _, rfl, rfl, SqL.over hq S.pd, atI_nat hx, k _ _ _ _ _ _ (List.getElem_mem hj) ha hm hm2⟩
def spPen (K : PySem.W.Frag) : Sp := fun vs H Q _ => ∃ (s : Addr) (ns : List Int), vs = [.ref s] ∧ SqL K H s (ns.map V.int) ∧ ns.length ≤ 63 ∧
  ∀ (p c : Addr) (H' : Hp) (m : Int), Same H H' → H p = none → H c = none → PenAt H' p c ns 0 0 0 m 0 → Q (.ref p) H'
theorem scP : FnScope ["_law_script", "_law_total", "_law_cell"] ["_law_script"] (defScope sPen) := ⟨rfl, rfl, rfl, by decide +kernel, rfl, by decide +kernel, by decide +kernel⟩
theorem pen_made {c : Addr} {m : Int} : mergeK [] ([(Sum.inr "cells", .ref c), (Sum.inr "at", .int 0), (Sum.inr "rest", .int 0), (Sum.inr "digits", .int 0), (Sum.inr "mix", .int m), (Sum.inr "turn", .int 0)] : List (Key × V)) = penD c 0 0 0 m 0 := by
  simp [mergeK, putK, penD, n1, n2, n3, n4, n5, n6, n7, n8, n9, n10, n11, n12, n13, n14, n15]
theorem ok_pen {f : Addr} {fd : FuncData} (F : Fun K "_law_pen" "_law_pen" sPen f fd) (T : Blt mg) : FnOk P w K mg base CX0 1 f fd ["_law_script"] (spPen K) := by
  refine F.ok scP (fun vs H Q E h => ?_) (fun cdv A outer s H vs Q E hr h => ?_)
  · obtain ⟨a, ns, rfl, _⟩ := h
    rfl
  · obtain ⟨a, ns, rfl, hS, hl, k⟩ := h
    refine ⟨_, pss_cons (ps_set (i := 1) scP.nd rfl (.inl rfl) pe_int)
      (pss_cons (ps_for PassesOwn.never rfl (pi_list (pv 0)) (pg_name (i := 2) scP.nd rfl (.inl rfl))
        (pss_one (ps_set (i := 1) scP.nd rfl (.inl rfl) (pe_op op_mod (pe_callTy call_int1 (by rfl) T.int PyProof.Rows.boot_int (pa_cons (pe_op op_add (pe_op op_mul (pv 1) pe_int) (pv 2)) pa_nil)) pe_int))))
      (pss_one (ps_ret (pe_disp (pps_cons pe_str (pe_callTy call_list_of (by rfl) T.list PyProof.Rows.boot_list (pa_cons (pv 0) pa_nil)) (pps_cons pe_str pe_int (pps_cons pe_str pe_int (pps_cons pe_str pe_int (pps_cons pe_str (pv 1) (pps_cons pe_str pe_int pps_nil)))))) rfl rfl (by simp) (by decide))))), ?_⟩
    refine ⟨_, rfl, a, rfl, ⟨_, hS⟩, for_list (K := K) (a := a) (xs := ns.map V.int) (fun i σ H2 => H2 = H ∧ ∃ (z : Int) (v : Option V), σ = [some (.ref a), some (.int z), v] ∧ 0 ≤ z ∧ z < 2147483647)
      ⟨rfl, 29, none, rfl, by decide, by decide⟩ (fun i σ H2 _ ⟨e, _⟩ => by rw [e]; exact hS) ?_ ?_⟩
    · rintro i y σ H2 hi ⟨rfl, z, v, rfl, z0, z1⟩
      obtain ⟨x, hx, rfl⟩ : ∃ x, ns[i]? = some x ∧ y = V.int x := by
        rw [List.getElem?_map] at hi
        cases e : ns[i]? with
        | none =>
          rw [e] at hi
          cases hi
        | some x =>
          rw [e] at hi
          exact ⟨x, rfl, (Option.some.inj hi).symm⟩
      refine ⟨_, rfl, _, _, rfl, rfl, .inr (by decide), _, rfl, _, _, rfl, rfl, .inl ⟨_, rfl, _, _, rfl, rfl, (by show (0 : Int) < 2147483587; decide), ?_⟩⟩
      have q := mod7 (x := z * 48271 + x) (b := 2147483587) (by decide)
      exact ⟨rfl, _, _, rfl, q.1, by omega⟩
    · rintro σ H2 ⟨rfl, z, v, rfl, z0, z1⟩
      intro p hp
      have hSp : SqL K (upd H2 p (.dK [])) a (ns.map V.int) := (show Same H2 (upd H2 p (.dK [])) from fun b o e => by rw [upd_ne (ne_of_none e hp)]; exact e).seq hS
      refine ⟨_, rfl, a, _, rfl, .inl hSp, fun l hl' => ?_⟩
      have hlp : l ≠ p := fun e => by rw [e, upd_same] at hl'; cases hl'
      have hlH : H2 l = none := by rw [upd_ne hlp] at hl'; exact hl'
      refine ⟨_, rfl, by rw [upd_ne (Ne.symm hlp)]; exact upd_same, [(Sum.inr "cells", .ref l), (Sum.inr "at", .int 0), (Sum.inr "rest", .int 0), (Sum.inr "digits", .int 0), (Sum.inr "mix", .int z), (Sum.inr "turn", .int 0)], rfl, (by show 6 ≤ 15; decide), ?_⟩
      rw [pen_made]
      refine k p l _ _ (fun b o e => ?_) hp hlH ⟨upd_same, ?_, by decide, z0, z1⟩
      · rw [upd_ne (ne_of_none e hp), upd_ne (ne_of_none e hlH), upd_ne (ne_of_none e hp)]
        exact e
      · rw [upd_ne hlp]
        exact upd_same
end
end Wp

set_option Elab.async false
set_option linter.all false
set_option maxRecDepth 100000
set_option maxHeartbeats 4000000
namespace Wp
open PySem L2
abbrev sPlain : Stmt := top 28
/-! ## the nine plain values, as they stand and as data -/
inductive Gv (H : Hp) : V → PyData → Prop
  | int (i : Int) : i.natAbs < 10 ^ 35 → Gv H (.int i) (.int i)
  | str (x : Str) : (∀ c ∈ x.cps.toList, c < 16 ^ 8) → x.length ≤ 90 → Gv H (.str x) (.str x)
  | pair (q : Addr) (i : Int) : i.natAbs < 10 ^ 35 → H q = some (.tup [.int i, .str "x"]) → Gv H (.ref q) (.tuple [.int i, .str "x"])
  | one (q : Addr) (i : Int) : i.natAbs < 10 ^ 35 → H q = some (.lst [.int i]) → Gv H (.ref q) (.list [.int i])
  | nil (q : Addr) : H q = some (.tup []) → Gv H (.ref q) (.tuple [])
  | non : Gv H .non .none
  | yes : Gv H (.bl true) (.bool true)
theorem Gv.dp {K : PySem.W.Frag} {H : Hp} {v : V} {d : PyData} (g : Gv H v d) : Dp K H v d := by
  cases g with
  | int i _ => exact .int i
  | str x _ _ => exact .str x
  | pair q i _ h => exact .tup (SqT.of h) (.cons (.int i) (.cons (.str "x") .nil))
  | one q i _ h => exact .lst (SqL.of h) (.cons (.int i) .nil)
  | nil q h => exact .tup (SqT.of h) .nil
  | non => exact .non
  | yes => exact .bl true
/-- what is no dict stands as before -/
def Ext (H H' : Hp) : Prop := ∀ b o, H b = some o → (∀ l, o ≠ .dK l) → H' b = some o
theorem Ext.refl (H : Hp) : Ext H H := fun _ _ h _ => h
theorem Ext.trans {H H1 H2 : Hp} (a : Ext H H1) (b : Ext H1 H2) : Ext H H2 := fun c o h n => b c o (a c o h n) n
theorem Ext.of {H H' : Hp} (a : Same H H') : Ext H H' := fun c o h _ => a c o h
theorem Ext.put {H : Hp} {p : Addr} {l l' : List (Key × V)} (h : H p = some (.dK l)) : Ext H (upd H p (.dK l')) := fun b o e n => by
  rw [upd_ne (fun z => by rw [z, h] at e; exact n l (Option.some.inj e).symm)]
  exact e
theorem Ext.new {H : Hp} {p : Addr} {o : HO} (h : H p = none) : Ext H (upd H p o) := fun b u e _ => by
  rw [upd_ne (ne_of_none e h)]
  exact e
theorem Gv.ext {H H' : Hp} {v : V} {d : PyData} (g : Gv H v d) (e : Ext H H') : Gv H' v d := by
  cases g with
  | int i h => exact .int i h
  | str x h1 h2 => exact .str x h1 h2
  | pair q i h1 h => exact .pair q i h1 (e _ _ h fun l z => by cases z)
  | one q i h1 h => exact .one q i h1 (e _ _ h fun l z => by cases z)
  | nil q h => exact .nil q (e _ _ h fun l z => by cases z)
  | non => exact .non
  | yes => exact .yes
theorem PenAt.ext {H H' : Hp} {p c : Addr} {ns : List Int} {a r d m t : Int} (S : PenAt H p c ns a r d m t) (e : Ext H H') (h : H' p = some (.dK (penD c a r d m t))) : PenAt H' p c ns a r d m t :=
  ⟨h, e _ _ S.cl fun l z => (by cases z), S.a0, S.m0, S.m1⟩
/-! ### small data -/
structure Sm (d : PyData) : Prop where
  sh : d.showable = true
  nd : d.hasDict = false
  dp : d.depth ≤ 3
  ls : d.leavesShort 40 = true
  wt : d.weight ≤ 200
theorem log_of {i : Int} (h : i.natAbs < 10 ^ 35) : i.natAbs.log2 < 1920 := by
  have h2 : i.natAbs < 2 ^ 1920 := Nat.lt_of_lt_of_le h (by decide +kernel)
  by_cases z : i.natAbs = 0
  · rw [z]
    decide
  · exact (Nat.log2_lt z).mpr h2
theorem short_of {i : Int} (h : i.natAbs < 10 ^ 35) : (PyData.shown (.int i)).length ≤ 40 := by
  have e := int_text_length_le10 (k := 35) (by decide) h
  show (Str.ofString (toString i)).length ≤ 40
  rw [ofString_length]
  omega
theorem wi_of {i : Int} (h : i.natAbs < 10 ^ 35) : (PyData.int i).weight ≤ 118 := by
  have h2 : i.natAbs < 2 ^ 117 := Nat.lt_of_lt_of_le h (by decide +kernel)
  simp only [PyData.weight]
  split
  · exact Nat.zero_le _
  · by_cases z : i.natAbs = 0
    · rw [z]
      decide
    · have := (Nat.log2_lt z).mpr h2
      omega
theorem Gv.sm {H : Hp} {v : V} {d : PyData} (g : Gv H v d) : Sm d := by
  have li : ∀ i : Int, i.natAbs < 10 ^ 35 → (PyData.int i).leavesShort 40 = true := fun i h => by
    show decide _ = true
    exact decide_eq_true (short_of h)
  have si : ∀ i : Int, i.natAbs < 10 ^ 35 → (PyData.int i).showable = true := fun i h => decide_eq_true (log_of h)
  cases g with
  | int i h => exact ⟨si i h, rfl, by simp [PyData.depth], li i h, Nat.le_trans (wi_of h) (by decide)⟩
  | str x h1 h2 =>
    refine ⟨rfl, rfl, by simp [PyData.depth], ?_, ?_⟩
    · show (x.cps.toList.all fun c => decide (c < 16 ^ 8)) = true
      exact List.all_eq_true.mpr fun c hc => decide_eq_true (h1 c hc)
    · have : x.cps.size = x.length := rfl
      simp only [PyData.weight]
      omega
  | pair q i h1 h =>
    have a1 := si i h1
    have a2 := li i h1
    have wx : (PyData.str "x").weight ≤ 10 := by decide +kernel
    have lx : (PyData.str "x").leavesShort 40 = true := by decide +kernel
    refine ⟨?_, rfl, by simp [PyData.depth, PyData.depthAll], ?_, ?_⟩
    · show ((PyData.int i).showable && ((PyData.str "x").showable && true)) = true
      rw [a1]
      rfl
    · show ((PyData.int i).leavesShort 40 && ((PyData.str "x").leavesShort 40 && true)) = true
      rw [a2, lx]
      rfl
    · have w1 := wi_of h1
      show (PyData.int i).weight + 1 + ((PyData.str "x").weight + 1 + 0) ≤ 200
      omega
  | one q i h1 h =>
    have a1 := si i h1
    have a2 := li i h1
    refine ⟨?_, rfl, by simp [PyData.depth, PyData.depthAll], ?_, ?_⟩
    · show ((PyData.int i).showable && true) = true
      rw [a1]
      rfl
    · show ((PyData.int i).leavesShort 40 && true) = true
      rw [a2]
      rfl
    · have w1 := wi_of h1
      show (PyData.int i).weight + 1 + 0 ≤ 200
      omega
  | nil q h => exact ⟨rfl, rfl, by simp [PyData.depth, PyData.depthAll], rfl, by simp [PyData.weight, PyData.weightAll]⟩
  | non => exact ⟨rfl, rfl, by simp [PyData.depth], rfl, by simp [PyData.weight]⟩
  | yes => exact ⟨rfl, rfl, by simp [PyData.depth], rfl, by simp [PyData.weight]⟩
/-- a list of at most six small data -/
theorem sm_list : ∀ ds : List PyData, (∀ d ∈ ds, Sm d) → ds.length ≤ 6 → (PyData.list ds).showable = true ∧ (PyData.list ds).hasDict = false ∧ (PyData.list ds).depth ≤ 4 ∧ (PyData.list ds).shown.length ≤ sizeLine := by
  have key : ∀ ds : List PyData, (∀ d ∈ ds, Sm d) → PyData.showableAll ds = true ∧ PyData.hasDictAll ds = false ∧ PyData.depthAll ds ≤ 3 ∧ PyData.leavesShortAll 40 ds = true ∧ PyData.weightAll ds ≤ 201 * ds.length := by
    intro ds
    induction ds with
    | nil => intro _; exact ⟨rfl, rfl, by simp [PyData.depthAll], rfl, by simp [PyData.weightAll]⟩
    | cons d ds ih =>
      intro h
      obtain ⟨a, b, c, e, f⟩ := ih fun x hx => h x (List.mem_cons_of_mem _ hx)
      have g := h d List.mem_cons_self
      refine ⟨?_, ?_, ?_, ?_, ?_⟩
      · show (d.showable && PyData.showableAll ds) = true
        rw [g.sh, a]
        rfl
      · show (d.hasDict || PyData.hasDictAll ds) = false
        rw [g.nd, b]
        rfl
      · have := g.dp
        simp only [PyData.depthAll]
        omega
      · show (d.leavesShort 40 && PyData.leavesShortAll 40 ds) = true
        rw [g.ls, e]
        rfl
      · have := g.wt
        simp only [PyData.weightAll, List.length_cons]
        omega
  intro ds h hl
  obtain ⟨a, b, c, e, f⟩ := key ds h
  refine ⟨a, b, by simp only [PyData.depth]; omega, ?_⟩
  have q := PyData.shown_le 40 (by decide) (.list ds) e
  have z : (PyData.list ds).weight ≤ 1300 := by
    simp only [PyData.weight]
    omega
  rw [sizeLine_eq]
  omega
end Wp

set_option Elab.async false
set_option linter.all false
set_option maxRecDepth 100000
set_option maxHeartbeats 4000000
namespace Wp
open PySem L2
theorem cp_of (x : String) : ∀ c ∈ (Str.ofString x).cps.toList, c < 16 ^ 8 := by
  intro c hc
  have e : (16 : Nat) ^ 8 = 4294967296 := by decide
  rw [Str.ofString_eq_toList] at hc
  simp at hc
  obtain ⟨ch, _, rfl⟩ := hc
  rw [e]
  exact ch.val.toNat_lt
def spPlain : Sp := fun vs H Q _ => ∃ (p c : Addr) (ns : List Int) (a r d m t : Int), vs = [.ref p] ∧ PenAt H p c ns a r d m t ∧
  ∀ (v : V) (dd : PyData) (a' r' d' m' t' : Int) (H' : Hp), Ext H H' → Gv H' v dd → PenAt H' p c ns a' r' d' m' t' → Q v H'
section
variable {P : Program} {w : World} {K : PySem.W.Frag} {mg : Str → Option Value} {base : Heap}
theorem scPl : FnScope ["_law_pen_here", "_law_number"] ["_law_pen_here"] (defScope sPlain) := ⟨rfl, rfl, rfl, by decide +kernel, rfl, by decide +kernel, by decide +kernel⟩
theorem ok_plain {f fT fO : Addr} {fd fdT fdO : FuncData} (F : Fun K "_law_plain" "_law_plain" sPlain f fd) (hstr : mg "str" = none)
    (GT : FnOk P w K mg base CX0 1 fT fdT ["_law_pen_here", "_law_bound"] spTake) (bT : Binds K fdT ["_law_pen_here", "_law_bound"] []) (mT : mg "_law_take" = some (.ref fT)) (kT : PySem.W.keepIn K (.ref fT) = true)
    (GO : FnOk P w K mg base CX0 2 fO fdO ["_law_pen_here", "_law_menu"] (spOne K)) (bO : Binds K fdO ["_law_pen_here", "_law_menu"] []) (mO : mg "_law_one_of" = some (.ref fO)) (kO : PySem.W.keepIn K (.ref fO) = true) :
    FnOk P w K mg base CX0 3 f fd ["_law_pen_here"] spPlain := by
  refine F.ok scPl (fun vs H Q E h => ?_) (fun cdv A outer s H vs Q E hr h => ?_)
  · obtain ⟨p, c, ns, a, r, d, m, t, rfl, _⟩ := h
    rfl
  · obtain ⟨p, c, ns, a, r, d, m, t, rfl, S, k⟩ := h
    have h1 := hr.mono (j := 1) (by decide)
    have h2 := hr.mono (j := 2) (by decide)
    refine ⟨_, pss_cons (ps_set (i := 1) scPl.nd rfl (.inl rfl) (pe_op op_add (pe_op op_mul (pe_call GT h1 rfl mT kT bT .nil pass0 (pa_cons (pv 0) (pa_cons (pe_op op_pow pe_int pe_int) pa_nil))) (pe_op op_pow pe_int pe_int)) (pe_call GT h1 rfl mT kT bT .nil pass0 (pa_cons (pv 0) (pa_cons (pe_op op_pow pe_int pe_int) pa_nil)))))
      (pss_one (ps_ret (pe_call GO h2 rfl mO kO bO .nil pass0 (pa_cons (pv 0) (pa_cons (pe_lst (pa_cons (pv 1) (pa_cons (pe_un un_neg (pv 1)) (pa_cons (pe_callTy call_str_int (by rfl) hstr PyProof.Rows.boot_str (pa_cons (pv 1) pa_nil)) (pa_cons (pe_tup (pa_cons (pv 1) (pa_cons pe_str pa_nil))) (pa_cons (pe_lst (pa_cons (pv 1) pa_nil)) (pa_cons pe_non (pa_cons pe_bl (pa_cons (pe_tup pa_nil) (pa_cons pe_int pa_nil)))))))))) pa_nil))))), ?_⟩
    have e15 : ((10 : Int) ^ (15 : Int).toNat) = 1000000000000000 := by decide
    have pw : CPow 10 15 := ⟨by decide, by decide, by decide⟩
    refine ⟨_, rfl, _, _, rfl, rfl, pw, p, c, ns, a, r, d, m, t, _, rfl, S, (by rw [e15]; decide), (by rw [e15]; decide), fun v1 a1 r1 d1 m1 t1 u0 u1 b1 b2 b3 => ?_⟩
    rw [e15] at u1
    have S1 := S.set (r' := r1) (d' := d1) (t' := t1) b1 b2 b3
    refine ⟨_, _, rfl, rfl, pw, v1, _, rfl, rfl, .inl ⟨by omega, by omega⟩, _, rfl, _, _, rfl, rfl, pw, p, c, ns, a1, r1, d1, m1, t1, _, rfl, S1, (by rw [e15]; decide), (by rw [e15]; decide), fun v2 a2 r2 d2 m2 t2 w0 w1 c1 c2 c3 => ?_⟩
    rw [e15] at w1
    have S2 := S1.set (r' := r2) (d' := d2) (t' := t2) c1 c2 c3
    have E0 : Ext H (upd H p (.dK (penD c a1 r1 d1 m1 t1))) := Ext.put S.pd
    have E2 : Ext H (upd (upd H p (.dK (penD c a1 r1 d1 m1 t1))) p (.dK (penD c a2 r2 d2 m2 t2))) := E0.trans (Ext.put S1.pd)
    generalize upd (upd H p (.dK (penD c a1 r1 d1 m1 t1))) p (.dK (penD c a2 r2 d2 m2 t2)) = H2 at *
    rw [e15]
    have zb : (v1 * 1000000000000000 + v2).natAbs < 10 ^ 35 := by
      have : (10 : Nat) ^ 35 = 100000000000000000000000000000000000 := by decide
      omega
    refine ⟨_, _, rfl, rfl, ?_⟩
    have zb2 : (-(v1 * 1000000000000000 + v2)).natAbs < 10 ^ 35 := by
      rw [Int.natAbs_neg]
      exact zb
    refine ⟨_, rfl, _, rfl, _, rfl, _, rfl, _, rfl, _, rfl, log_of zb, _, rfl, (by show 2 ≤ sizeLine; decide), fun q1 hq1 => ?_⟩
    refine ⟨_, rfl, (by show 1 ≤ sizeLine; decide), fun q2 hq2 => ⟨(by show 0 ≤ sizeLine; decide), fun q3 hq3 => ?_⟩⟩
    refine ⟨(by show 9 ≤ sizeLine; decide), fun q4 hq4 => ?_⟩
    (try dsimp only at hq2); (try dsimp only at hq3); (try dsimp only at hq4); (try dsimp only)
    generalize v1 * 1000000000000000 + v2 = z at *
    have X1 := Ext.new (o := HO.tup [.int z, .str "x"]) hq1
    have X2 := Ext.new (o := HO.lst [.int z]) hq2
    have X3 := Ext.new (o := HO.tup []) hq3
    have nel : ∀ {H : Hp} {q : Addr} {o : HO}, H q = none → ∀ b u, H b = some u → upd H q o b = some u := fun hq b u e => by
      rw [upd_ne (ne_of_none e hq)]
      exact e
    have g1 : upd H2 q1 (.tup [.int z, .str "x"]) q1 = some (.tup [.int z, .str "x"]) := upd_same
    have g2 := nel (o := HO.lst [.int z]) hq2 _ _ g1
    have g3 := nel (o := HO.tup []) hq3 _ _ g2
    have f2 := nel (o := HO.tup []) hq3 q2 (.lst [.int z]) upd_same
    have pd3 := nel (o := HO.tup []) hq3 _ _ (nel (o := HO.lst [.int z]) hq2 _ _ (nel (o := HO.tup [.int z, .str "x"]) hq1 _ _ S2.pd))
    have EX := (X1.trans X2).trans X3
    have g4 := fun b u => nel (o := HO.lst [.int z, .int (-z), .str (toString z), .ref q1, .ref q2, .non, .bl true, .ref q3, .int 0]) hq4 b u
    have S4 : PenAt (upd (upd (upd (upd H2 q1 (.tup [.int z, .str "x"])) q2 (.lst [.int z])) q3 (.tup [])) q4 (.lst [.int z, .int (-z), .str (toString z), .ref q1, .ref q2, .non, .bl true, .ref q3, .int 0])) p c ns a2 r2 d2 m2 t2 :=
      S2.ext (EX.trans (Ext.new hq4)) (g4 _ _ pd3)
    refine ⟨p, c, q4, ns, a2, r2, d2, m2, t2, _, rfl, S4, SqL.of upd_same, (by show 0 < 9; decide), (by show 9 ≤ 1000; decide), fun x a3 r3 d3 m3 t3 hx o1 o2 o3 => ?_⟩
    have E5 : Ext (upd (upd (upd H2 q1 (.tup [.int z, .str "x"])) q2 (.lst [.int z])) q3 (.tup [])) (upd (upd (upd (upd (upd H2 q1 (.tup [.int z, .str "x"])) q2 (.lst [.int z])) q3 (.tup [])) q4 (.lst [.int z, .int (-z), .str (toString z), .ref q1, .ref q2, .non, .bl true, .ref q3, .int 0])) p (.dK (penD c a3 r3 d3 m3 t3))) :=
      (Ext.new hq4).trans (Ext.put S4.pd)
    have fin : ∀ dd, Gv (upd (upd (upd H2 q1 (.tup [.int z, .str "x"])) q2 (.lst [.int z])) q3 (.tup [])) x dd → Q x (upd (upd (upd (upd (upd H2 q1 (.tup [.int z, .str "x"])) q2 (.lst [.int z])) q3 (.tup [])) q4 (.lst [.int z, .int (-z), .str (toString z), .ref q1, .ref q2, .non, .bl true, .ref q3, .int 0])) p (.dK (penD c a3 r3 d3 m3 t3))) :=
      fun dd g => k x dd a3 r3 d3 m3 t3 _ ((E2.trans EX).trans E5) (g.ext E5) (S4.set o1 o2 o3)
    simp only [List.mem_cons, List.not_mem_nil, or_false] at hx
    rcases hx with rfl | rfl | rfl | rfl | rfl | rfl | rfl | rfl | rfl
    · exact fin _ (.int _ zb)
    · exact fin _ (.int _ zb2)
    · refine fin _ (.str _ (cp_of _) ?_)
      have e := int_text_length_le10 (k := 35) (by decide) zb
      show (Str.ofString (toString z)).length ≤ 90
      rw [ofString_length]
      omega
    · exact fin _ (.pair q1 z zb g3)
    · exact fin _ (.one q2 z zb f2)
    · exact fin _ .non
    · exact fin _ .yes
    · exact fin _ (.nil q3 upd_same)
    · exact fin _ (.int 0 (by decide))
end
end Wp

set_option Elab.async false
set_option linter.all false
set_option maxRecDepth 100000
set_option maxHeartbeats 4000000
namespace Wp
open PySem L2 PySem.Spec PyProof.Rows
/-! ## defs that are called where no repr is on its way: the promise of a def may then lean on it -/
structure GOk (P : Program) (w : World) (K : PySem.W.Frag) (mg : Str → Option Value) (bs : Heap)
    (CX : CXT) (k : Nat) (f : Addr) (fd : FuncData) (ps : List Str) (sp : Sp) : Prop where
  len : ∀ ys H Q E, sp ys H Q E → ys.length = ps.length
  run : ∀ (A : Around) (out : List Env) (s : Shared) (H : Hp) (ar : Args) (us : List Value) (ys : List V) (Q : VK) (E : XK),
    A.guards = some [] → Room k A → Env0 P w K mg bs A out s H → BindsTo s fd ar (ps.zip us) →
    Vals ys us → sp ys H Q E → codeAny (model P w) A (.call (.ref f) ar) (CR CX out P w H s Q E) s
theorem gok_of {CX : CXT} {P : Program} {w : World} {K : PySem.W.Frag} {mg : Str → Option Value} {bs : Heap} {k : Nat} {f : Addr} {fd : FuncData} {x qual : Str} {st : Stmt} {N ps : List Str} {sp : Sp}
    (F : Fun K x qual st f fd) (S : FnScope N ps (defScope st)) (len : ∀ ys H Q E, sp ys H Q E → ys.length = ps.length)
    (body : ∀ (cd : Value) (A : Around) (out : List Env) (s : Shared) (H : Hp) (ys : List V) (Q : VK) (E : XK),
      (A.deeper (envOfC qual (defScope st) s.heap.objs.size f cd)).guards = some [] → Room k (A.deeper (envOfC qual (defScope st) s.heap.objs.size f cd)) → sp ys H Q E →
      ∃ t, PSs (cxOf CX P w K mg bs N qual (defScope st) f cd A out s H E) (defBody st) t ∧
        t { nx := fun _ H' => Q .non H', rt := Q } (start N ys) H) : GOk P w K mg bs CX (k + 1) f fd ps sp := by
  obtain ⟨oc, od, kV, doc, pm, an, cd, ct, osl, rfl, lk, hcd⟩ := F.ex
  constructor
  · exact len
  · intro A out s H ar us ys Q E hG hR e0 hB hV hP
    have hLen := len _ _ _ _ hP
    have inK : K.In s.heap := e0.mod.kin.keeps fun b o e => (e0.bs b o e).1
    have noL : s.heap.NoLimit := e0.mod.nolimit.keeps fun b o e => (e0.bs b o e).1
    have kinds : ∀ y ∈ ps.zip us, (defScope st).names.lookup y.1 = some .local ∨
        ((defScope st).names.lookup y.1 = some .cell ∧ ((cellsFrom (s.heap.objs.size + 1) (defScope st).names []).lookup y.1).isSome = true) := by
      intro y hy
      obtain ⟨n, v⟩ := y
      cases S.par n (List.of_mem_zip hy).1 with
      | inl z => exact Or.inl z
      | inr z => exact Or.inr ⟨z, PySem.W.cellsFrom_some _ _ _ (Or.inl z)⟩
    apply codeAny_call_function hR.depth (inK _ _ lk) rfl S.co S.gen rfl (PySem.W.codeRec_of inK hcd)
    apply hB
    refine wpAny_newFunctionEnv_cells S.kind kinds ?_
    intro env ee s1 hin
    subst ee
    refine ⟨noL.keeps hin.toInCall.keep, ?_⟩
    apply codeAny_func
    obtain ⟨t, ht, hq⟩ := body cd A out s H ys Q E hG (hR.deeper _) hP
    have J : Inv (cxOf CX P w K mg bs N qual (defScope st) f cd A out s H E) [] (start N ys) H s1 := inv_start S hR.hd e0 hLen hV hin
    refine wpAny_mono (ht.run [] s1 (start N ys) H _ J hq) ?_ (fun _ _ z => z)
    intro fl s2 hs
    cases fl with
    | ret u =>
      obtain ⟨v, σ2, H2, J2, rv, q⟩ := hs
      exact ⟨v, H2, J2.os, J2.bare, J2.base, J2.hok, rv, q⟩
    | next =>
      obtain ⟨σ2, H2, J2, q⟩ := hs
      exact ⟨V.non, H2, J2.os, J2.bare, J2.base, J2.hok, rfl, q⟩
    | brk =>
      obtain ⟨_, _, _, q⟩ := hs
      exact q.elim
    | cont =>
      obtain ⟨_, _, _, q⟩ := hs
      exact q.elim
section
variable {X : Cx} {CX : CXT} {k : Nat} {f : Addr} {fd : FuncData} {ps : List Str} {sp : Sp} {E : XK} {x : Str} {p pos : Pos} {e : Expr} {es : List Expr} {t : TA}
/-- f(e, ..) of such a def -/
theorem pe_callG (hG : X.A.guards = some []) (F : GOk X.prog X.w X.K X.mg X.base CX k f fd ps sp) (hr : Room k X.A) (hg : Gl X x) (hm : X.mg x = some (.ref f)) (hk : PySem.W.keepIn X.K (.ref f) = true)
    (hb : Binds X.K fd ps []) (hx : Passes CX X E) (ha : PA X (e :: es) t) (hdb : (x == ("__debug__" : Str)) = false := by decide)
    (he : starEach (e :: es) X.env = (false, eval e X.env) :: starEach es X.env := by rfl) (hpl : (backTo pos (starEach es X.env)).any (·.1) = false := by rfl) :
    PE X (.Call (.Name x p) (e :: es) [] pos) (tCall sp [] E t) := by
  constructor
  intro pins s σ H Q I h
  apply wpAny_Call_Name_kw
  refine ld_glob I hg hm ?_ hdb
  refine PySem.W.callWith_K (h₀ := X.base) I.ok.mod.kin hk ?_ he hpl
  refine thn (ha.run pos pins s σ H _ I h) ?_
  intro us s1 hh
  obtain ⟨ys, H1, I1, rv, q⟩ := hh
  refine ⟨I1.kIn, ?_⟩
  rw [List.append_nil] at q
  have hl : us.length = ps.length := by
    rw [← rv.length]
    exact F.len _ _ _ _ q
  have hb1 := hb s1 us I1.kIn (by simpa using hl)
  rw [List.append_nil] at hb1
  apply wpAny_call
  refine codeAny_mono (F.run X.A X.stack s1 H1 ⟨us, []⟩ us ys Q E hG hr I1.env0 hb1 rv q) ?_
  intro r s2 hq
  cases r with
  | error z => exact hx pins σ H1 s1 z s2 I1 hq
  | ok fl =>
    cases fl with
    | ret u => exact I1.after hq
    | next => exact hq.elim
    | brk => exact hq.elim
    | cont => exact hq.elim
/-- repr(x) of data -/
def rRepr (K : PySem.W.Frag) : List V → Hp → VK → Prop := fun xs H Q => ∃ (a : Addr) (d : PyData), xs = [.ref a] ∧ Dp K H (.ref a) d ∧ d.showable = true ∧ d.hasDict = false ∧ d.depth ≤ 10 ∧ d.shown.length ≤ sizeLine ∧ Q (.str d.shown) H
theorem call_repr (hG : X.A.guards = some []) (hu : X.A.units + 20 < cLine) : CallR X (.builtin "repr") (rRepr X.K) := by
  intro pins s σ H xs us Q I r h
  obtain ⟨a, d, rfl, hd, h1, h2, h3, h4, q⟩ := h
  obtain ⟨u, rfl, rx⟩ := vals1 r
  cases (show u = Value.ref a from rx)
  obtain ⟨as, rd⟩ := Dp.reads I d _ _ hd rfl
  refine PySem.repr_of_reads' rd h1 (PyData.noDict_hsm h2) hG (by omega) (fun _ _ e => e) ?_ h4
  intro h' u tk hk
  exact ⟨.str d.shown, H, I.kept hk, ⟨_, rfl⟩, q⟩
end
end Wp

set_option Elab.async false
set_option linter.all false
set_option maxRecDepth 100000
set_option maxHeartbeats 4000000
namespace Wp
open PySem L2 PySem.Spec PyProof.Rows
/-! ## the law's own call, for a promise that leans on the empty list of guards -/
theorem law_start {P : Program} {w : World} {K : PySem.W.Frag} {mg mb : Str → Option Value} {CX : CXT} {k : Nat} {fa a : Addr} {fd : FuncData} {x : Str} {sp : Sp} {s0 : Shared} {vs : List Value} {ns : List Int}
    (hK : K.In s0.heap) (hN : s0.heap.Ns mainGlobals mg) (hB : s0.heap.Ns builtinsNs mb) (hBB : ∀ y : Str, y ≠ "__name__" → mb y = bootBuiltins y) (hL : s0.heap.NoLimit) (hg : s0.gens = #[])
    (hA : s0.heap.get? a = some { cls := .type "list", data := .seq vs.toArray }) (hI : IntsAre vs ns) (hz : ns.length ≤ sizeLine) (hR : Room k callerA)
    (F : ∀ bs : Heap, K.In bs → bs.Ns mainGlobals mg → GOk P w K mg bs CX k fa fd [x] sp) (hbind : ∀ (s : Shared) (u : Value), BindsTo s fd ⟨[u], []⟩ [(x, u)])
    (hsp : ∀ H : Hp, Only H → SqL K H a (ns.map V.int) → sp [.ref a] H (fun v _ => v = .bl true) fun _ _ _ => False)
    (hCX : ∀ H e s', CX [] H s0 (fun _ _ _ => False) e s' → False) :
    codeAny (model P w) callerA (.call (.ref fa) ⟨[.ref a], []⟩) (fun r s' => r = .ok (.ret (.bool true)) ∧ OldK s0.heap s'.heap ∧ s'.os = s0.os ∧ AllBare s'.gens) s0 := by
  have vI := vals_ints hI
  have lI := hI.length
  have main : ∀ H : Hp, Only H → SqL K H a (ns.map V.int) → HOk P w H s0.heap → (∀ b, H b ≠ none → b = a) → (H a ≠ none → K.lookup a = none) →
      codeAny (model P w) callerA (.call (.ref fa) ⟨[.ref a], []⟩)
        (fun r s' => r = .ok (.ret (.bool true)) ∧ OldK s0.heap s'.heap ∧ s'.os = s0.os ∧ AllBare s'.gens) s0 := by
    intro H oH sH okH onA outK
    have low : ∀ {b : Addr} {o : Obj}, s0.heap.get? b = some o → H b = none → (hidT s0.heap H).get? b = some o := fun e n => hidT_get e n
    have free : ∀ {b : Addr} {o : Obj} {es : Array DictEntry} {ep : Nat}, s0.heap.get? b = some o → o.data = .dict es ep → H b = none := by
      intro b o es ep e d
      cases q : H b with
      | none => rfl
      | some u =>
        have eb : b = a := onA b (by rw [q]; simp)
        rw [eb, hA] at e
        cases e
        cases (show Data.seq vs.toArray _ = Data.dict es ep from d)
    have nsOf : ∀ {b : Addr} {m : Str → Option Value}, s0.heap.Ns b m → (hidT s0.heap H).Ns b m := by
      intro b m hn
      obtain ⟨o, es, ep, e, d, r⟩ := hn
      exact ⟨o, es, ep, low e (free e d), d, r⟩
    have inB : K.In (hidT s0.heap H) := by
      intro b o e
      refine low (hK b o e) ?_
      cases q : H b with
      | none => rfl
      | some u =>
        have eb : b = a := onA b (by rw [q]; simp)
        rw [eb, outK (by rw [← eb, q]; simp)] at e
        cases e
    have hLim : (hidT s0.heap H).NoLimit := by
      obtain ⟨mc, z1, z2⟩ := hL
      exact ⟨mc, nsOf z1, z2⟩
    have md : Mod K mg (hidT s0.heap H) := ⟨inB, nsOf hN, ⟨mb, nsOf hB, hBB⟩, hLim⟩
    have e0 : Env0 P w K mg (hidT s0.heap H) callerA [] s0 H := {
      frames := rfl
      mod := md
      bs := fun b o e => of_hidT e
      bsz := Nat.le_of_eq (hidT_size _ _)
      funs := trivial
      frf := fun b hb => by cases (show b ∈ ([] : List Addr) from hb)
      hok := okH
      bare := .of_eq hg }
    have run := (F _ inB (nsOf hN)).run callerA [] s0 H ⟨[.ref a], []⟩ [.ref a] [.ref a] _ _ rfl hR e0 (hbind s0 (.ref a)) (.cons rfl .nil) (hsp H oH sH)
    refine codeAny_mono run ?_
    intro r s' h
    cases r with
    | error e => exact (hCX H e s' h).elim
    | ok fl =>
      cases fl with
      | ret u =>
        obtain ⟨v, H', os, bare, un, okH', rv, q⟩ := h
        have ev : v = .bl true := q
        rw [ev] at rv
        have eu : u = Value.bool true := rv
        rw [eu]
        refine ⟨rfl, OldK.of_keep ?_, os, bare⟩
        intro b o e
        cases q : H b with
        | none => exact un.keep b o e q (fun z => by cases (show b ∈ ([] : List Addr) from z)) (fun z => by cases z)
        | some z =>
          cases oH b with
          | inl y =>
            rw [q] at y
            cases y
          | inr y =>
            obtain ⟨ob, xs, y⟩ := y
            have y2 := (okH' b _ (un.frzs b ob _ y)).1
            have y1 := (okH b _ y).1
            rw [e] at y1
            cases y1
            exact y2
      | next => exact h.elim
      | brk => exact h.elim
      | cont => exact h.elim
  cases hk : K.lookup a with
  | some o =>
    have e := hK a o hk
    rw [hA] at e
    cases e
    refine main (fun _ => none) (fun _ => .inl rfl) (.inr ⟨_, vs.toArray, _, hk, rfl, rfl, rfl, ?_, by simpa using vI⟩) ?_ (fun b z => absurd rfl z) fun z => absurd rfl z
    · rw [List.size_toArray, lI]
      exact hz
    · intro b u z
      cases (show (none : Option HO) = some u from z)
  | none =>
    let ob : Obj := { cls := .type "list", data := .seq vs.toArray }
    refine main (fun b => if b = a then some (.frz ob (.lst (ns.map V.int))) else none) ?_ (.inl (.inr ⟨ob, if_pos rfl⟩)) ?_ ?_ fun _ => hk
    · intro b
      by_cases hb : b = a
      · exact .inr ⟨ob, _, if_pos hb⟩
      · exact .inl (if_neg hb)
    · intro b u z
      by_cases hb : b = a
      · have z2 := (if_pos hb).symm.trans z
        cases z2
        subst hb
        refine ⟨hA, ?_, vs, _, vI, hA⟩
        rw [List.length_map]
        exact hz
      · have z2 := (if_neg hb).symm.trans z
        cases z2
    · intro b z
      by_cases hb : b = a
      · exact hb
      · exact absurd (if_neg hb) z
theorem walkG {l : PySem.W.OpenLaw} {n k : Nat} {q : Program} {loose : List Str} {XP : (Str → Option Value) → Heap → Prop} {YP : World → Heap → Prop} {d : DefRec} {K : Params → PySem.W.Frag} {sp : PySem.W.Frag → Sp} {x : Str}
    (hn : l.most = some n) (hn2 : n ≤ sizeLine) (hdf : d.params.defaults = []) (hr : Room k callerA) (hY : ∀ (w : World) (h : Heap), YP w h → (K w.params).In h)
    (F : ∀ (w : World) (mg : Str → Option Value) (fa : Addr) (h : Heap), (K w.params).In h → h.Ns mainGlobals mg → mg d.name = some (.ref fa) →
      ∃ fd : FuncData, (∀ (s : Shared) (u : Value), BindsTo s fd ⟨[u], []⟩ [(x, u)]) ∧
        ∀ bs : Heap, (K w.params).In bs → bs.Ns mainGlobals mg → GOk l.prog w (K w.params) mg bs CX0 k fa fd [x] (sp (K w.params)))
    (hsp : ∀ (K : PySem.W.Frag) (H : Hp) (a : Addr) (ns : List Int), ns.length ≤ n → Only H → SqL K H a (ns.map V.int) → sp K [.ref a] H (fun v _ => v = .bl true) fun _ _ _ => False) :
    PySem.W.WalkO q loose XP YP l.row.toRowW d [] (fun f vs => PySem.call f vs) := by
  apply Att.attach_call hn hdf
  intro w s₀ s₁ mg mb fa o pm cd doc a vs ns G Y ho hd hcd hmg hobj hints hlen hg
  have inK := hY w _ Y
  obtain ⟨fd, hb, hF⟩ := F w mg fa _ inK G.T.g hmg
  exact law_start inK G.T.g G.T.b G.T.builtins G.T.nolimit hg hobj hints (Nat.le_trans hlen hn2) hr hF hb (fun H hO hS => hsp _ H a ns hlen hO hS) fun H e s' z => z.elim
/-! ## same(one, other) -/
abbrev sSame : Stmt := top 27
def spSame (K : PySem.W.Frag) : Sp := fun vs H Q _ => ∃ (a b : Addr) (d : PyData), vs = [.ref a, .ref b] ∧ Dp K H (.ref a) d ∧ Dp K H (.ref b) d ∧ d.showable = true ∧ d.hasDict = false ∧ d.depth ≤ 10 ∧ d.shown.length ≤ sizeLine ∧ Q (.bl true) H
section
variable {P : Program} {w : World} {K : PySem.W.Frag} {mg : Str → Option Value} {base : Heap}
theorem scS : FnScope ["_law_one", "_law_other"] ["_law_one", "_law_other"] (defScope sSame) := ⟨rfl, rfl, rfl, by decide +kernel, rfl, by decide +kernel, by decide +kernel⟩
theorem boot_repr : bootBuiltins "repr" = some (.builtin "repr") := by decide +kernel
theorem ok_same {CX : CXT} {f : Addr} {fd : FuncData} (F : Fun K "_law_same" "_law_same" sSame f fd) (hrp : mg "repr" = none) : GOk P w K mg base CX 1 f fd ["_law_one", "_law_other"] (spSame K) := by
  refine gok_of F scS (fun vs H Q E h => ?_) (fun cdv A outer s H vs Q E hG hr h => ?_)
  · obtain ⟨a, b, d, rfl, _⟩ := h
    rfl
  · obtain ⟨a, b, d, rfl, h1, h2, h3, h4, h5, h6, q⟩ := h
    have hu : (A.deeper (envOfC "_law_same" (defScope sSame) s.heap.objs.size f cdv)).units + 20 < cLine := by
      have := hr.un
      omega
    refine ⟨_, (pss_one (ps_ret (pe_cmpR op_eq (pe_callB (call_repr hG hu) (by rfl) hrp boot_repr (pa_cons (pv 0) pa_nil)) (pe_callB (call_repr hG hu) (by rfl) hrp boot_repr (pa_cons (pv 1) pa_nil)) (nomark _)))), ?_⟩
    refine ⟨_, rfl, a, d, rfl, h1, h3, h4, h5, h6, _, rfl, b, d, rfl, h2, h3, h4, h5, h6, rfl, ?_⟩
    rw [decide_eq_true rfl]
    exact q
end
end Wp

set_option Elab.async false
set_option linter.all false
set_option maxRecDepth 100000
set_option maxHeartbeats 4000000
namespace Wp
open PySem L2 PySem.Spec PyProof.Rows
/-! ## exceptions as values -/
/-- C(e, ..) as a value, by the promise of C's own __init__ -/
def tMkx (C : Addr) (sp : Sp) (ta : TA) : TE := fun σ H Q => ta σ H fun vs H1 => vs.length ≤ 1000 ∧ ∀ a, H1 a = none →
  sp (.ref a :: vs) (upd H1 a (exo a C none)) (fun v H2 => v = .non ∧ Q (.ref a) H2) (fun _ _ _ => False)
section
variable {X : Cx} {CX : CXT} {x : Str} {C fI : Addr} {k : Nat} {fd : FuncData} {ps : List Str} {sp : Sp} {e : Expr} {es : List Expr} {ta : TA} {p pos : Pos}
theorem run_mkx {pins : List (Addr × Obj)} {σ : L2.St} {H : Hp} {s : Shared} {Q : VK} {us : List Value} {vs : List V} (T : OexC X.K C) (iC : PySem.W.findIn X.K (.ref C) "__init__" = some (some (.ref fI)))
    (tI : PySem.W.typeIn X.K (.ref fI) = some (.type "function")) (FI : FnOk X.prog X.w X.K X.mg X.base CX k fI fd ps sp) (hr : Room (k + 1) X.A) (hb : Binds X.K fd ps []) (hx : Passes CX X (fun _ _ _ => False))
    (I : Inv X pins σ H s) (r : Vals vs us) (hz : vs.length ≤ 1000)
    (h : ∀ a, H a = none → sp (.ref a :: vs) (upd H a (exo a C none)) (fun v H2 => v = .non ∧ Q (.ref a) H2) (fun _ _ _ => False)) :
    wpAny (model X.prog X.w) X.A (call (.ref C) us) (EP X pins σ Q) X.xe s := by
  obtain ⟨nm, q, N, bs, bm, sn, sub, ab, col, dd, k0, k1, k2, k3, k5, hC, hbm⟩ := T.cls
  obtain ⟨hp, g, dr, tk, os⟩ := s
  have hsz : hp.objs.size ≤ hp.objs.size + 1 := Nat.le_succ _
  have hq := h (hp.objs.size + 1) (I.hok.fresh hsz)
  have keep : ∀ b o, hp.get? b = some o → ((hp.push (PySem.W.kdv_tup us)).push (PySem.HandSPX.excO C hp.objs.size)).get? b = some o :=
    fun b o z => Heap.get?_push_of_some _ (Heap.get?_push_of_some _ z)
  have there : ((hp.push (PySem.W.kdv_tup us)).push (PySem.HandSPX.excO C hp.objs.size)).get? (hp.objs.size + 1) = some (PySem.HandSPX.excO C hp.objs.size) := by heap_get
  have I2 := I.laid (t' := tk) (a := hp.objs.size + 1) (o := exo (hp.objs.size + 1) C none) keep hsz (exo_ok there)
  have r2 : Vals (V.ref (hp.objs.size + 1) :: vs) (Value.ref (hp.objs.size + 1) :: us) := .cons rfl r
  have hl : (Value.ref (hp.objs.size + 1) :: us).length = ps.length := by
    rw [← r2.length]
    exact FI.len _ _ _ _ hq
  have hus : us.length ≤ sizeLine := by
    rw [← r.length, sizeLine_eq]
    omega
  have b2 := hb ⟨(hp.push (PySem.W.kdv_tup us)).push (PySem.HandSPX.excO C hp.objs.size), g, dr, tk, os⟩ (Value.ref (hp.objs.size + 1) :: us) I2.kIn (by simpa using hl)
  rw [List.append_nil] at b2
  apply wpAny_call
  refine PySem.HandSPX.call_own F.excBase_ValueError (fun Y => PySem.HandSPX.refsVE_contains Y bm hbm) (I.kIn _ _ hC) (PySem.W.looks_findIn I.kIn iC) (fun self => PySem.W.bind_fn I.kIn self tI) hus ?_
  refine codeAny_mono (FI.run _ X.stack _ _ ⟨Value.ref (hp.objs.size + 1) :: us, []⟩ (Value.ref (hp.objs.size + 1) :: us) _ _ (fun _ _ _ => False) (hr.make C us []) (I2.env0.make C us []) b2 r2 hq) ?_
  intro y s2 hy
  cases y with
  | error er => exact hx pins σ _ _ er s2 I2 hy
  | ok fl =>
    cases fl with
    | ret u =>
      obtain ⟨v, H2, os2, bare2, un2, hok2, rv, ev, q2⟩ := hy
      rw [ev] at rv
      exact ⟨rv, I2.after ⟨.ref (hp.objs.size + 1), H2, os2, bare2, un2, hok2, rfl, q2⟩⟩
    | next => exact hy.elim
    | brk => exact hy.elim
    | cont => exact hy.elim
theorem pe_mkx (T : OexC X.K C) (iC : PySem.W.findIn X.K (.ref C) "__init__" = some (some (.ref fI))) (tI : PySem.W.typeIn X.K (.ref fI) = some (.type "function")) (FI : FnOk X.prog X.w X.K X.mg X.base CX k fI fd ps sp)
    (hr : Room (k + 1) X.A) (hb : Binds X.K fd ps []) (hx : Passes CX X (fun _ _ _ => False)) (hg : Gl X x) (hm : X.mg x = some (.ref C)) (ha : PA X (e :: es) ta)
    (hdb : (x == ("__debug__" : Str)) = false := by decide) (he : starEach (e :: es) X.env = (false, eval e X.env) :: starEach es X.env := by rfl) (hpl : (backTo pos (starEach es X.env)).any (·.1) = false := by rfl) :
    PE X (.Call (.Name x p) (e :: es) [] pos) (tMkx C sp ta) := by
  constructor
  intro pins s σ H Q I h
  apply wpAny_Call_Name_kw
  refine ld_glob I hg hm ?_ hdb
  refine PySem.W.callWith_K (h₀ := X.base) I.ok.mod.kin T.kC ?_ he hpl
  refine thn (ha.run pos pins s σ H _ I h) ?_
  intro us s1 hh
  obtain ⟨vs, H1, I1, rv, hz, q⟩ := hh
  exact ⟨I1.kIn, run_mkx T iC tI FI hr hb hx I1 rv hz q⟩
/-- C() of a class without an own __init__ -/
theorem pe_mkx0 {bmB : List Value} {B newId initId : String} (FB : ExcBaseFacts B newId initId bmB) (q : PySem.W.excIn X.K C bmB newId = true) (gC : X.mg x = some (.ref C)) (kC : PySem.W.keepIn X.K (.ref C) = true) (hg : Gl X x)
    (hdb : (x == ("__debug__" : Str)) = false := by decide) : PE X (.Call (.Name x p) [] [] pos) (fun _ H Q => ∀ a, H a = none → Q (.ref a) (upd H a (exo a C none))) := by
  constructor
  intro pins s σ H Q I h
  apply wpAny_Call_Name_kw
  refine ld_glob I hg gC ?_ hdb
  refine PySem.W.callWith_K0 I.kIn kC ?_
  obtain ⟨bm, N, nm, qn, bs, hdct, sn, sub, ab, col, dd, k0, k1, k2, k3, k5, mN, hC, hN, hni, T⟩ := exc_obj I.kIn q
  refine wpAny_call_exc_subT FB T hC hN hni (fun h' a hm => ?_) (by show 0 ≤ sizeLine; exact Nat.zero_le _)
  have hn := I.hok.gone hm.new
  obtain ⟨t, ht, _, _⟩ := hm.there
  exact ⟨.ref a, _, I.laidN hm.keeps hm.new hn (exo_ok ht), rfl, h a hn⟩
/-- e.f of an exception that is held as a value -/
def tXv (K : PySem.W.Frag) (f : Str) (te : TE) : TE := fun σ H Q => te σ H fun x H1 => ∃ (a C d : Addr) (fs : List (Str × V)) (v : V), x = .ref a ∧ ExcC K C ∧ PySem.W.findIn K (.ref C) f = some none ∧
  H1 a = some (exo a C (some d)) ∧ H1 d = some (exd d fs) ∧ fs.lookup f = some v ∧ Q v H1
theorem pe_xv {te : TE} {n : Str} (he : PE X e te) (hb : attributeBase e n X.env (eval e X.env) = eval e X.env := by rfl) : PE X (.Attribute e n pos) (tXv X.K n te) := by
  constructor
  intro pins s σ H Q I h
  refine attr_of hb (thn (he.run pins s σ H _ I h) ?_)
  intro u s1 hh
  obtain ⟨x, H1, I1, rx, a, C, d, fs, v, ex, T, hno, ea, ed, l, q⟩ := hh
  subst ex
  obtain rfl : u = Value.ref a := rx
  obtain ⟨t1, ho⟩ := exo_at I1.hok ea
  obtain ⟨mA, hns, hr⟩ := exd_at I1.hok ed
  obtain ⟨od, hod, hl⟩ := lookIn_ns hns
  obtain ⟨w', hw, rw'⟩ := RelO.some_of (v := v) (o := mA n) (by rw [← l]; exact hr n)
  have J : PySem.W.InstAt s1.heap a _ C (some od) := ⟨ho, rfl, rfl, hod⟩
  exact HandSPX.exc_get I1.kIn J T.hg T.hk T.hs (PySem.W.findObj_own T.hd hno rfl (by rw [hl, hw])) (handed_of rw') ⟨v, H1, I1.tok _, rw', q⟩
/-- isinstance(x, c), x such an exception (with its dict or without) -/
def rIsx (K : PySem.W.Frag) : List V → Hp → VK → Prop := fun xs H Q => ∃ (a C : Addr) (d : Option Addr) (c : V) (cv : Value) (b : Bool), xs = [.ref a, c] ∧ ClsV c cv ∧ ExcC K C ∧
  H a = some (exo a C d) ∧ (∀ dx, d = some dx → ∃ fs, H dx = some (exd dx fs)) ∧ PySem.W.kitOne K (.ref C) cv = some b ∧ Q (.bl b) H
theorem call_isx : CallR X (.builtin "isinstance") (rIsx X.K) := by
  intro pins s σ H xs us Q I r h
  obtain ⟨a, C, d, c, cv, b, rfl, kc, T, ea, ed, e, q⟩ := h
  obtain ⟨u1, u2, rfl, r1, r2⟩ := vals2 r
  cases (show u1 = Value.ref a from r1)
  have e2 := kc.eq r2
  subst e2
  obtain ⟨t1, ho⟩ := exo_at I.hok ea
  obtain ⟨cd, hcd, _⟩ := PySem.W.any_some T.hd
  have hcl : (PySem.W.clsIn X.K C).isSome = true := by rw [hcd]; rfl
  have fin : ∀ od, PySem.W.InstAt s.heap a { cls := .ref C, dict := d, data := .fields #[.ref t1, .none, .none, .none, .bool false, .none] } C od → wpAny (model X.prog X.w) X.A (call (.builtin "isinstance") [.ref a, u2]) (EP X pins σ Q) X.xe s :=
    fun od J => PySem.W.kia_one (PySem.W.kitx_exc hcl T.hg T.hk T.hs T.ha T.hn T.ht T.hm) I.kIn J e (fun z => nomatch z) fun tk => ⟨.bl b, H, I.tok tk, rfl, q⟩
  cases d with
  | none => exact fin none ⟨ho, rfl, rfl, trivial⟩
  | some dx =>
    obtain ⟨fs, hd⟩ := ed dx rfl
    obtain ⟨mA, hns, _⟩ := exd_at I.hok hd
    obtain ⟨od, hod, _⟩ := lookIn_ns hns
    exact fin (some od) ⟨ho, rfl, rfl, hod⟩
end
end Wp

set_option Elab.async false
set_option linter.all false
set_option maxRecDepth 100000
set_option maxHeartbeats 4000000
namespace Wp
open PySem L2 PySem.Spec PyProof.Rows
/-! ## the errors' own __init__, and what they leave -/
/-- behind C(v, ..): the error at a, its dict at d -/
def exH (H : Hp) (a C d : Addr) (fs : List (Str × V)) : Hp := upd (upd H d (exd d fs)) a (exo a C (some d))
theorem exH_a {H : Hp} {a C d : Addr} {fs : List (Str × V)} : exH H a C d fs a = some (exo a C (some d)) := upd_same
theorem exH_d {H : Hp} {a C d : Addr} {fs : List (Str × V)} (h : d ≠ a) : exH H a C d fs d = some (exd d fs) := by
  unfold exH
  rw [upd_ne h, upd_same]
theorem exH_ne {H : Hp} {a C d b : Addr} {fs : List (Str × V)} (h1 : b ≠ a) (h2 : b ≠ d) : exH H a C d fs b = H b := by
  unfold exH
  rw [upd_ne h1, upd_ne h2]
theorem exH_same {H : Hp} {a C d : Addr} {fs : List (Str × V)} (h1 : H a = none) (h2 : H d = none) : Same H (exH H a C d fs) := fun b o e => by
  rw [exH_ne (ne_of_none e h1) (ne_of_none e h2)]
  exact e
theorem exH_over {H : Hp} {a C d : Addr} {fs : List (Str × V)} {o : HO} : upd (upd (upd H a o) d (exd d fs)) a (exo a C (some d)) = exH H a C d fs := by
  funext b
  unfold exH
  by_cases h1 : b = a
  · rw [h1, upd_same, upd_same]
  · rw [upd_ne h1, upd_ne h1]
    by_cases h2 : b = d
    · rw [h2, upd_same, upd_same]
    · rw [upd_ne h2, upd_ne h2, upd_ne h1]
def spI1 (C : Addr) (f : Str) : Sp := fun vs H Q _ => ∃ (a : Addr) (v : V), vs = [.ref a, v] ∧ H a = some (exo a C none) ∧ ∀ dx, H dx = none → dx ≠ a → Q .non (upd (upd H dx (exd dx [(f, v)])) a (exo a C (some dx)))
def spI2 (C : Addr) (f g : Str) : Sp := fun vs H Q _ => ∃ (a : Addr) (v y : V), vs = [.ref a, v, y] ∧ H a = some (exo a C none) ∧ ∀ dx, H dx = none → dx ≠ a → Q .non (upd (upd H dx (exd dx [(g, y), (f, v)])) a (exo a C (some dx)))
section
variable {P : Program} {w : World} {K : PySem.W.Frag} {mg : Str → Option Value} {base : Heap}
theorem ok_init1 {st : Stmt} {q f : Str} {C fa : Addr} {fd : FuncData} {p1 p2 p3 p4 : Pos} (F : Fun K "__init__" q st fa fd) (hb : defBody st = [.Assign [.Attribute (.Name "self" p1) f p2] (.Name f p3) p4])
    (S : FnScope ["self", f] ["self", f] (defScope st)) (hs : (defScope st).names.lookup ("self" : Str) = some NameKind.local) (hl : (defScope st).names.lookup f = some NameKind.local) (hd : (f == ("__debug__" : Str)) = false) (hc : (f == ("__classdict__" : Str)) = false)
    (T : OexC K C) (hno : PySem.W.findIn K (.ref C) f = some none) : FnOk P w K mg base CX0 1 fa fd ["self", f] (spI1 C f) := by
  refine F.ok S (fun vs H Q E h => ?_) (fun cdv A outer s H vs Q E hr h => ?_)
  · obtain ⟨a, v, rfl, _⟩ := h
    rfl
  · obtain ⟨a, v, rfl, ea, k⟩ := h
    rw [hb]
    refine ⟨_, pss_one (ps_ost (pv 0 rfl (.inl hs)) (pv 1 rfl (.inl hl) hd hc)), ?_⟩
    exact ⟨_, rfl, _, rfl, a, C, rfl, T, hno, .inl ⟨ea, fun dx n ne => k dx n ne⟩⟩
theorem ok_init2 {st : Stmt} {q f g : Str} {C fa : Addr} {fd : FuncData} {p1 p2 p3 p4 q1 q2 q3 q4 : Pos} (F : Fun K "__init__" q st fa fd)
    (hb : defBody st = [.Assign [.Attribute (.Name "self" p1) f p2] (.Name f p3) p4, .Assign [.Attribute (.Name "self" q1) g q2] (.Name g q3) q4])
    (S : FnScope ["self", f, g] ["self", f, g] (defScope st)) (hs : (defScope st).names.lookup ("self" : Str) = some NameKind.local) (hl : (defScope st).names.lookup f = some NameKind.local) (hl2 : (defScope st).names.lookup g = some NameKind.local)
    (hd : (f == ("__debug__" : Str)) = false) (hc : (f == ("__classdict__" : Str)) = false) (hd2 : (g == ("__debug__" : Str)) = false) (hc2 : (g == ("__classdict__" : Str)) = false)
    (T : OexC K C) (hno : PySem.W.findIn K (.ref C) f = some none) (hno2 : PySem.W.findIn K (.ref C) g = some none) : FnOk P w K mg base CX0 1 fa fd ["self", f, g] (spI2 C f g) := by
  refine F.ok S (fun vs H Q E h => ?_) (fun cdv A outer s H vs Q E hr h => ?_)
  · obtain ⟨a, v, y, rfl, _⟩ := h
    rfl
  · obtain ⟨a, v, y, rfl, ea, k⟩ := h
    rw [hb]
    refine ⟨_, pss_cons (ps_ost (pv 0 rfl (.inl hs)) (pv 1 rfl (.inl hl) hd hc)) (pss_one (ps_ost (pv 0 rfl (.inl hs)) (pv 2 rfl (.inl hl2) hd2 hc2))), ?_⟩
    refine ⟨_, rfl, _, rfl, a, C, rfl, T, hno, .inl ⟨ea, fun dx n ne => ?_⟩⟩
    refine ⟨_, rfl, _, rfl, a, C, rfl, T, hno2, .inr ⟨dx, [(f, v)], upd_same, ?_, (by show 1 ≤ 900; decide), ?_⟩⟩
    · rw [upd_ne ne, upd_same]
    · have e : upd (upd (upd H dx (exd dx [(f, v)])) a (exo a C (some dx))) dx (exd dx [(g, y), (f, v)]) = upd (upd H dx (exd dx [(g, y), (f, v)])) a (exo a C (some dx)) := by
        funext b
        by_cases h2 : b = dx
        · rw [h2, upd_same, upd_ne ne, upd_same]
        · rw [upd_ne h2]
          by_cases h1 : b = a
          · rw [h1, upd_same, upd_same]
          · rw [upd_ne h1, upd_ne h1, upd_ne h2, upd_ne h2]
      rw [e]
      exact k dx n ne
/-- a class of one field; of two; of none -/
structure Mk1 (P : Program) (w : World) (K : PySem.W.Frag) (mg : Str → Option Value) (base : Heap) (x f : Str) (C fI : Addr) (fd : FuncData) : Prop where
  T : OexC K C
  X : ExcC K C
  no : PySem.W.findIn K (.ref C) f = some none
  gC : mg x = some (.ref C)
  iC : PySem.W.findIn K (.ref C) "__init__" = some (some (.ref fI))
  tI : PySem.W.typeIn K (.ref fI) = some (.type "function")
  FI : FnOk P w K mg base CX0 1 fI fd ["self", f] (spI1 C f)
  bI : Binds K fd ["self", f] []
structure Mk2 (P : Program) (w : World) (K : PySem.W.Frag) (mg : Str → Option Value) (base : Heap) (x f g : Str) (C fI : Addr) (fd : FuncData) : Prop where
  T : OexC K C
  X : ExcC K C
  no : PySem.W.findIn K (.ref C) f = some none
  no2 : PySem.W.findIn K (.ref C) g = some none
  gC : mg x = some (.ref C)
  iC : PySem.W.findIn K (.ref C) "__init__" = some (some (.ref fI))
  tI : PySem.W.typeIn K (.ref fI) = some (.type "function")
  FI : FnOk P w K mg base CX0 1 fI fd ["self", f, g] (spI2 C f g)
  bI : Binds K fd ["self", f, g] []
structure Mk0 (K : PySem.W.Frag) (mg : Str → Option Value) (x : Str) (C : Addr) : Prop where
  X : ExcC K C
  q : PySem.W.excIn K C [.type "ValueError", .type "Exception", .type "BaseException", .type "object"] "ValueError.__new__" = true
  gC : mg x = some (.ref C)
  kC : PySem.W.keepIn K (.ref C) = true
end
theorem mkx1 {H : Hp} {C : Addr} {f : Str} {v : V} {Q : VK} (k : ∀ a d, H a = none → H d = none → d ≠ a → Q (.ref a) (exH H a C d [(f, v)])) :
    [v].length ≤ 1000 ∧ ∀ a, H a = none → spI1 C f (.ref a :: [v]) (upd H a (exo a C none)) (fun u H2 => u = .non ∧ Q (.ref a) H2) (fun _ _ _ => False) :=
  ⟨by simp, fun a na => ⟨a, v, rfl, upd_same, fun d nd ne => ⟨rfl, by
    rw [exH_over]
    refine k a d na ?_ ne
    rw [upd_ne ne] at nd
    exact nd⟩⟩⟩
theorem mkx2 {H : Hp} {C : Addr} {f g : Str} {v y : V} {Q : VK} (k : ∀ a d, H a = none → H d = none → d ≠ a → Q (.ref a) (exH H a C d [(g, y), (f, v)])) :
    [v, y].length ≤ 1000 ∧ ∀ a, H a = none → spI2 C f g (.ref a :: [v, y]) (upd H a (exo a C none)) (fun u H2 => u = .non ∧ Q (.ref a) H2) (fun _ _ _ => False) :=
  ⟨by simp, fun a na => ⟨a, v, y, rfl, upd_same, fun d nd ne => ⟨rfl, by
    rw [exH_over]
    refine k a d na ?_ ne
    rw [upd_ne ne] at nd
    exact nd⟩⟩⟩
section
variable {X : Cx} {x f g : Str} {C fI : Addr} {fd : FuncData} {e : Expr} {es : List Expr} {ta : TA} {p pos : Pos}
theorem pe_m1 (M : Mk1 X.prog X.w X.K X.mg X.base x f C fI fd) (hr : Room 2 X.A) (hg : Gl X x) (ha : PA X (e :: es) ta)
    (hdb : (x == ("__debug__" : Str)) = false := by decide) (he : starEach (e :: es) X.env = (false, eval e X.env) :: starEach es X.env := by rfl) (hpl : (backTo pos (starEach es X.env)).any (·.1) = false := by rfl) :
    PE X (.Call (.Name x p) (e :: es) [] pos) (tMkx C (spI1 C f) ta) := pe_mkx M.T M.iC M.tI M.FI hr M.bI pass0 hg M.gC ha hdb he hpl
theorem pe_m2 (M : Mk2 X.prog X.w X.K X.mg X.base x f g C fI fd) (hr : Room 2 X.A) (hg : Gl X x) (ha : PA X (e :: es) ta)
    (hdb : (x == ("__debug__" : Str)) = false := by decide) (he : starEach (e :: es) X.env = (false, eval e X.env) :: starEach es X.env := by rfl) (hpl : (backTo pos (starEach es X.env)).any (·.1) = false := by rfl) :
    PE X (.Call (.Name x p) (e :: es) [] pos) (tMkx C (spI2 C f g) ta) := pe_mkx M.T M.iC M.tI M.FI hr M.bI pass0 hg M.gC ha hdb he hpl
theorem pe_m0 (M : Mk0 X.K X.mg x C) (hg : Gl X x) (hdb : (x == ("__debug__" : Str)) = false := by decide) :
    PE X (.Call (.Name x p) [] [] pos) (fun _ H Q => ∀ a, H a = none → Q (.ref a) (upd H a (exo a C none))) := pe_mkx0 PySem.F.excBase_ValueError M.q M.gC M.kC hg hdb
end
end Wp

set_option Elab.async false
set_option linter.all false
set_option maxRecDepth 100000
set_option maxHeartbeats 4000000
namespace Wp
open PySem L2 PySem.Spec PyProof.Rows
/-! ## the made errors, each with what it tells and what is due -/
structure Ent (H : Hp) (C : Addr) (x : V) : Prop where
  ex : ∃ (q e t u : Addr) (d : Option Addr) (vs : List V) (ds : List PyData), x = .ref q ∧ H q = some (.tup [.ref e, .ref t, .ref u]) ∧ H t = some (.lst vs) ∧ H u = some (.lst vs) ∧
    H e = some (exo e C d) ∧ (∀ dx, d = some dx → ∃ fs, H dx = some (exd dx fs)) ∧ Paired (Gv H) vs ds ∧ vs.length ≤ 2
theorem Gv.same {H H' : Hp} {v : V} {d : PyData} (g : Gv H v d) (s : Same H H') : Gv H' v d := g.ext (Ext.of s)
theorem Gvs.same {H H' : Hp} {vs : List V} {ds : List PyData} (g : Paired (Gv H) vs ds) (s : Same H H') : Paired (Gv H') vs ds := L2.Paired.mapP g fun _ _ z => z.same s
theorem Ent.same {H H' : Hp} {C : Addr} {x : V} (g : Ent H C x) (s : Same H H') : Ent H' C x := by
  obtain ⟨q, e, t, u, d, vs, ds, h1, h2, h3, h4, h5, h6, h7, h8⟩ := g.ex
  exact ⟨q, e, t, u, d, vs, ds, h1, s _ _ h2, s _ _ h3, s _ _ h4, s _ _ h5, fun dx z => let ⟨fs, y⟩ := h6 dx z; ⟨fs, s _ _ y⟩, Gvs.same h7 s, h8⟩
theorem Ents.same {H H' : Hp} {cs : List Addr} {xs : List V} (g : Paired (Ent H) cs xs) (s : Same H H') : Paired (Ent H') cs xs := L2.Paired.mapP g fun _ _ z => z.same s
theorem Same.new {H : Hp} {p : Addr} {o : HO} (h : H p = none) : Same H (upd H p o) := fun b u e => by
  rw [upd_ne (ne_of_none e h)]
  exact e
section
variable {K : PySem.W.Frag} {σ : L2.St} {H : Hp} {Q : VK} {D : Ends} {i j j2 : Nat} {a d C : Addr} {f g : Str} {v y : V} {dv dy : PyData}
/-- x = C(v), x = C(v, y) -/
theorem st_mk1 (hj : σ[j]? = some (some v)) (k : ∀ a d H', Same H H' → H' a = some (exo a C (some d)) → H' d = some (exd d [(f, v)]) → D.nx (σ.set i (some (.ref a))) H') :
    tAsg (tMkx C (spI1 C f) (tCons (tVar j) tNil)) (gName i) D σ H :=
  ⟨v, hj, mkx1 (H := H) (Q := fun x H' => D.nx (σ.set i (some x)) H') fun a d na nd ne => k a d _ (exH_same na nd) exH_a (exH_d ne)⟩
theorem st_mk2 (hj : σ[j]? = some (some v)) (hj2 : σ[j2]? = some (some y)) (k : ∀ a d H', Same H H' → H' a = some (exo a C (some d)) → H' d = some (exd d [(g, y), (f, v)]) → D.nx (σ.set i (some (.ref a))) H') :
    tAsg (tMkx C (spI2 C f g) (tCons (tVar j) (tCons (tVar j2) tNil))) (gName i) D σ H :=
  ⟨v, hj, y, hj2, mkx2 (H := H) (Q := fun x H' => D.nx (σ.set i (some x)) H') fun a d na nd ne => k a d _ (exH_same na nd) exH_a (exH_d ne)⟩
/-- (x, [x.f], [v]) -/
theorem ent1 (hi : σ[i]? = some (some (.ref a))) (hj : σ[j]? = some (some v)) (T : ExcC K C) (no : PySem.W.findIn K (.ref C) f = some none) (A : H a = some (exo a C (some d))) (E : H d = some (exd d [(f, v)])) (g : Gv H v dv)
    (k : ∀ q H', Same H H' → Ent H' C (.ref q) → Q (.ref q) H') : tTup (tCons (tVar i) (tCons (tLst (tCons (tXv K f (tVar i)) tNil)) (tCons (tLst (tCons (tVar j) tNil)) tNil))) σ H Q := by
  have lk : List.lookup f [(f, v)] = some v := by simp [List.lookup]
  refine ⟨_, hi, _, hi, a, C, d, _, v, rfl, T, no, A, E, lk, (by show 1 ≤ sizeLine; decide), fun t nt => ?_⟩
  refine ⟨_, hj, (by show 1 ≤ sizeLine; decide), fun u nu => ⟨(by show 3 ≤ sizeLine; decide), fun q nq => ?_⟩⟩
  have s1 := Same.new (o := HO.lst [v]) nt
  have s2 := Same.new (o := HO.lst [v]) nu
  have s3 := Same.new (o := HO.tup [.ref a, .ref t, .ref u]) nq
  have s := (s1.trans s2).trans s3
  exact k q _ s ⟨q, a, t, u, some d, [v], [dv], rfl, upd_same, s3 _ _ (s2 _ _ upd_same), s3 _ _ upd_same, s _ _ A, fun dx z => by cases z; exact ⟨_, s _ _ E⟩, .cons (g.same s) .nil, (by show 1 ≤ 2; decide)⟩
theorem ent2 (nfg : ¬ f = g) (hi : σ[i]? = some (some (.ref a))) (hj : σ[j]? = some (some v)) (hj2 : σ[j2]? = some (some y)) (T : ExcC K C) (no : PySem.W.findIn K (.ref C) f = some none) (no2 : PySem.W.findIn K (.ref C) g = some none)
    (A : H a = some (exo a C (some d))) (E : H d = some (exd d [(g, y), (f, v)])) (gv : Gv H v dv) (gy : Gv H y dy) (k : ∀ q H', Same H H' → Ent H' C (.ref q) → Q (.ref q) H') :
    tTup (tCons (tVar i) (tCons (tLst (tCons (tXv K f (tVar i)) (tCons (tXv K g (tVar i)) tNil))) (tCons (tLst (tCons (tVar j) (tCons (tVar j2) tNil))) tNil))) σ H Q := by
  have e1 : (f == g) = false := by simpa using nfg
  have lk : List.lookup f [(g, y), (f, v)] = some v := by simp [List.lookup, e1]
  have lk2 : List.lookup g [(g, y), (f, v)] = some y := by simp [List.lookup]
  refine ⟨_, hi, _, hi, a, C, d, _, v, rfl, T, no, A, E, lk, _, hi, a, C, d, _, y, rfl, T, no2, A, E, lk2, (by show 2 ≤ sizeLine; decide), fun t nt => ?_⟩
  refine ⟨_, hj, _, hj2, (by show 2 ≤ sizeLine; decide), fun u nu => ⟨(by show 3 ≤ sizeLine; decide), fun q nq => ?_⟩⟩
  have s1 := Same.new (o := HO.lst [v, y]) nt
  have s2 := Same.new (o := HO.lst [v, y]) nu
  have s3 := Same.new (o := HO.tup [.ref a, .ref t, .ref u]) nq
  have s := (s1.trans s2).trans s3
  exact k q _ s ⟨q, a, t, u, some d, [v, y], [dv, dy], rfl, upd_same, s3 _ _ (s2 _ _ upd_same), s3 _ _ upd_same, s _ _ A, fun dx z => by cases z; exact ⟨_, s _ _ E⟩, .cons (gv.same s) (.cons (gy.same s) .nil), (by show 2 ≤ 2; decide)⟩
/-- (C(), [], []) -/
theorem ent0 (k : ∀ q H', Same H H' → Ent H' C (.ref q) → Q (.ref q) H') :
    tTup (tCons (fun _ H Q => ∀ a, H a = none → Q (.ref a) (upd H a (exo a C none))) (tCons (tLst tNil) (tCons (tLst tNil) tNil))) σ H Q := by
  refine fun a na => ⟨(by show 0 ≤ sizeLine; decide), fun t nt => ⟨(by show 0 ≤ sizeLine; decide), fun u nu => ⟨(by show 3 ≤ sizeLine; decide), fun q nq => ?_⟩⟩⟩
  have s0 := Same.new (o := exo a C none) na
  have s1 := Same.new (o := HO.lst []) nt
  have s2 := Same.new (o := HO.lst []) nu
  have s3 := Same.new (o := HO.tup [.ref a, .ref t, .ref u]) nq
  have s := ((s0.trans s1).trans s2).trans s3
  exact k q _ s ⟨q, a, t, u, none, [], [], rfl, upd_same, s3 _ _ (s2 _ _ upd_same), s3 _ _ upd_same, s3 _ _ (s2 _ _ (s1 _ _ upd_same)), (fun dx z => by cases z), .nil, by decide⟩
end
section
variable {K : PySem.W.Frag} {σ : L2.St} {H : Hp} {R : List V → Hp → Prop} {Q : VK} {D : Ends} {i j j2 : Nat} {a d C : Addr} {f g : Str} {v y : V} {dv dy : PyData} {ta tr : TA} {te tf : TE}
theorem en1 (hi : σ[i]? = some (some (.ref a))) (hj : σ[j]? = some (some v)) (T : ExcC K C) (no : PySem.W.findIn K (.ref C) f = some none) (A : H a = some (exo a C (some d))) (E : H d = some (exd d [(f, v)])) (g : Gv H v dv)
    (k : ∀ q H', Same H H' → Ent H' C (.ref q) → tr σ H' fun xs H2 => R (.ref q :: xs) H2) : tCons (tTup (tCons (tVar i) (tCons (tLst (tCons (tXv K f (tVar i)) tNil)) (tCons (tLst (tCons (tVar j) tNil)) tNil)))) tr σ H R :=
  ent1 (Q := fun x H1 => tr σ H1 fun xs H2 => R (x :: xs) H2) hi hj T no A E g k
theorem en2 (nfg : ¬ f = g) (hi : σ[i]? = some (some (.ref a))) (hj : σ[j]? = some (some v)) (hj2 : σ[j2]? = some (some y)) (T : ExcC K C) (no : PySem.W.findIn K (.ref C) f = some none) (no2 : PySem.W.findIn K (.ref C) g = some none)
    (A : H a = some (exo a C (some d))) (E : H d = some (exd d [(g, y), (f, v)])) (gv : Gv H v dv) (gy : Gv H y dy) (k : ∀ q H', Same H H' → Ent H' C (.ref q) → tr σ H' fun xs H2 => R (.ref q :: xs) H2) :
    tCons (tTup (tCons (tVar i) (tCons (tLst (tCons (tXv K f (tVar i)) (tCons (tXv K g (tVar i)) tNil))) (tCons (tLst (tCons (tVar j) (tCons (tVar j2) tNil))) tNil)))) tr σ H R :=
  ent2 (Q := fun x H1 => tr σ H1 fun xs H2 => R (x :: xs) H2) nfg hi hj hj2 T no no2 A E gv gy k
theorem en0 (k : ∀ q H', Same H H' → Ent H' C (.ref q) → tr σ H' fun xs H2 => R (.ref q :: xs) H2) :
    tCons (tTup (tCons (fun _ H Q => ∀ a, H a = none → Q (.ref a) (upd H a (exo a C none))) (tCons (tLst tNil) (tCons (tLst tNil) tNil)))) tr σ H R :=
  ent0 (Q := fun x H1 => tr σ H1 fun xs H2 => R (x :: xs) H2) k
theorem en_nil (h : R [] H) : tNil σ H R := h
variable {t2 : TS}
theorem sq_mk1 (hj : σ[j]? = some (some v)) (k : ∀ a d H', Same H H' → H' a = some (exo a C (some d)) → H' d = some (exd d [(f, v)]) → t2 D (σ.set i (some (.ref a))) H') :
    tSeq (tAsg (tMkx C (spI1 C f) (tCons (tVar j) tNil)) (gName i)) t2 D σ H := st_mk1 (D := { D with nx := t2 D }) hj k
theorem sq_mk2 (hj : σ[j]? = some (some v)) (hj2 : σ[j2]? = some (some y)) (k : ∀ a d H', Same H H' → H' a = some (exo a C (some d)) → H' d = some (exd d [(g, y), (f, v)]) → t2 D (σ.set i (some (.ref a))) H') :
    tSeq (tAsg (tMkx C (spI2 C f g) (tCons (tVar j) (tCons (tVar j2) tNil))) (gName i)) t2 D σ H := st_mk2 (D := { D with nx := t2 D }) hj hj2 k
theorem sq_lst (k : ta σ H fun xs H1 => xs.length ≤ sizeLine ∧ ∀ p, H1 p = none → t2 D (σ.set i (some (.ref p))) (upd H1 p (.lst xs))) : tSeq (tAsg (tLst ta) (gName i)) t2 D σ H := k
theorem sq_cat {l : Addr} (hj : σ[j]? = some (some (.ref l))) (k : ta σ H fun ys H1 => ys.length ≤ sizeLine ∧ ∀ b, H1 b = none → rCat (.ref l) (.ref b) (upd H1 b (.lst ys)) fun x H2 => t2 D (σ.set i (some x)) H2) :
    tSeq (tAsg (tOp rCat (tVar j) (tLst ta)) (gName i)) t2 D σ H := ⟨_, hj, k⟩
theorem rt_cat {l : Addr} (hj : σ[j]? = some (some (.ref l))) (k : ta σ H fun ys H1 => ys.length ≤ sizeLine ∧ ∀ b, H1 b = none → rCat (.ref l) (.ref b) (upd H1 b (.lst ys)) fun x H2 => D.rt x H2) :
    tRet (tOp rCat (tVar j) (tLst ta)) D σ H := ⟨_, hj, k⟩
/-- x = [..] -/
theorem st_lst (k : ta σ H fun xs H1 => xs.length ≤ sizeLine ∧ ∀ p, H1 p = none → D.nx (σ.set i (some (.ref p))) (upd H1 p (.lst xs))) : tAsg (tLst ta) (gName i) D σ H := k
end
theorem pair_app {α β : Type} {F : α → β → Prop} : ∀ {a c : List α} {b d : List β}, Paired F a b → Paired F c d → Paired F (a ++ c) (b ++ d)
  | _, _, _, _, .nil, q => q
  | _, _, _, _, .cons h t, q => .cons h (pair_app t q)
/-- first(value, other), second(value, other), third(value) -/
def spMade (cs : List Addr) : Sp := fun vs H Q _ => ∃ (v y : V) (dv dy : PyData), vs = [v, y] ∧ Gv H v dv ∧ Gv H y dy ∧
  ∀ (p : Addr) (H' : Hp) (xs : List V), Same H H' → H' p = some (.lst xs) → Paired (Ent H') cs xs → Q (.ref p) H'
def spMade1 (cs : List Addr) : Sp := fun vs H Q _ => ∃ (v : V) (dv : PyData), vs = [v] ∧ Gv H v dv ∧
  ∀ (p : Addr) (H' : Hp) (xs : List V), Same H H' → H' p = some (.lst xs) → Paired (Ent H') cs xs → Q (.ref p) H'
abbrev sFirst : Stmt := top 30
abbrev sSecond : Stmt := top 31
abbrev sThird : Stmt := top 32
section
variable {P : Program} {w : World} {K : PySem.W.Frag} {mg : Str → Option Value} {base : Heap}
theorem scF : FnScope ["_law_value", "_law_other", "_law_a", "_law_b", "_law_c", "_law_d", "_law_e", "_law_f", "_law_g", "_law_found"] ["_law_value", "_law_other"] (defScope sFirst) := ⟨rfl, rfl, rfl, by decide +kernel, rfl, by decide +kernel, by decide +kernel⟩
theorem ok_first {fa c0 c1 c2 c3 c4 c5 c6 i0 i1 i2 i3 i4 i5 i6 : Addr} {fd f0 f1 f2 f3 f4 f5 f6 : FuncData} (F : Fun K "_law_first" "_law_first" sFirst fa fd)
    (M0 : Mk1 P w K mg base "BadField" "name" c0 i0 f0) (M1 : Mk1 P w K mg base "BadKind" "name" c1 i1 f1) (M2 : Mk1 P w K mg base "BadHouse" "name" c2 i2 f2) (M3 : Mk1 P w K mg base "UnknownKind" "name" c3 i3 f3)
    (M4 : Mk2 P w K mg base "UnknownField" "kind" "name" c4 i4 f4) (M5 : Mk1 P w K mg base "BadWeb" "thing" c5 i5 f5) (M6 : Mk1 P w K mg base "BadText" "line" c6 i6 f6) :
    FnOk P w K mg base CX0 4 fa fd ["_law_value", "_law_other"] (spMade [c0, c1, c2, c3, c4, c5, c6]) := by
  refine F.ok scF (fun vs H Q E h => ?_) (fun cdv A outer s H vs Q E hr h => ?_)
  · obtain ⟨v, y, dv, dy, rfl, _⟩ := h
    rfl
  · obtain ⟨v, y, dv, dy, rfl, gv, gy, k⟩ := h
    have h2 := hr.mono (j := 2) (by decide)
    refine ⟨_, pss_cons (ps_set (i := 2) scF.nd rfl (.inl rfl) (pe_m1 M0 h2 (by rfl) (pa_cons (pv 0) pa_nil)))
      (pss_cons (ps_set (i := 3) scF.nd rfl (.inl rfl) (pe_m1 M1 h2 (by rfl) (pa_cons (pv 0) pa_nil)))
      (pss_cons (ps_set (i := 4) scF.nd rfl (.inl rfl) (pe_m1 M2 h2 (by rfl) (pa_cons (pv 0) pa_nil)))
      (pss_cons (ps_set (i := 5) scF.nd rfl (.inl rfl) (pe_m1 M3 h2 (by rfl) (pa_cons (pv 0) pa_nil)))
      (pss_cons (ps_set (i := 6) scF.nd rfl (.inl rfl) (pe_m2 M4 h2 (by rfl) (pa_cons (pv 0) (pa_cons (pv 1) pa_nil))))
      (pss_cons (ps_set (i := 7) scF.nd rfl (.inl rfl) (pe_m1 M5 h2 (by rfl) (pa_cons (pv 0) pa_nil)))
      (pss_cons (ps_set (i := 8) scF.nd rfl (.inl rfl) (pe_m1 M6 h2 (by rfl) (pa_cons (pv 0) pa_nil)))
      (pss_cons (ps_set (i := 9) scF.nd rfl (.inl rfl) (pe_lst (pa_cons (pe_tup (pa_cons (pv 2) (pa_cons (pe_lst (pa_cons (pe_xv (pv 2)) pa_nil)) (pa_cons (pe_lst (pa_cons (pv 0) pa_nil)) pa_nil))))
        (pa_cons (pe_tup (pa_cons (pv 3) (pa_cons (pe_lst (pa_cons (pe_xv (pv 3)) pa_nil)) (pa_cons (pe_lst (pa_cons (pv 0) pa_nil)) pa_nil))))
        (pa_cons (pe_tup (pa_cons (pv 4) (pa_cons (pe_lst (pa_cons (pe_xv (pv 4)) pa_nil)) (pa_cons (pe_lst (pa_cons (pv 0) pa_nil)) pa_nil))))
        (pa_cons (pe_tup (pa_cons (pv 5) (pa_cons (pe_lst (pa_cons (pe_xv (pv 5)) pa_nil)) (pa_cons (pe_lst (pa_cons (pv 0) pa_nil)) pa_nil)))) pa_nil))))))
      (pss_one (ps_ret (pe_op op_cat (pv 9) (pe_lst (pa_cons (pe_tup (pa_cons (pv 6) (pa_cons (pe_lst (pa_cons (pe_xv (pv 6)) (pa_cons (pe_xv (pv 6)) pa_nil))) (pa_cons (pe_lst (pa_cons (pv 0) (pa_cons (pv 1) pa_nil))) pa_nil))))
        (pa_cons (pe_tup (pa_cons (pv 7) (pa_cons (pe_lst (pa_cons (pe_xv (pv 7)) pa_nil)) (pa_cons (pe_lst (pa_cons (pv 0) pa_nil)) pa_nil))))
        (pa_cons (pe_tup (pa_cons (pv 8) (pa_cons (pe_lst (pa_cons (pe_xv (pv 8)) pa_nil)) (pa_cons (pe_lst (pa_cons (pv 0) pa_nil)) pa_nil)))) pa_nil)))))))))))))), ?_⟩
    refine sq_mk1 (by rfl) fun a0 d0 H0 s0 A0 E0 => ?_
    refine sq_mk1 (by rfl) fun a1 d1 H1 s1 A1 E1 => ?_
    refine sq_mk1 (by rfl) fun a2 d2 H2 s2 A2 E2 => ?_
    refine sq_mk1 (by rfl) fun a3 d3 H3 s3 A3 E3 => ?_
    refine sq_mk2 (by rfl) (by rfl) fun a4 d4 H4 s4 A4 E4 => ?_
    refine sq_mk1 (by rfl) fun a5 d5 H5 s5 A5 E5 => ?_
    refine sq_mk1 (by rfl) fun a6 d6 H6 s6 A6 E6 => ?_
    have t5 := s6
    have t4 := s5.trans t5
    have t3 := s4.trans t4
    have t2 := s3.trans t3
    have t1 := s2.trans t2
    have t0 := s1.trans t1
    have tt := s0.trans t0
    refine sq_lst ?_
    refine en1 (by rfl) (by rfl) M0.X M0.no (t0 _ _ A0) (t0 _ _ E0) (gv.same tt) fun q0 G0 u0 X0 => ?_
    have tt := tt.trans u0
    refine en1 (by rfl) (by rfl) M1.X M1.no (u0 _ _ (t1 _ _ A1)) (u0 _ _ (t1 _ _ E1)) (gv.same tt) fun q1 G1 u1 X1 => ?_
    have tt := tt.trans u1
    have v1 := u0.trans u1
    refine en1 (by rfl) (by rfl) M2.X M2.no (v1 _ _ (t2 _ _ A2)) (v1 _ _ (t2 _ _ E2)) (gv.same tt) fun q2 G2 u2 X2 => ?_
    have tt := tt.trans u2
    have v2 := v1.trans u2
    refine en1 (by rfl) (by rfl) M3.X M3.no (v2 _ _ (t3 _ _ A3)) (v2 _ _ (t3 _ _ E3)) (gv.same tt) fun q3 G3 u3 X3 => ?_
    have tt := tt.trans u3
    have v3 := v2.trans u3
    refine ⟨(by show 4 ≤ sizeLine; decide), fun l nl => ?_⟩
    have sl := Same.new (o := HO.lst [.ref q0, .ref q1, .ref q2, .ref q3]) nl
    have El : upd G3 l (.lst [.ref q0, .ref q1, .ref q2, .ref q3]) l = some (.lst [.ref q0, .ref q1, .ref q2, .ref q3]) := upd_same
    have Xs : Paired (Ent (upd G3 l (.lst [.ref q0, .ref q1, .ref q2, .ref q3]))) [c0, c1, c2, c3] [.ref q0, .ref q1, .ref q2, .ref q3] :=
      .cons (X0.same (((u1.trans u2).trans u3).trans sl)) (.cons (X1.same ((u2.trans u3).trans sl)) (.cons (X2.same (u3.trans sl)) (.cons (X3.same sl) .nil)))
    have tt := tt.trans sl
    have v4 := v3.trans sl
    generalize upd G3 l (.lst [.ref q0, .ref q1, .ref q2, .ref q3]) = G4 at El Xs tt v4 ⊢
    refine rt_cat (by rfl) ?_
    refine en2 (by decide +kernel) (by rfl) (by rfl) (by rfl) M4.X M4.no M4.no2 (v4 _ _ (t4 _ _ A4)) (v4 _ _ (t4 _ _ E4)) (gv.same tt) (gy.same tt) fun q4 G5 u5 X4 => ?_
    have tt := tt.trans u5
    have v5 := v4.trans u5
    refine en1 (by rfl) (by rfl) M5.X M5.no (v5 _ _ (t5 _ _ A5)) (v5 _ _ (t5 _ _ E5)) (gv.same tt) fun q5 G6 u6 X5 => ?_
    have tt := tt.trans u6
    have v6 := v5.trans u6
    refine en1 (by rfl) (by rfl) M6.X M6.no (v6 _ _ A6) (v6 _ _ E6) (gv.same tt) fun q6 G7 u7 X6 => ?_
    have tt := tt.trans u7
    refine ⟨(by show 3 ≤ sizeLine; decide), fun b nb => ?_⟩
    have sb := Same.new (o := HO.lst [.ref q4, .ref q5, .ref q6]) nb
    refine ⟨l, b, _, _, rfl, rfl, sb _ _ (u7 _ _ (u6 _ _ (u5 _ _ El))), upd_same, (by show 4 + 3 ≤ sizeLine; decide), fun p np => ?_⟩
    have sp := Same.new (o := HO.lst ([.ref q0, .ref q1, .ref q2, .ref q3] ++ [.ref q4, .ref q5, .ref q6])) np
    refine k p _ _ ((tt.trans sb).trans sp) upd_same ?_
    have z := sb.trans sp
    exact pair_app (Ents.same Xs (((u5.trans u6).trans u7).trans z)) (.cons (X4.same ((u6.trans u7).trans z)) (.cons (X5.same (u7.trans z)) (.cons (X6.same z) .nil)))
end
end Wp

set_option Elab.async false
set_option linter.all false
set_option maxRecDepth 100000
set_option maxHeartbeats 4000000
namespace Wp
open PySem L2 PySem.Spec PyProof.Rows
section
variable {P : Program} {w : World} {K : PySem.W.Frag} {mg : Str → Option Value} {base : Heap}
theorem scSe : FnScope ["_law_value", "_law_other", "_law_a", "_law_b", "_law_c", "_law_d", "_law_e", "_law_f", "_law_g", "_law_found"] ["_law_value", "_law_other"] (defScope sSecond) := ⟨rfl, rfl, rfl, by decide +kernel, rfl, by decide +kernel, by decide +kernel⟩
theorem ok_second {fa c0 c1 c2 c3 c4 c5 c6 i0 i1 i2 i3 i4 i5 i6 : Addr} {fd f0 f1 f2 f3 f4 f5 f6 : FuncData} (F : Fun K "_law_second" "_law_second" sSecond fa fd)
    (M0 : Mk1 P w K mg base "BadManner" "name" c0 i0 f0) (M1 : Mk1 P w K mg base "BadClient" "line" c1 i1 f1) (M2 : Mk2 P w K mg base "BadTravel" "kind" "field" c2 i2 f2) (M3 : Mk1 P w K mg base "BadReader" "kind" c3 i3 f3)
    (M4 : Mk1 P w K mg base "BadRow" "travel" c4 i4 f4) (M5 : Mk1 P w K mg base "Endless" "travel" c5 i5 f5) (M6 : Mk1 P w K mg base "TooLarge" "count" c6 i6 f6) :
    FnOk P w K mg base CX0 4 fa fd ["_law_value", "_law_other"] (spMade [c0, c1, c2, c3, c4, c5, c6]) := by
  refine F.ok scSe (fun vs H Q E h => ?_) (fun cdv A outer s H vs Q E hr h => ?_)
  · obtain ⟨v, y, dv, dy, rfl, _⟩ := h
    rfl
  · obtain ⟨v, y, dv, dy, rfl, gv, gy, k⟩ := h
    have h2 := hr.mono (j := 2) (by decide)
    refine ⟨_, (pss_cons (ps_set (i := 2) scSe.nd rfl (.inl rfl) (pe_m1 M0 h2 (by rfl) (pa_cons (pv 0) pa_nil)))
      (pss_cons (ps_set (i := 3) scSe.nd rfl (.inl rfl) (pe_m1 M1 h2 (by rfl) (pa_cons (pv 0) pa_nil)))
      (pss_cons (ps_set (i := 4) scSe.nd rfl (.inl rfl) (pe_m2 M2 h2 (by rfl) (pa_cons (pv 0) (pa_cons (pv 1) pa_nil))))
      (pss_cons (ps_set (i := 5) scSe.nd rfl (.inl rfl) (pe_m1 M3 h2 (by rfl) (pa_cons (pv 0) pa_nil)))
      (pss_cons (ps_set (i := 6) scSe.nd rfl (.inl rfl) (pe_m1 M4 h2 (by rfl) (pa_cons (pv 0) pa_nil)))
      (pss_cons (ps_set (i := 7) scSe.nd rfl (.inl rfl) (pe_m1 M5 h2 (by rfl) (pa_cons (pv 0) pa_nil)))
      (pss_cons (ps_set (i := 8) scSe.nd rfl (.inl rfl) (pe_m1 M6 h2 (by rfl) (pa_cons (pv 0) pa_nil)))
      (pss_cons (ps_set (i := 9) scSe.nd rfl (.inl rfl) (pe_lst (pa_cons (pe_tup (pa_cons (pv 2) (pa_cons (pe_lst (pa_cons (pe_xv (pv 2)) pa_nil)) (pa_cons (pe_lst (pa_cons (pv 0) pa_nil)) pa_nil)))) (pa_cons (pe_tup (pa_cons (pv 3) (pa_cons (pe_lst (pa_cons (pe_xv (pv 3)) pa_nil)) (pa_cons (pe_lst (pa_cons (pv 0) pa_nil)) pa_nil)))) (pa_cons (pe_tup (pa_cons (pv 4) (pa_cons (pe_lst (pa_cons (pe_xv (pv 4)) (pa_cons (pe_xv (pv 4)) pa_nil))) (pa_cons (pe_lst (pa_cons (pv 0) (pa_cons (pv 1) pa_nil))) pa_nil)))) pa_nil)))))
      (pss_cons (ps_set (i := 9) scSe.nd rfl (.inl rfl) (pe_op op_cat (pv 9) (pe_lst (pa_cons (pe_tup (pa_cons (pv 5) (pa_cons (pe_lst (pa_cons (pe_xv (pv 5)) pa_nil)) (pa_cons (pe_lst (pa_cons (pv 0) pa_nil)) pa_nil)))) (pa_cons (pe_tup (pa_cons (pv 6) (pa_cons (pe_lst (pa_cons (pe_xv (pv 6)) pa_nil)) (pa_cons (pe_lst (pa_cons (pv 0) pa_nil)) pa_nil)))) pa_nil)))))
      (pss_one (ps_ret (pe_op op_cat (pv 9) (pe_lst (pa_cons (pe_tup (pa_cons (pv 7) (pa_cons (pe_lst (pa_cons (pe_xv (pv 7)) pa_nil)) (pa_cons (pe_lst (pa_cons (pv 0) pa_nil)) pa_nil)))) (pa_cons (pe_tup (pa_cons (pv 8) (pa_cons (pe_lst (pa_cons (pe_xv (pv 8)) pa_nil)) (pa_cons (pe_lst (pa_cons (pv 0) pa_nil)) pa_nil)))) pa_nil))))))))))))))), ?_⟩
    refine sq_mk1 (by rfl) fun a0 d0 H0 s0 A0 E0 => ?_
    refine sq_mk1 (by rfl) fun a1 d1 H1 s1 A1 E1 => ?_
    refine sq_mk2 (by rfl) (by rfl) fun a2 d2 H2 s2 A2 E2 => ?_
    refine sq_mk1 (by rfl) fun a3 d3 H3 s3 A3 E3 => ?_
    refine sq_mk1 (by rfl) fun a4 d4 H4 s4 A4 E4 => ?_
    refine sq_mk1 (by rfl) fun a5 d5 H5 s5 A5 E5 => ?_
    refine sq_mk1 (by rfl) fun a6 d6 H6 s6 A6 E6 => ?_
    have t5 := s6
    have t4 := s5.trans t5
    have t3 := s4.trans t4
    have t2 := s3.trans t3
    have t1 := s2.trans t2
    have t0 := s1.trans t1
    have tt := s0.trans t0
    refine sq_lst ?_
    refine en1 (by rfl) (by rfl) M0.X M0.no (t0 _ _ A0) (t0 _ _ E0) (gv.same tt) fun q0 G0 u0 X0 => ?_
    have tt := tt.trans u0
    refine en1 (by rfl) (by rfl) M1.X M1.no (u0 _ _ (t1 _ _ A1)) (u0 _ _ (t1 _ _ E1)) (gv.same tt) fun q1 G1 u1 X1 => ?_
    have tt := tt.trans u1
    have v1 := u0.trans u1
    refine en2 (by decide +kernel) (by rfl) (by rfl) (by rfl) M2.X M2.no M2.no2 (v1 _ _ (t2 _ _ A2)) (v1 _ _ (t2 _ _ E2)) (gv.same tt) (gy.same tt) fun q2 G2 u2 X2 => ?_
    have tt := tt.trans u2
    have v2 := v1.trans u2
    refine ⟨(by show 3 ≤ sizeLine; decide), fun l nl => ?_⟩
    have sl := Same.new (o := HO.lst [.ref q0, .ref q1, .ref q2]) nl
    have El : upd G2 l (.lst [.ref q0, .ref q1, .ref q2]) l = some (.lst [.ref q0, .ref q1, .ref q2]) := upd_same
    have Xs : Paired (Ent (upd G2 l (.lst [.ref q0, .ref q1, .ref q2]))) [c0, c1, c2] [.ref q0, .ref q1, .ref q2] :=
      .cons (X0.same ((u1.trans u2).trans sl)) (.cons (X1.same (u2.trans sl)) (.cons (X2.same sl) .nil))
    have tt := tt.trans sl
    have v4 := v2.trans sl
    generalize upd G2 l (.lst [.ref q0, .ref q1, .ref q2]) = G4 at El Xs tt v4 ⊢
    refine sq_cat (by rfl) ?_
    refine en1 (by rfl) (by rfl) M3.X M3.no (v4 _ _ (t3 _ _ A3)) (v4 _ _ (t3 _ _ E3)) (gv.same tt) fun q3 G5 u3 X3 => ?_
    have tt := tt.trans u3
    have v5 := v4.trans u3
    refine en1 (by rfl) (by rfl) M4.X M4.no (v5 _ _ (t4 _ _ A4)) (v5 _ _ (t4 _ _ E4)) (gv.same tt) fun q4 G6 u4 X4 => ?_
    have tt := tt.trans u4
    have v6 := v5.trans u4
    refine ⟨(by show 2 ≤ sizeLine; decide), fun b nb => ?_⟩
    have sb := Same.new (o := HO.lst [.ref q3, .ref q4]) nb
    refine ⟨l, b, _, _, rfl, rfl, sb _ _ (u4 _ _ (u3 _ _ El)), upd_same, (by show 3 + 2 ≤ sizeLine; decide), fun l2 nl2 => ?_⟩
    have sp := Same.new (o := HO.lst ([.ref q0, .ref q1, .ref q2] ++ [.ref q3, .ref q4])) nl2
    have z := sb.trans sp
    have El2 : upd (upd G6 b (.lst [.ref q3, .ref q4])) l2 (.lst ([.ref q0, .ref q1, .ref q2] ++ [.ref q3, .ref q4])) l2 = some (.lst ([.ref q0, .ref q1, .ref q2] ++ [.ref q3, .ref q4])) := upd_same
    have Xs2 := pair_app (Ents.same Xs ((u3.trans u4).trans z)) (.cons (X3.same (u4.trans z)) (.cons (X4.same z) .nil))
    have tt := tt.trans z
    have v7 := v6.trans z
    generalize upd (upd G6 b (.lst [.ref q3, .ref q4])) l2 (.lst ([.ref q0, .ref q1, .ref q2] ++ [.ref q3, .ref q4])) = G7 at El2 Xs2 tt v7 ⊢
    refine rt_cat (by rfl) ?_
    refine en1 (by rfl) (by rfl) M5.X M5.no (v7 _ _ (t5 _ _ A5)) (v7 _ _ (t5 _ _ E5)) (gv.same tt) fun q5 G8 u5 X5 => ?_
    have tt := tt.trans u5
    have v8 := v7.trans u5
    refine en1 (by rfl) (by rfl) M6.X M6.no (v8 _ _ A6) (v8 _ _ E6) (gv.same tt) fun q6 G9 u6 X6 => ?_
    have tt := tt.trans u6
    refine ⟨(by show 2 ≤ sizeLine; decide), fun b2 nb2 => ?_⟩
    have sb2 := Same.new (o := HO.lst [.ref q5, .ref q6]) nb2
    refine ⟨l2, b2, _, _, rfl, rfl, sb2 _ _ (u6 _ _ (u5 _ _ El2)), upd_same, (by show 5 + 2 ≤ sizeLine; decide), fun p np => ?_⟩
    have sp2 := Same.new (o := HO.lst (([.ref q0, .ref q1, .ref q2] ++ [.ref q3, .ref q4]) ++ [.ref q5, .ref q6])) np
    have z2 := sb2.trans sp2
    refine k p _ _ (tt.trans z2) upd_same ?_
    exact pair_app (Ents.same Xs2 ((u5.trans u6).trans z2)) (.cons (X5.same (u6.trans z2)) (.cons (X6.same z2) .nil))
theorem scTh : FnScope ["_law_value", "_law_a", "_law_b", "_law_c", "_law_d", "_law_found"] ["_law_value"] (defScope sThird) := ⟨rfl, rfl, rfl, by decide +kernel, rfl, by decide +kernel, by decide +kernel⟩
theorem ok_third {fa c0 c1 c2 c3 c4 c5 c6 i0 i3 i4 i5 : Addr} {fd f0 f3 f4 f5 : FuncData} (F : Fun K "_law_third" "_law_third" sThird fa fd)
    (M0 : Mk1 P w K mg base "BadSaved" "line" c0 i0 f0) (M1 : Mk0 K mg "BadStanding" c1) (M2 : Mk0 K mg "BadPaper" c2) (M3 : Mk1 P w K mg base "BadComparer" "kind" c3 i3 f3)
    (M4 : Mk1 P w K mg base "BadChange" "at" c4 i4 f4) (M5 : Mk1 P w K mg base "BadName" "name" c5 i5 f5) (M6 : Mk0 K mg "Busy" c6) :
    FnOk P w K mg base CX0 4 fa fd ["_law_value"] (spMade1 [c0, c1, c2, c3, c4, c5, c6]) := by
  refine F.ok scTh (fun vs H Q E h => ?_) (fun cdv A outer s H vs Q E hr h => ?_)
  · obtain ⟨v, dv, rfl, _⟩ := h
    rfl
  · obtain ⟨v, dv, rfl, gv, k⟩ := h
    have h2 := hr.mono (j := 2) (by decide)
    refine ⟨_, (pss_cons (ps_set (i := 1) scTh.nd rfl (.inl rfl) (pe_m1 M0 h2 (by rfl) (pa_cons (pv 0) pa_nil)))
      (pss_cons (ps_set (i := 2) scTh.nd rfl (.inl rfl) (pe_m1 M3 h2 (by rfl) (pa_cons (pv 0) pa_nil)))
      (pss_cons (ps_set (i := 3) scTh.nd rfl (.inl rfl) (pe_m1 M4 h2 (by rfl) (pa_cons (pv 0) pa_nil)))
      (pss_cons (ps_set (i := 4) scTh.nd rfl (.inl rfl) (pe_m1 M5 h2 (by rfl) (pa_cons (pv 0) pa_nil)))
      (pss_cons (ps_set (i := 5) scTh.nd rfl (.inl rfl) (pe_lst (pa_cons (pe_tup (pa_cons (pv 1) (pa_cons (pe_lst (pa_cons (pe_xv (pv 1)) pa_nil)) (pa_cons (pe_lst (pa_cons (pv 0) pa_nil)) pa_nil)))) (pa_cons (pe_tup (pa_cons (pe_m0 M1 (by rfl)) (pa_cons (pe_lst pa_nil) (pa_cons (pe_lst pa_nil) pa_nil)))) (pa_cons (pe_tup (pa_cons (pe_m0 M2 (by rfl)) (pa_cons (pe_lst pa_nil) (pa_cons (pe_lst pa_nil) pa_nil)))) (pa_cons (pe_tup (pa_cons (pv 2) (pa_cons (pe_lst (pa_cons (pe_xv (pv 2)) pa_nil)) (pa_cons (pe_lst (pa_cons (pv 0) pa_nil)) pa_nil)))) pa_nil))))))
      (pss_one (ps_ret (pe_op op_cat (pv 5) (pe_lst (pa_cons (pe_tup (pa_cons (pv 3) (pa_cons (pe_lst (pa_cons (pe_xv (pv 3)) pa_nil)) (pa_cons (pe_lst (pa_cons (pv 0) pa_nil)) pa_nil)))) (pa_cons (pe_tup (pa_cons (pv 4) (pa_cons (pe_lst (pa_cons (pe_xv (pv 4)) pa_nil)) (pa_cons (pe_lst (pa_cons (pv 0) pa_nil)) pa_nil)))) (pa_cons (pe_tup (pa_cons (pe_m0 M6 (by rfl)) (pa_cons (pe_lst pa_nil) (pa_cons (pe_lst pa_nil) pa_nil)))) pa_nil)))))))))))), ?_⟩
    refine sq_mk1 (by rfl) fun a0 d0 H0 s0 A0 E0 => ?_
    refine sq_mk1 (by rfl) fun a3 d3 H3 s3 A3 E3 => ?_
    refine sq_mk1 (by rfl) fun a4 d4 H4 s4 A4 E4 => ?_
    refine sq_mk1 (by rfl) fun a5 d5 H5 s5 A5 E5 => ?_
    have t3 := s4.trans s5
    have t0 := s3.trans t3
    have tt := s0.trans t0
    refine sq_lst ?_
    refine en1 (by rfl) (by rfl) M0.X M0.no (t0 _ _ A0) (t0 _ _ E0) (gv.same tt) fun q0 G0 u0 X0 => ?_
    have tt := tt.trans u0
    refine en0 (C := c1) fun q1 G1 u1 X1 => ?_
    have tt := tt.trans u1
    have v1 := u0.trans u1
    refine en0 (C := c2) fun q2 G2 u2 X2 => ?_
    have tt := tt.trans u2
    have v2 := v1.trans u2
    refine en1 (by rfl) (by rfl) M3.X M3.no (v2 _ _ (t3 _ _ A3)) (v2 _ _ (t3 _ _ E3)) (gv.same tt) fun q3 G3 u3 X3 => ?_
    have tt := tt.trans u3
    have v3 := v2.trans u3
    refine ⟨(by show 4 ≤ sizeLine; decide), fun l nl => ?_⟩
    have sl := Same.new (o := HO.lst [.ref q0, .ref q1, .ref q2, .ref q3]) nl
    have El : upd G3 l (.lst [.ref q0, .ref q1, .ref q2, .ref q3]) l = some (.lst [.ref q0, .ref q1, .ref q2, .ref q3]) := upd_same
    have Xs : Paired (Ent (upd G3 l (.lst [.ref q0, .ref q1, .ref q2, .ref q3]))) [c0, c1, c2, c3] [.ref q0, .ref q1, .ref q2, .ref q3] :=
      .cons (X0.same (((u1.trans u2).trans u3).trans sl)) (.cons (X1.same ((u2.trans u3).trans sl)) (.cons (X2.same (u3.trans sl)) (.cons (X3.same sl) .nil)))
    have tt := tt.trans sl
    have v4 := v3.trans sl
    generalize upd G3 l (.lst [.ref q0, .ref q1, .ref q2, .ref q3]) = G4 at El Xs tt v4 ⊢
    refine rt_cat (by rfl) ?_
    refine en1 (by rfl) (by rfl) M4.X M4.no (v4 _ _ (s5 _ _ A4)) (v4 _ _ (s5 _ _ E4)) (gv.same tt) fun q4 G5 u5 X4 => ?_
    have tt := tt.trans u5
    have v5 := v4.trans u5
    refine en1 (by rfl) (by rfl) M5.X M5.no (v5 _ _ A5) (v5 _ _ E5) (gv.same tt) fun q5 G6 u6 X5 => ?_
    have tt := tt.trans u6
    refine en0 (C := c6) fun q6 G7 u7 X6 => ?_
    have tt := tt.trans u7
    refine ⟨(by show 3 ≤ sizeLine; decide), fun b nb => ?_⟩
    have sb := Same.new (o := HO.lst [.ref q4, .ref q5, .ref q6]) nb
    refine ⟨l, b, _, _, rfl, rfl, sb _ _ (u7 _ _ (u6 _ _ (u5 _ _ El))), upd_same, (by show 4 + 3 ≤ sizeLine; decide), fun p np => ?_⟩
    have sp := Same.new (o := HO.lst ([.ref q0, .ref q1, .ref q2, .ref q3] ++ [.ref q4, .ref q5, .ref q6])) np
    refine k p _ _ ((tt.trans sb).trans sp) upd_same ?_
    have z := sb.trans sp
    exact pair_app (Ents.same Xs (((u5.trans u6).trans u7).trans z)) (.cons (X4.same ((u6.trans u7).trans z)) (.cons (X5.same (u7.trans z)) (.cons (X6.same z) .nil)))
end
end Wp

set_option Elab.async false
set_option linter.all false
set_option maxRecDepth 100000
set_option maxHeartbeats 4000000
namespace Wp
open PySem L2 PySem.Spec PyProof.Rows
abbrev sClasses : Stmt := top 29
theorem boot_isi : bootBuiltins "isinstance" = some (.builtin "isinstance") := by decide +kernel
section
variable {K : PySem.W.Frag} {σ : L2.St} {H : Hp} {R : List V → Hp → Prop} {i : Nat} {e C D : Addr} {d : Option Addr} {b : Bool} {tr : TA}
theorem is1 (hi : σ[i]? = some (some (.ref e))) (T : ExcC K C) (ea : H e = some (exo e C d)) (ed : ∀ dx, d = some dx → ∃ fs, H dx = some (exd dx fs)) (kt : PySem.W.kitOne K (.ref C) (.ref D) = some b)
    (k : tr σ H fun xs H2 => R (.bl b :: xs) H2) : tCons (tCB (rIsx K) (tCons (tVar i) (tCons (tC (.ref D)) tNil))) tr σ H R :=
  ⟨_, hi, e, C, d, .ref D, .ref D, b, rfl, .own D, T, ea, ed, kt, k⟩
end
/-- classes(error): for each class whether the error is of it -/
def spCls (K : PySem.W.Frag) (cs : List Addr) : Sp := fun vs H Q _ => ∃ (e C : Addr) (d : Option Addr) (b : Nat → Bool), vs = [.ref e] ∧ ExcC K C ∧ H e = some (exo e C d) ∧ (∀ dx, d = some dx → ∃ fs, H dx = some (exd dx fs)) ∧
  (∀ j D, cs[j]? = some D → PySem.W.kitOne K (.ref C) (.ref D) = some (b j)) ∧
  ∀ (p : Addr) (H' : Hp), Same H H' → H' p = some (.lst ((List.range 21).map fun j => V.bl (b j))) → Q (.ref p) H'
section
variable {P : Program} {w : World} {K : PySem.W.Frag} {mg : Str → Option Value} {base : Heap}
theorem scC : FnScope ["_law_error", "_law_first_here"] ["_law_error"] (defScope sClasses) := ⟨rfl, rfl, rfl, by decide +kernel, rfl, by decide +kernel, by decide +kernel⟩
theorem ok_classes {fa c0 c1 c2 c3 c4 c5 c6 c7 c8 c9 c10 c11 c12 c13 c14 c15 c16 c17 c18 c19 c20 : Addr} {fd : FuncData} (F : Fun K "_law_classes" "_law_classes" sClasses fa fd) (hi : mg "isinstance" = none)
    (g0 : mg "BadField" = some (.ref c0)) (g1 : mg "BadKind" = some (.ref c1)) (g2 : mg "BadHouse" = some (.ref c2)) (g3 : mg "UnknownKind" = some (.ref c3)) (g4 : mg "UnknownField" = some (.ref c4)) (g5 : mg "BadWeb" = some (.ref c5)) (g6 : mg "BadText" = some (.ref c6)) (g7 : mg "BadManner" = some (.ref c7)) (g8 : mg "BadClient" = some (.ref c8)) (g9 : mg "BadTravel" = some (.ref c9)) (g10 : mg "BadReader" = some (.ref c10)) (g11 : mg "BadRow" = some (.ref c11)) (g12 : mg "Endless" = some (.ref c12)) (g13 : mg "TooLarge" = some (.ref c13)) (g14 : mg "BadSaved" = some (.ref c14)) (g15 : mg "BadStanding" = some (.ref c15)) (g16 : mg "BadPaper" = some (.ref c16)) (g17 : mg "BadComparer" = some (.ref c17)) (g18 : mg "BadChange" = some (.ref c18)) (g19 : mg "BadName" = some (.ref c19)) (g20 : mg "Busy" = some (.ref c20)) :
    FnOk P w K mg base CX0 1 fa fd ["_law_error"] (spCls K [c0, c1, c2, c3, c4, c5, c6, c7, c8, c9, c10, c11, c12, c13, c14, c15, c16, c17, c18, c19, c20]) := by
  refine F.ok scC (fun vs H Q E h => ?_) (fun cdv A outer s H vs Q E hr h => ?_)
  · obtain ⟨e, C, d, b, rfl, _⟩ := h
    rfl
  · obtain ⟨e, C, d, b, rfl, T, ea, ed, kt, k⟩ := h
    refine ⟨_, (pss_cons (ps_set (i := 1) scC.nd rfl (.inl rfl) (pe_lst (pa_cons (pe_callB call_isx (by rfl) hi boot_isi (pa_cons (pv 0) (pa_cons (pe_glob (v := .ref c0) rfl g0 rfl) pa_nil))) (pa_cons (pe_callB call_isx (by rfl) hi boot_isi (pa_cons (pv 0) (pa_cons (pe_glob (v := .ref c1) rfl g1 rfl) pa_nil))) (pa_cons (pe_callB call_isx (by rfl) hi boot_isi (pa_cons (pv 0) (pa_cons (pe_glob (v := .ref c2) rfl g2 rfl) pa_nil))) pa_nil)))))
      (pss_cons (ps_set (i := 1) scC.nd rfl (.inl rfl) (pe_op op_cat (pv 1) (pe_lst (pa_cons (pe_callB call_isx (by rfl) hi boot_isi (pa_cons (pv 0) (pa_cons (pe_glob (v := .ref c3) rfl g3 rfl) pa_nil))) (pa_cons (pe_callB call_isx (by rfl) hi boot_isi (pa_cons (pv 0) (pa_cons (pe_glob (v := .ref c4) rfl g4 rfl) pa_nil))) (pa_cons (pe_callB call_isx (by rfl) hi boot_isi (pa_cons (pv 0) (pa_cons (pe_glob (v := .ref c5) rfl g5 rfl) pa_nil))) pa_nil))))))
      (pss_cons (ps_set (i := 1) scC.nd rfl (.inl rfl) (pe_op op_cat (pv 1) (pe_lst (pa_cons (pe_callB call_isx (by rfl) hi boot_isi (pa_cons (pv 0) (pa_cons (pe_glob (v := .ref c6) rfl g6 rfl) pa_nil))) (pa_cons (pe_callB call_isx (by rfl) hi boot_isi (pa_cons (pv 0) (pa_cons (pe_glob (v := .ref c7) rfl g7 rfl) pa_nil))) (pa_cons (pe_callB call_isx (by rfl) hi boot_isi (pa_cons (pv 0) (pa_cons (pe_glob (v := .ref c8) rfl g8 rfl) pa_nil))) pa_nil))))))
      (pss_cons (ps_set (i := 1) scC.nd rfl (.inl rfl) (pe_op op_cat (pv 1) (pe_lst (pa_cons (pe_callB call_isx (by rfl) hi boot_isi (pa_cons (pv 0) (pa_cons (pe_glob (v := .ref c9) rfl g9 rfl) pa_nil))) (pa_cons (pe_callB call_isx (by rfl) hi boot_isi (pa_cons (pv 0) (pa_cons (pe_glob (v := .ref c10) rfl g10 rfl) pa_nil))) (pa_cons (pe_callB call_isx (by rfl) hi boot_isi (pa_cons (pv 0) (pa_cons (pe_glob (v := .ref c11) rfl g11 rfl) pa_nil))) pa_nil))))))
      (pss_cons (ps_set (i := 1) scC.nd rfl (.inl rfl) (pe_op op_cat (pv 1) (pe_lst (pa_cons (pe_callB call_isx (by rfl) hi boot_isi (pa_cons (pv 0) (pa_cons (pe_glob (v := .ref c12) rfl g12 rfl) pa_nil))) (pa_cons (pe_callB call_isx (by rfl) hi boot_isi (pa_cons (pv 0) (pa_cons (pe_glob (v := .ref c13) rfl g13 rfl) pa_nil))) (pa_cons (pe_callB call_isx (by rfl) hi boot_isi (pa_cons (pv 0) (pa_cons (pe_glob (v := .ref c14) rfl g14 rfl) pa_nil))) pa_nil))))))
      (pss_cons (ps_set (i := 1) scC.nd rfl (.inl rfl) (pe_op op_cat (pv 1) (pe_lst (pa_cons (pe_callB call_isx (by rfl) hi boot_isi (pa_cons (pv 0) (pa_cons (pe_glob (v := .ref c15) rfl g15 rfl) pa_nil))) (pa_cons (pe_callB call_isx (by rfl) hi boot_isi (pa_cons (pv 0) (pa_cons (pe_glob (v := .ref c16) rfl g16 rfl) pa_nil))) (pa_cons (pe_callB call_isx (by rfl) hi boot_isi (pa_cons (pv 0) (pa_cons (pe_glob (v := .ref c17) rfl g17 rfl) pa_nil))) pa_nil))))))
      (pss_one (ps_ret (pe_op op_cat (pv 1) (pe_lst (pa_cons (pe_callB call_isx (by rfl) hi boot_isi (pa_cons (pv 0) (pa_cons (pe_glob (v := .ref c18) rfl g18 rfl) pa_nil))) (pa_cons (pe_callB call_isx (by rfl) hi boot_isi (pa_cons (pv 0) (pa_cons (pe_glob (v := .ref c19) rfl g19 rfl) pa_nil))) (pa_cons (pe_callB call_isx (by rfl) hi boot_isi (pa_cons (pv 0) (pa_cons (pe_glob (v := .ref c20) rfl g20 rfl) pa_nil))) pa_nil))))))))))))), ?_⟩
    refine sq_lst ?_
    refine is1 (by rfl) T ea ed (kt 0 _ rfl) ?_
    refine is1 (by rfl) T ea ed (kt 1 _ rfl) ?_
    refine is1 (by rfl) T ea ed (kt 2 _ rfl) ?_
    refine ⟨(by show 3 ≤ sizeLine; decide), fun l1 n1 => ?_⟩
    have S1 := Same.new (o := HO.lst [.bl (b 0), .bl (b 1), .bl (b 2)]) n1
    have L1 : upd H l1 (.lst [.bl (b 0), .bl (b 1), .bl (b 2)]) l1 = some (.lst [.bl (b 0), .bl (b 1), .bl (b 2)]) := upd_same
    generalize upd H l1 (.lst [.bl (b 0), .bl (b 1), .bl (b 2)]) = H1 at S1 L1 ⊢
    refine sq_cat (by rfl) ?_
    refine is1 (by rfl) T (S1 _ _ ea) (fun dx z => let ⟨fs, y⟩ := ed dx z; ⟨fs, S1 _ _ y⟩) (kt 3 _ rfl) ?_
    refine is1 (by rfl) T (S1 _ _ ea) (fun dx z => let ⟨fs, y⟩ := ed dx z; ⟨fs, S1 _ _ y⟩) (kt 4 _ rfl) ?_
    refine is1 (by rfl) T (S1 _ _ ea) (fun dx z => let ⟨fs, y⟩ := ed dx z; ⟨fs, S1 _ _ y⟩) (kt 5 _ rfl) ?_
    refine ⟨(by show 3 ≤ sizeLine; decide), fun q1 m1 => ?_⟩
    have Z1 := Same.new (o := HO.lst [.bl (b 3), .bl (b 4), .bl (b 5)]) m1
    refine ⟨l1, q1, _, _, rfl, rfl, Z1 _ _ L1, upd_same, (by show 3 + 3 ≤ sizeLine; decide), fun l2 n2 => ?_⟩
    have Y1 := Same.new (o := HO.lst ([.bl (b 0), .bl (b 1), .bl (b 2)] ++ [.bl (b 3), .bl (b 4), .bl (b 5)])) n2
    have S2 := (S1.trans Z1).trans Y1
    have L2 : upd (upd H1 q1 (.lst [.bl (b 3), .bl (b 4), .bl (b 5)])) l2 (.lst ([.bl (b 0), .bl (b 1), .bl (b 2)] ++ [.bl (b 3), .bl (b 4), .bl (b 5)])) l2 = some (.lst ([.bl (b 0), .bl (b 1), .bl (b 2)] ++ [.bl (b 3), .bl (b 4), .bl (b 5)])) := upd_same
    generalize upd (upd H1 q1 (.lst [.bl (b 3), .bl (b 4), .bl (b 5)])) l2 (.lst ([.bl (b 0), .bl (b 1), .bl (b 2)] ++ [.bl (b 3), .bl (b 4), .bl (b 5)])) = H2 at S2 L2 ⊢
    refine sq_cat (by rfl) ?_
    refine is1 (by rfl) T (S2 _ _ ea) (fun dx z => let ⟨fs, y⟩ := ed dx z; ⟨fs, S2 _ _ y⟩) (kt 6 _ rfl) ?_
    refine is1 (by rfl) T (S2 _ _ ea) (fun dx z => let ⟨fs, y⟩ := ed dx z; ⟨fs, S2 _ _ y⟩) (kt 7 _ rfl) ?_
    refine is1 (by rfl) T (S2 _ _ ea) (fun dx z => let ⟨fs, y⟩ := ed dx z; ⟨fs, S2 _ _ y⟩) (kt 8 _ rfl) ?_
    refine ⟨(by show 3 ≤ sizeLine; decide), fun q2 m2 => ?_⟩
    have Z2 := Same.new (o := HO.lst [.bl (b 6), .bl (b 7), .bl (b 8)]) m2
    refine ⟨l2, q2, _, _, rfl, rfl, Z2 _ _ L2, upd_same, (by show 6 + 3 ≤ sizeLine; decide), fun l3 n3 => ?_⟩
    have Y2 := Same.new (o := HO.lst (([.bl (b 0), .bl (b 1), .bl (b 2)] ++ [.bl (b 3), .bl (b 4), .bl (b 5)]) ++ [.bl (b 6), .bl (b 7), .bl (b 8)])) n3
    have S3 := (S2.trans Z2).trans Y2
    have L3 : upd (upd H2 q2 (.lst [.bl (b 6), .bl (b 7), .bl (b 8)])) l3 (.lst (([.bl (b 0), .bl (b 1), .bl (b 2)] ++ [.bl (b 3), .bl (b 4), .bl (b 5)]) ++ [.bl (b 6), .bl (b 7), .bl (b 8)])) l3 = some (.lst (([.bl (b 0), .bl (b 1), .bl (b 2)] ++ [.bl (b 3), .bl (b 4), .bl (b 5)]) ++ [.bl (b 6), .bl (b 7), .bl (b 8)])) := upd_same
    generalize upd (upd H2 q2 (.lst [.bl (b 6), .bl (b 7), .bl (b 8)])) l3 (.lst (([.bl (b 0), .bl (b 1), .bl (b 2)] ++ [.bl (b 3), .bl (b 4), .bl (b 5)]) ++ [.bl (b 6), .bl (b 7), .bl (b 8)])) = H3 at S3 L3 ⊢
    refine sq_cat (by rfl) ?_
    refine is1 (by rfl) T (S3 _ _ ea) (fun dx z => let ⟨fs, y⟩ := ed dx z; ⟨fs, S3 _ _ y⟩) (kt 9 _ rfl) ?_
    refine is1 (by rfl) T (S3 _ _ ea) (fun dx z => let ⟨fs, y⟩ := ed dx z; ⟨fs, S3 _ _ y⟩) (kt 10 _ rfl) ?_
    refine is1 (by rfl) T (S3 _ _ ea) (fun dx z => let ⟨fs, y⟩ := ed dx z; ⟨fs, S3 _ _ y⟩) (kt 11 _ rfl) ?_
    refine ⟨(by show 3 ≤ sizeLine; decide), fun q3 m3 => ?_⟩
    have Z3 := Same.new (o := HO.lst [.bl (b 9), .bl (b 10), .bl (b 11)]) m3
    refine ⟨l3, q3, _, _, rfl, rfl, Z3 _ _ L3, upd_same, (by show 9 + 3 ≤ sizeLine; decide), fun l4 n4 => ?_⟩
    have Y3 := Same.new (o := HO.lst ((([.bl (b 0), .bl (b 1), .bl (b 2)] ++ [.bl (b 3), .bl (b 4), .bl (b 5)]) ++ [.bl (b 6), .bl (b 7), .bl (b 8)]) ++ [.bl (b 9), .bl (b 10), .bl (b 11)])) n4
    have S4 := (S3.trans Z3).trans Y3
    have L4 : upd (upd H3 q3 (.lst [.bl (b 9), .bl (b 10), .bl (b 11)])) l4 (.lst ((([.bl (b 0), .bl (b 1), .bl (b 2)] ++ [.bl (b 3), .bl (b 4), .bl (b 5)]) ++ [.bl (b 6), .bl (b 7), .bl (b 8)]) ++ [.bl (b 9), .bl (b 10), .bl (b 11)])) l4 = some (.lst ((([.bl (b 0), .bl (b 1), .bl (b 2)] ++ [.bl (b 3), .bl (b 4), .bl (b 5)]) ++ [.bl (b 6), .bl (b 7), .bl (b 8)]) ++ [.bl (b 9), .bl (b 10), .bl (b 11)])) := upd_same
    generalize upd (upd H3 q3 (.lst [.bl (b 9), .bl (b 10), .bl (b 11)])) l4 (.lst ((([.bl (b 0), .bl (b 1), .bl (b 2)] ++ [.bl (b 3), .bl (b 4), .bl (b 5)]) ++ [.bl (b 6), .bl (b 7), .bl (b 8)]) ++ [.bl (b 9), .bl (b 10), .bl (b 11)])) = H4 at S4 L4 ⊢
    refine sq_cat (by rfl) ?_
    refine is1 (by rfl) T (S4 _ _ ea) (fun dx z => let ⟨fs, y⟩ := ed dx z; ⟨fs, S4 _ _ y⟩) (kt 12 _ rfl) ?_
    refine is1 (by rfl) T (S4 _ _ ea) (fun dx z => let ⟨fs, y⟩ := ed dx z; ⟨fs, S4 _ _ y⟩) (kt 13 _ rfl) ?_
    refine is1 (by rfl) T (S4 _ _ ea) (fun dx z => let ⟨fs, y⟩ := ed dx z; ⟨fs, S4 _ _ y⟩) (kt 14 _ rfl) ?_
    refine ⟨(by show 3 ≤ sizeLine; decide), fun q4 m4 => ?_⟩
    have Z4 := Same.new (o := HO.lst [.bl (b 12), .bl (b 13), .bl (b 14)]) m4
    refine ⟨l4, q4, _, _, rfl, rfl, Z4 _ _ L4, upd_same, (by show 12 + 3 ≤ sizeLine; decide), fun l5 n5 => ?_⟩
    have Y4 := Same.new (o := HO.lst (((([.bl (b 0), .bl (b 1), .bl (b 2)] ++ [.bl (b 3), .bl (b 4), .bl (b 5)]) ++ [.bl (b 6), .bl (b 7), .bl (b 8)]) ++ [.bl (b 9), .bl (b 10), .bl (b 11)]) ++ [.bl (b 12), .bl (b 13), .bl (b 14)])) n5
    have S5 := (S4.trans Z4).trans Y4
    have L5 : upd (upd H4 q4 (.lst [.bl (b 12), .bl (b 13), .bl (b 14)])) l5 (.lst (((([.bl (b 0), .bl (b 1), .bl (b 2)] ++ [.bl (b 3), .bl (b 4), .bl (b 5)]) ++ [.bl (b 6), .bl (b 7), .bl (b 8)]) ++ [.bl (b 9), .bl (b 10), .bl (b 11)]) ++ [.bl (b 12), .bl (b 13), .bl (b 14)])) l5 = some (.lst (((([.bl (b 0), .bl (b 1), .bl (b 2)] ++ [.bl (b 3), .bl (b 4), .bl (b 5)]) ++ [.bl (b 6), .bl (b 7), .bl (b 8)]) ++ [.bl (b 9), .bl (b 10), .bl (b 11)]) ++ [.bl (b 12), .bl (b 13), .bl (b 14)])) := upd_same
    generalize upd (upd H4 q4 (.lst [.bl (b 12), .bl (b 13), .bl (b 14)])) l5 (.lst (((([.bl (b 0), .bl (b 1), .bl (b 2)] ++ [.bl (b 3), .bl (b 4), .bl (b 5)]) ++ [.bl (b 6), .bl (b 7), .bl (b 8)]) ++ [.bl (b 9), .bl (b 10), .bl (b 11)]) ++ [.bl (b 12), .bl (b 13), .bl (b 14)])) = H5 at S5 L5 ⊢
    refine sq_cat (by rfl) ?_
    refine is1 (by rfl) T (S5 _ _ ea) (fun dx z => let ⟨fs, y⟩ := ed dx z; ⟨fs, S5 _ _ y⟩) (kt 15 _ rfl) ?_
    refine is1 (by rfl) T (S5 _ _ ea) (fun dx z => let ⟨fs, y⟩ := ed dx z; ⟨fs, S5 _ _ y⟩) (kt 16 _ rfl) ?_
    refine is1 (by rfl) T (S5 _ _ ea) (fun dx z => let ⟨fs, y⟩ := ed dx z; ⟨fs, S5 _ _ y⟩) (kt 17 _ rfl) ?_
    refine ⟨(by show 3 ≤ sizeLine; decide), fun q5 m5 => ?_⟩
    have Z5 := Same.new (o := HO.lst [.bl (b 15), .bl (b 16), .bl (b 17)]) m5
    refine ⟨l5, q5, _, _, rfl, rfl, Z5 _ _ L5, upd_same, (by show 15 + 3 ≤ sizeLine; decide), fun l6 n6 => ?_⟩
    have Y5 := Same.new (o := HO.lst ((((([.bl (b 0), .bl (b 1), .bl (b 2)] ++ [.bl (b 3), .bl (b 4), .bl (b 5)]) ++ [.bl (b 6), .bl (b 7), .bl (b 8)]) ++ [.bl (b 9), .bl (b 10), .bl (b 11)]) ++ [.bl (b 12), .bl (b 13), .bl (b 14)]) ++ [.bl (b 15), .bl (b 16), .bl (b 17)])) n6
    have S6 := (S5.trans Z5).trans Y5
    have L6 : upd (upd H5 q5 (.lst [.bl (b 15), .bl (b 16), .bl (b 17)])) l6 (.lst ((((([.bl (b 0), .bl (b 1), .bl (b 2)] ++ [.bl (b 3), .bl (b 4), .bl (b 5)]) ++ [.bl (b 6), .bl (b 7), .bl (b 8)]) ++ [.bl (b 9), .bl (b 10), .bl (b 11)]) ++ [.bl (b 12), .bl (b 13), .bl (b 14)]) ++ [.bl (b 15), .bl (b 16), .bl (b 17)])) l6 = some (.lst ((((([.bl (b 0), .bl (b 1), .bl (b 2)] ++ [.bl (b 3), .bl (b 4), .bl (b 5)]) ++ [.bl (b 6), .bl (b 7), .bl (b 8)]) ++ [.bl (b 9), .bl (b 10), .bl (b 11)]) ++ [.bl (b 12), .bl (b 13), .bl (b 14)]) ++ [.bl (b 15), .bl (b 16), .bl (b 17)])) := upd_same
    generalize upd (upd H5 q5 (.lst [.bl (b 15), .bl (b 16), .bl (b 17)])) l6 (.lst ((((([.bl (b 0), .bl (b 1), .bl (b 2)] ++ [.bl (b 3), .bl (b 4), .bl (b 5)]) ++ [.bl (b 6), .bl (b 7), .bl (b 8)]) ++ [.bl (b 9), .bl (b 10), .bl (b 11)]) ++ [.bl (b 12), .bl (b 13), .bl (b 14)]) ++ [.bl (b 15), .bl (b 16), .bl (b 17)])) = H6 at S6 L6 ⊢
    refine rt_cat (by rfl) ?_
    refine is1 (by rfl) T (S6 _ _ ea) (fun dx z => let ⟨fs, y⟩ := ed dx z; ⟨fs, S6 _ _ y⟩) (kt 18 _ rfl) ?_
    refine is1 (by rfl) T (S6 _ _ ea) (fun dx z => let ⟨fs, y⟩ := ed dx z; ⟨fs, S6 _ _ y⟩) (kt 19 _ rfl) ?_
    refine is1 (by rfl) T (S6 _ _ ea) (fun dx z => let ⟨fs, y⟩ := ed dx z; ⟨fs, S6 _ _ y⟩) (kt 20 _ rfl) ?_
    refine ⟨(by show 3 ≤ sizeLine; decide), fun q6 m6 => ?_⟩
    have Z6 := Same.new (o := HO.lst [.bl (b 18), .bl (b 19), .bl (b 20)]) m6
    refine ⟨l6, q6, _, _, rfl, rfl, Z6 _ _ L6, upd_same, (by show 18 + 3 ≤ sizeLine; decide), fun l7 n7 => ?_⟩
    have Y6 := Same.new (o := HO.lst (((((([.bl (b 0), .bl (b 1), .bl (b 2)] ++ [.bl (b 3), .bl (b 4), .bl (b 5)]) ++ [.bl (b 6), .bl (b 7), .bl (b 8)]) ++ [.bl (b 9), .bl (b 10), .bl (b 11)]) ++ [.bl (b 12), .bl (b 13), .bl (b 14)]) ++ [.bl (b 15), .bl (b 16), .bl (b 17)]) ++ [.bl (b 18), .bl (b 19), .bl (b 20)])) n7
    exact k l7 _ ((S6.trans Z6).trans Y6) upd_same
end
end Wp

set_option Elab.async false
set_option linter.all false
set_option maxRecDepth 100000
set_option maxHeartbeats 4000000
namespace Wp
open PySem L2 PySem.Spec PyProof.Rows PySem.HandSPX
/-! ## an own error made by keywords -/
section
variable {M : Model} {prog : Program} {w : World} {A : Around} {E : Value → Shared → Prop} {R : Result → Shared → Prop} {h : Heap} {g : Array GenState} {d : Drawn} {t : Nat} {os : OsState}
variable {nm q : Str} {C N : Addr} {bs bm bmB : List Value} {hdct : Bool} {sn : List Str} {sub : List Value} {ab : Bool} {col : Option Bool} {dd : Option Addr} {k0 k1 k2 k3 k5 : Option Value} {B newId initId : String} {kw : List (Str × Value)}
theorem kw_check (FB : ExcBaseFacts B newId initId bmB) (tl : ∀ X : String, bm.contains (.type X) = bmB.contains (.type X)) {Q : Unit → Shared → Prop}
    (hC : h.get? C = some (excClassObj nm q C N bs bm hdct sn sub ab col dd k0 k1 k2 k3 k5 newId)) (hq : Q () ⟨h, g, d, t, os⟩) :
    wpAny M A (checkBuiltinCall newId ⟨[.ref C], kw⟩) Q E ⟨h, g, d, t, os⟩ := by
  have inB : (Value.ref C :: bm).contains (.type B) = true := by
    rw [List.contains_cons, tl, FB.hasB]
    exact Bool.or_true _
  have ns := FB.noStar
  simp only [checkBuiltinCall, FB.newKind, FB.newSplit, FB.newRow]
  repeat (first
    | refine wpAny_loadPart_at hC ?_
    | (refine wpAny_isSubtype_exc hC ?_; rw [inB])
    | refine wpAny_staticBase_exc hC ?_
    | refine wpAny_madeBy_exc hC ?_
    | simp only [bne_self_eq_false, Bool.false_eq_true, if_false]
    | wp_step)
  exact hq
theorem kw_new (FB : ExcBaseFacts B newId initId bmB) (tl : ∀ X : String, bm.contains (.type X) = bmB.contains (.type X))
    (hC : h.get? C = some (excClassObj nm q C N bs bm hdct sn sub ab col dd k0 k1 k2 k3 k5 newId))
    (hq : R (.ok (.ret (.ref (h.objs.size + 1)))) ⟨(h.push (PySem.W.kdv_tup [])).push (excO C h.objs.size), g, d, t, os⟩) :
    codeAny (model prog w) A (.builtin newId ⟨[.ref C], kw⟩) R ⟨h, g, d, t, os⟩ := by
  have nd := FB.ends
  have inB : (Value.ref C :: bm).contains (.type B) = true := by
    rw [List.contains_cons, tl, FB.hasB]
    exact Bool.or_true _
  have notA : (Value.ref C :: bm).contains (.type "AttributeError") = false := by
    rw [List.contains_cons, tl, FB.noAttr]
    rfl
  have notN : (Value.ref C :: bm).contains (.type "NameError") = false := by
    rw [List.contains_cons, tl, FB.noName]
    rfl
  have h0 : ([] : List Value).length ≤ sizeLine := Nat.zero_le _
  apply codeAny_builtinAt FB.entry
  unfold Builtin.«BaseException.__new__»
  apply PySem.wpAt_bind
  show PySem.wpAt _ _ _ (stack >>= _) _ _ _
  apply PySem.wpAt_bind
  refine PySem.wpAt_stack fun p below => ?_
  apply PySem.wpAt_of_wpAny
  wp_walk
  apply PySem.wpAt_of_wpAny
  rw [FB.owner]
  repeat (first
    | with_reducible refine wpAny_madeHere_exc FB.canon hC ?_
    | with_reducible refine wpAny_loadPart_at hC ?_
    | (with_reducible refine wpAny_isSubtype_exc hC ?_; first | rw [inB] | rw [notA] | rw [notN])
    | wp_step)
  show R _ _
  rw [Heap.size_push]
  exact hq
theorem kw_type (FB : ExcBaseFacts B newId initId bmB) (tl : ∀ X : String, bm.contains (.type X) = bmB.contains (.type X)) {fI : Addr} {Q : Fin → Shared → Prop}
    (hC : h.get? C = some (excClassObj nm q C N bs bm hdct sn sub ab col dd k0 k1 k2 k3 k5 newId))
    (hi : PySem.W.Looks (model prog w) h (typeLookup (.ref C) "__init__") (some (.ref fI))) (hb : ∀ self, PySem.W.Looks (model prog w) h (bindSpecial (.ref fI) self) (.ref fI, [self]))
    (hq : codeAny (model prog w) A (.call (.ref fI) ⟨[.ref (h.objs.size + 1)], kw⟩)
      (fun r s' => match r with
        | .ok (.ret v) => v = .none ∧ Q (.done (.ret (.ref (h.objs.size + 1)))) s'
        | .ok _ => False
        | .error e => E e s') ⟨(h.push (PySem.W.kdv_tup [])).push (excO C h.objs.size), g, d, t, os⟩) :
    wpAny (model prog w) A (Builtin.«type.__call__» ⟨[.ref C], kw⟩) Q E ⟨h, g, d, t, os⟩ := by
  repeat (first
    | with_reducible refine wpAny_loadPart_at hC ?_
    | with_reducible refine wpAny_madeBy_exc hC ?_
    | wp_step)
  refine codeAny_call_builtin_code (Code.quiet_builtin _ FB.quiet) (kw_check FB tl hC ?_)
  refine kw_new FB tl hC ?_
  show wpAny _ _ _ _ _ _
  have keep : ∀ b o, h.get? b = some o → ((h.push (PySem.W.kdv_tup [])).push (excO C h.objs.size)).get? b = some o :=
    fun b o e => Heap.get?_push_of_some _ (Heap.get?_push_of_some _ e)
  have hC2 := keep _ _ hC
  have there : ((h.push (PySem.W.kdv_tup [])).push (excO C h.objs.size)).get? (h.objs.size + 1) = some (excO C h.objs.size) := by heap_get
  have self : (Value.ref C :: bm).contains (.ref C) = true := by simp
  have i2 := hi.keeps keep
  have b2 := (hb (.ref (h.objs.size + 1))).keeps keep
  unfold isInstance
  repeat (first
    | with_reducible refine wpAny_loadPart_at there ?_
    | (with_reducible refine wpAny_isSubtype_exc hC2 ?_; rw [self])
    | wp_step)
  show wpAny _ _ (typeLookup (.ref C) _) _ _ _
  refine i2.at ?_
  apply wpAny_holding
  apply wpAny_bind
  refine b2.at ?_
  apply wpAny_bind
  apply wpAny_call
  refine codeAny_mono hq ?_
  intro r s2 z
  rcases r with e | (v | _ | _ | _) <;> first | exact z | exact z.elim | skip
  obtain ⟨rfl, z⟩ := z
  first
    | exact wpAny_pure (wpAny_pure z)
    | (wp_walk; exact z)
theorem kw_call (FB : ExcBaseFacts B newId initId bmB) (tl : ∀ X : String, bm.contains (.type X) = bmB.contains (.type X)) {fI : Addr}
    (hC : h.get? C = some (excClassObj nm q C N bs bm hdct sn sub ab col dd k0 k1 k2 k3 k5 newId))
    (hi : PySem.W.Looks (model prog w) h (typeLookup (.ref C) "__init__") (some (.ref fI))) (hb : ∀ self, PySem.W.Looks (model prog w) h (bindSpecial (.ref fI) self) (.ref fI, [self]))
    (hq : codeAny (model prog w) (A.under (.builtin "type.__call__" ⟨[.ref C], kw⟩)) (.call (.ref fI) ⟨[.ref (h.objs.size + 1)], kw⟩) (PySem.W.InitBack (h.objs.size + 1) R)
      ⟨(h.push (PySem.W.kdv_tup [])).push (excO C h.objs.size), g, d, t, os⟩) :
    codeAny (model prog w) A (.call (.ref C) ⟨[], kw⟩) R ⟨h, g, d, t, os⟩ := by
  have f1 := tc_lookup
  have f2 := tc_bind (.ref C)
  have ty : (⟨h, g, d, t, os⟩ : Shared).TypeIs (.ref C) "type" := ⟨_, hC, rfl⟩
  apply codeAny_of_tree
  show wpAny _ _ (callAny (.ref C) _) _ _ _
  repeat (any_goals (first
    | assumption
    | with_reducible refine wpAny_loadPart_at hC ?_
    | wp_step))
  refine ⟨rfl, ?_⟩
  refine codeAny_call_builtin_at (Code.quiet_builtin _ (by decide +kernel)) entry_typeCall (wpAny_check_type_call_sub hC (kw_type FB tl hC hi hb ?_))
  refine codeAny_mono hq ?_
  intro r s2 z
  rcases r with e | (v | _ | _ | _) <;> exact z
end
end Wp

set_option Elab.async false
set_option linter.all false
set_option maxRecDepth 100000
set_option maxHeartbeats 4000000
namespace Wp
open PySem L2 PySem.Spec PyProof.Rows
/-- C(k = v, ..), the keywords in the order that is the parameters' turned round -/
def tMkk (C : Addr) (sp : Sp) (tk : TA) : TE := fun σ H Q => tk σ H fun zs H1 => ∀ a, H1 a = none →
  sp (.ref a :: zs.reverse) (upd H1 a (exo a C none)) (fun v H2 => v = .non ∧ Q (.ref a) H2) (fun _ _ _ => False)
theorem vals_rev {xs : List V} {us : List Value} (r : Vals xs us) : Vals xs.reverse us.reverse := by
  induction r with
  | nil => exact .nil
  | cons h t ih =>
    rw [List.reverse_cons, List.reverse_cons]
    exact ih.append (.cons h .nil)
section
variable {X : Cx} {CX : CXT} {x : Str} {C fI : Addr} {k : Nat} {fd : FuncData} {ps ks : List Str} {sp : Sp} {kws : List Keyword} {tk : TA} {p pos : Pos}
theorem run_mkk {pins : List (Addr × Obj)} {σ : L2.St} {H : Hp} {s : Shared} {Q : VK} {ws : List Value} {zs : List V} (T : OexC X.K C) (iC : PySem.W.findIn X.K (.ref C) "__init__" = some (some (.ref fI)))
    (tI : PySem.W.typeIn X.K (.ref fI) = some (.type "function")) (FI : FnOk X.prog X.w X.K X.mg X.base CX k fI fd ps sp) (hr : Room (k + 1) X.A)
    (hb : ∀ (s : Shared) (u : Value) (vs : List Value), vs.length = ks.length → BindsTo s fd ⟨[u], ks.zip vs⟩ (ps.zip (u :: vs.reverse))) (hx : Passes CX X (fun _ _ _ => False))
    (I : Inv X pins σ H s) (r : Vals zs ws) (hz : zs.length = ks.length)
    (h : ∀ a, H a = none → sp (.ref a :: zs.reverse) (upd H a (exo a C none)) (fun v H2 => v = .non ∧ Q (.ref a) H2) (fun _ _ _ => False)) :
    wpAny (model X.prog X.w) X.A (call (.ref C) [] (ks.zip ws)) (EP X pins σ Q) X.xe s := by
  obtain ⟨nm, q, N, bs, bm, sn, sub, ab, col, dd, k0, k1, k2, k3, k5, hC, hbm⟩ := T.cls
  obtain ⟨hp, g, dr, t, os⟩ := s
  have hsz : hp.objs.size ≤ hp.objs.size + 1 := Nat.le_succ _
  have hq := h (hp.objs.size + 1) (I.hok.fresh hsz)
  have keep : ∀ b o, hp.get? b = some o → ((hp.push (PySem.W.kdv_tup [])).push (PySem.HandSPX.excO C hp.objs.size)).get? b = some o :=
    fun b o z => Heap.get?_push_of_some _ (Heap.get?_push_of_some _ z)
  have there : ((hp.push (PySem.W.kdv_tup [])).push (PySem.HandSPX.excO C hp.objs.size)).get? (hp.objs.size + 1) = some (PySem.HandSPX.excO C hp.objs.size) := by heap_get
  have I2 := I.laid (t' := t) (a := hp.objs.size + 1) (o := exo (hp.objs.size + 1) C none) keep hsz (exo_ok there)
  have r2 : Vals (V.ref (hp.objs.size + 1) :: zs.reverse) (Value.ref (hp.objs.size + 1) :: ws.reverse) := .cons rfl (vals_rev r)
  have b2 := hb ⟨(hp.push (PySem.W.kdv_tup [])).push (PySem.HandSPX.excO C hp.objs.size), g, dr, t, os⟩ (Value.ref (hp.objs.size + 1)) ws (by rw [← r.length]; exact hz)
  apply wpAny_call
  refine kw_call F.excBase_ValueError (fun Y => PySem.HandSPX.refsVE_contains Y bm hbm) (I.kIn _ _ hC) (PySem.W.looks_findIn I.kIn iC) (fun self => PySem.W.bind_fn I.kIn self tI) ?_
  refine codeAny_mono (FI.run _ X.stack _ _ ⟨[Value.ref (hp.objs.size + 1)], ks.zip ws⟩ (Value.ref (hp.objs.size + 1) :: ws.reverse) _ _ (fun _ _ _ => False) (hr.make C [] (ks.zip ws)) (I2.env0.make C [] (ks.zip ws)) b2 r2 hq) ?_
  intro y s2 hy
  cases y with
  | error er => exact hx pins σ _ _ er s2 I2 hy
  | ok fl =>
    cases fl with
    | ret u =>
      obtain ⟨v, H2, os2, bare2, un2, hok2, rv, ev, q2⟩ := hy
      rw [ev] at rv
      exact ⟨rv, I2.after ⟨.ref (hp.objs.size + 1), H2, os2, bare2, un2, hok2, rfl, q2⟩⟩
    | next => exact hy.elim
    | brk => exact hy.elim
    | cont => exact hy.elim
theorem pe_mkk (T : OexC X.K C) (iC : PySem.W.findIn X.K (.ref C) "__init__" = some (some (.ref fI))) (tI : PySem.W.typeIn X.K (.ref fI) = some (.type "function")) (FI : FnOk X.prog X.w X.K X.mg X.base CX k fI fd ps sp)
    (hr : Room (k + 1) X.A) (hb : ∀ (s : Shared) (u : Value) (vs : List Value), vs.length = ks.length → BindsTo s fd ⟨[u], ks.zip vs⟩ (ps.zip (u :: vs.reverse))) (hx : Passes CX X (fun _ _ _ => False)) (hg : Gl X x) (hm : X.mg x = some (.ref C))
    (hkw : PK X kws tk) (hlen : ∀ σ H R, tk σ H R → tk σ H fun zs H1 => zs.length = ks.length ∧ R zs H1)
    (hall : (backToKw pos (keywordEach kws X.env)).all (·.1.isSome) = true := by rfl) (hks : (backToKw pos (keywordEach kws X.env)).filterMap (·.1) = ks := by rfl) (hdb : (x == ("__debug__" : Str)) = false := by decide)
    (hpl : ((backTo pos (starEach [] X.env)).any (·.1) || (backToKw pos (keywordEach kws X.env)).any (·.1.isNone)) = false := by rfl) :
    PE X (.Call (.Name x p) [] kws pos) (tMkk C sp tk) := by
  constructor
  intro pins s σ H Q I h
  apply wpAny_Call_Name_kw
  refine ld_glob I hg hm ?_ hdb
  refine PySem.W.callWith_KW0 (h₀ := X.base) I.ok.mod.kin T.kC hall ?_ hpl
  refine thn (hkw.run pos pins s σ H _ I (hlen _ _ _ h)) ?_
  intro ws s2 hh
  obtain ⟨zs, H2, I2, rz, hz, q⟩ := hh
  refine ⟨I2.kIn, ?_⟩
  rw [hks]
  exact run_mkk T iC tI FI hr hb hx I2 rz hz q
end
end Wp

set_option Elab.async false
set_option linter.all false
set_option maxRecDepth 100000
set_option maxHeartbeats 4000000
namespace Wp
open PySem L2 PySem.Spec PyProof.Rows
abbrev sByN : Stmt := top 33
abbrev sCau : Stmt := top 34
theorem dp_all {K : PySem.W.Frag} {H : Hp} {vs : List V} {ds : List PyData} (g : Paired (Gv H) vs ds) : DpAll K H vs ds := by
  induction g with
  | nil => exact .nil
  | cons h t ih => exact .cons h.dp ih
theorem sm_all {H : Hp} {vs : List V} {ds : List PyData} (g : Paired (Gv H) vs ds) : (∀ d ∈ ds, Sm d) ∧ ds.length = vs.length := by
  induction g with
  | nil => exact ⟨fun d hd => (by cases hd), rfl⟩
  | cons h t ih =>
    refine ⟨fun d hd => ?_, by rw [List.length_cons, List.length_cons, ih.2]⟩
    cases hd with
    | head => exact h.sm
    | tail _ hd => exact ih.1 d hd
theorem lk_a {f g : Str} {v y : V} (h : (f == g) = false) : List.lookup f [(g, v), (f, y)] = some y := by simp [List.lookup, h]
theorem lk_b {g : Str} {v : V} {l : List (Str × V)} : List.lookup g ((g, v) :: l) = some v := by simp [List.lookup]
/-- two lists of the same few plain values have one repr -/
theorem same_ok {K : PySem.W.Frag} {H : Hp} {a b : Addr} {vs : List V} {ds : List PyData} {Q : VK} {E : XK} (ha : H a = some (.lst vs)) (hb : H b = some (.lst vs)) (g : Paired (Gv H) vs ds) (hl : vs.length ≤ 6) (q : Q (.bl true) H) : spSame K [.ref a, .ref b] H Q E := by
  obtain ⟨s1, s2⟩ := sm_all g
  obtain ⟨e1, e2, e3, e4⟩ := sm_list ds s1 (by omega)
  exact ⟨a, b, .list ds, rfl, .lst (SqL.of ha) (dp_all g), .lst (SqL.of hb) (dp_all g), e1, e2, by omega, e4, q⟩
section
variable {K : PySem.W.Frag} {σ : L2.St} {H : Hp} {R : List V → Hp → Prop} {D : Ends} {i j j2 : Nat} {a d C : Addr} {f g : Str} {v y : V} {fs : List (Str × V)} {tr : TA} {t2 : TS}
theorem xv1 (hi : σ[i]? = some (some (.ref a))) (T : ExcC K C) (no : PySem.W.findIn K (.ref C) f = some none) (A : H a = some (exo a C (some d))) (E : H d = some (exd d fs)) (lk : fs.lookup f = some v)
    (k : tr σ H fun xs H2 => R (v :: xs) H2) : tCons (tXv K f (tVar i)) tr σ H R := ⟨_, hi, a, C, d, fs, v, rfl, T, no, A, E, lk, k⟩
theorem va1 (hi : σ[i]? = some (some v)) (k : tr σ H fun xs H2 => R (v :: xs) H2) : tCons (tVar i) tr σ H R := ⟨_, hi, k⟩
theorem sq_mkk1 (hj : σ[j]? = some (some v)) (k : ∀ a d H', Same H H' → H' a = some (exo a C (some d)) → H' d = some (exd d [(f, v)]) → t2 D (σ.set i (some (.ref a))) H') :
    tSeq (tAsg (tMkk C (spI1 C f) (tCons (tVar j) tNil)) (gName i)) t2 D σ H :=
  ⟨v, hj, (mkx1 (H := H) (Q := fun x H' => t2 D (σ.set i (some x)) H') fun a d na nd ne => k a d _ (exH_same na nd) exH_a (exH_d ne)).2⟩
theorem sq_mkk2 (hj : σ[j]? = some (some v)) (hj2 : σ[j2]? = some (some y)) (k : ∀ a d H', Same H H' → H' a = some (exo a C (some d)) → H' d = some (exd d [(g, v), (f, y)]) → t2 D (σ.set i (some (.ref a))) H') :
    tSeq (tAsg (tMkk C (spI2 C f g) (tCons (tVar j) (tCons (tVar j2) tNil))) (gName i)) t2 D σ H :=
  ⟨v, hj, y, hj2, (mkx2 (H := H) (Q := fun x H' => t2 D (σ.set i (some x)) H') fun a d na nd ne => k a d _ (exH_same na nd) exH_a (exH_d ne)).2⟩
end
/-- by_names(value, other), caught(value, other): True -/
def spYes2 : Sp := fun vs H Q _ => ∃ (v y : V) (dv dy : PyData), vs = [v, y] ∧ Gv H v dv ∧ Gv H y dy ∧ ∀ H', Same H H' → Q (.bl true) H'
/-- keywords for an __init__ -/
def KwB (fd : FuncData) (ps ks : List Str) : Prop := ∀ (s : Shared) (u : Value) (vs : List Value), vs.length = ks.length → BindsTo s fd ⟨[u], ks.zip vs⟩ (ps.zip (u :: vs.reverse))
section
variable {P : Program} {w : World} {K : PySem.W.Frag} {mg : Str → Option Value} {base : Heap}
theorem scB : FnScope ["_law_value", "_law_other", "_law_a", "_law_b", "_law_c", "_law_d", "_law_told"] ["_law_value", "_law_other"] (defScope sByN) := ⟨rfl, rfl, rfl, by decide +kernel, rfl, by decide +kernel, by decide +kernel⟩
theorem ok_by {fa fS ca ia cb ib cc ic cd id : Addr} {fd fdS fa' fb' fc' fd' : FuncData} (F : Fun K "_law_by_names" "_law_by_names" sByN fa fd)
    (Ma : Mk2 P w K mg base "UnknownField" "kind" "name" ca ia fa') (ka : KwB fa' ["self", "kind", "name"] ["name", "kind"]) (Mb : Mk2 P w K mg base "BadTravel" "kind" "field" cb ib fb') (kb : KwB fb' ["self", "kind", "field"] ["field", "kind"])
    (Mc : Mk1 P w K mg base "TooLarge" "count" cc ic fc') (kc : KwB fc' ["self", "count"] ["count"]) (Md : Mk1 P w K mg base "BadRow" "travel" cd id fd') (kd : KwB fd' ["self", "travel"] ["travel"])
    (GS : GOk P w K mg base CX0 1 fS fdS ["_law_one", "_law_other"] (spSame K)) (bS : Binds K fdS ["_law_one", "_law_other"] []) (mS : mg "_law_same" = some (.ref fS)) (kS : PySem.W.keepIn K (.ref fS) = true) :
    GOk P w K mg base CX0 4 fa fd ["_law_value", "_law_other"] spYes2 := by
  refine gok_of F scB (fun vs H Q E h => ?_) (fun cdv A outer s H vs Q E hG hr h => ?_)
  · obtain ⟨v, y, dv, dy, rfl, _⟩ := h
    rfl
  · obtain ⟨v, y, dv, dy, rfl, gv, gy, k⟩ := h
    have h2 := hr.mono (j := 2) (by decide)
    have h1 := hr.mono (j := 1) (by decide)
    refine ⟨_, pss_cons (ps_set (i := 2) scB.nd rfl (.inl rfl) (pe_mkk Ma.T Ma.iC Ma.tI Ma.FI h2 ka pass0 (by rfl) Ma.gC (pk_cons (pv 0) (pk_cons (pv 1) pk_nil)) (fun σ H R ⟨v, hv, y, hy, r⟩ => ⟨v, hv, y, hy, rfl, r⟩)))
      (pss_cons (ps_set (i := 3) scB.nd rfl (.inl rfl) (pe_mkk Mb.T Mb.iC Mb.tI Mb.FI h2 kb pass0 (by rfl) Mb.gC (pk_cons (pv 0) (pk_cons (pv 1) pk_nil)) (fun σ H R ⟨v, hv, y, hy, r⟩ => ⟨v, hv, y, hy, rfl, r⟩)))
      (pss_cons (ps_set (i := 4) scB.nd rfl (.inl rfl) (pe_mkk Mc.T Mc.iC Mc.tI Mc.FI h2 kc pass0 (by rfl) Mc.gC (pk_cons (pv 0) pk_nil) (fun σ H R ⟨v, hv, r⟩ => ⟨v, hv, rfl, r⟩)))
      (pss_cons (ps_set (i := 5) scB.nd rfl (.inl rfl) (pe_mkk Md.T Md.iC Md.tI Md.FI h2 kd pass0 (by rfl) Md.gC (pk_cons (pv 1) pk_nil) (fun σ H R ⟨v, hv, r⟩ => ⟨v, hv, rfl, r⟩)))
      (pss_cons (ps_set (i := 6) scB.nd rfl (.inl rfl) (pe_lst (pa_cons (pe_xv (pv 2)) (pa_cons (pe_xv (pv 2)) (pa_cons (pe_xv (pv 3)) (pa_cons (pe_xv (pv 3)) (pa_cons (pe_xv (pv 4)) (pa_cons (pe_xv (pv 5)) pa_nil))))))))
      (pss_one (ps_ret (pe_callG hG GS h1 (by rfl) mS kS bS pass0 (pa_cons (pv 6) (pa_cons (pe_lst (pa_cons (pv 1) (pa_cons (pv 0) (pa_cons (pv 1) (pa_cons (pv 0) (pa_cons (pv 0) (pa_cons (pv 1) pa_nil))))))) pa_nil))))))))), ?_⟩
    have n1 : ("kind" == ("name" : Str)) = false := by decide +kernel
    have n2 : (("kind" : Str) == "field") = false := by decide +kernel
    refine sq_mkk2 (by rfl) (by rfl) fun a0 d0 H0 s0 A0 E0 => ?_
    refine sq_mkk2 (by rfl) (by rfl) fun a1 d1 H1 s1 A1 E1 => ?_
    refine sq_mkk1 (by rfl) fun a2 d2 H2 s2 A2 E2 => ?_
    refine sq_mkk1 (by rfl) fun a3 d3 H3 s3 A3 E3 => ?_
    have t1 := s2.trans s3
    have t0 := s1.trans t1
    have tt := s0.trans t0
    refine sq_lst ?_
    refine xv1 (by rfl) Ma.X Ma.no (t0 _ _ A0) (t0 _ _ E0) (lk_a n1) ?_
    refine xv1 (by rfl) Ma.X Ma.no2 (t0 _ _ A0) (t0 _ _ E0) lk_b ?_
    refine xv1 (by rfl) Mb.X Mb.no (t1 _ _ A1) (t1 _ _ E1) (lk_a n2) ?_
    refine xv1 (by rfl) Mb.X Mb.no2 (t1 _ _ A1) (t1 _ _ E1) lk_b ?_
    refine xv1 (by rfl) Mc.X Mc.no (s3 _ _ A2) (s3 _ _ E2) lk_b ?_
    refine xv1 (by rfl) Md.X Md.no A3 E3 lk_b ?_
    refine ⟨(by show 6 ≤ sizeLine; decide), fun l nl => ?_⟩
    have u1 := Same.new (o := HO.lst [y, v, y, v, v, y]) nl
    refine ⟨_, rfl, _, rfl, _, rfl, _, rfl, _, rfl, _, rfl, _, rfl, (by show 6 ≤ sizeLine; decide), fun m nm => ?_⟩
    have u2 := Same.new (o := HO.lst [y, v, y, v, v, y]) nm
    have tt := (tt.trans u1).trans u2
    have g1 := gv.same tt
    have g2 := gy.same tt
    exact same_ok (E := L2.E0) (u2 _ _ upd_same) upd_same (.cons g2 (.cons g1 (.cons g2 (.cons g1 (.cons g1 (.cons g2 .nil)))))) (by show 6 ≤ 6; decide) (k _ tt)
end
end Wp

set_option Elab.async false
set_option linter.all false
set_option maxRecDepth 100000
set_option maxHeartbeats 4000000
namespace Wp
open PySem L2 PySem.Spec PyProof.Rows
/-- X() for a raise, X without an own __init__ -/
theorem pmk_ex0 {X : Cx} {x : Str} {C : Addr} {p pos : Pos} {bmB : List Value} {B newId initId : String} (FB : ExcBaseFacts B newId initId bmB) (q : PySem.W.excIn X.K C bmB newId = true) (gC : X.mg x = some (.ref C)) (kC : PySem.W.keepIn X.K (.ref C) = true)
    (r : Raises X (.ref C)) (hg : Gl X x) (hdb : (x == ("__debug__" : Str)) = false := by decide) : PMk X (.Call (.Name x p) [] [] pos) (fun _ H Q => Q (.ref C) none H) := by
  intro pins s σ H Q I h
  apply wpAny_Call_Name_kw
  refine ld_glob I hg gC ?_ hdb
  refine PySem.W.callWith_K0 I.kIn kC ?_
  obtain ⟨bm, N, nm, qn, bs, hdct, sn, sub, ab, col, dd, k0, k1, k2, k3, k5, mN, hC, hN, hni, T⟩ := exc_obj I.kIn q
  refine wpAny_call_exc_subT FB T hC hN hni (fun h' a hm => ?_) (by show 0 ≤ sizeLine; exact Nat.zero_le _)
  exact mk_of I hm r h (I.hok.gone hm.new)
/-- the heap behind a raised C(v, ..): its dict alone -/
def rsH (H : Hp) (d : Addr) (fs : List (Str × V)) : Hp := upd H d (.xd fs)
theorem rs_eq {H : Hp} {a C d : Addr} {fs : List (Str × V)} (na : H a = none) (ne : d ≠ a) : upd (L2.del (exH H a C d fs) a) d (.xd fs) = rsH H d fs := by
  funext b
  unfold rsH
  by_cases h : b = d
  · rw [h, upd_same, upd_same]
  · rw [upd_ne h, upd_ne h]
    by_cases h2 : b = a
    · rw [h2, L2.del_same, na]
    · rw [L2.del_ne h2, exH_ne h2 h]
theorem rs1 {H : Hp} {C : Addr} {f : Str} {v : V} {Q : XK} (k : ∀ d, H d = none → Q (.ref C) (some d) (rsH H d [(f, v)])) : [v].length ≤ 1000 ∧ ∀ a, H a = none → spI1 C f (.ref a :: ([v] ++ [])) (upd H a (exo a C none))
    (fun u H2 => u = .non ∧ ∃ (d : Addr) (fs : List (Str × V)), H2 a = some (exo a C (some d)) ∧ H2 d = some (exd d fs) ∧ H d = none ∧ Q (.ref C) (some d) (upd (L2.del H2 a) d (.xd fs))) (fun _ _ _ => False) :=
  ⟨by simp, fun a na => ⟨a, v, rfl, upd_same, fun d nd ne => ⟨rfl, by
    rw [upd_ne ne] at nd
    rw [exH_over]
    refine ⟨d, _, exH_a, exH_d ne, nd, ?_⟩
    rw [rs_eq na ne]
    exact k d nd⟩⟩⟩
theorem rs2 {H : Hp} {C : Addr} {f g : Str} {v y : V} {Q : XK} (k : ∀ d, H d = none → Q (.ref C) (some d) (rsH H d [(g, y), (f, v)])) : [v, y].length ≤ 1000 ∧ ∀ a, H a = none → spI2 C f g (.ref a :: ([v, y] ++ [])) (upd H a (exo a C none))
    (fun u H2 => u = .non ∧ ∃ (d : Addr) (fs : List (Str × V)), H2 a = some (exo a C (some d)) ∧ H2 d = some (exd d fs) ∧ H d = none ∧ Q (.ref C) (some d) (upd (L2.del H2 a) d (.xd fs))) (fun _ _ _ => False) :=
  ⟨by simp, fun a na => ⟨a, v, y, rfl, upd_same, fun d nd ne => ⟨rfl, by
    rw [upd_ne ne] at nd
    rw [exH_over]
    refine ⟨d, _, exH_a, exH_d ne, nd, ?_⟩
    rw [rs_eq na ne]
    exact k d nd⟩⟩⟩
section
variable {P : Program} {w : World} {K : PySem.W.Frag} {mg : Str → Option Value} {base : Heap}
theorem scK : FnScope ["_law_value", "_law_other", "_law_told", "_law_e", "_law_caught_here"] ["_law_value", "_law_other"] (defScope sCau) := ⟨rfl, rfl, rfl, by decide +kernel, rfl, by decide +kernel, by decide +kernel⟩
theorem ok_caught {fa fS ca ia cb cw cd id : Addr} {fd fdS fa' fd' : FuncData} (F : Fun K "_law_caught" "_law_caught" sCau fa fd)
    (Ma : Mk2 P w K mg base "UnknownField" "kind" "name" ca ia fa') (Mb : Mk0 K mg "Busy" cb) (Md : Mk1 P w K mg base "Endless" "travel" cd id fd') (gw : mg "WayError" = some (.ref cw))
    (ty : PySem.W.typeIn K (.ref cb) = some (.type "type")) (ea : PySem.W.exmOne K (.ref ca) (.ref ca) = some true) (eb : PySem.W.exmOne K (.ref cb) (.ref cw) = some true) (ed : PySem.W.exmOne K (.ref cd) (.ref cw) = some true)
    (GS : GOk P w K mg base CX0 1 fS fdS ["_law_one", "_law_other"] (spSame K)) (bS : Binds K fdS ["_law_one", "_law_other"] []) (mS : mg "_law_same" = some (.ref fS)) (kS : PySem.W.keepIn K (.ref fS) = true) :
    GOk P w K mg base CX0 4 fa fd ["_law_value", "_law_other"] spYes2 := by
  refine gok_of F scK (fun vs H Q E h => ?_) (fun cdv A outer s H vs Q E hG hr h => ?_)
  · obtain ⟨v, y, dv, dy, rfl, _⟩ := h
    rfl
  · obtain ⟨v, y, dv, dy, rfl, gv, gy, k⟩ := h
    have h2 := hr.mono (j := 2) (by decide)
    have h1 := hr.mono (j := 1) (by decide)
    have XA : XfC K ca := ⟨Ma.X.hg, Ma.X.hk, Ma.X.hs, Ma.X.hd⟩
    refine ⟨_, pss_cons (ps_set (i := 2) scK.nd rfl (.inl rfl) (pe_lst pa_nil))
      (pss_cons (ps_try_as (i := 3) (Wout := fun _ _ _ _ => False) rfl rfl scK.nd rfl rfl ⟨rfl, by decide, .inl Ma.gC⟩ takes0
        (fun W pn xe tk _ => pss_one (ps_raise rfl tk (pmk_oex (dvs := []) Ma.T Ma.iC Ma.tI Ma.FI h2 Ma.bI .nil pass0 (by rfl) Ma.gC (pa_cons (pv 0) (pa_cons (pv 1) pa_nil)))))
        (fun a oe cls d pn hz hf => pss_one (ps_set (i := 2) scK.nd rfl (.inl rfl) (pe_lst (pa_cons (pe_xf XA Ma.no hz hf (pv 3)) (pa_cons (pe_xf XA Ma.no2 hz hf (pv 3)) pa_nil))))))
      (pss_cons (ps_set (i := 4) scK.nd rfl (.inl rfl) pe_int)
      (pss_cons (ps_try_only (Wout := fun _ _ _ _ => False) rfl rfl ⟨rfl, by decide, .inl gw⟩ takes0
        (fun W pn xe tk _ => pss_one (ps_raise rfl tk (pmk_ex0 PySem.F.excBase_ValueError Mb.q Mb.gC Mb.kC (raises_own Mb.X.hs ty) (by rfl))))
        (fun a oe cls d pn hz hf => pss_one (ps_set (i := 4) scK.nd rfl (.inl rfl) (pe_op op_add (pv 4) pe_int))))
      (pss_cons (ps_try_only (Wout := fun _ _ _ _ => False) rfl rfl ⟨rfl, by decide, .inl gw⟩ takes0
        (fun W pn xe tk _ => pss_one (ps_raise rfl tk (pmk_oex (dvs := []) Md.T Md.iC Md.tI Md.FI h2 Md.bI .nil pass0 (by rfl) Md.gC (pa_cons (pv 0) pa_nil))))
        (fun a oe cls d pn hz hf => pss_one (ps_set (i := 4) scK.nd rfl (.inl rfl) (pe_op op_add (pv 4) pe_int))))
      (pss_one (ps_ret (pe_and (pe_cmpR op_eq (pv 4) pe_int (nomark _)) (pe_one (pe_callG hG GS h1 (by rfl) mS kS bS pass0 (pa_cons (pv 2) (pa_cons (pe_lst (pa_cons (pv 0) (pa_cons (pv 1) pa_nil))) pa_nil))))))))))), ?_⟩
    refine sq_lst ?_
    refine ⟨(by show 0 ≤ sizeLine; decide), fun l nl => ?_⟩
    have s0 := Same.new (o := HO.lst []) nl
    generalize upd H l (.lst []) = H0 at s0 ⊢
    -- the first try
    refine ⟨v, rfl, y, rfl, ?_⟩
    refine rs2 (Q := fun c d H' => wAs K (.ref ca) 3 _ (fun _ _ _ _ => False) _ c d _ H') fun d nd => ?_
    have s1 : Same H0 (rsH H0 d [("name", y), ("kind", v)]) := Same.new nd
    have E1 : rsH H0 d [("name", y), ("kind", v)] d = some (.xd [("name", y), ("kind", v)]) := upd_same
    generalize rsH H0 d [("name", y), ("kind", v)] = H1 at s1 E1 ⊢
    refine ⟨true, ea, fun _ a0 na0 => ?_, fun q => Bool.noConfusion q⟩
    refine ⟨_, rfl, rfl, rfl, d, _, v, rfl, E1, lk_a (by decide +kernel), _, rfl, rfl, rfl, d, _, y, rfl, E1, lk_b, (by show 2 ≤ sizeLine; decide), fun l2 nl2 => ?_⟩
    have s2 := Same.new (o := HO.lst [v, y]) nl2
    have B2 : upd H1 l2 (.lst [v, y]) l2 = some (.lst [v, y]) := upd_same
    have tt := (s0.trans s1).trans s2
    generalize upd H1 l2 (.lst [v, y]) = H2 at s2 B2 tt ⊢
    -- the second
    refine ⟨true, eb, fun _ a1 na1 => ?_, fun q => Bool.noConfusion q⟩
    refine ⟨_, rfl, _, _, rfl, rfl, ?_⟩
    -- the third
    refine ⟨v, rfl, ?_⟩
    refine rs1 (Q := fun c d H' => wOnly K (.ref cw) _ (fun _ _ _ _ => False) _ c d _ H') fun d3 nd3 => ?_
    have s3 : Same H2 (rsH H2 d3 [("travel", v)]) := Same.new nd3
    generalize rsH H2 d3 [("travel", v)] = H3 at s3 ⊢
    refine ⟨true, ed, fun _ a2 na2 => ?_, fun q => Bool.noConfusion q⟩
    refine ⟨_, rfl, _, _, rfl, rfl, ?_⟩
    have t3 := tt.trans s3
    refine ⟨_, rfl, rfl, true, rfl, ?_⟩
    refine iteT ?_
    refine ⟨_, rfl, _, rfl, _, rfl, (by show 2 ≤ sizeLine; decide), fun l3 nl3 => ?_⟩
    have s4 := Same.new (o := HO.lst [v, y]) nl3
    have t4 := t3.trans s4
    exact same_ok (E := L2.E0) (s4 _ _ (s3 _ _ B2)) upd_same (.cons (gv.same t4) (.cons (gy.same t4) .nil)) (by show 2 ≤ 6; decide) (k _ t4)
end
end Wp

set_option Elab.async false
set_option linter.all false
set_option maxRecDepth 100000
set_option maxHeartbeats 4000000
namespace Wp
open PySem L2 PySem.Spec PyProof.Rows
abbrev sLaw : Stmt := top 35
theorem pair_at {α β : Type} {F : α → β → Prop} : ∀ {a : List α} {b : List β}, Paired F a b → a.length = b.length ∧ ∀ (i : Nat) (y : β), b[i]? = some y → ∃ x : α, a[i]? = some x ∧ F x y
  | _, _, .nil => ⟨rfl, fun i y h => by simp at h⟩
  | _, _, .cons h t => by
    obtain ⟨l, k⟩ := pair_at t
    refine ⟨by rw [List.length_cons, List.length_cons, l], fun i y e => ?_⟩
    cases i with
    | zero =>
      simp at e
      subst e
      exact ⟨_, rfl, h⟩
    | succ i => exact k i y (by simpa using e)
theorem eqv_bools : ∀ l : List Bool, PyData.eqvAll (l.map PyData.bool) (l.map PyData.bool) = true
  | [] => rfl
  | b :: l => by
    show (PyData.eqv (.bool b) (.bool b) && PyData.eqvAll (l.map PyData.bool) (l.map PyData.bool)) = true
    rw [eqv_bools l]
    cases b <;> rfl
theorem lay_bools : ∀ l : List Bool, PyData.canLayAll0 (l.map PyData.bool) = true ∧ PyData.depthAll (l.map PyData.bool) = 0
  | [] => ⟨rfl, by simp [PyData.depthAll]⟩
  | b :: l => by
    obtain ⟨h1, h2⟩ := lay_bools l
    refine ⟨?_, ?_⟩
    · show ((PyData.bool b).canLay0 && PyData.canLayAll0 (l.map PyData.bool)) = true
      rw [h1]
      rfl
    · simp only [List.map_cons, PyData.depthAll, h2]
      simp [PyData.depth]
theorem shaped_bools (l : List Bool) : SeqAt.shaped (.list (l.map PyData.bool)) = true := by
  obtain ⟨h1, h2⟩ := lay_bools l
  unfold SeqAt.shaped
  rw [Bool.and_eq_true]
  refine ⟨h1, decide_eq_true ?_⟩
  simp only [PyData.depth, h2]
  decide
theorem dp_bools {K : PySem.W.Frag} {H : Hp} : ∀ l : List Bool, DpAll K H (l.map V.bl) (l.map PyData.bool)
  | [] => .nil
  | b :: l => .cons (.bl b) (dp_bools l)
/-- what is asked of the one and twenty classes -/
structure Tab (K : PySem.W.Frag) (cs : List Addr) (cw : Addr) : Prop where
  x : ∀ (i : Nat) (C : Addr), cs[i]? = some C → ExcC K C
  k : ∀ (i j : Nat) (C D : Addr), cs[i]? = some C → cs[j]? = some D → PySem.W.kitOne K (.ref C) (.ref D) = some (decide (j = i))
  w : ∀ (i : Nat) (C : Addr), cs[i]? = some C → PySem.W.kitOne K (.ref C) (.ref cw) = some true
  v : ∀ (i : Nat) (C : Addr), cs[i]? = some C → PySem.W.kitOne K (.ref C) (.type "ValueError") = some true
def spLaw (K : PySem.W.Frag) : Sp := fun vs H Q _ => ∃ (a : Addr) (ns : List Int), vs = [.ref a] ∧ SqL K H a (ns.map V.int) ∧ ns.length ≤ 63 ∧ ∀ H', Q (.bl true) H'
structure Bl2 (mg : Str → Option Value) : Prop where
  len : mg "len" = none
  range : mg "range" = none
  isi : mg "isinstance" = none
  ve : mg "ValueError" = none
theorem gok_ofN {P : Program} {w : World} {K : PySem.W.Frag} {mg : Str → Option Value} {bs : Heap} {k : Nat} {f : Addr} {fd : FuncData} {x qual : Str} {st : Stmt} {N ps : List Str} {sp : Sp}
    (F : Fun K x qual st f fd) (S : FnScope N ps (defScope st)) (len : ∀ ys H Q E, sp ys H Q E → ys.length = ps.length)
    (body : ∀ (cd : Value) (A : Around) (out : List Env) (s : Shared) (H : Hp) (ys : List V) (Q : VK) (E : XK),
      (A.deeper (envOfC qual (defScope st) s.heap.objs.size f cd)).guards = some [] → Room k (A.deeper (envOfC qual (defScope st) s.heap.objs.size f cd)) → sp ys H Q E →
      ∃ t, PSs (cxOf CX0 P w K mg bs N qual (defScope st) f cd A out s H E).nox (defBody st) t ∧
        t { nx := fun _ H' => Q .non H', rt := Q } (start N ys) H) : GOk P w K mg bs CX0 (k + 1) f fd ps sp :=
  gok_of F S len fun cd A out s H ys Q E hG hR hP => let ⟨t, h, q⟩ := body cd A out s H ys Q E hG hR hP; ⟨t, h.nox, q⟩
theorem boot_ve : bootBuiltins "ValueError" = some (.type "ValueError") := by decide +kernel
section
variable {P : Program} {w : World} {K : PySem.W.Frag} {mg : Str → Option Value} {base : Heap}
theorem scL : FnScope ["_law_script", "_law_pen_here", "_law_value", "_law_other", "_law_made", "_law_k", "_law_error", "_law_told", "_law_due", "_law_j"] ["_law_script"] (defScope sLaw) := ⟨rfl, rfl, rfl, by decide +kernel, rfl, by decide +kernel, by decide +kernel⟩
theorem ok_law {fa fp fl f1 f2 f3 fc fb fu fS cw : Addr} {cs1 cs2 cs3 : List Addr} {fd dp dl d1 d2 d3 dc db du dS : FuncData} (F : Fun K "law" "law" sLaw fa fd) (T : Bl2 mg) (gw : mg "WayError" = some (.ref cw)) (TB : Tab K (cs1 ++ cs2 ++ cs3) cw) (hcs : (cs1 ++ cs2 ++ cs3).length = 21)
    (Gp : FnOk P w K mg base CX0 1 fp dp ["_law_script"] (spPen K)) (bp : Binds K dp ["_law_script"] []) (mp : mg "_law_pen" = some (.ref fp)) (kp : PySem.W.keepIn K (.ref fp) = true)
    (Gl : FnOk P w K mg base CX0 3 fl dl ["_law_pen_here"] spPlain) (bl : Binds K dl ["_law_pen_here"] []) (ml : mg "_law_plain" = some (.ref fl)) (kl : PySem.W.keepIn K (.ref fl) = true)
    (G1 : FnOk P w K mg base CX0 4 f1 d1 ["_law_value", "_law_other"] (spMade cs1)) (b1 : Binds K d1 ["_law_value", "_law_other"] []) (m1 : mg "_law_first" = some (.ref f1)) (k1 : PySem.W.keepIn K (.ref f1) = true)
    (G2 : FnOk P w K mg base CX0 4 f2 d2 ["_law_value", "_law_other"] (spMade cs2)) (b2 : Binds K d2 ["_law_value", "_law_other"] []) (m2 : mg "_law_second" = some (.ref f2)) (k2 : PySem.W.keepIn K (.ref f2) = true)
    (G3 : FnOk P w K mg base CX0 4 f3 d3 ["_law_value"] (spMade1 cs3)) (b3 : Binds K d3 ["_law_value"] []) (m3 : mg "_law_third" = some (.ref f3)) (k3 : PySem.W.keepIn K (.ref f3) = true)
    (Gc : FnOk P w K mg base CX0 1 fc dc ["_law_error"] (spCls K (cs1 ++ cs2 ++ cs3))) (bc : Binds K dc ["_law_error"] []) (mc : mg "_law_classes" = some (.ref fc)) (kc : PySem.W.keepIn K (.ref fc) = true)
    (Gb : GOk P w K mg base CX0 4 fb db ["_law_value", "_law_other"] spYes2) (bb : Binds K db ["_law_value", "_law_other"] []) (mb : mg "_law_by_names" = some (.ref fb)) (kb : PySem.W.keepIn K (.ref fb) = true)
    (Gu : GOk P w K mg base CX0 4 fu du ["_law_value", "_law_other"] spYes2) (bu : Binds K du ["_law_value", "_law_other"] []) (mu : mg "_law_caught" = some (.ref fu)) (ku : PySem.W.keepIn K (.ref fu) = true)
    (GS : GOk P w K mg base CX0 1 fS dS ["_law_one", "_law_other"] (spSame K)) (bS : Binds K dS ["_law_one", "_law_other"] []) (mS : mg "_law_same" = some (.ref fS)) (kS : PySem.W.keepIn K (.ref fS) = true) :
    GOk P w K mg base CX0 5 fa fd ["_law_script"] (spLaw K) := by
  refine gok_ofN F scL (fun vs H Q E h => ?_) (fun cdv A outer s H vs Q E hG hr h => ?_)
  · obtain ⟨a, ns, rfl, _⟩ := h
    rfl
  · obtain ⟨a, ns, rfl, hS, hlen, k⟩ := h
    have h1 := hr.mono (j := 1) (by decide)
    have h3 := hr.mono (j := 3) (by decide)
    have h4 := hr.mono (j := 4) (by decide)
    have hu : (A.deeper (envOfC "law" (defScope sLaw) s.heap.objs.size fa cdv)).units + 64 < cLine := hr.units
    refine ⟨_, pss_cons (ps_set (i := 1) scL.nd rfl (.inl rfl) (pe_call Gp h1 rfl mp kp bp .nil pass0 (pa_cons (pv 0) pa_nil)))
      (pss_cons (ps_set (i := 2) scL.nd rfl (.inl rfl) (pe_call Gl h3 rfl ml kl bl .nil pass0 (pa_cons (pv 1) pa_nil)))
      (pss_cons (ps_set (i := 3) scL.nd rfl (.inl rfl) (pe_call Gl h3 rfl ml kl bl .nil pass0 (pa_cons (pv 1) pa_nil)))
      (pss_cons (ps_set (i := 4) scL.nd rfl (.inl rfl) (pe_op op_cat (pe_op op_cat (pe_call G1 h4 rfl m1 k1 b1 .nil pass0 (pa_cons (pv 2) (pa_cons (pv 3) pa_nil))) (pe_call G2 h4 rfl m2 k2 b2 .nil pass0 (pa_cons (pv 3) (pa_cons (pv 2) pa_nil)))) (pe_call G3 h4 rfl m3 k3 b3 .nil pass0 (pa_cons (pv 2) pa_nil))))
      (pss_cons (ps_for PassesOwn.never rfl (pi_range1 rfl T.range (pa_cons (pe_callB call_len_seq (by rfl) T.len PySem.boot_len (pa_cons (pv 4) pa_nil)) pa_nil)) (pg_name (i := 5) scL.nd rfl (.inr rfl))
        (pss_cons (ps_asg (pe_ix ix_list (pv 4) (pv 5) (fun _ _ => rfl)) (pg_tup rfl (pgs_cons (pg_name (i := 6) scL.nd rfl (.inl rfl)) (pgs_cons (pg_name (i := 7) scL.nd rfl (.inl rfl)) (pgs_cons (pg_name (i := 8) scL.nd rfl (.inl rfl)) pgs_nil)))))
        (pss_cons (ps_if (pt_cmpR (op_neD hu) (pe_call Gc h1 rfl mc kc bc .nil pass0 (pa_cons (pv 6) pa_nil)) (pe_lc (own := [("_law_j", 9)]) (g := gName 9) (tt := tYes) rfl scL.nd (pi_range1 rfl T.range (pa_cons pe_int pa_nil)) (blkOk_by (N := ["_law_script", "_law_pen_here", "_law_value", "_law_other", "_law_made", "_law_k", "_law_error", "_law_told", "_law_due", "_law_j"]) (sc := defScope sLaw) (by decide +kernel)) (fun _ _ _ _ _ => pg_name (i := 9) scL.nd rfl (Or.inl rfl)) (fun _ _ _ _ _ => pts_nil) (fun _ _ _ _ _ => pe_cmpR op_eq (pv 9) (pv 5) (nomark _))) (nomark _)) (pss_one (ps_ret pe_bl)) pss_nil)
        (pss_one (ps_if (PW.pt (pw_or (pt_not (pt_val (pe_callB call_isx (by rfl) T.isi boot_isi (pa_cons (pv 6) (pa_cons (pe_glob (v := .ref cw) rfl gw rfl) pa_nil)))))
            (pw_or (pt_not (pt_val (pe_callB call_isx (by rfl) T.isi boot_isi (pa_cons (pv 6) (pa_cons (pe_bltn (v := .ty "ValueError") rfl T.ve boot_ve rfl) pa_nil)))))
            (pw_or1 (pt_not (pt_val (pe_callG hG GS h1 (by rfl) mS kS bS pass0 (pa_cons (pv 7) (pa_cons (pv 8) pa_nil)))))))))
          (pss_one (ps_ret pe_bl)) pss_nil)))))
      (pss_one (ps_ret (pe_and (pe_callG hG Gb h4 (by rfl) mb kb bb pass0 (pa_cons (pv 2) (pa_cons (pv 3) pa_nil))) (pe_one (pe_callG hG Gu h4 (by rfl) mu ku bu pass0 (pa_cons (pv 2) (pa_cons (pv 3) pa_nil))))))))))), ?_⟩
    refine ⟨_, rfl, a, ns, rfl, hS, hlen, fun p c H0 m s0 np nc S => ?_⟩
    refine ⟨_, rfl, p, c, ns, _, _, _, _, _, rfl, S, fun v dv a1 r1 d1 m1 t1 H1 e1 g1 S1 => ?_⟩
    refine ⟨_, rfl, p, c, ns, _, _, _, _, _, rfl, S1, fun y dy a2 r2 d2 m2 t2 H2 e2 gy S2 => ?_⟩
    have gv := g1.ext e2
    refine ⟨_, rfl, _, rfl, v, y, dv, dy, rfl, gv, gy, fun p1 H3 xs1 u1 L1 X1 => ?_⟩
    refine ⟨_, rfl, _, rfl, y, v, dy, dv, rfl, gy.same u1, gv.same u1, fun p2 H4 xs2 u2 M2 X2 => ?_⟩
    have l1 := (pair_at X1).1
    have l2 := (pair_at X2).1
    rw [List.length_append, List.length_append] at hcs
    refine ⟨p1, p2, xs1, xs2, rfl, rfl, u2 _ _ L1, M2, (by rw [sizeLine_eq]; omega), fun p3 n3 => ?_⟩
    have u3 := Same.new (o := HO.lst (xs1 ++ xs2)) n3
    refine ⟨_, rfl, v, dv, rfl, gv.same ((u1.trans u2).trans u3), fun p4 H6 xs3 u4 L4 X3 => ?_⟩
    have l3 := (pair_at X3).1
    refine ⟨p3, p4, xs1 ++ xs2, xs3, rfl, rfl, u4 _ _ upd_same, L4, (by rw [sizeLine_eq, List.length_append]; omega), fun p5 n5 => ?_⟩
    have u5 := Same.new (o := HO.lst ((xs1 ++ xs2) ++ xs3)) n5
    have XM : Paired (Ent (upd H6 p5 (.lst ((xs1 ++ xs2) ++ xs3)))) (cs1 ++ cs2 ++ cs3) ((xs1 ++ xs2) ++ xs3) :=
      pair_app (pair_app (Ents.same X1 (((u2.trans u3).trans u4).trans u5)) (Ents.same X2 ((u3.trans u4).trans u5))) (Ents.same X3 u5)
    have LM : upd H6 p5 (.lst ((xs1 ++ xs2) ++ xs3)) p5 = some (.lst ((xs1 ++ xs2) ++ xs3)) := upd_same
    have gv := gv.same ((((u1.trans u2).trans u3).trans u4).trans u5)
    have gy := gy.same ((((u1.trans u2).trans u3).trans u4).trans u5)
    have lx : ((xs1 ++ xs2) ++ xs3).length = 21 := by
      rw [List.length_append, List.length_append]
      omega
    generalize upd H6 p5 (.lst ((xs1 ++ xs2) ++ xs3)) = Hm at XM LM gv gy ⊢
    generalize (xs1 ++ xs2) ++ xs3 = xs at XM LM lx ⊢
    refine ⟨_, rfl, p5, xs, rfl, .inl (SqL.of LM), ?_⟩
    rw [lx]
    refine ⟨21, rfl, by decide, by decide, for_range (n := 21) (fun i σ H' => ∃ v5 v6 v7 v8 : Option V, σ = [some (.ref a), some (.ref p), some v, some y, some (.ref p5), v5, v6, v7, v8, none] ∧ Same Hm H') ⟨none, none, none, none, rfl, Same.refl _⟩ ?_ ?_⟩
    · rintro i σ H' hi ⟨v5, v6, v7, v8, rfl, sm⟩
      have hx : xs[i]? = some xs[i] := List.getElem?_eq_getElem (by omega)
      obtain ⟨C, hC, E⟩ := (pair_at XM).2 i _ hx
      obtain ⟨q, e, t, u, d, vs, ds, x1, x2, x3, x4, x5, x6, x7, x8⟩ := E.ex
      rw [x1] at hx
      have z0 : (0 : Int) + (i : Int) = (i : Int) := Int.zero_add _
      rw [z0]
      refine ⟨_, rfl, _, rfl, p5, xs, _, _, rfl, rfl, SqL.of (sm _ _ LM), atI_nat hx, q, _, rfl, SqT.of (sm _ _ x2), rfl, _, _, rfl, _, _, rfl, _, _, rfl, rfl, ?_⟩
      refine ⟨_, rfl, e, C, d, (fun j => decide (j = i)), rfl, TB.x i C hC, sm _ _ x5, (fun dx z => let ⟨fs, w⟩ := x6 dx z; ⟨fs, sm _ _ w⟩), (fun j D hD => TB.k i j C D hC hD), fun p7 H7 s7 L7 => ?_⟩
      refine ⟨21, rfl, by decide, by decide, fun D nD => lc_range (n := 21) (fun j H' => H' = upd H7 D (.lst ((List.range j).map fun x => V.bl (decide (x = i))))) rfl ?_ ?_⟩
      · rintro j H8 hj rfl
        refine ⟨rfl, ?_⟩
        show tOp rEq (tVar 9) (tVar 5) _ _ _
        refine ⟨_, rfl, _, rfl, rfl, _, upd_same, ?_, ?_⟩
        · rw [List.length_map, List.length_range, sizeLine_eq]
          omega
        · rw [upd_upd, List.range_succ, List.map_append]
          have e1 : (decide (V.int (0 + (j : Int)) = V.int (i : Int))) = decide (j = i) := by
            by_cases h : j = i
            · rw [decide_eq_true h, decide_eq_true (by rw [h, Int.zero_add])]
            · rw [decide_eq_false h, decide_eq_false (fun z => h (by
                have z2 := V.int.inj z
                omega))]
          rw [e1]
          rfl
      · rintro H8 rfl
        have s8 := Same.new (o := HO.lst ((List.range 21).map fun x => V.bl (decide (x = i)))) nD
        have bm : ((List.range 21).map fun x => V.bl (decide (x = i))) = ((List.range 21).map fun x => decide (x = i)).map V.bl := by
          rw [List.map_map]
          rfl
        have D1 : Dp K (upd H7 D (.lst ((List.range 21).map fun x => V.bl (decide (x = i))))) (.ref p7) (.list (((List.range 21).map fun x => decide (x = i)).map PyData.bool)) :=
          .lst (SqL.of (s8 _ _ L7)) (by rw [bm]; exact dp_bools _)
        have D2 : Dp K (upd H7 D (.lst ((List.range 21).map fun x => V.bl (decide (x = i))))) (.ref D) (.list (((List.range 21).map fun x => decide (x = i)).map PyData.bool)) :=
          .lst (SqL.of upd_same) (by rw [bm]; exact dp_bools _)
        refine ⟨_, _, D1, D2, shaped_bools _, shaped_bools _, _, rfl, ?_⟩
        have ev : PyData.eqv (.list (((List.range 21).map fun x => decide (x = i)).map PyData.bool)) (.list (((List.range 21).map fun x => decide (x = i)).map PyData.bool)) = true := eqv_bools _
        rw [ev]
        refine iteF ?_
        have sn := (sm.trans s7).trans s8
        generalize upd H7 D (.lst ((List.range 21).map fun x => V.bl (decide (x = i)))) = Hn at sn ⊢
        have ed : ∀ dx, d = some dx → ∃ fs, Hn dx = some (exd dx fs) := fun dx z => let ⟨fs, w⟩ := x6 dx z; ⟨fs, sn _ _ w⟩
        refine ⟨_, rfl, e, C, d, .ref cw, .ref cw, true, rfl, .own cw, TB.x i C hC, sn _ _ x5, ed, TB.w i C hC, true, rfl, ?_⟩
        refine iteF ?_
        refine ⟨_, rfl, e, C, d, .ty "ValueError", .type "ValueError", true, rfl, .ty _, TB.x i C hC, sn _ _ x5, ed, TB.v i C hC, true, rfl, ?_⟩
        refine iteF ?_
        refine ⟨_, rfl, _, rfl, ?_⟩
        refine en_nil ?_
        show spSame _ _ _ _ _
        refine same_ok (sn _ _ x3) (sn _ _ x4) (Gvs.same x7 sn) (by omega) ?_
        refine ⟨true, rfl, ?_⟩
        refine iteF ?_
        exact ⟨_, _, _, _, rfl, sn⟩
    · rintro σ H' ⟨v5, v6, v7, v8, rfl, sm⟩
      refine ⟨_, rfl, _, rfl, v, y, dv, dy, rfl, gv.same sm, gy.same sm, fun H7 s7 => ⟨true, rfl, ?_⟩⟩
      refine iteT ?_
      exact ⟨_, rfl, _, rfl, v, y, dv, dy, rfl, gv.same (sm.trans s7), gy.same (sm.trans s7), fun H8 s8 => k H8⟩
end
end Wp

set_option Elab.async false
set_option linter.all false
set_option maxRecDepth 100000
set_option maxHeartbeats 8000000
namespace Wp
open PySem L2 PySem.Spec PyProof.Rows
/-! ## what the top has written -/
/-- the text of an __init__ of one field, of two -/
structure Sh1 (st : Stmt) (q f : Str) : Prop where
  hb : ∃ p1 p2 p3 p4 : Pos, defBody st = [.Assign [.Attribute (.Name "self" p1) f p2] (.Name f p3) p4]
  S : FnScope ["self", f] ["self", f] (defScope st)
  hs : (defScope st).names.lookup ("self" : Str) = some NameKind.local
  hl : (defScope st).names.lookup f = some NameKind.local
  hd : (f == ("__debug__" : Str)) = false
  hc : (f == ("__classdict__" : Str)) = false
  hB : ∀ (kV doc pm : Value) (an : Option Addr) (cd ct : Value) (us : List Value), us.length = 2 → bindArgs (PySem.W.fnOf "__init__" q (defArgs st) (defBody st) (defScope st) .none kV doc pm an cd ct) ⟨us, []⟩ = pure ((["self", f] : List Str).zip us)
structure Sh2 (st : Stmt) (q f g : Str) : Prop where
  hb : ∃ p1 p2 p3 p4 q1 q2 q3 q4 : Pos, defBody st = [.Assign [.Attribute (.Name "self" p1) f p2] (.Name f p3) p4, .Assign [.Attribute (.Name "self" q1) g q2] (.Name g q3) q4]
  S : FnScope ["self", f, g] ["self", f, g] (defScope st)
  hs : (defScope st).names.lookup ("self" : Str) = some NameKind.local
  hl : (defScope st).names.lookup f = some NameKind.local
  hl2 : (defScope st).names.lookup g = some NameKind.local
  hd : (f == ("__debug__" : Str)) = false
  hc : (f == ("__classdict__" : Str)) = false
  hd2 : (g == ("__debug__" : Str)) = false
  hc2 : (g == ("__classdict__" : Str)) = false
  hB : ∀ (kV doc pm : Value) (an : Option Addr) (cd ct : Value) (us : List Value), us.length = 3 → bindArgs (PySem.W.fnOf "__init__" q (defArgs st) (defBody st) (defScope st) .none kV doc pm an cd ct) ⟨us, []⟩ = pure ((["self", f, g] : List Str).zip us)
/-- what the written part says of a class -/
structure Cls0 (K : PySem.W.Frag) (mg : Str → Option Value) (x : Str) (C : Addr) : Prop where
  X : ExcC K C
  gC : mg x = some (.ref C)
  kC : PySem.W.keepIn K (.ref C) = true
  ty : PySem.W.typeIn K (.ref C) = some (.type "type")
structure Cls1 (K : PySem.W.Frag) (mg : Str → Option Value) (x f q : Str) (st : Stmt) (C fI : Addr) (fd : FuncData) : Prop where
  Z : Cls0 K mg x C
  T : OexC K C
  no : PySem.W.findIn K (.ref C) f = some none
  iC : PySem.W.findIn K (.ref C) "__init__" = some (some (.ref fI))
  tI : PySem.W.typeIn K (.ref fI) = some (.type "function")
  F : Fun K "__init__" q st fI fd
structure Cls2 (K : PySem.W.Frag) (mg : Str → Option Value) (x f g q : Str) (st : Stmt) (C fI : Addr) (fd : FuncData) : Prop where
  one : Cls1 K mg x f q st C fI fd
  no2 : PySem.W.findIn K (.ref C) g = some none
section
variable {P : Program} {w : World} {K : PySem.W.Frag} {mg : Str → Option Value} {base h : Heap}
theorem Cls1.mk1 {x f q : Str} {st : Stmt} {C fI : Addr} {fd : FuncData} (c : Cls1 K mg x f q st C fI fd) (s : Sh1 st q f) : Mk1 P w K mg base x f C fI fd := by
  obtain ⟨p1, p2, p3, p4, hb⟩ := s.hb
  exact ⟨c.T, c.Z.X, c.no, c.Z.gC, c.iC, c.tI, ok_init1 c.F hb s.S s.hs s.hl s.hd s.hc c.T c.no, c.F.binds fun kV doc pm an cd ct us hl => s.hB kV doc pm an cd ct us hl⟩
theorem Cls2.mk2 {x f g q : Str} {st : Stmt} {C fI : Addr} {fd : FuncData} (c : Cls2 K mg x f g q st C fI fd) (s : Sh2 st q f g) : Mk2 P w K mg base x f g C fI fd := by
  obtain ⟨p1, p2, p3, p4, q1, q2, q3, q4, hb⟩ := s.hb
  exact ⟨c.one.T, c.one.Z.X, c.one.no, c.no2, c.one.Z.gC, c.one.iC, c.one.tI, ok_init2 c.one.F hb s.S s.hs s.hl s.hl2 s.hd s.hc s.hd2 s.hc2 c.one.T c.one.no c.no2, c.one.F.binds fun kV doc pm an cd ct us hl => s.hB kV doc pm an cd ct us hl⟩
theorem cls0 (X : K.In h) (G : h.Ns mainGlobals mg) {x : Str} {C : Addr} (a : PySem.W.nsIn K mainGlobals x = some (some (.ref C)))
    (ga : PySem.W.findIn K (.ref C) "__getattribute__" = some (some (.builtin "BaseException.__getattribute__"))) (gg : PySem.W.findIn K (.ref C) "__getattr__" = some none) (sb : PySem.W.subIn K (.ref C) (.type "BaseException") = some true) (hd : PySem.W.hasDictIn K C = true)
    (cl : PySem.W.findIn K (.ref C) "__class__" = some (some (.builtin "object.__class__"))) (sp : PySem.W.specialIn K (.builtin "object.__class__") "__get__" = some (some (.builtin "getset_descriptor.__get__"))) (tk : PySem.W.takesIn K (.builtin "object.__class__") = some true)
    (mo : PySem.W.mroIn K C (.type "object") = some true) (kC : PySem.W.keepIn K (.ref C) = true) (ty : PySem.W.typeIn K (.ref C) = some (.type "type")) : Cls0 K mg x C :=
  ⟨⟨ga, gg, sb, hd, cl, sp, tk, mo⟩, PySem.W.mg_of X G a, kC, ty⟩
theorem cls1 {x f q : Str} {st : Stmt} {C fI N : Addr} {nm qn : Str} {bs bm : List Value} {sn : List Str} {sub : List Value} {ab : Bool} {col : Option Bool} {dd od an : Option Addr} {m0 m1 m2 m3 m5 : Option Value} {oc kV dc pm cd ct : Value} {sl : Array (Option Value)}
    (Z : Cls0 K mg x C) (xL : K.lookup C = some (excClassObj nm qn C N bs bm true sn sub ab col dd m0 m1 m2 m3 m5 "ValueError.__new__")) (hbm : PySem.HandSPX.refsVE bm = true)
    (sa : PySem.W.findIn K (.ref C) "__setattr__" = some (some (.builtin "object.__setattr__"))) (no : PySem.W.findIn K (.ref C) f = some none)
    (iC : PySem.W.findIn K (.ref C) "__init__" = some (some (.ref fI))) (tI : PySem.W.typeIn K (.ref fI) = some (.type "function"))
    (l : K.lookup fI = some ⟨oc, od, .func (PySem.W.fnOf "__init__" q (defArgs st) (defBody st) (defScope st) .none kV dc pm an cd ct), sl⟩) (c : PySem.W.codeIn K cd q = true) (k : PySem.W.keepIn K (.ref fI) = true) :
    Cls1 K mg x f q st C fI (PySem.W.fnOf "__init__" q (defArgs st) (defBody st) (defScope st) .none kV dc pm an cd ct) :=
  ⟨Z, ⟨⟨nm, qn, N, bs, bm, sn, sub, ab, col, dd, m0, m1, m2, m3, m5, xL, hbm⟩, sa, Z.X.hs, Z.ty, Z.kC⟩, no, iC, tI, fun_mk l c k⟩
end
def tabB (K : PySem.W.Frag) (cs : List Addr) (cw : Addr) : Bool := (List.range cs.length).all fun i => (PySem.W.kitOne K (.ref (cs.getD i 0)) (.ref cw) == some true) && ((PySem.W.kitOne K (.ref (cs.getD i 0)) (.type "ValueError") == some true) &&
  (List.range cs.length).all fun j => PySem.W.kitOne K (.ref (cs.getD i 0)) (.ref (cs.getD j 0)) == some (decide (j = i)))
theorem tab_of {K : PySem.W.Frag} {cs : List Addr} {cw : Addr} (h : tabB K cs cw = true) (x : ∀ (i : Nat) (C : Addr), cs[i]? = some C → ExcC K C) : Tab K cs cw := by
  unfold tabB at h
  rw [List.all_eq_true] at h
  have lt : ∀ {i : Nat} {C : Addr}, cs[i]? = some C → i < cs.length ∧ cs.getD i 0 = C := fun {i C} e => by
    obtain ⟨h1, h2⟩ := List.getElem?_eq_some_iff.mp e
    refine ⟨h1, ?_⟩
    rw [List.getD_eq_getElem?_getD, e]
    rfl
  have row : ∀ {i : Nat} {C : Addr}, cs[i]? = some C → (PySem.W.kitOne K (.ref C) (.ref cw) = some true ∧ PySem.W.kitOne K (.ref C) (.type "ValueError") = some true) ∧ ∀ j D, cs[j]? = some D → PySem.W.kitOne K (.ref C) (.ref D) = some (decide (j = i)) := fun {i C} e => by
    obtain ⟨h1, h2⟩ := lt e
    have z := h i (List.mem_range.mpr h1)
    rw [h2] at z
    rw [Bool.and_eq_true, Bool.and_eq_true, List.all_eq_true] at z
    obtain ⟨z1, z2, z3⟩ := z
    refine ⟨⟨eq_of_beq z1, eq_of_beq z2⟩, fun j D e2 => ?_⟩
    obtain ⟨h3, h4⟩ := lt e2
    have y := z3 j (List.mem_range.mpr h3)
    rw [h4] at y
    exact eq_of_beq y
  exact ⟨x, fun i j C D e1 e2 => (row e1).2 j D e2, fun i C e => (row e).1.1, fun i C e => (row e).1.2⟩
theorem sh2 : Sh1 (inClass (top 2) 0) "BadField.__init__" "name" := ⟨⟨_, _, _, _, rfl⟩, ⟨rfl, rfl, rfl, by decide +kernel, rfl, by decide +kernel, by decide +kernel⟩, by decide +kernel, by decide +kernel, by decide +kernel, by decide +kernel, fun _ _ _ _ _ _ us hl => match us, hl with | [_, _], _ => rfl⟩
theorem sh3 : Sh1 (inClass (top 3) 0) "BadKind.__init__" "name" := ⟨⟨_, _, _, _, rfl⟩, ⟨rfl, rfl, rfl, by decide +kernel, rfl, by decide +kernel, by decide +kernel⟩, by decide +kernel, by decide +kernel, by decide +kernel, by decide +kernel, fun _ _ _ _ _ _ us hl => match us, hl with | [_, _], _ => rfl⟩
theorem sh4 : Sh1 (inClass (top 4) 0) "BadHouse.__init__" "name" := ⟨⟨_, _, _, _, rfl⟩, ⟨rfl, rfl, rfl, by decide +kernel, rfl, by decide +kernel, by decide +kernel⟩, by decide +kernel, by decide +kernel, by decide +kernel, by decide +kernel, fun _ _ _ _ _ _ us hl => match us, hl with | [_, _], _ => rfl⟩
theorem sh5 : Sh1 (inClass (top 5) 0) "UnknownKind.__init__" "name" := ⟨⟨_, _, _, _, rfl⟩, ⟨rfl, rfl, rfl, by decide +kernel, rfl, by decide +kernel, by decide +kernel⟩, by decide +kernel, by decide +kernel, by decide +kernel, by decide +kernel, fun _ _ _ _ _ _ us hl => match us, hl with | [_, _], _ => rfl⟩
theorem sh6 : Sh2 (inClass (top 6) 0) "UnknownField.__init__" "kind" "name" := ⟨⟨_, _, _, _, _, _, _, _, rfl⟩, ⟨rfl, rfl, rfl, by decide +kernel, rfl, by decide +kernel, by decide +kernel⟩, by decide +kernel, by decide +kernel, by decide +kernel, by decide +kernel, by decide +kernel, by decide +kernel, by decide +kernel, fun _ _ _ _ _ _ us hl => match us, hl with | [_, _, _], _ => rfl⟩
theorem sh7 : Sh1 (inClass (top 7) 0) "BadWeb.__init__" "thing" := ⟨⟨_, _, _, _, rfl⟩, ⟨rfl, rfl, rfl, by decide +kernel, rfl, by decide +kernel, by decide +kernel⟩, by decide +kernel, by decide +kernel, by decide +kernel, by decide +kernel, fun _ _ _ _ _ _ us hl => match us, hl with | [_, _], _ => rfl⟩
theorem sh8 : Sh1 (inClass (top 8) 0) "BadText.__init__" "line" := ⟨⟨_, _, _, _, rfl⟩, ⟨rfl, rfl, rfl, by decide +kernel, rfl, by decide +kernel, by decide +kernel⟩, by decide +kernel, by decide +kernel, by decide +kernel, by decide +kernel, fun _ _ _ _ _ _ us hl => match us, hl with | [_, _], _ => rfl⟩
theorem sh9 : Sh1 (inClass (top 9) 0) "BadManner.__init__" "name" := ⟨⟨_, _, _, _, rfl⟩, ⟨rfl, rfl, rfl, by decide +kernel, rfl, by decide +kernel, by decide +kernel⟩, by decide +kernel, by decide +kernel, by decide +kernel, by decide +kernel, fun _ _ _ _ _ _ us hl => match us, hl with | [_, _], _ => rfl⟩
theorem sh10 : Sh1 (inClass (top 10) 0) "BadClient.__init__" "line" := ⟨⟨_, _, _, _, rfl⟩, ⟨rfl, rfl, rfl, by decide +kernel, rfl, by decide +kernel, by decide +kernel⟩, by decide +kernel, by decide +kernel, by decide +kernel, by decide +kernel, fun _ _ _ _ _ _ us hl => match us, hl with | [_, _], _ => rfl⟩
theorem sh11 : Sh2 (inClass (top 11) 0) "BadTravel.__init__" "kind" "field" := ⟨⟨_, _, _, _, _, _, _, _, rfl⟩, ⟨rfl, rfl, rfl, by decide +kernel, rfl, by decide +kernel, by decide +kernel⟩, by decide +kernel, by decide +kernel, by decide +kernel, by decide +kernel, by decide +kernel, by decide +kernel, by decide +kernel, fun _ _ _ _ _ _ us hl => match us, hl with | [_, _, _], _ => rfl⟩
theorem sh12 : Sh1 (inClass (top 12) 0) "BadReader.__init__" "kind" := ⟨⟨_, _, _, _, rfl⟩, ⟨rfl, rfl, rfl, by decide +kernel, rfl, by decide +kernel, by decide +kernel⟩, by decide +kernel, by decide +kernel, by decide +kernel, by decide +kernel, fun _ _ _ _ _ _ us hl => match us, hl with | [_, _], _ => rfl⟩
theorem sh13 : Sh1 (inClass (top 13) 0) "BadRow.__init__" "travel" := ⟨⟨_, _, _, _, rfl⟩, ⟨rfl, rfl, rfl, by decide +kernel, rfl, by decide +kernel, by decide +kernel⟩, by decide +kernel, by decide +kernel, by decide +kernel, by decide +kernel, fun _ _ _ _ _ _ us hl => match us, hl with | [_, _], _ => rfl⟩
theorem sh14 : Sh1 (inClass (top 14) 0) "Endless.__init__" "travel" := ⟨⟨_, _, _, _, rfl⟩, ⟨rfl, rfl, rfl, by decide +kernel, rfl, by decide +kernel, by decide +kernel⟩, by decide +kernel, by decide +kernel, by decide +kernel, by decide +kernel, fun _ _ _ _ _ _ us hl => match us, hl with | [_, _], _ => rfl⟩
theorem sh15 : Sh1 (inClass (top 15) 0) "TooLarge.__init__" "count" := ⟨⟨_, _, _, _, rfl⟩, ⟨rfl, rfl, rfl, by decide +kernel, rfl, by decide +kernel, by decide +kernel⟩, by decide +kernel, by decide +kernel, by decide +kernel, by decide +kernel, fun _ _ _ _ _ _ us hl => match us, hl with | [_, _], _ => rfl⟩
theorem sh16 : Sh1 (inClass (top 16) 0) "BadSaved.__init__" "line" := ⟨⟨_, _, _, _, rfl⟩, ⟨rfl, rfl, rfl, by decide +kernel, rfl, by decide +kernel, by decide +kernel⟩, by decide +kernel, by decide +kernel, by decide +kernel, by decide +kernel, fun _ _ _ _ _ _ us hl => match us, hl with | [_, _], _ => rfl⟩
theorem sh19 : Sh1 (inClass (top 19) 0) "BadComparer.__init__" "kind" := ⟨⟨_, _, _, _, rfl⟩, ⟨rfl, rfl, rfl, by decide +kernel, rfl, by decide +kernel, by decide +kernel⟩, by decide +kernel, by decide +kernel, by decide +kernel, by decide +kernel, fun _ _ _ _ _ _ us hl => match us, hl with | [_, _], _ => rfl⟩
theorem sh20 : Sh1 (inClass (top 20) 0) "BadChange.__init__" "at" := ⟨⟨_, _, _, _, rfl⟩, ⟨rfl, rfl, rfl, by decide +kernel, rfl, by decide +kernel, by decide +kernel⟩, by decide +kernel, by decide +kernel, by decide +kernel, by decide +kernel, fun _ _ _ _ _ _ us hl => match us, hl with | [_, _], _ => rfl⟩
theorem sh21 : Sh1 (inClass (top 21) 0) "BadName.__init__" "name" := ⟨⟨_, _, _, _, rfl⟩, ⟨rfl, rfl, rfl, by decide +kernel, rfl, by decide +kernel, by decide +kernel⟩, by decide +kernel, by decide +kernel, by decide +kernel, by decide +kernel, fun _ _ _ _ _ _ us hl => match us, hl with | [_, _], _ => rfl⟩
section
variable {P : Program} {w : World} {K : PySem.W.Frag} {mg : Str → Option Value} {h : Heap}
theorem kw_of {K : PySem.W.Frag} {q : Str} {st : Stmt} {fI : Addr} {fd : FuncData} {ps ks : List Str} (F : Fun K "__init__" q st fI fd)
    (hk : ∀ (kV doc pm : Value) (an : Option Addr) (cd ct u : Value) (vs : List Value), vs.length = ks.length → bindArgs (PySem.W.fnOf "__init__" q (defArgs st) (defBody st) (defScope st) .none kV doc pm an cd ct) ⟨[u], ks.zip vs⟩ = pure (ps.zip (u :: vs.reverse))) : KwB fd ps ks := by
  obtain ⟨oc, od, kV, doc, pm, an, cd, ct, osl, rfl, lk, hcd⟩ := F.ex
  exact fun s u vs hl => BindsTo.of_eq (hk kV doc pm an cd ct u vs hl)
theorem all_mk {fa : Addr} (X : K.In h) (G : h.Ns mainGlobals mg) (hfa : mg "law" = some (.ref fa))
    {C0 C1 C2 C3 C4 C5 C6 C7 C8 C9 C10 C11 C12 C13 C14 C15 C16 C17 C18 C19 C20 CW : Addr}
    {I0 I1 I2 I3 I4 I5 I6 I7 I8 I9 I10 I11 I12 I13 I14 I17 I18 I19 : Addr}
    {D0 D1 D2 D3 D4 D5 D6 D7 D8 D9 D10 D11 D12 D13 D14 D17 D18 D19 : FuncData}
    {F24 : Addr} {od24 an24 : Option Addr} {sl24 : Array (Option Value)} {oc24 kV24 dc24 pm24 cd24 ct24 : Value}
    {F25 : Addr} {od25 an25 : Option Addr} {sl25 : Array (Option Value)} {oc25 kV25 dc25 pm25 cd25 ct25 : Value}
    {F26 : Addr} {od26 an26 : Option Addr} {sl26 : Array (Option Value)} {oc26 kV26 dc26 pm26 cd26 ct26 : Value}
    {F27 : Addr} {od27 an27 : Option Addr} {sl27 : Array (Option Value)} {oc27 kV27 dc27 pm27 cd27 ct27 : Value}
    {F28 : Addr} {od28 an28 : Option Addr} {sl28 : Array (Option Value)} {oc28 kV28 dc28 pm28 cd28 ct28 : Value}
    {F29 : Addr} {od29 an29 : Option Addr} {sl29 : Array (Option Value)} {oc29 kV29 dc29 pm29 cd29 ct29 : Value}
    {F30 : Addr} {od30 an30 : Option Addr} {sl30 : Array (Option Value)} {oc30 kV30 dc30 pm30 cd30 ct30 : Value}
    {F31 : Addr} {od31 an31 : Option Addr} {sl31 : Array (Option Value)} {oc31 kV31 dc31 pm31 cd31 ct31 : Value}
    {F32 : Addr} {od32 an32 : Option Addr} {sl32 : Array (Option Value)} {oc32 kV32 dc32 pm32 cd32 ct32 : Value}
    {F33 : Addr} {od33 an33 : Option Addr} {sl33 : Array (Option Value)} {oc33 kV33 dc33 pm33 cd33 ct33 : Value}
    {F34 : Addr} {od34 an34 : Option Addr} {sl34 : Array (Option Value)} {oc34 kV34 dc34 pm34 cd34 ct34 : Value}
    {F35 : Addr} {od35 an35 : Option Addr} {sl35 : Array (Option Value)} {oc35 kV35 dc35 pm35 cd35 ct35 : Value}
    (z0 : Cls1 K mg "BadField" "name" "BadField.__init__" (inClass (top 2) 0) C0 I0 D0)
    (z1 : Cls1 K mg "BadKind" "name" "BadKind.__init__" (inClass (top 3) 0) C1 I1 D1)
    (z2 : Cls1 K mg "BadHouse" "name" "BadHouse.__init__" (inClass (top 4) 0) C2 I2 D2)
    (z3 : Cls1 K mg "UnknownKind" "name" "UnknownKind.__init__" (inClass (top 5) 0) C3 I3 D3)
    (z4 : Cls2 K mg "UnknownField" "kind" "name" "UnknownField.__init__" (inClass (top 6) 0) C4 I4 D4)
    (z5 : Cls1 K mg "BadWeb" "thing" "BadWeb.__init__" (inClass (top 7) 0) C5 I5 D5)
    (z6 : Cls1 K mg "BadText" "line" "BadText.__init__" (inClass (top 8) 0) C6 I6 D6)
    (z7 : Cls1 K mg "BadManner" "name" "BadManner.__init__" (inClass (top 9) 0) C7 I7 D7)
    (z8 : Cls1 K mg "BadClient" "line" "BadClient.__init__" (inClass (top 10) 0) C8 I8 D8)
    (z9 : Cls2 K mg "BadTravel" "kind" "field" "BadTravel.__init__" (inClass (top 11) 0) C9 I9 D9)
    (z10 : Cls1 K mg "BadReader" "kind" "BadReader.__init__" (inClass (top 12) 0) C10 I10 D10)
    (z11 : Cls1 K mg "BadRow" "travel" "BadRow.__init__" (inClass (top 13) 0) C11 I11 D11)
    (z12 : Cls1 K mg "Endless" "travel" "Endless.__init__" (inClass (top 14) 0) C12 I12 D12)
    (z13 : Cls1 K mg "TooLarge" "count" "TooLarge.__init__" (inClass (top 15) 0) C13 I13 D13)
    (z14 : Cls1 K mg "BadSaved" "line" "BadSaved.__init__" (inClass (top 16) 0) C14 I14 D14)
    (z15 : Cls0 K mg "BadStanding" C15)
    (z16 : Cls0 K mg "BadPaper" C16)
    (z17 : Cls1 K mg "BadComparer" "kind" "BadComparer.__init__" (inClass (top 19) 0) C17 I17 D17)
    (z18 : Cls1 K mg "BadChange" "at" "BadChange.__init__" (inClass (top 20) 0) C18 I18 D18)
    (z19 : Cls1 K mg "BadName" "name" "BadName.__init__" (inClass (top 21) 0) C19 I19 D19)
    (z20 : Cls0 K mg "Busy" C20)
    (q15 : PySem.W.excIn K C15 [.type "ValueError", .type "Exception", .type "BaseException", .type "object"] "ValueError.__new__" = true)
    (q16 : PySem.W.excIn K C16 [.type "ValueError", .type "Exception", .type "BaseException", .type "object"] "ValueError.__new__" = true)
    (q20 : PySem.W.excIn K C20 [.type "ValueError", .type "Exception", .type "BaseException", .type "object"] "ValueError.__new__" = true)
    (wa : PySem.W.nsIn K mainGlobals "WayError" = some (some (.ref CW)))
    (w1 : PySem.W.subIn K (.ref CW) (.type "BaseException") = some true) (w2 : PySem.W.hasDictIn K CW = true) (w3 : PySem.W.typeIn K (.ref CW) = some (.type "type"))
    (e4 : PySem.W.subIn K (.ref C4) (.ref C4) = some true) (e20 : PySem.W.subIn K (.ref C20) (.ref CW) = some true) (e12 : PySem.W.subIn K (.ref C12) (.ref CW) = some true)
    (tb : tabB K [C0, C1, C2, C3, C4, C5, C6, C7, C8, C9, C10, C11, C12, C13, C14, C15, C16, C17, C18, C19, C20] CW = true)
    (n_int : PySem.W.nsIn K mainGlobals "int" = some none)
    (n_len : PySem.W.nsIn K mainGlobals "len" = some none)
    (n_list : PySem.W.nsIn K mainGlobals "list" = some none)
    (n_str : PySem.W.nsIn K mainGlobals "str" = some none)
    (n_repr : PySem.W.nsIn K mainGlobals "repr" = some none)
    (n_isinstance : PySem.W.nsIn K mainGlobals "isinstance" = some none)
    (n_range : PySem.W.nsIn K mainGlobals "range" = some none)
    (n_ValueError : PySem.W.nsIn K mainGlobals "ValueError" = some none)
    (a24 : PySem.W.nsIn K mainGlobals "_law_pen" = some (some (.ref F24))) (l24 : K.lookup F24 = some ⟨oc24, od24, .func (PySem.W.fnOf "_law_pen" "_law_pen" (defArgs (top 24)) (defBody (top 24)) (defScope (top 24)) .none kV24 dc24 pm24 an24 cd24 ct24), sl24⟩) (c24 : PySem.W.codeIn K cd24 "_law_pen" = true) (k24 : PySem.W.keepIn K (.ref F24) = true)
    (a25 : PySem.W.nsIn K mainGlobals "_law_take" = some (some (.ref F25))) (l25 : K.lookup F25 = some ⟨oc25, od25, .func (PySem.W.fnOf "_law_take" "_law_take" (defArgs (top 25)) (defBody (top 25)) (defScope (top 25)) .none kV25 dc25 pm25 an25 cd25 ct25), sl25⟩) (c25 : PySem.W.codeIn K cd25 "_law_take" = true) (k25 : PySem.W.keepIn K (.ref F25) = true)
    (a26 : PySem.W.nsIn K mainGlobals "_law_one_of" = some (some (.ref F26))) (l26 : K.lookup F26 = some ⟨oc26, od26, .func (PySem.W.fnOf "_law_one_of" "_law_one_of" (defArgs (top 26)) (defBody (top 26)) (defScope (top 26)) .none kV26 dc26 pm26 an26 cd26 ct26), sl26⟩) (c26 : PySem.W.codeIn K cd26 "_law_one_of" = true) (k26 : PySem.W.keepIn K (.ref F26) = true)
    (a27 : PySem.W.nsIn K mainGlobals "_law_same" = some (some (.ref F27))) (l27 : K.lookup F27 = some ⟨oc27, od27, .func (PySem.W.fnOf "_law_same" "_law_same" (defArgs (top 27)) (defBody (top 27)) (defScope (top 27)) .none kV27 dc27 pm27 an27 cd27 ct27), sl27⟩) (c27 : PySem.W.codeIn K cd27 "_law_same" = true) (k27 : PySem.W.keepIn K (.ref F27) = true)
    (a28 : PySem.W.nsIn K mainGlobals "_law_plain" = some (some (.ref F28))) (l28 : K.lookup F28 = some ⟨oc28, od28, .func (PySem.W.fnOf "_law_plain" "_law_plain" (defArgs (top 28)) (defBody (top 28)) (defScope (top 28)) .none kV28 dc28 pm28 an28 cd28 ct28), sl28⟩) (c28 : PySem.W.codeIn K cd28 "_law_plain" = true) (k28 : PySem.W.keepIn K (.ref F28) = true)
    (a29 : PySem.W.nsIn K mainGlobals "_law_classes" = some (some (.ref F29))) (l29 : K.lookup F29 = some ⟨oc29, od29, .func (PySem.W.fnOf "_law_classes" "_law_classes" (defArgs (top 29)) (defBody (top 29)) (defScope (top 29)) .none kV29 dc29 pm29 an29 cd29 ct29), sl29⟩) (c29 : PySem.W.codeIn K cd29 "_law_classes" = true) (k29 : PySem.W.keepIn K (.ref F29) = true)
    (a30 : PySem.W.nsIn K mainGlobals "_law_first" = some (some (.ref F30))) (l30 : K.lookup F30 = some ⟨oc30, od30, .func (PySem.W.fnOf "_law_first" "_law_first" (defArgs (top 30)) (defBody (top 30)) (defScope (top 30)) .none kV30 dc30 pm30 an30 cd30 ct30), sl30⟩) (c30 : PySem.W.codeIn K cd30 "_law_first" = true) (k30 : PySem.W.keepIn K (.ref F30) = true)
    (a31 : PySem.W.nsIn K mainGlobals "_law_second" = some (some (.ref F31))) (l31 : K.lookup F31 = some ⟨oc31, od31, .func (PySem.W.fnOf "_law_second" "_law_second" (defArgs (top 31)) (defBody (top 31)) (defScope (top 31)) .none kV31 dc31 pm31 an31 cd31 ct31), sl31⟩) (c31 : PySem.W.codeIn K cd31 "_law_second" = true) (k31 : PySem.W.keepIn K (.ref F31) = true)
    (a32 : PySem.W.nsIn K mainGlobals "_law_third" = some (some (.ref F32))) (l32 : K.lookup F32 = some ⟨oc32, od32, .func (PySem.W.fnOf "_law_third" "_law_third" (defArgs (top 32)) (defBody (top 32)) (defScope (top 32)) .none kV32 dc32 pm32 an32 cd32 ct32), sl32⟩) (c32 : PySem.W.codeIn K cd32 "_law_third" = true) (k32 : PySem.W.keepIn K (.ref F32) = true)
    (a33 : PySem.W.nsIn K mainGlobals "_law_by_names" = some (some (.ref F33))) (l33 : K.lookup F33 = some ⟨oc33, od33, .func (PySem.W.fnOf "_law_by_names" "_law_by_names" (defArgs (top 33)) (defBody (top 33)) (defScope (top 33)) .none kV33 dc33 pm33 an33 cd33 ct33), sl33⟩) (c33 : PySem.W.codeIn K cd33 "_law_by_names" = true) (k33 : PySem.W.keepIn K (.ref F33) = true)
    (a34 : PySem.W.nsIn K mainGlobals "_law_caught" = some (some (.ref F34))) (l34 : K.lookup F34 = some ⟨oc34, od34, .func (PySem.W.fnOf "_law_caught" "_law_caught" (defArgs (top 34)) (defBody (top 34)) (defScope (top 34)) .none kV34 dc34 pm34 an34 cd34 ct34), sl34⟩) (c34 : PySem.W.codeIn K cd34 "_law_caught" = true) (k34 : PySem.W.keepIn K (.ref F34) = true)
    (a35 : PySem.W.nsIn K mainGlobals "law" = some (some (.ref F35))) (l35 : K.lookup F35 = some ⟨oc35, od35, .func (PySem.W.fnOf "law" "law" (defArgs (top 35)) (defBody (top 35)) (defScope (top 35)) .none kV35 dc35 pm35 an35 cd35 ct35), sl35⟩) (c35 : PySem.W.codeIn K cd35 "law" = true) (k35 : PySem.W.keepIn K (.ref F35) = true) :
    ∃ fd : FuncData, (∀ (s : Shared) (u : Value), BindsTo s fd ⟨[u], []⟩ [("_law_script", u)]) ∧
      ∀ bs : Heap, K.In bs → bs.Ns mainGlobals mg → GOk P w K mg bs CX0 5 fa fd ["_law_script"] (spLaw K) := by
  have efa := hfa.symm.trans (PySem.W.mg_of X G a35)
  cases efa
  have nn : ∀ {x : Str}, PySem.W.nsIn K mainGlobals x = some none → mg x = none := fun e => PySem.W.mg_none_of X G e
  have R24 := fun_mk (st := top 24) l24 c24 k24
  have B24 := R24.binds (ps := ["_law_script"]) fun _ _ _ _ _ _ us hl => match us, hl with | [_], _ => rfl
  have R25 := fun_mk (st := top 25) l25 c25 k25
  have B25 := R25.binds (ps := ["_law_pen_here", "_law_bound"]) fun _ _ _ _ _ _ us hl => match us, hl with | [_, _], _ => rfl
  have R26 := fun_mk (st := top 26) l26 c26 k26
  have B26 := R26.binds (ps := ["_law_pen_here", "_law_menu"]) fun _ _ _ _ _ _ us hl => match us, hl with | [_, _], _ => rfl
  have R27 := fun_mk (st := top 27) l27 c27 k27
  have B27 := R27.binds (ps := ["_law_one", "_law_other"]) fun _ _ _ _ _ _ us hl => match us, hl with | [_, _], _ => rfl
  have R28 := fun_mk (st := top 28) l28 c28 k28
  have B28 := R28.binds (ps := ["_law_pen_here"]) fun _ _ _ _ _ _ us hl => match us, hl with | [_], _ => rfl
  have R29 := fun_mk (st := top 29) l29 c29 k29
  have B29 := R29.binds (ps := ["_law_error"]) fun _ _ _ _ _ _ us hl => match us, hl with | [_], _ => rfl
  have R30 := fun_mk (st := top 30) l30 c30 k30
  have B30 := R30.binds (ps := ["_law_value", "_law_other"]) fun _ _ _ _ _ _ us hl => match us, hl with | [_, _], _ => rfl
  have R31 := fun_mk (st := top 31) l31 c31 k31
  have B31 := R31.binds (ps := ["_law_value", "_law_other"]) fun _ _ _ _ _ _ us hl => match us, hl with | [_, _], _ => rfl
  have R32 := fun_mk (st := top 32) l32 c32 k32
  have B32 := R32.binds (ps := ["_law_value"]) fun _ _ _ _ _ _ us hl => match us, hl with | [_], _ => rfl
  have R33 := fun_mk (st := top 33) l33 c33 k33
  have B33 := R33.binds (ps := ["_law_value", "_law_other"]) fun _ _ _ _ _ _ us hl => match us, hl with | [_, _], _ => rfl
  have R34 := fun_mk (st := top 34) l34 c34 k34
  have B34 := R34.binds (ps := ["_law_value", "_law_other"]) fun _ _ _ _ _ _ us hl => match us, hl with | [_, _], _ => rfl
  have R35 := fun_mk (st := top 35) l35 c35 k35
  have B35 := R35.binds (ps := ["_law_script"]) fun _ _ _ _ _ _ us hl => match us, hl with | [_], _ => rfl
  have T : Blt mg := ⟨nn n_int, nn n_len, nn n_list⟩
  have T2 : Bl2 mg := ⟨nn n_len, nn n_range, nn n_isinstance, nn n_ValueError⟩
  have gw : mg "WayError" = some (.ref CW) := PySem.W.mg_of X G wa
  have TB : Tab K (([C0, C1, C2, C3, C4, C5, C6] ++ [C7, C8, C9, C10, C11, C12, C13]) ++ [C14, C15, C16, C17, C18, C19, C20]) CW := tab_of tb fun i C e => by
    match i, e with
    | 0, e => (cases e; exact z0.Z.X)
    | 1, e => (cases e; exact z1.Z.X)
    | 2, e => (cases e; exact z2.Z.X)
    | 3, e => (cases e; exact z3.Z.X)
    | 4, e => (cases e; exact z4.one.Z.X)
    | 5, e => (cases e; exact z5.Z.X)
    | 6, e => (cases e; exact z6.Z.X)
    | 7, e => (cases e; exact z7.Z.X)
    | 8, e => (cases e; exact z8.Z.X)
    | 9, e => (cases e; exact z9.one.Z.X)
    | 10, e => (cases e; exact z10.Z.X)
    | 11, e => (cases e; exact z11.Z.X)
    | 12, e => (cases e; exact z12.Z.X)
    | 13, e => (cases e; exact z13.Z.X)
    | 14, e => (cases e; exact z14.Z.X)
    | 15, e => (cases e; exact z15.X)
    | 16, e => (cases e; exact z16.X)
    | 17, e => (cases e; exact z17.Z.X)
    | 18, e => (cases e; exact z18.Z.X)
    | 19, e => (cases e; exact z19.Z.X)
    | 20, e => (cases e; exact z20.X)
    | i + 21, e => (simp at e)
  refine ⟨PySem.W.fnOf "law" "law" (defArgs (top 35)) (defBody (top 35)) (defScope (top 35)) .none kV35 dc35 pm35 an35 cd35 ct35, fun s u => .of_eq rfl, fun bs _ _ => ?_⟩
  have M0 : Mk1 P w K mg bs "BadField" "name" C0 I0 D0 := z0.mk1 sh2
  have M1 : Mk1 P w K mg bs "BadKind" "name" C1 I1 D1 := z1.mk1 sh3
  have M2 : Mk1 P w K mg bs "BadHouse" "name" C2 I2 D2 := z2.mk1 sh4
  have M3 : Mk1 P w K mg bs "UnknownKind" "name" C3 I3 D3 := z3.mk1 sh5
  have M4 : Mk2 P w K mg bs "UnknownField" "kind" "name" C4 I4 D4 := z4.mk2 sh6
  have M5 : Mk1 P w K mg bs "BadWeb" "thing" C5 I5 D5 := z5.mk1 sh7
  have M6 : Mk1 P w K mg bs "BadText" "line" C6 I6 D6 := z6.mk1 sh8
  have M7 : Mk1 P w K mg bs "BadManner" "name" C7 I7 D7 := z7.mk1 sh9
  have M8 : Mk1 P w K mg bs "BadClient" "line" C8 I8 D8 := z8.mk1 sh10
  have M9 : Mk2 P w K mg bs "BadTravel" "kind" "field" C9 I9 D9 := z9.mk2 sh11
  have M10 : Mk1 P w K mg bs "BadReader" "kind" C10 I10 D10 := z10.mk1 sh12
  have M11 : Mk1 P w K mg bs "BadRow" "travel" C11 I11 D11 := z11.mk1 sh13
  have M12 : Mk1 P w K mg bs "Endless" "travel" C12 I12 D12 := z12.mk1 sh14
  have M13 : Mk1 P w K mg bs "TooLarge" "count" C13 I13 D13 := z13.mk1 sh15
  have M14 : Mk1 P w K mg bs "BadSaved" "line" C14 I14 D14 := z14.mk1 sh16
  have M15 : Mk0 K mg "BadStanding" C15 := ⟨z15.X, q15, z15.gC, z15.kC⟩
  have M16 : Mk0 K mg "BadPaper" C16 := ⟨z16.X, q16, z16.gC, z16.kC⟩
  have M17 : Mk1 P w K mg bs "BadComparer" "kind" C17 I17 D17 := z17.mk1 sh19
  have M18 : Mk1 P w K mg bs "BadChange" "at" C18 I18 D18 := z18.mk1 sh20
  have M19 : Mk1 P w K mg bs "BadName" "name" C19 I19 D19 := z19.mk1 sh21
  have M20 : Mk0 K mg "Busy" C20 := ⟨z20.X, q20, z20.gC, z20.kC⟩
  have Gt : FnOk P w K mg bs CX0 1 F25 _ ["_law_pen_here", "_law_bound"] spTake := ok_take R25 T
  have Go : FnOk P w K mg bs CX0 2 F26 _ ["_law_pen_here", "_law_menu"] (spOne K) := ok_one R26 T Gt B25 (PySem.W.mg_of X G a25) k25
  have Gl : FnOk P w K mg bs CX0 3 F28 _ ["_law_pen_here"] spPlain := ok_plain R28 (nn n_str) Gt B25 (PySem.W.mg_of X G a25) k25 Go B26 (PySem.W.mg_of X G a26) k26
  have Gp : FnOk P w K mg bs CX0 1 F24 _ ["_law_script"] (spPen K) := ok_pen R24 T
  have Gs : GOk P w K mg bs CX0 1 F27 _ ["_law_one", "_law_other"] (spSame K) := ok_same R27 (nn n_repr)
  have Gc := ok_classes (P := P) (w := w) (base := bs) R29 (nn n_isinstance) z0.Z.gC z1.Z.gC z2.Z.gC z3.Z.gC z4.one.Z.gC z5.Z.gC z6.Z.gC z7.Z.gC z8.Z.gC z9.one.Z.gC z10.Z.gC z11.Z.gC z12.Z.gC z13.Z.gC z14.Z.gC z15.gC z16.gC z17.Z.gC z18.Z.gC z19.Z.gC z20.gC
  have G1 := ok_first R30 M0 M1 M2 M3 M4 M5 M6
  have G2 := ok_second R31 M7 M8 M9 M10 M11 M12 M13
  have G3 := ok_third R32 M14 M15 M16 M17 M18 M19 M20
  have Gb := ok_by R33 M4 (kw_of z4.one.F fun _ _ _ _ _ _ u vs hl => match vs, hl with | [_, _], _ => rfl) M9 (kw_of z9.one.F fun _ _ _ _ _ _ u vs hl => match vs, hl with | [_, _], _ => rfl)
    M13 (kw_of z13.F fun _ _ _ _ _ _ u vs hl => match vs, hl with | [_], _ => rfl) M11 (kw_of z11.F fun _ _ _ _ _ _ u vs hl => match vs, hl with | [_], _ => rfl) Gs B27 (PySem.W.mg_of X G a27) k27
  have Gu := ok_caught R34 M4 M20 M12 gw z20.ty (PySem.W.exm_ref z4.one.Z.X.hs z4.one.Z.X.hd z4.one.Z.ty e4) (PySem.W.exm_ref w1 w2 w3 e20) (PySem.W.exm_ref w1 w2 w3 e12) Gs B27 (PySem.W.mg_of X G a27) k27
  exact ok_law (cs1 := [C0, C1, C2, C3, C4, C5, C6]) (cs2 := [C7, C8, C9, C10, C11, C12, C13]) (cs3 := [C14, C15, C16, C17, C18, C19, C20]) R35 T2 gw TB rfl Gp B24 (PySem.W.mg_of X G a24) k24 Gl B28 (PySem.W.mg_of X G a28) k28 G1 B30 (PySem.W.mg_of X G a30) k30
    G2 B31 (PySem.W.mg_of X G a31) k31 G3 B32 (PySem.W.mg_of X G a32) k32 Gc B29 (PySem.W.mg_of X G a29) k29 Gb B33 (PySem.W.mg_of X G a33) k33 Gu B34 (PySem.W.mg_of X G a34) k34 Gs B27 (PySem.W.mg_of X G a27) k27
end
end Wp

set_option Elab.async false
set_option linter.all false
set_option maxRecDepth 100000
open PySem PySem.W PyProof.Rows
set_option maxRecDepth 100000 in
set_option maxHeartbeats 0 in
theorem PySem.Challenge.cw_waypairs_k00_errors_and_their_fields_holds : PySem.Challenge.rw_waypairs_k00_errors_and_their_fields.Holds := by
  w_on; o_law; k_head; (case hw => w_witness2)
  k_fill
  refine Wp.walkG (l := PySem.Challenge.rw_waypairs_k00_errors_and_their_fields) (n := 63) (k := 5) (x := "_law_script") (sp := Wp.spLaw) rfl (by decide) rfl ⟨rfl, by decide, by decide⟩ (fun w h Y => PySem.W.kIn_of Y) ?F ?S
  case S =>
    intro K H a ns hl _ hS
    exact ⟨a, ns, rfl, hS, hl, fun _ => rfl⟩
  case F =>
    intro w mg fa h KX G hmg
    refine' Wp.all_mk KX G hmg ?z0 ?z1 ?z2 ?z3 ?z4 ?z5 ?z6 ?z7 ?z8 ?z9 ?z10 ?z11 ?z12 ?z13 ?z14 ?z15 ?z16 ?z17 ?z18 ?z19 ?z20 ?q15 ?q16 ?q20 ?wa ?w1 ?w2 ?w3 ?e4 ?e20 ?e12 ?tb ?n_int ?n_len ?n_list ?n_str ?n_repr ?n_isinstance ?n_range ?n_ValueError ?a24 ?l24 ?c24 ?k24 ?a25 ?l25 ?c25 ?k25 ?a26 ?l26 ?c26 ?k26 ?a27 ?l27 ?c27 ?k27 ?a28 ?l28 ?c28 ?k28 ?a29 ?l29 ?c29 ?k29 ?a30 ?l30 ?c30 ?k30 ?a31 ?l31 ?c31 ?k31 ?a32 ?l32 ?c32 ?k32 ?a33 ?l33 ?c33 ?k33 ?a34 ?l34 ?c34 ?k34 ?a35 ?l35 ?c35 ?k35
    (case z0 => (refine' Wp.cls1 ?Z ?xL ?hbm ?sa ?no ?iC ?tI ?l ?c ?k; (case Z => (refine' Wp.cls0 KX G ?a ?ga ?gg ?sb ?hd ?cl ?sp ?tk ?mo ?kC ?ty; (case a => k_is); (case ga => k_is); (case gg => k_is); (case sb => k_is); (case hd => k_is); (case cl => k_is); (case sp => k_is); (case tk => k_is); (case mo => k_is); (case kC => k_is); (case ty => k_is))); (case xL => k_is); (case hbm => decide +kernel); (case sa => k_is); (case no => k_is); (case iC => k_is); (case tI => k_is); (case l => k_is); (case c => k_is); (case k => k_is)))
    (case z1 => (refine' Wp.cls1 ?Z ?xL ?hbm ?sa ?no ?iC ?tI ?l ?c ?k; (case Z => (refine' Wp.cls0 KX G ?a ?ga ?gg ?sb ?hd ?cl ?sp ?tk ?mo ?kC ?ty; (case a => k_is); (case ga => k_is); (case gg => k_is); (case sb => k_is); (case hd => k_is); (case cl => k_is); (case sp => k_is); (case tk => k_is); (case mo => k_is); (case kC => k_is); (case ty => k_is))); (case xL => k_is); (case hbm => decide +kernel); (case sa => k_is); (case no => k_is); (case iC => k_is); (case tI => k_is); (case l => k_is); (case c => k_is); (case k => k_is)))
    (case z2 => (refine' Wp.cls1 ?Z ?xL ?hbm ?sa ?no ?iC ?tI ?l ?c ?k; (case Z => (refine' Wp.cls0 KX G ?a ?ga ?gg ?sb ?hd ?cl ?sp ?tk ?mo ?kC ?ty; (case a => k_is); (case ga => k_is); (case gg => k_is); (case sb => k_is); (case hd => k_is); (case cl => k_is); (case sp => k_is); (case tk => k_is); (case mo => k_is); (case kC => k_is); (case ty => k_is))); (case xL => k_is); (case hbm => decide +kernel); (case sa => k_is); (case no => k_is); (case iC => k_is); (case tI => k_is); (case l => k_is); (case c => k_is); (case k => k_is)))
    (case z3 => (refine' Wp.cls1 ?Z ?xL ?hbm ?sa ?no ?iC ?tI ?l ?c ?k; (case Z => (refine' Wp.cls0 KX G ?a ?ga ?gg ?sb ?hd ?cl ?sp ?tk ?mo ?kC ?ty; (case a => k_is); (case ga => k_is); (case gg => k_is); (case sb => k_is); (case hd => k_is); (case cl => k_is); (case sp => k_is); (case tk => k_is); (case mo => k_is); (case kC => k_is); (case ty => k_is))); (case xL => k_is); (case hbm => decide +kernel); (case sa => k_is); (case no => k_is); (case iC => k_is); (case tI => k_is); (case l => k_is); (case c => k_is); (case k => k_is)))
    (case z4 => (refine' Wp.Cls2.mk ?one ?no2; (case one => (refine' Wp.cls1 ?Z ?xL ?hbm ?sa ?no ?iC ?tI ?l ?c ?k; (case Z => (refine' Wp.cls0 KX G ?a ?ga ?gg ?sb ?hd ?cl ?sp ?tk ?mo ?kC ?ty; (case a => k_is); (case ga => k_is); (case gg => k_is); (case sb => k_is); (case hd => k_is); (case cl => k_is); (case sp => k_is); (case tk => k_is); (case mo => k_is); (case kC => k_is); (case ty => k_is))); (case xL => k_is); (case hbm => decide +kernel); (case sa => k_is); (case no => k_is); (case iC => k_is); (case tI => k_is); (case l => k_is); (case c => k_is); (case k => k_is))); (case no2 => k_is)))
    (case z5 => (refine' Wp.cls1 ?Z ?xL ?hbm ?sa ?no ?iC ?tI ?l ?c ?k; (case Z => (refine' Wp.cls0 KX G ?a ?ga ?gg ?sb ?hd ?cl ?sp ?tk ?mo ?kC ?ty; (case a => k_is); (case ga => k_is); (case gg => k_is); (case sb => k_is); (case hd => k_is); (case cl => k_is); (case sp => k_is); (case tk => k_is); (case mo => k_is); (case kC => k_is); (case ty => k_is))); (case xL => k_is); (case hbm => decide +kernel); (case sa => k_is); (case no => k_is); (case iC => k_is); (case tI => k_is); (case l => k_is); (case c => k_is); (case k => k_is)))
    (case z6 => (refine' Wp.cls1 ?Z ?xL ?hbm ?sa ?no ?iC ?tI ?l ?c ?k; (case Z => (refine' Wp.cls0 KX G ?a ?ga ?gg ?sb ?hd ?cl ?sp ?tk ?mo ?kC ?ty; (case a => k_is); (case ga => k_is); (case gg => k_is); (case sb => k_is); (case hd => k_is); (case cl => k_is); (case sp => k_is); (case tk => k_is); (case mo => k_is); (case kC => k_is); (case ty => k_is))); (case xL => k_is); (case hbm => decide +kernel); (case sa => k_is); (case no => k_is); (case iC => k_is); (case tI => k_is); (case l => k_is); (case c => k_is); (case k => k_is)))
    (case z7 => (refine' Wp.cls1 ?Z ?xL ?hbm ?sa ?no ?iC ?tI ?l ?c ?k; (case Z => (refine' Wp.cls0 KX G ?a ?ga ?gg ?sb ?hd ?cl ?sp ?tk ?mo ?kC ?ty; (case a => k_is); (case ga => k_is); (case gg => k_is); (case sb => k_is); (case hd => k_is); (case cl => k_is); (case sp => k_is); (case tk => k_is); (case mo => k_is); (case kC => k_is); (case ty => k_is))); (case xL => k_is); (case hbm => decide +kernel); (case sa => k_is); (case no => k_is); (case iC => k_is); (case tI => k_is); (case l => k_is); (case c => k_is); (case k => k_is)))
    (case z8 => (refine' Wp.cls1 ?Z ?xL ?hbm ?sa ?no ?iC ?tI ?l ?c ?k; (case Z => (refine' Wp.cls0 KX G ?a ?ga ?gg ?sb ?hd ?cl ?sp ?tk ?mo ?kC ?ty; (case a => k_is); (case ga => k_is); (case gg => k_is); (case sb => k_is); (case hd => k_is); (case cl => k_is); (case sp => k_is); (case tk => k_is); (case mo => k_is); (case kC => k_is); (case ty => k_is))); (case xL => k_is); (case hbm => decide +kernel); (case sa => k_is); (case no => k_is); (case iC => k_is); (case tI => k_is); (case l => k_is); (case c => k_is); (case k => k_is)))
    (case z9 => (refine' Wp.Cls2.mk ?one ?no2; (case one => (refine' Wp.cls1 ?Z ?xL ?hbm ?sa ?no ?iC ?tI ?l ?c ?k; (case Z => (refine' Wp.cls0 KX G ?a ?ga ?gg ?sb ?hd ?cl ?sp ?tk ?mo ?kC ?ty; (case a => k_is); (case ga => k_is); (case gg => k_is); (case sb => k_is); (case hd => k_is); (case cl => k_is); (case sp => k_is); (case tk => k_is); (case mo => k_is); (case kC => k_is); (case ty => k_is))); (case xL => k_is); (case hbm => decide +kernel); (case sa => k_is); (case no => k_is); (case iC => k_is); (case tI => k_is); (case l => k_is); (case c => k_is); (case k => k_is))); (case no2 => k_is)))
    (case z10 => (refine' Wp.cls1 ?Z ?xL ?hbm ?sa ?no ?iC ?tI ?l ?c ?k; (case Z => (refine' Wp.cls0 KX G ?a ?ga ?gg ?sb ?hd ?cl ?sp ?tk ?mo ?kC ?ty; (case a => k_is); (case ga => k_is); (case gg => k_is); (case sb => k_is); (case hd => k_is); (case cl => k_is); (case sp => k_is); (case tk => k_is); (case mo => k_is); (case kC => k_is); (case ty => k_is))); (case xL => k_is); (case hbm => decide +kernel); (case sa => k_is); (case no => k_is); (case iC => k_is); (case tI => k_is); (case l => k_is); (case c => k_is); (case k => k_is)))
    (case z11 => (refine' Wp.cls1 ?Z ?xL ?hbm ?sa ?no ?iC ?tI ?l ?c ?k; (case Z => (refine' Wp.cls0 KX G ?a ?ga ?gg ?sb ?hd ?cl ?sp ?tk ?mo ?kC ?ty; (case a => k_is); (case ga => k_is); (case gg => k_is); (case sb => k_is); (case hd => k_is); (case cl => k_is); (case sp => k_is); (case tk => k_is); (case mo => k_is); (case kC => k_is); (case ty => k_is))); (case xL => k_is); (case hbm => decide +kernel); (case sa => k_is); (case no => k_is); (case iC => k_is); (case tI => k_is); (case l => k_is); (case c => k_is); (case k => k_is)))
    (case z12 => (refine' Wp.cls1 ?Z ?xL ?hbm ?sa ?no ?iC ?tI ?l ?c ?k; (case Z => (refine' Wp.cls0 KX G ?a ?ga ?gg ?sb ?hd ?cl ?sp ?tk ?mo ?kC ?ty; (case a => k_is); (case ga => k_is); (case gg => k_is); (case sb => k_is); (case hd => k_is); (case cl => k_is); (case sp => k_is); (case tk => k_is); (case mo => k_is); (case kC => k_is); (case ty => k_is))); (case xL => k_is); (case hbm => decide +kernel); (case sa => k_is); (case no => k_is); (case iC => k_is); (case tI => k_is); (case l => k_is); (case c => k_is); (case k => k_is)))
    (case z13 => (refine' Wp.cls1 ?Z ?xL ?hbm ?sa ?no ?iC ?tI ?l ?c ?k; (case Z => (refine' Wp.cls0 KX G ?a ?ga ?gg ?sb ?hd ?cl ?sp ?tk ?mo ?kC ?ty; (case a => k_is); (case ga => k_is); (case gg => k_is); (case sb => k_is); (case hd => k_is); (case cl => k_is); (case sp => k_is); (case tk => k_is); (case mo => k_is); (case kC => k_is); (case ty => k_is))); (case xL => k_is); (case hbm => decide +kernel); (case sa => k_is); (case no => k_is); (case iC => k_is); (case tI => k_is); (case l => k_is); (case c => k_is); (case k => k_is)))
    (case z14 => (refine' Wp.cls1 ?Z ?xL ?hbm ?sa ?no ?iC ?tI ?l ?c ?k; (case Z => (refine' Wp.cls0 KX G ?a ?ga ?gg ?sb ?hd ?cl ?sp ?tk ?mo ?kC ?ty; (case a => k_is); (case ga => k_is); (case gg => k_is); (case sb => k_is); (case hd => k_is); (case cl => k_is); (case sp => k_is); (case tk => k_is); (case mo => k_is); (case kC => k_is); (case ty => k_is))); (case xL => k_is); (case hbm => decide +kernel); (case sa => k_is); (case no => k_is); (case iC => k_is); (case tI => k_is); (case l => k_is); (case c => k_is); (case k => k_is)))
    (case z15 => (refine' Wp.cls0 KX G ?a ?ga ?gg ?sb ?hd ?cl ?sp ?tk ?mo ?kC ?ty; (case a => k_is); (case ga => k_is); (case gg => k_is); (case sb => k_is); (case hd => k_is); (case cl => k_is); (case sp => k_is); (case tk => k_is); (case mo => k_is); (case kC => k_is); (case ty => k_is)))
    (case z16 => (refine' Wp.cls0 KX G ?a ?ga ?gg ?sb ?hd ?cl ?sp ?tk ?mo ?kC ?ty; (case a => k_is); (case ga => k_is); (case gg => k_is); (case sb => k_is); (case hd => k_is); (case cl => k_is); (case sp => k_is); (case tk => k_is); (case mo => k_is); (case kC => k_is); (case ty => k_is)))
    (case z17 => (refine' Wp.cls1 ?Z ?xL ?hbm ?sa ?no ?iC ?tI ?l ?c ?k; (case Z => (refine' Wp.cls0 KX G ?a ?ga ?gg ?sb ?hd ?cl ?sp ?tk ?mo ?kC ?ty; (case a => k_is); (case ga => k_is); (case gg => k_is); (case sb => k_is); (case hd => k_is); (case cl => k_is); (case sp => k_is); (case tk => k_is); (case mo => k_is); (case kC => k_is); (case ty => k_is))); (case xL => k_is); (case hbm => decide +kernel); (case sa => k_is); (case no => k_is); (case iC => k_is); (case tI => k_is); (case l => k_is); (case c => k_is); (case k => k_is)))
    (case z18 => (refine' Wp.cls1 ?Z ?xL ?hbm ?sa ?no ?iC ?tI ?l ?c ?k; (case Z => (refine' Wp.cls0 KX G ?a ?ga ?gg ?sb ?hd ?cl ?sp ?tk ?mo ?kC ?ty; (case a => k_is); (case ga => k_is); (case gg => k_is); (case sb => k_is); (case hd => k_is); (case cl => k_is); (case sp => k_is); (case tk => k_is); (case mo => k_is); (case kC => k_is); (case ty => k_is))); (case xL => k_is); (case hbm => decide +kernel); (case sa => k_is); (case no => k_is); (case iC => k_is); (case tI => k_is); (case l => k_is); (case c => k_is); (case k => k_is)))
    (case z19 => (refine' Wp.cls1 ?Z ?xL ?hbm ?sa ?no ?iC ?tI ?l ?c ?k; (case Z => (refine' Wp.cls0 KX G ?a ?ga ?gg ?sb ?hd ?cl ?sp ?tk ?mo ?kC ?ty; (case a => k_is); (case ga => k_is); (case gg => k_is); (case sb => k_is); (case hd => k_is); (case cl => k_is); (case sp => k_is); (case tk => k_is); (case mo => k_is); (case kC => k_is); (case ty => k_is))); (case xL => k_is); (case hbm => decide +kernel); (case sa => k_is); (case no => k_is); (case iC => k_is); (case tI => k_is); (case l => k_is); (case c => k_is); (case k => k_is)))
    (case z20 => (refine' Wp.cls0 KX G ?a ?ga ?gg ?sb ?hd ?cl ?sp ?tk ?mo ?kC ?ty; (case a => k_is); (case ga => k_is); (case gg => k_is); (case sb => k_is); (case hd => k_is); (case cl => k_is); (case sp => k_is); (case tk => k_is); (case mo => k_is); (case kC => k_is); (case ty => k_is)))
    (case q15 => first | k_exc | kernel_rfl)
    (case q16 => first | k_exc | kernel_rfl)
    (case q20 => first | k_exc | kernel_rfl)
    (case wa => k_is)
    (case w1 => k_is)
    (case w2 => k_is)
    (case w3 => k_is)
    (case e4 => first | k_is | rfl)
    (case e20 => k_is)
    (case e12 => k_is)
    (case tb => kernel_rfl)
    (case n_int => k_is)
    (case n_len => k_is)
    (case n_list => k_is)
    (case n_str => k_is)
    (case n_repr => k_is)
    (case n_isinstance => k_is)
    (case n_range => k_is)
    (case n_ValueError => k_is)
    (case a24 => k_is)
    (case l24 => k_is)
    (case c24 => k_is)
    (case k24 => k_is)
    (case a25 => k_is)
    (case l25 => k_is)
    (case c25 => k_is)
    (case k25 => k_is)
    (case a26 => k_is)
    (case l26 => k_is)
    (case c26 => k_is)
    (case k26 => k_is)
    (case a27 => k_is)
    (case l27 => k_is)
    (case c27 => k_is)
    (case k27 => k_is)
    (case a28 => k_is)
    (case l28 => k_is)
    (case c28 => k_is)
    (case k28 => k_is)
    (case a29 => k_is)
    (case l29 => k_is)
    (case c29 => k_is)
    (case k29 => k_is)
    (case a30 => k_is)
    (case l30 => k_is)
    (case c30 => k_is)
    (case k30 => k_is)
    (case a31 => k_is)
    (case l31 => k_is)
    (case c31 => k_is)
    (case k31 => k_is)
    (case a32 => k_is)
    (case l32 => k_is)
    (case c32 => k_is)
    (case k32 => k_is)
    (case a33 => k_is)
    (case l33 => k_is)
    (case c33 => k_is)
    (case k33 => k_is)
    (case a34 => k_is)
    (case l34 => k_is)
    (case c34 => k_is)
    (case k34 => k_is)
    (case a35 => k_is)
    (case l35 => k_is)
    (case c35 => k_is)
    (case k35 => k_is)
#print axioms PySem.Challenge.cw_waypairs_k00_errors_and_their_fields_holds
