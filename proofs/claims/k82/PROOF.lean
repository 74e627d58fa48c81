import PyProof.Rows.All
import Wide.All
import OpenK.AllK
import Wide.FinOn
import HandS.ForMost
import HandS.Walk
import HandS.Comp
import HandS.Deep
import HandS.Strs
import HandS.OwnEq
import HandS.More
import HandS.Words
import HandS.ClsMeth
import HandS.Star
import HandS.Property
import HandS.Wide
import HandS.DictTup
import HandS.TupLen
import KE.KDictKeyed
import KE.KDictLaw
import KE.KDictItemsList
import HandS.ReCall
import HandS.IterVal
import HandS.IsInst
import HandS.Flow
import HandS.Style
import HandS.Defaults
import HandS.Conv
import HandS.TupAny
import HandS.Head0
import HandS.Head1
import HandS.Head2
import HandS.HeadEnd
import HandS.HeadHook1
import HandS.HeadHook2
import HandS.HeadHook3
import HandS.HeadNt
import HandS.WordsExc
import PySem.Challenge.RW_waypairs_k82_profiles_of_sets
set_option Elab.async false
set_option linter.all false
set_option maxRecDepth 100000
set_option maxHeartbeats 4000000
/-! The eight sets, as numbers; which tell, as masks. -/
namespace W8
open PySem
abbrev Cd : Type := Fin 8
def wAsk : Str := "ask"
def wOld : Str := "old"
def wSet : Str := "set"
def wds : Cd → List Str
  | 0 => [] | 1 => [wAsk] | 2 => [wOld] | 3 => [wSet] | 4 => [wAsk, wOld] | 5 => [wAsk, wSet] | 6 => [wOld, wSet] | 7 => [wAsk, wOld, wSet]
def all3 : List Str := [wAsk, wOld, wSet]
def e8 : List Cd := [0, 1, 2, 3, 4, 5, 6, 7]
def sub (i j : Cd) : Bool := (wds i).all fun w => (wds j).contains w
def codeOf (ws : List Str) : Cd := if ws.contains wAsk then (if ws.contains wOld then (if ws.contains wSet then 7 else 4) else (if ws.contains wSet then 5 else 1)) else (if ws.contains wOld then (if ws.contains wSet then 6 else 2) else (if ws.contains wSet then 3 else 0))
def join (i j : Cd) : Cd := codeOf (wds i ++ wds j)
theorem wds_code (ws : List Str) : all3.filter (fun w => ws.contains w) = wds (codeOf ws) := by
  unfold all3 codeOf
  cases h1 : ws.contains wAsk <;> cases h2 : ws.contains wOld <;> cases h3 : ws.contains wSet <;> (simp only [List.filter_cons, List.filter_nil, h1, h2, h3, if_true, if_false, Bool.false_eq_true] <;> rfl)
theorem code_wds : ∀ m : Cd, codeOf (wds m) = m := by decide +kernel
theorem wds_inj : ∀ i j : Cd, wds i = wds j → i = j := by decide +kernel
theorem wds_join (i j : Cd) : all3.filter (fun w => (wds i).contains w || (wds j).contains w) = wds (join i j) := by
  unfold join
  rw [← wds_code]
  congr 1
  funext w
  simp [List.contains_eq_mem]
theorem wds_in : ∀ m : Cd, ∀ w ∈ wds m, w ∈ all3 := by decide +kernel
theorem wds_nodup : ∀ m : Cd, (wds m).Nodup := by decide +kernel
theorem wds_len : ∀ m : Cd, (wds m).length ≤ 3 := by decide +kernel
theorem sub_law : ∀ i j : Cd, ((wds i).filter fun w => !(wds j).contains w).isEmpty = sub i j := by decide +kernel
/-! ## masks -/
def upm (m : Cd) : Nat := e8.foldl (fun b i => if sub m i then b ||| (1 <<< i.val) else b) 0
def has (t : Nat) (m : Cd) : Bool := t.testBit m.val
def fl (t : Nat) : List Cd := e8.filter (has t)
def ql (t : Nat) : List Cd := e8.filter fun m => !has t m
def tel : List Cd → Nat
  | [] => 0
  | m :: ms => upm m ||| tel ms
def mm : List Cd → Nat
  | [] => 0
  | m :: ms => (1 <<< m.val) ||| mm ms
def upB (t : Nat) : Nat := tel (fl t)
def lst (ms : List Cd) : List Cd := ms.filter fun one => (ms.filter fun less => less != one && sub less one).isEmpty
def grs (ms : List Cd) : List Cd := ms.filter fun one => (ms.filter fun more => more != one && sub one more).isEmpty
theorem upm_has : ∀ m i : Cd, has (upm m) i = sub m i := by decide +kernel
theorem upm_lt : ∀ m : Cd, upm m < 256 := by decide +kernel
theorem or_lt {a b : Nat} (h : a < 256) (k : b < 256) : a ||| b < 256 := Nat.or_lt_two_pow (n := 8) h k
theorem tel_lt : ∀ ms : List Cd, tel ms < 256
  | [] => by decide
  | m :: ms => or_lt (upm_lt m) (tel_lt ms)
theorem mm_lt : ∀ ms : List Cd, mm ms < 256
  | [] => by decide
  | m :: ms => or_lt ((by decide : ∀ m : Cd, 1 <<< m.val < 256) m) (mm_lt ms)
theorem has_or (a b : Nat) (m : Cd) : has (a ||| b) m = (has a m || has b m) := Nat.testBit_or ..
theorem has_and (a b : Nat) (m : Cd) : has (a &&& b) m = (has a m && has b m) := Nat.testBit_and ..
theorem has_zero (m : Cd) : has 0 m = false := Nat.zero_testBit _
theorem tel_has (m : Cd) : ∀ ms : List Cd, has (tel ms) m = ms.any fun i => sub i m
  | [] => has_zero m
  | i :: ms => by
    show has (upm i ||| tel ms) m = _
    rw [has_or, upm_has, tel_has m ms]
    rfl
theorem mm_has (m : Cd) : ∀ ms : List Cd, has (mm ms) m = ms.any fun i => i == m
  | [] => has_zero m
  | i :: ms => by
    show has (1 <<< i.val ||| mm ms) m = _
    rw [has_or, mm_has m ms, (by decide +kernel : ∀ i m : Cd, has (1 <<< i.val) m = (i == m)) i m]
    rfl
theorem tel_append : ∀ a b : List Cd, tel (a ++ b) = tel a ||| tel b
  | [], b => (Nat.zero_or _).symm
  | m :: a, b => by
    show upm m ||| tel (a ++ b) = _
    rw [tel_append a b, ← Nat.or_assoc]
    rfl
theorem fl_eq_of {s t : Nat} (h : ∀ m, has s m = has t m) : fl s = fl t := by
  unfold fl
  rw [funext h]
theorem eq_of_has {s t : Nat} (hs : s < 256) (ht : t < 256) (h : ∀ m, has s m = has t m) : s = t := by
  apply Nat.eq_of_testBit_eq
  intro i
  by_cases k : i < 8
  · exact h ⟨i, k⟩
  · rw [Nat.testBit_lt_two_pow (Nat.lt_of_lt_of_le hs (Nat.pow_le_pow_right (n := 2) (by decide) (by omega) : 2 ^ 8 ≤ 2 ^ i)), Nat.testBit_lt_two_pow (Nat.lt_of_lt_of_le ht (Nat.pow_le_pow_right (n := 2) (by decide) (by omega) : 2 ^ 8 ≤ 2 ^ i))]
theorem upB_mm (ms : List Cd) : upB (mm ms) = tel ms := by
  refine eq_of_has (tel_lt _) (tel_lt _) fun m => ?_
  unfold upB
  rw [tel_has, tel_has]
  rw [Bool.eq_iff_iff, List.any_eq_true, List.any_eq_true]
  constructor
  · rintro ⟨i, hi, s⟩
    have h := (List.mem_filter.mp hi).2
    rw [mm_has, List.any_eq_true] at h
    obtain ⟨j, hj, e⟩ := h
    exact ⟨j, hj, by rw [beq_iff_eq.mp e]; exact s⟩
  · rintro ⟨i, hi, s⟩
    refine ⟨i, List.mem_filter.mpr ⟨(by decide : ∀ i : Cd, i ∈ e8) i, ?_⟩, s⟩
    rw [mm_has, List.any_eq_true]
    exact ⟨i, hi, beq_iff_eq.mpr rfl⟩
/-- what tells together with all that is larger -/
def Uc (t : Nat) : Prop := t < 256 ∧ upB t = t
instance (t : Nat) : Decidable (Uc t) := inferInstanceAs (Decidable (_ ∧ _))
theorem up_up : ∀ t, t < 256 → upB (upB t) = upB t := by decide +kernel
theorem uc_tel (ms : List Cd) : Uc (tel ms) := by
  refine ⟨tel_lt ms, ?_⟩
  rw [← upB_mm]
  exact up_up _ (mm_lt ms)
theorem lst_up : ∀ t, t < 256 → lst (fl t) = lst (fl (upB t)) := by decide +kernel
theorem lst_mm (ms : List Cd) : lst (fl (mm ms)) = lst (fl (tel ms)) := by
  rw [lst_up _ (mm_lt ms), upB_mm]
theorem tel_lst0 : ∀ t, t < 256 → upB t = t → tel (lst (fl t)) = t := by decide +kernel
theorem tel_lst {t : Nat} (h : Uc t) : tel (lst (fl t)) = t := tel_lst0 t h.1 h.2
theorem uc_or {s t : Nat} (h : Uc s) (k : Uc t) : Uc (s ||| t) := by
  rw [← tel_lst h, ← tel_lst k, ← tel_append]
  exact uc_tel _
theorem tel_join (i : Cd) : ∀ ns : List Cd, tel (ns.map (join i)) = upm i &&& tel ns
  | [] => (Nat.and_zero _).symm
  | n :: ns => by
    show upm (join i n) ||| tel (ns.map (join i)) = upm i &&& (upm n ||| tel ns)
    rw [tel_join i ns, Nat.and_or_distrib_left, (by decide +kernel : ∀ i n : Cd, upm (join i n) = upm i &&& upm n) i n]
theorem tel_joins (ns : List Cd) : ∀ ms : List Cd, tel (ms.flatMap fun i => ns.map (join i)) = tel ms &&& tel ns
  | [] => (Nat.zero_and _).symm
  | m :: ms => by
    rw [List.flatMap_cons, tel_append, tel_join, tel_joins ns ms]
    show _ = (upm m ||| tel ms) &&& tel ns
    rw [Nat.and_or_distrib_right]
theorem uc_and {s t : Nat} (h : Uc s) (k : Uc t) : Uc (s &&& t) := by
  rw [← tel_lst h, ← tel_lst k, ← tel_joins]
  exact uc_tel _
theorem uc_zero : Uc 0 := by decide +kernel
/-! ## what the program says is what the law says -/
theorem tells_has {t : Nat} (h : Uc t) (m : Cd) : ((lst (fl t)).any fun i => sub i m) = has t m := by
  rw [← tel_has, tel_lst h]
theorem any_lst (ms : List Cd) : (ms.filter fun one => !((ms.map fun other => sub other one && (other != one)).any id)) = lst ms := by
  unfold lst
  congr 1
  funext one
  rw [Bool.eq_iff_iff]
  simp [List.filter_eq_nil_iff, List.any_map]
  constructor
  · intro h a ha hn
    exact Bool.eq_false_iff.mpr fun hs => hn (h a ha hs)
  · intro h a ha hs
    by_cases e : a = one
    · exact e
    · exact absurd hs (by simpa using h a ha e)
theorem any_grs (ms : List Cd) : (ms.filter fun one => !((ms.map fun other => sub one other && (one != other)).any id)) = grs ms := by
  unfold grs
  congr 1
  funext one
  rw [Bool.eq_iff_iff]
  simp [List.filter_eq_nil_iff, List.any_map]
  constructor
  · intro h a ha hn
    exact Bool.eq_false_iff.mpr fun hs => hn (h a ha hs).symm
  · intro h a ha hs
    by_cases e : a = one
    · exact e.symm
    · exact absurd hs (by simpa using h a ha e)
theorem quiet0 : ∀ t, t < 256 → upB t = t → (lst (fl t)).isEmpty = (fl t).isEmpty := by decide +kernel
theorem lst_inj0 : ∀ s, s < 256 → upB s = s → ∀ t, t < 256 → upB t = t → decide (lst (fl s) = lst (fl t)) = decide (fl s = fl t) := by decide +kernel
theorem within0 : ∀ s, s < 256 → upB s = s → ∀ t, t < 256 → upB t = t → (lst (fl s)).all (has t) = ((fl s).filter fun m => !has t m).isEmpty := by decide +kernel
theorem mem_fl {t : Nat} {m : Cd} : (fl t).contains m = has t m := by
  rw [Bool.eq_iff_iff]
  simp [fl, List.mem_filter, (by decide : ∀ i : Cd, i ∈ e8) m]
theorem fl_or (s t : Nat) : (e8.filter fun m => (fl s).contains m || (fl t).contains m) = fl (s ||| t) := by
  unfold fl
  congr 1
  funext m
  have := mem_fl (t := s) (m := m)
  have q := mem_fl (t := t) (m := m)
  unfold fl at this q
  rw [this, q, has_or]
theorem fl_and (s t : Nat) : ((fl s).filter fun m => (fl t).contains m) = fl (s &&& t) := by
  unfold fl
  rw [List.filter_filter]
  congr 1
  funext m
  have q := mem_fl (t := t) (m := m)
  unfold fl at q
  rw [q, has_and, Bool.and_comm]
theorem fl_tel (ms : List Cd) : (e8.filter fun one => !(ms.filter fun less => sub less one).isEmpty) = fl (tel ms) := by
  unfold fl
  congr 1
  funext m
  rw [tel_has, Bool.eq_iff_iff]
  simp [List.filter_eq_nil_iff]
theorem ql_eq (t : Nat) : (e8.filter fun m => !(fl t).contains m) = ql t := by
  unfold ql
  congr 1
  funext m
  rw [mem_fl]
theorem fl_len (t : Nat) : (fl t).length ≤ 8 := List.length_filter_le ..
theorem ql_len (t : Nat) : (ql t).length ≤ 8 := List.length_filter_le ..
theorem lst_len (ms : List Cd) : (lst ms).length ≤ ms.length := List.length_filter_le ..
theorem grs_len (ms : List Cd) : (grs ms).length ≤ ms.length := List.length_filter_le ..
end W8
set_option Elab.async false
set_option linter.all false
set_option maxRecDepth 100000
set_option maxHeartbeats 4000000
/-! What stands in the heap, told by codes; comprehensions over it. -/
namespace W8
open PySem PySem.Spec PyProof.Rows L2
theorem same_new {H : Hp} {D : Addr} {o : HO} (h : H D = none) : Same H (upd H D o) := fun b u e => by
  rw [upd_ne (ne_of_none e h)]
  exact e
end W8
namespace L2
open PySem PySem.Spec PyProof.Rows
/-- a new thing filled anew -/
theorem Same.over {H H1 : Hp} {D : Addr} {o : HO} (a : Same H H1) (h : H D = Option.none) : Same H (upd H1 D o) := fun b u e => by
  rw [upd_ne (ne_of_none e h)]
  exact a _ _ e
theorem Same.sqT {K : PySem.W.Frag} {H H' : Hp} {q : Addr} {xs : List V} (k : Same H H') (h : SqT K H q xs) : SqT K H' q xs := by
  rcases h with (h | ⟨o, h⟩) | h
  · exact .inl (.inl (k _ _ h))
  · exact .inl (.inr ⟨o, k _ _ h⟩)
  · exact .inr h
end L2
namespace W8
open PySem PySem.Spec PyProof.Rows L2
abbrev Rp (α : Type) := Hp → V → α → Prop
/-- all but lists is as it was -/
def Kp (H H' : Hp) : Prop := ∀ b o, (∀ xs, o ≠ .lst xs) → H b = some o → H' b = some o
theorem Kp.of {H H' : Hp} (s : Same H H') : Kp H H' := fun b o _ e => s b o e
theorem Kp.refl (H : Hp) : Kp H H := fun _ _ _ e => e
theorem Kp.trans {H H1 H2 : Hp} (a : Kp H H1) (b : Kp H1 H2) : Kp H H2 := fun c o n e => b c o n (a c o n e)
theorem Kp.lst {H : Hp} {D : Addr} {ys zs : List V} (h : H D = some (.lst ys)) : Kp H (upd H D (.lst zs)) := fun b o n e => by
  rw [upd_ne fun z => by
    rw [z, h] at e
    exact n _ (Option.some.inj e).symm]
  exact e
def Mono {α : Type} (R : Rp α) : Prop := ∀ H H' v c, Kp H H' → R H v c → R H' v c
/-- each value stands for its code -/
def Ev {α : Type} (R : Rp α) (H : Hp) (xs : List V) (cs : List α) : Prop := xs.length = cs.length ∧ ∀ (i : Nat) x c, xs[i]? = some x → cs[i]? = some c → R H x c
section
variable {α β : Type} {R : Rp α} {R2 : Rp β} {H H' : Hp} {xs ys : List V} {cs ds : List α} {x : V} {c : α}
theorem Ev.nil : Ev R H [] [] := ⟨rfl, fun i x c h => by simp at h⟩
theorem Ev.kp (m : Mono R) (e : Ev R H xs cs) (s : Kp H H') : Ev R H' xs cs := ⟨e.1, fun i x c h k => m _ _ _ _ s (e.2 i x c h k)⟩
theorem Ev.same (m : Mono R) (e : Ev R H xs cs) (s : Same H H') : Ev R H' xs cs := e.kp m (.of s)
theorem Ev.cons (h : R H x c) (e : Ev R H xs cs) : Ev R H (x :: xs) (c :: cs) := by
  refine ⟨by simp [e.1], fun i y d h1 h2 => ?_⟩
  cases i with
  | zero =>
    simp at h1 h2
    subst h1 h2
    exact h
  | succ i => exact e.2 i y d (by simpa using h1) (by simpa using h2)
theorem Ev.uncons (e : Ev R H (x :: xs) (c :: cs)) : R H x c ∧ Ev R H xs cs := by
  refine ⟨e.2 0 x c rfl rfl, by simpa using e.1, fun i y d h1 h2 => e.2 (i + 1) y d (by simpa using h1) (by simpa using h2)⟩
theorem Ev.append (e : Ev R H xs cs) (f : Ev R H ys ds) : Ev R H (xs ++ ys) (cs ++ ds) := by
  refine ⟨by simp [e.1, f.1], fun i y d h1 h2 => ?_⟩
  by_cases k : i < xs.length
  · rw [List.getElem?_append_left k] at h1
    rw [List.getElem?_append_left (by rw [← e.1]; exact k)] at h2
    exact e.2 i y d h1 h2
  · rw [List.getElem?_append_right (by omega)] at h1
    rw [List.getElem?_append_right (by have := e.1; omega), ← e.1] at h2
    exact f.2 _ y d h1 h2
theorem Ev.at (e : Ev R H xs cs) {i : Nat} (h : xs[i]? = some x) : ∃ c, cs[i]? = some c ∧ R H x c := by
  have k : i < cs.length := by
    rw [← e.1]
    exact (List.getElem?_eq_some_iff.mp h).1
  exact ⟨cs[i], List.getElem?_eq_getElem k, e.2 i x _ h (List.getElem?_eq_getElem k)⟩
theorem Ev.imp {f : α → β} (k : ∀ x c, R H x c → R2 H x (f c)) (e : Ev R H xs cs) : Ev R2 H xs (cs.map f) := by
  refine ⟨by simp [e.1], fun i y d h1 h2 => ?_⟩
  obtain ⟨c, hc, r⟩ := e.at h1
  rw [List.getElem?_map, hc] at h2
  cases h2
  exact k _ _ r
theorem Ev.drop (e : Ev R H xs cs) (n : Nat) : Ev R H (xs.drop n) (cs.drop n) := by
  refine ⟨by simp [e.1], fun i y d h1 h2 => ?_⟩
  rw [List.getElem?_drop] at h1 h2
  exact e.2 _ _ _ h1 h2
end
theorem take_snoc {α : Type} {cs : List α} {j : Nat} {c : α} (h : cs[j]? = some c) : cs.take (j + 1) = cs.take j ++ [c] := by
  rw [List.take_add_one, h]
  rfl
/-- [e for x in xs if t] over what stands for cs: what p says of the code is kept, as f has it -/
theorem lc_sieve {α β : Type} {R : Rp α} {R2 : Rp β} (mR : Mono R) (mR2 : Mono R2) (p : α → Bool) (f : α → β) {J : It} {G : Hp → Prop} {xs : List V} {cs : List α} {tt : TT} {te : TE} {i : Nat} {σ : L2.St} {H : Hp} {D : Addr} {Q : Hp → Prop}
    (w : Walk J xs.length G (YAt xs)) (few : cs.length ≤ 1000) (hG : ∀ H', Same H H' → G H') (new : H D = none) (ev : Ev R H xs cs)
    (test : ∀ (x : V) (c : α) (H1 : Hp) (Rq : Bool → Hp → Prop), c ∈ cs → Same H H1 → R H1 x c → (∀ H2, Same H1 H2 → Rq (p c) H2) → tt ((σ.set i none).set i (some x)) H1 Rq)
    (elt : ∀ (x : V) (c : α) (H1 : Hp) (Rq : VK), c ∈ cs → p c = true → Same H H1 → R H1 x c → (∀ y H2, Same H1 H2 → R2 H2 y (f c) → Rq y H2) → te ((σ.set i none).set i (some x)) H1 Rq)
    (k : ∀ H' ys, Same H H' → H' D = some (.lst ys) → Ev R2 H' ys ((cs.filter p).map f) → Q H') :
    ∃ W : Nat → Nat → Hp → Prop, (∃ m, W 0 m (upd H D (.lst []))) ∧ ∀ j m H, W j m H →
      (J.stop j H ∧ Q H) ∨ (J.go j H ∧ ∃ Nx : Hp → Prop, (∀ H', Nx H' → ∃ m', m' < m ∧ W (j + 1) m' H') ∧ ∀ x H', J.yld j H x H' → gName i x (wipe σ [i]) H' fun σ2 H2 => wipe σ2 [i] = wipe σ [i] ∧ tt σ2 H2 fun b H3 =>
        if b = true then te σ2 H3 fun y H4 => ∃ acc, H4 D = some (.lst acc) ∧ acc.length < sizeLine ∧ Nx (upd H4 D (.lst (acc ++ [y]))) else Nx H3) := by
  refine lc_it w (fun j H' => Same H H' ∧ ∃ ys, H' D = some (.lst ys) ∧ Ev R2 H' ys (((cs.take j).filter p).map f)) ⟨same_new new, [], upd_same, Ev.nil⟩ (fun j H' _ q => hG H' q.1) ?_ fun H' q => ?_
  · rintro j x H1 H2 hj ⟨sm, ys, hD, ey⟩ ⟨rfl, hx⟩
    obtain ⟨c, hc, r⟩ := ev.at hx
    have mc : c ∈ cs := List.mem_of_getElem? hc
    have rc := mR _ _ _ _ (.of sm) r
    refine ⟨by simp [wipe, List.set_set], test x c H2 _ mc sm rc fun H3 s3 => ?_⟩
    cases hp : p c with
    | false =>
      rw [if_neg Bool.false_ne_true]
      refine ⟨sm.trans s3, ys, s3 _ _ hD, ?_⟩
      rw [take_snoc hc, List.filter_append, List.filter_cons, if_neg (by rw [hp]; exact Bool.false_ne_true), List.filter_nil, List.append_nil]
      exact ey.same mR2 s3
    | true =>
      rw [if_pos rfl]
      refine elt x c H3 _ mc hp (sm.trans s3) (mR _ _ _ _ (.of s3) rc) fun y H4 s4 r4 => ?_
      have s5 := s3.trans s4
      refine ⟨ys, s5 _ _ hD, ?_, (sm.trans s5).over new, ys ++ [y], upd_same, ?_⟩
      · rw [ey.1, List.length_map, sizeLine_eq]
        have := List.length_filter_le p (cs.take j)
        have := List.length_take_le j cs
        have : (cs.take j).length ≤ cs.length := by simp; omega
        omega
      · rw [take_snoc hc, List.filter_append, List.filter_cons, if_pos hp, List.filter_nil, List.map_append]
        have z : Ev R2 H4 (ys ++ [y]) (((cs.take j).filter p).map f ++ [c].map f) := (ey.same mR2 s5).append (Ev.cons r4 Ev.nil)
        exact z.kp mR2 (.lst (s5 _ _ hD))
  · obtain ⟨sm, ys, hD, ey⟩ := q
    have e : cs.take xs.length = cs := by rw [ev.1]; exact List.take_length
    rw [e] at ey
    exact k H' ys sm hD ey
/-! ## lists and tuples of what stands for codes -/
/-- a list (its own object, tracked) -/
def Ls {α : Type} (R : Rp α) (H : Hp) (l : Addr) (cs : List α) : Prop := ∃ xs, H l = some (.lst xs) ∧ Ev R H xs cs
def Tu {α : Type} (R : Rp α) (H : Hp) (l : Addr) (cs : List α) : Prop := ∃ xs, H l = some (.tup xs) ∧ Ev R H xs cs
theorem Ls.same {α : Type} {R : Rp α} {H H' : Hp} {l : Addr} {cs : List α} (m : Mono R) (h : Ls R H l cs) (s : Same H H') : Ls R H' l cs :=
  let ⟨xs, e, v⟩ := h
  ⟨xs, s _ _ e, v.same m s⟩
theorem Tu.kp {α : Type} {R : Rp α} {H H' : Hp} {l : Addr} {cs : List α} (m : Mono R) (h : Tu R H l cs) (s : Kp H H') : Tu R H' l cs :=
  let ⟨xs, e, v⟩ := h
  ⟨xs, s _ _ (fun _ z => by cases z) e, v.kp m s⟩
theorem Tu.same {α : Type} {R : Rp α} {H H' : Hp} {l : Addr} {cs : List α} (m : Mono R) (h : Tu R H l cs) (s : Same H H') : Tu R H' l cs := h.kp m (.of s)
/-- words -/
def rW : Rp Str := fun _ v w => v = .str w
def rB : Rp Bool := fun _ v b => v = .bl b
theorem mW : Mono rW := fun _ _ _ _ _ h => h
theorem mB : Mono rB := fun _ _ _ _ _ h => h
theorem ev_words {H : Hp} : ∀ ws : List Str, Ev rW H (ws.map V.str) ws
  | [] => Ev.nil
  | w :: ws => Ev.cons rfl (ev_words ws)
theorem ev_words_eq {H : Hp} {xs : List V} {ws : List Str} (e : Ev rW H xs ws) : xs = ws.map V.str := by
  apply List.ext_getElem (by simp [e.1])
  intro i h1 h2
  obtain ⟨c, hc, r⟩ := e.at (List.getElem?_eq_getElem h1)
  have k : i < ws.length := by simpa using h2
  rw [List.getElem?_eq_getElem k] at hc
  cases hc
  rw [r]
  simp
theorem ev_bools_eq {H : Hp} {xs : List V} {ws : List Bool} (e : Ev rB H xs ws) : xs = ws.map V.bl := by
  apply List.ext_getElem (by simp [e.1])
  intro i h1 h2
  obtain ⟨c, hc, r⟩ := e.at (List.getElem?_eq_getElem h1)
  have k : i < ws.length := by simpa using h2
  rw [List.getElem?_eq_getElem k] at hc
  cases hc
  rw [r]
  simp
/-- a set's words as a tuple -/
def rT : Rp Cd := fun H v m => ∃ a, v = .ref a ∧ H a = some (.tup ((wds m).map V.str))
theorem mT : Mono rT := fun _ _ _ _ s ⟨a, e, h⟩ => ⟨a, e, s _ _ (fun _ z => by cases z) h⟩
def dT (m : Cd) : PyData := .tuple ((wds m).map .str)
def dL (ms : List Cd) : PyData := .list (ms.map dT)
theorem str_beq_dec (x z : Str) : (x == z) = decide (x = z) := by
  by_cases e : x = z
  · simp [e]
  · rw [decide_eq_false e]
    exact Bool.eq_false_iff.mpr fun q => e (beq_iff_eq.mp q)
theorem eqv_str (x z : Str) : PyData.eqv (.str x) (.str z) = decide (x = z) := by
  show (x == z) = _
  exact str_beq_dec x z
theorem eqv_strs : ∀ w u : List Str, PyData.eqvAll (w.map PyData.str) (u.map PyData.str) = decide (w = u)
  | [], [] => rfl
  | [], _ :: _ => rfl
  | _ :: _, [] => rfl
  | x :: w, y :: u => by
    show (PyData.eqv (.str x) (.str y) && PyData.eqvAll _ _) = _
    rw [eqv_strs w u, eqv_str]
    by_cases e : x = y
    · by_cases z : w = u <;> simp [e, z]
    · simp [e]
theorem eqv_dT (m n : Cd) : PyData.eqv (dT m) (dT n) = decide (m = n) := by
  show PyData.eqvAll _ _ = _
  rw [eqv_strs]
  by_cases e : m = n
  · simp [e]
  · rw [decide_eq_false e]
    exact decide_eq_false fun z => e (wds_inj _ _ z)
theorem eqv_dTs : ∀ ms ns : List Cd, PyData.eqvAll (ms.map dT) (ns.map dT) = decide (ms = ns)
  | [], [] => rfl
  | [], _ :: _ => rfl
  | _ :: _, [] => rfl
  | x :: w, y :: u => by
    show (PyData.eqv (dT x) (dT y) && PyData.eqvAll _ _) = _
    rw [eqv_dTs w u, eqv_dT]
    by_cases e : x = y
    · by_cases z : w = u <;> simp [e, z]
    · simp [e]
theorem eqv_dL (ms ns : List Cd) : PyData.eqv (dL ms) (dL ns) = decide (ms = ns) := eqv_dTs ms ns
theorem any_dT (ms : List Cd) (m : Cd) : ((ms.map dT).any fun z => PyData.eqv z (dT m)) = ms.contains m := by
  induction ms with
  | nil => rfl
  | cons n ms ih =>
    rw [List.map_cons, List.any_cons, ih, eqv_dT, List.contains_cons]
    congr 1
    by_cases e : n = m
    · simp [e]
    · rw [decide_eq_false e]
      exact (Bool.eq_false_iff.mpr fun q => e (beq_iff_eq.mp q).symm).symm
def Ok3 (ws : List Str) : Prop := ∀ w ∈ ws, w ∈ all3
theorem lay3 : ∀ w ∈ all3, (PyData.str w).canLay0 = true := by decide +kernel
theorem ok3_wds (m : Cd) : Ok3 (wds m) := wds_in m
theorem strs_lay : ∀ ws : List Str, Ok3 ws → PyData.canLayAll0 (ws.map PyData.str) = true ∧ PyData.depthAll (ws.map PyData.str) ≤ 1
  | [], _ => ⟨rfl, by simp [PyData.depthAll]⟩
  | b :: r, ok => by
    obtain ⟨h1, h2⟩ := strs_lay r fun w hw => ok w (List.mem_cons_of_mem _ hw)
    refine ⟨?_, ?_⟩
    · show ((PyData.str b).canLay0 && PyData.canLayAll0 (r.map PyData.str)) = true
      rw [h1, lay3 b (ok b (List.mem_cons_self ..))]
      rfl
    · simp only [List.map_cons, PyData.depthAll, PyData.depth]
      omega
theorem dT_lay (m : Cd) : (dT m).canLay0 = true ∧ (dT m).depth ≤ 2 := by
  obtain ⟨h1, h2⟩ := strs_lay (wds m) (ok3_wds m)
  refine ⟨h1, ?_⟩
  show PyData.depthAll _ + 1 ≤ 2
  omega
theorem dTs_lay : ∀ ms : List Cd, PyData.canLayAll0 (ms.map dT) = true ∧ PyData.depthAll (ms.map dT) ≤ 2
  | [] => ⟨rfl, by simp [PyData.depthAll]⟩
  | b :: r => by
    obtain ⟨h1, h2⟩ := dTs_lay r
    obtain ⟨k1, k2⟩ := dT_lay b
    refine ⟨?_, ?_⟩
    · show ((dT b).canLay0 && PyData.canLayAll0 (r.map dT)) = true
      rw [h1, k1]
      rfl
    · simp only [List.map_cons, PyData.depthAll]
      omega
theorem dT_sh (m : Cd) : SeqAt.shaped (dT m) = true := by
  obtain ⟨h1, h2⟩ := dT_lay m
  simp only [SeqAt.shaped, Bool.and_eq_true, decide_eq_true_eq]
  exact ⟨h1, by omega⟩
theorem dL_sh (ms : List Cd) : SeqAt.shaped (dL ms) = true := by
  obtain ⟨h1, h2⟩ := dTs_lay ms
  simp only [SeqAt.shaped, Bool.and_eq_true, decide_eq_true_eq]
  refine ⟨h1, ?_⟩
  show PyData.depthAll _ + 1 ≤ 64
  omega
theorem strs_sh {ws : List Str} (ok : Ok3 ws) : SeqAt.shaped (.list (ws.map PyData.str)) = true := by
  obtain ⟨h1, h2⟩ := strs_lay ws ok
  simp only [SeqAt.shaped, Bool.and_eq_true, decide_eq_true_eq]
  refine ⟨h1, ?_⟩
  show PyData.depthAll _ + 1 ≤ 64
  omega
theorem dp_strs {K : PySem.W.Frag} {H : Hp} : ∀ ws : List Str, DpAll K H (ws.map V.str) (ws.map PyData.str)
  | [] => .nil
  | x :: r => .cons (.str x) (dp_strs r)
theorem dp_T {K : PySem.W.Frag} {H : Hp} {v : V} {m : Cd} (h : rT H v m) : Dp K H v (dT m) := by
  obtain ⟨a, rfl, h⟩ := h
  exact .tup (SqT.of h) (dp_strs _)
theorem dp_Ts {K : PySem.W.Frag} {H : Hp} : ∀ {xs : List V} {ms : List Cd}, Ev rT H xs ms → DpAll K H xs (ms.map dT)
  | [], [], _ => .nil
  | x :: xs, m :: ms, e => .cons (dp_T e.uncons.1) (dp_Ts e.uncons.2)
  | [], _ :: _, e => by cases e.1
  | _ :: _, [], e => by cases e.1
theorem dp_L {K : PySem.W.Frag} {H : Hp} {l : Addr} {ms : List Cd} (h : Ls rT H l ms) : Dp K H (.ref l) (dL ms) := by
  obtain ⟨xs, h, e⟩ := h
  exact .lst (SqL.of h) (dp_Ts e)
theorem inV_strs (n : Str) (xs : List Str) : inV (.str n) (xs.map V.str) = xs.contains n := by
  induction xs with
  | nil => rfl
  | cons x xs ih =>
    have e : inV (.str n) (V.str x :: xs.map V.str) = (eqV (.str x) (.str n) || inV (.str n) (xs.map V.str)) := rfl
    rw [List.map_cons, e, ih, List.contains_cons]
    show ((x == n) || _) = ((n == x) || _)
    rw [str_beq_dec, str_beq_dec]
    congr 1
    by_cases z : x = n
    · simp [z]
    · rw [decide_eq_false z, decide_eq_false fun q => z q.symm]
theorem flat_strs (ws : List Str) : (ws.map V.str).all flatV = true := by
  induction ws with
  | nil => rfl
  | cons a l ih =>
    rw [List.map_cons, List.all_cons, ih]
    rfl
end W8
set_option Elab.async false
set_option linter.all false
set_option maxRecDepth 100000
set_option maxHeartbeats 4000000
/-! A set made of any number of texts: how many there are. -/
namespace Wp.TS
open PySem PySem.Spec PyProof.Rows
/-- one text more -/
def one (σ : List Str) (x : Str) : List Str := if x ∈ σ then σ else σ ++ [x]
/-- each text once -/
def once (xs : List Str) : List Str := xs.foldl one []
theorem once_snoc (xs : List Str) (x : Str) : once (xs ++ [x]) = one (once xs) x := by simp [once, List.foldl_append]
theorem one_mem {σ : List Str} {x y : Str} : y ∈ one σ x ↔ y ∈ σ ∨ y = x := by
  unfold one
  split
  · next h => exact ⟨.inl, fun z => z.elim id fun e => e ▸ h⟩
  · simp
theorem once_from (xs : List Str) : ∀ σ, (xs.foldl one σ).length ≤ σ.length + xs.length := by
  induction xs with
  | nil => intro σ; simp
  | cons x xs ih =>
    intro σ
    have a := ih (one σ x)
    have b : (one σ x).length ≤ σ.length + 1 := by unfold one; split <;> simp
    simp only [List.foldl_cons, List.length_cons]
    omega
theorem once_le (xs : List Str) : (once xs).length ≤ xs.length := by
  have := once_from xs []
  simpa [once] using this
theorem once_mem (xs : List Str) (y : Str) : y ∈ once xs ↔ y ∈ xs := by
  have key : ∀ (xs σ : List Str), y ∈ xs.foldl one σ ↔ y ∈ σ ∨ y ∈ xs := by
    intro xs
    induction xs with
    | nil => intro σ; simp
    | cons x xs ih =>
      intro σ
      rw [List.foldl_cons, ih, one_mem, List.mem_cons, or_assoc]
  have := key xs []
  simpa [once] using this
/-- as many as before, exactly if no text stands twice -/
theorem once_len (xs : List Str) : (once xs).length = xs.length ↔ xs.Nodup := by
  have key : ∀ (xs σ : List Str), σ.Nodup → ((xs.foldl one σ).length = σ.length + xs.length ↔ (σ ++ xs).Nodup) := by
    intro xs
    induction xs with
    | nil => intro σ h; simp [h]
    | cons x xs ih =>
      intro σ h
      rw [List.foldl_cons]
      by_cases e : x ∈ σ
      · have o : one σ x = σ := if_pos e
        rw [o]
        have b := once_from xs σ
        constructor
        · intro q
          simp only [List.length_cons] at q
          omega
        · intro q
          rw [List.nodup_append] at q
          exact absurd rfl (q.2.2 x e x List.mem_cons_self)
      · have o : one σ x = σ ++ [x] := if_neg e
        rw [o]
        have n : (σ ++ [x]).Nodup := by
          rw [List.nodup_append]
          refine ⟨h, by simp, fun a ha b hb z => ?_⟩
          rw [List.mem_singleton] at hb
          exact e (hb ▸ z ▸ ha)
        have q := ih (σ ++ [x]) n
        rw [List.append_assoc] at q
        simp only [List.length_append, List.length_cons, List.length_nil] at q ⊢
        rw [← List.singleton_append (l := xs)]
        rw [← q]
        omega
  have := key xs [] List.nodup_nil
  simpa [once] using this
section
variable {prog : Program} {w : World} {A : Around} {R : Result → Shared → Prop} {I S : Addr} {fp wr : List Addr} {G : Array GenState → Array GenState → Prop} {n : Nat} {P : Nat → Value → Prop} {St : Nat → Shared → Prop}
/-- the set at S holds these texts, each once -/
abbrev Holds (prog : Program) (w : World) (h : Heap) (S : Addr) (xs : List Str) : Prop := h.SetOf (PySem.strKind prog w) S (fun y => decide (y ∈ once xs)) (once xs).length
theorem Holds.at {h h' : Heap} {xs : List Str} (q : Holds prog w h S xs) (k : ∀ o, h.get? S = some o → h'.get? S = some o) : Holds prog w h' S xs := by
  obtain ⟨o, es, ep, t, ho, q⟩ := q
  exact ⟨o, es, ep, t, k o ho, q⟩
theorem upd_loop (W : WalksS prog w A.in1 I fp wr G n P St) (off : S ∉ fp) (xs : List Str) (few : xs.length + 1 < scanBound) (len : xs.length = n) (txt : ∀ i v, P i v → ∃ x t, xs[i]? = some x ∧ v = .str x t) :
    ∀ (m i : Nat) (s : Shared), i + m = n → St i s → Holds prog w s.heap S (xs.take i) →
      (∀ s', Moved (S :: wr) G s s' → Holds prog w s'.heap S xs → R (.ok (.ret .none)) s') → codeAny (model prog w) A (.builtin "set.update.loop" ⟨[.ref S, .ref I], []⟩) R s
  | 0, i, s, hm, st, hS, end_ => by
    obtain rfl : i = n := hm
    have out : S ∉ wr := fun z => off (W.sub _ z)
    apply codeAny_builtin F.entry_set_update_loop
    rw [Around.under_plainId F.plain_set_update_loop]
    apply wpAny_bind (m := pyNext (.ref I))
    refine W.done s _ _ st fun s' mv => ?_
    have q := hS.at fun o e => mv.heap S o out e
    rw [List.take_of_length_le (Nat.le_of_eq len)] at q
    exact wpAny_pure (end_ s' (mv.mono fun b hb => .tail _ hb) q)
  | m + 1, i, s, hm, st, hS, end_ => by
    have out : S ∉ wr := fun z => off (W.sub _ z)
    apply codeAny_builtin F.entry_set_update_loop
    rw [Around.under_plainId F.plain_set_update_loop]
    apply wpAny_bind (m := pyNext (.ref I))
    refine W.item i s _ _ (by omega) st fun v s' pv st' mv => ?_
    obtain ⟨x, t, hx, rfl⟩ := txt i v pv
    have at_ := hS.at fun o e => mv.heap S o out e
    have tk : xs.take (i + 1) = xs.take i ++ [x] := by rw [List.take_add_one, hx]; rfl
    have lt : (once (xs.take i)).length + 1 < scanBound := by
      have a := once_le (xs.take i)
      have b : (xs.take i).length ≤ xs.length := List.length_take_le' _ _
      omega
    apply wpAny_bind (m := holding [Value.str x t] (setAdd S (.str x t)))
    apply wpAny_holding
    unfold setAdd
    apply wpAny_holding
    apply wpAny_bind
    apply (PySem.strKind prog w).pyHash (k := x) (strKind_is _ _ _ _)
    refine wpAny_setAddHashed_of (knd := PySem.strKind prog w) (k := x) (s := { s' with toks := s'.toks + 1 }) (strKind_is _ _ _ _) rfl at_ lt fun h2 but set2 => ?_
    have next : Holds prog w h2 S (xs.take (i + 1)) := by
      unfold Holds
      rw [tk, once_snoc]
      refine SetOf_congr set2 (fun y => ?_) ?_
      · rw [Bool.eq_iff_iff]
        simp only [Bool.or_eq_true, decide_eq_true_eq]
        exact one_mem.symm
      · unfold one
        by_cases e : x ∈ once (xs.take i) <;> simp [e]
    refine wpAny_pure ⟨plainId_quiet F.plain_set_update_loop _, upd_loop W off xs few len txt m (i + 1) _ (by omega) ?_ next fun s3 mv3 q3 => end_ s3 ?_ q3⟩
    · exact W.frame _ s' _ _ st' (Nat.le_succ _) fun b hb o e => (but.2 b fun z => off (z ▸ hb)).trans e
    · exact ((mv.mono fun b hb => List.mem_cons_of_mem S hb).then_heap (Nat.le_succ _) fun b o hb e => (but.2 b fun z => hb (z ▸ List.mem_cons_self)).trans e).trans W.gtrans mv3
end
end Wp.TS
set_option Elab.async false
set_option linter.all false
set_option maxRecDepth 100000
set_option maxHeartbeats 4000000
namespace Wp.TS
open PySem PySem.Spec PyProof.Rows
/-- a list or tuple of texts, as the object at l -/
structure Row (h : Heap) (ty : String) (l : Addr) (us : Array Value) : Prop where
  kind : ty = "list" ∨ ty = "tuple"
  obj : ∃ o n, h.get? l = some o ∧ o.cls = .type ty ∧ o.data = .seq us n
section
variable {prog : Program} {w : World} {A : Around} {E : Value → Shared → Prop} {s : Shared}
def setObj (led : Bool) : Obj := { cls := .type "set", dict := none, data := .set #[] 0 (.fresh 0 0 led) }
theorem Row.push {h : Heap} {ty : String} {l : Addr} {us : Array Value} (r : Row h ty l us) (o : Obj) : Row (h.push o) ty l us := by
  obtain ⟨k, u, n, a, b, c⟩ := r
  exact ⟨k, u, n, Heap.get?_push_of_some _ a, b, c⟩
theorem Row.lt {h : Heap} {ty : String} {l : Addr} {us : Array Value} (r : Row h ty l us) : l < h.objs.size := by
  obtain ⟨k, u, n, a, b, c⟩ := r
  exact Heap.lt_size a
/-- what its iterator does -/
theorem Row.iter {B : Around} {ty : String} {l : Addr} {us : Array Value} (r : Row s.heap ty l us) (hh : B.handled = none) {Q : Value → Shared → Prop}
    (k : ∀ (it : Obj) (St : Nat → Heap → Prop), St 0 (s.heap.push it) → Walks prog w B s.heap.objs.size [s.heap.objs.size, l] [s.heap.objs.size] us.size (fun i v => us[i]? = some v) St →
      Q (.ref s.heap.objs.size) { s with heap := s.heap.push it }) : wpAny (model prog w) A (pyIter (.ref l)) Q E s := by
  have ne : l ≠ s.heap.objs.size := Nat.ne_of_lt r.lt
  obtain ⟨kd, o, n, a, b, c⟩ := r
  rcases kd with rfl | rfl
  · have q : s.heap.IsList l us := ⟨o, a, b, n, c⟩
    exact wpAny_pyIter_list q (k _ _ ⟨⟨_, Heap.get?_push_size _ rfl, rfl, rfl⟩, q.push _⟩ (Walks.list hh _ l ne us))
  · have q : s.heap.IsTuple l us := ⟨o, a, b, n, c⟩
    exact wpAny_pyIter_tuple q (k _ _ ⟨⟨_, Heap.get?_push_size _ rfl, rfl, rfl⟩, q.push _⟩ (Walks.tuple hh _ l ne us))
/-- the new set, filled -/
theorem set_fill {ty : String} {l S : Addr} {us : Array Value} {xs : List Str} (hh : A.handled = none) (r : Row s.heap ty l us) (ht : StrsAre us.toList xs) (few : xs.length + 1 < scanBound) {led : Bool}
    (ho : s.heap.get? S = some (setObj led)) (ne : S ≠ l) {Q : Value → Shared → Prop}
    (k : ∀ (h' : Heap) (tk : Nat), Holds prog w h' S xs → (∀ b o, b ≠ S → s.heap.get? b = some o → h'.get? b = some o) → Q .none { s with heap := h', toks := tk }) :
    wpAny (model prog w) A (pyIter (.ref l)) (fun it s1 => wpAny (model prog w) A (runValue (.builtin "set.update.loop" ⟨[.ref S, it], []⟩)) (fun _ s2 => Q .none s2) E s1) E s := by
  refine r.iter (B := A.in1) hh fun it St st wk => ?_
  refine wpAny_runValue ?_
  have lt : S < s.heap.objs.size := Heap.lt_size ho
  have off : S ∉ [s.heap.objs.size, l] := by
    simp only [List.mem_cons, List.not_mem_nil, or_false, not_or]
    exact ⟨Nat.ne_of_lt lt, ne⟩
  have sz : xs.length = us.size := by rw [← StrsAre.len_eq ht, Array.length_toList]
  refine upd_loop wk.toS off xs few sz (fun i v e => ?_) us.size 0 _ (Nat.zero_add _) st ?_ ?_
  · have hi : i < us.size := (Array.getElem?_eq_some_iff.mp e).1
    obtain ⟨t, q⟩ := SS.strs_at ht i v (by rw [Array.getElem?_toList]; exact e)
    have hx : i < xs.length := by omega
    exact ⟨xs[i], t, List.getElem?_eq_getElem hx, by rw [q, List.getD_eq_getElem?_getD, List.getElem?_eq_getElem hx]; rfl⟩
  · exact SetOf_congr ((setObjOf_fresh (knd := PySem.strKind prog w) led).setOf (Heap.get?_push_of_some it ho) (by unfold scanBound; omega)) (fun _ => rfl) rfl
  · rintro ⟨h1, g1, d1, t1, o1⟩ mv q
    obtain rfl : g1 = s.gens := mv.gens
    obtain rfl : d1 = s.drawn := mv.drawn
    obtain rfl : o1 = s.os := mv.os
    refine k h1 t1 q fun b o nb e => mv.heap b o ?_ (Heap.get?_push_of_some it e)
    simp only [List.mem_cons, List.not_mem_nil, or_false, not_or]
    exact ⟨nb, Nat.ne_of_lt (Heap.lt_size e)⟩
end
end Wp.TS
set_option Elab.async false
set_option linter.all false
set_option maxRecDepth 100000
set_option maxHeartbeats 4000000
namespace Wp.TS
open PySem PySem.Spec PyProof.Rows
section
variable {prog : Program} {w : World} {A : Around} {E : Value → Shared → Prop} {s : Shared}
theorem no_set {ty : String} (k : ty = "list" ∨ ty = "tuple") : isSubtype (.type ty) (.type "set") = pure false := by
  rcases k with rfl | rfl
  · exact PySem.F.sub_list_set
  · exact PySem.F.sub_tuple_set
theorem no_frozen {ty : String} (k : ty = "list" ∨ ty = "tuple") : isSubtype (.type ty) (.type "frozenset") = pure false := by
  rcases k with rfl | rfl
  · exact PySem.F.sub_list_frozenset
  · exact PySem.F.sub_tuple_frozenset
theorem no_dict {ty : String} (k : ty = "list" ∨ ty = "tuple") : (Value.type ty == Value.type "dict") = false := by
  rcases k with rfl | rfl <;> decide
theorem set_init {ty : String} {l S : Addr} {us : Array Value} {xs : List Str} (hh : A.handled = none) (r : Row s.heap ty l us) (ht : StrsAre us.toList xs) (few : xs.length + 1 < scanBound) {led : Bool}
    (ho : s.heap.get? S = some (setObj led)) (ne : S ≠ l) {Q : Value → Shared → Prop}
    (k : ∀ (h' : Heap) (tk : Nat), Holds prog w h' S xs → (∀ b o, b ≠ S → s.heap.get? b = some o → h'.get? b = some o) → Q .none { s with heap := h', toks := tk }) :
    wpAny (model prog w) A (Builtin.«set.__init__» ⟨[.ref S, .ref l], []⟩) (fun f s' => ∃ v, f = .done (.ret v) ∧ Q v s') E s := by
  have n1 := no_set r.kind
  have n2 := no_frozen r.kind
  have n3 := no_dict r.kind
  have hT : Shared.TypeIs s (.ref S) "set" := ⟨_, ho, rfl⟩
  obtain ⟨o, n, hl, cl, dt⟩ := r.obj
  obtain ⟨c, dd, da, sl⟩ := o
  simp only at cl dt
  subst cl
  subst dt
  have fill := set_fill (E := E) hh r ht few ho ne k
  unfold setObj at ho
  unfold Builtin.«set.__init__» noKeywords Builtin.Frozenset.updateFrom
  generalize hp : pyIter = PI at fill ⊢
  wp_walk
  refine wpAny_mono fill (fun it s1 q => ?_) fun _ _ e => e
  refine wpAny_bind (wpAny_mono q (fun _ s2 q2 => ?_) fun _ _ e => e)
  exact wpAny_pure (wpAny_pure ⟨_, rfl, q2⟩)
/-- set(xs), xs a list or tuple of texts -/
theorem set_call {ty : String} {l : Addr} {us : Array Value} {xs : List Str} (hh : A.handled = none) (r : Row s.heap ty l us) (ht : StrsAre us.toList xs) (few : xs.length + 1 < scanBound) {Q : Value → Shared → Prop}
    (k : ∀ (h' : Heap) (tk : Nat), Holds prog w h' s.heap.objs.size xs → (∀ b o, s.heap.get? b = some o → h'.get? b = some o) → Q (.ref s.heap.objs.size) { s with heap := h', toks := tk }) :
    wpAny (model prog w) A (call (.type "set") [.ref l]) Q E s := by
  have C := PySem.F.called_set
  obtain ⟨c, tl, c1⟩ := C.mro
  have c2 := C.made
  have c3 := C.sub
  have c4 := C.notType
  have c5 := C.canCreate
  have c6 := PySem.F.typeCall_set_1 (.ref l)
  have c7 := C.init.lookup
  apply wpAny_call
  apply codeAny_of_tree
  show wpAny _ _ (callAny (.type "set") _) _ _ _
  refine wpAny_pure ⟨Code.quiet_builtin _ (by decide +kernel), ?_⟩
  apply codeAny_builtin PySem.F.entry_type_call
  rw [Around.under_plain (weight_type_call_type "set" [.ref l] []) rfl]
  repeat (any_goals (first | assumption | wp_step))
  refine codeAny_mono (code_set_new_1 (.ref l) (Q₁ := fun v s1 => ∃ led, v = .ref s.heap.objs.size ∧ s1 = { s with heap := s.heap.push (setObj led) }) (E := E) fun led => ⟨led, rfl, rfl⟩) fun res s1 got => ?_
  rcases res with e | (_ | _ | _ | v) <;> first | exact got | exact got.elim | skip
  obtain ⟨led, rfl, rfl⟩ := got
  have ho : (s.heap.push (setObj led)).get? s.heap.objs.size = some (setObj led) := Heap.get?_push_size _ rfl
  have hT : Shared.TypeIs { s with heap := s.heap.push (setObj led) } (.ref s.heap.objs.size) "set" := ⟨_, ho, rfl⟩
  have c8 := C.init.bind (.ref s.heap.objs.size)
  repeat (any_goals (first | assumption | wp_step))
  refine codeAny_mono (codeAny_call_builtin (R := wants (fun v s2 => v = .none ∧ ∃ h' tk, s2 = { s with heap := h', toks := tk } ∧ Holds prog w h' s.heap.objs.size xs ∧ ∀ b o, s.heap.get? b = some o → h'.get? b = some o) E)
    C.init.plain PySem.F.entry_set_init (check_set_init_1 hT ?_)) fun res s2 got => ?_
  · refine wpAny_mono (set_init (s := { s with heap := s.heap.push (setObj led) }) (E := E) (Q := fun v s2 => v = .none ∧ ∃ h' tk, s2 = { s with heap := h', toks := tk } ∧ Holds prog w h' s.heap.objs.size xs ∧ ∀ b o, s.heap.get? b = some o → h'.get? b = some o)
      (by simp [hh]) (r.push _) ht few ho (Nat.ne_of_gt r.lt) fun h' tk q old => ⟨rfl, h', tk, rfl, q, fun b o e => old b o (Nat.ne_of_lt (Heap.lt_size e)) (Heap.get?_push_of_some _ e)⟩) (fun f s2 ⟨v, e, q⟩ => ?_) fun _ _ e => e
    rw [e]
    exact q
  · rcases res with e | (_ | _ | _ | v) <;> first | exact got | exact got.elim | skip
    obtain ⟨rfl, h', tk, rfl, q, old⟩ := got
    repeat (any_goals (first | assumption | wp_step))
    exact k h' tk q old
end
end Wp.TS
set_option Elab.async false
set_option linter.all false
set_option maxRecDepth 100000
set_option maxHeartbeats 4000000
namespace Wp
open PySem PySem.Spec PyProof.Rows L2
def tLenTxt (K : PySem.W.Frag) (ta : TE) : TE := fun σ H Q => ta σ H fun x H1 => ∃ (l : Addr) (xs : List Str), x = .ref l ∧ (SqL K H1 l (xs.map V.str) ∨ SqT K H1 l (xs.map V.str)) ∧ xs.length ≤ 4000 ∧ Q (.int ((TS.once xs).length : Nat)) H1
theorem pe_lenTxt {X : Cx} {a : Expr} {ta : TE} {p p2 q pos : Pos} (g1 : Gl X "len") (m1 : X.mg "len" = none) (g2 : Gl X "set") (m2 : X.mg "set" = none) (ha : PE X a ta) (hc : X.calm = true := by rfl)
    (na : starEach [a] X.env = (false, eval a X.env) :: starEach [] X.env := by rfl) : PE X (.Call (.Name "len" p) [.Call (.Name "set" p2) [a] [] q] [] pos) (tLenTxt X.K ta) where
  run := by
    intro pins s σ H Q I h
    apply Call_ (ld_blt I g1 m1 boot_len _)
    apply PyProof.Rows.callWith_builtin1 (PyProof.Rows.args_cons _ rfl) rfl rfl
    apply Call_ (ld_blt I g2 m2 boot_set _)
    refine PyProof.Rows.callWith_type1 (PyProof.Rows.args_cons (thn (ha.run pins s σ H _ I h) ?_) na) na rfl
    rintro v s1 ⟨x, H1, J, rv, l, xs, rfl, sq, few, k⟩
    obtain rfl := rv
    apply PyProof.Rows.args_nil
    have fin : ∀ ty (us : List Value), Vals (xs.map V.str) us → TS.Row s1.heap ty l us.toArray → wpAny (model X.prog X.w) X.A (call (.type "set") [.ref l])
        (fun r s2 => wpAny (model X.prog X.w) X.A (spliced (backTo pos (starEach [] X.env))) (fun vs s3 => wpAny (model X.prog X.w) X.A (call (.builtin "len") (r :: vs)) (EP X pins σ Q) X.xe s3) X.xe s2) X.xe s1 := by
      intro ty us rel row
      refine TS.set_call (J.ok.hd hc) row (by simpa using strsAre_of rel) (by unfold scanBound; omega) fun h' tk holds old => ?_
      apply PyProof.Rows.args_nil
      obtain ⟨o, es, ep, t, o1, o2, o3, _, _, _, o4, o5⟩ := holds
      have few2 : (TS.once xs).length ≤ 4000 := Nat.le_trans (TS.once_le xs) few
      have J2 : Inv X pins σ H1 { s1 with heap := h', toks := tk } := J.kept old
      refine call_len_set o1 o2 o3 o4 (by omega) ⟨.int ((TS.once xs).length : Nat), H1, J2.tok _, ⟨_, by rw [o5]⟩, k⟩
    rcases sq with sq | sq
    · obtain ⟨us, rel, pl, _⟩ := J.list sq
      obtain ⟨o, ho, hc1, n, hd⟩ := pl.isList
      exact fin "list" us rel ⟨.inl rfl, o, n, ho, hc1, hd⟩
    · obtain ⟨us, rel, pl, _⟩ := J.tuple sq
      obtain ⟨o, ho, hc1, n, hd⟩ := pl
      exact fin "tuple" us rel ⟨.inr rfl, o, n, ho, hc1, hd⟩
end Wp
set_option Elab.async false
set_option linter.all false
set_option maxRecDepth 100000
set_option maxHeartbeats 4000000
/-! == and != of a thing whose class has its own ==, with either answer. -/
namespace Wp
open PySem PySem.Spec PyProof.Rows L2
open PySem.W (InstAt Looks findIn isFn mroIn notFirst)
section
variable {prog : Program} {w : World} {A : Around} {E : Value → Shared → Prop} {s : Shared} {K : PySem.W.Frag} {x C L f : Addr} {h₀ : Heap} {m : Str → Option Value} {ox : Obj} {od : Option Obj} {b tb : Value}
/-- the answer turned round -/
def Turned (Q : Value → Shared → Prop) (v : Value) (s : Shared) : Prop := ∃ k, v = .bool k ∧ Q (.bool (!k)) s
theorem bound_blt {id : String} {name : Str} {T : String} {args : List Value} {Q : Option Value → Shared → Prop} (X : K.In s.heap) (I : InstAt s.heap x ox C od) (S : Slot T name id) (hs : findIn K (.ref C) name = some (some (.builtin id)))
    (h : wpAny (model prog w) A (call (.builtin id) (.ref x :: args)) (fun v => Q (some v)) E s) : wpAny (model prog w) A (callSpecialIfBound? (.ref x) name args) Q E s := by
  unfold callSpecialIfBound? bindSpecialIfBound?
  apply wpAny_holding
  apply wpAny_bind
  apply wpAny_bind
  apply wpAny_bind
  apply I.type.here
  apply (PySem.W.looks_findIn X hs).here
  apply wpAny_bind
  refine wpAny_askSetting (wpAny_ite ?_)
  have run : wpAny (model prog w) A (call (.builtin id) ([.ref x] ++ args) >>= fun v => pure (some v)) Q E s := wpAny_bind (wpAny_mono h (fun _ _ q => wpAny_pure q) fun _ _ e => e)
  split
  · exact wpAny_bind (wpAny_of_eq (S.bind _) (wpAny_pure run))
  · exact wpAny_tryCatch (wpAny_bind (wpAny_of_eq (S.bind _) (wpAny_pure run)))
theorem ne_entry {Q : Fin → Shared → Prop} (hu : A.units < cLine) (X : K.In s.heap) (I : InstAt s.heap x ox C od) (he : findIn K (.ref C) "__eq__" = some (some (.ref f))) (hf : isFn K (.ref f) = true)
    (h : wpAny (model prog w) A (call (.ref f) [.ref x, b]) (Turned fun v => Q (.done (.ret v))) E s) : wpAny (model prog w) A (Builtin.«object.__ne__» ⟨[.ref x, b], []⟩) Q E s := by
  unfold Builtin.«object.__ne__»
  have one : wpAny (model prog w) A (callSpecialIfBound? (.ref x) "__eq__" [b]) (fun r s' => ∃ k, r = some (.bool k) ∧ Q (.done (.ret (.bool (!k)))) s') E s :=
    PySem.W.ifBound_K X I he hf (wpAny_mono h (fun v s' ⟨k, e, q⟩ => ⟨k, congrArg some e, q⟩) fun _ _ e => e)
  generalize callSpecialIfBound? = CS at one ⊢
  repeat (first | with_reducible refine wpAny_cRoomFor hu ?_ | with_reducible refine wpAny_mono one (fun r s1 got => ?_) (fun _ _ e => e) | wp_step)
  obtain ⟨k, rfl, q⟩ := got
  exact wpAny_bind (wpAny_truthy_bool (wpAny_pure q))
theorem ne_call {Q : Value → Shared → Prop} (hu : A.in1.units < cLine) (X : K.In s.heap) (I : InstAt s.heap x ox C od) (top : mroIn K C (.type "object") = some true) (he : findIn K (.ref C) "__eq__" = some (some (.ref f))) (hf : isFn K (.ref f) = true)
    (h : wpAny (model prog w) A.in1 (call (.ref f) [.ref x, b]) (Turned Q) E s) : wpAny (model prog w) A (call (.builtin "object.__ne__") [.ref x, b]) Q E s := by
  apply wpAny_call
  apply codeAny_call_builtin F.cmp_object.ne.plain F.cmpEntry_ne
  exact PySem.W.check_slot F.cmpKind_ne F.cmpSplit_ne (I.type.andThen (PySem.W.looks_mroIn X top)) (F.cmpArgs_ne _ _) (ne_entry hu X I he hf h)
theorem ne_own {Q : Value → Shared → Prop} (hu : A.units + 1 < cLine) (X : K.In s.heap) (I : InstAt s.heap x ox C od) (hb : Looks (model prog w) s.heap (typeOf b) tb) (nf : notFirst K C tb = true) (top : mroIn K C (.type "object") = some true)
    (hn : findIn K (.ref C) "__ne__" = some (some (.builtin "object.__ne__"))) (he : findIn K (.ref C) "__eq__" = some (some (.ref f))) (hf : isFn K (.ref f) = true)
    (h : wpAny (model prog w) A.in1 (call (.ref f) [.ref x, b]) (Turned Q) E s) : wpAny (model prog w) A (richCompare .NotEq (.ref x) b) Q E s := by
  have try_ : wpAny (model prog w) A (tryCompare (.ref x) "__ne__" b) (fun r s' => ∃ k, r = some (.bool k) ∧ Q (.bool k) s') E s := by
    unfold tryCompare
    apply wpAny_bind
    refine bound_blt X I F.cmp_object.ne hn (ne_call (show A.units + 1 < cLine from hu) X I top he hf (wpAny_mono h ?_ fun _ _ e => e))
    rintro v s1 ⟨k, rfl, q⟩
    exact ⟨k, rfl, wpAny_pure ⟨_, rfl, q⟩⟩
  unfold richCompare
  simp only [oneThing_ref, cmpInfo_NotEq]
  apply wpAny_holding
  apply wpAny_bind
  apply wpAny_cRoomFor (by omega)
  apply wpAny_bind
  apply I.type.here
  apply wpAny_bind
  apply hb.here
  have rest : ∀ s', s' = s → wpAny (model prog w) A (tryCompare (.ref x) "__ne__" b) (fun r s' => ∃ k, r = some (.bool k) ∧ Q (.bool k) s') E s' := fun s' e => e ▸ try_
  split
  · next ne =>
    have no : PySem.W.subIn K tb (.ref C) = some false := by
      rcases Bool.or_eq_true_iff.mp nf with z | z
      · rw [beq_iff_eq.mp z] at ne
        simp at ne
      · exact beq_iff_eq.mp z
    apply wpAny_bind
    apply (PySem.W.looks_subIn X no).here
    simp only [Bool.false_eq_true, if_false]
    refine wpAny_bind (wpAny_mono try_ ?_ fun _ _ e => e)
    rintro r s1 ⟨k, rfl, q⟩
    exact wpAny_pure q
  · apply wpAny_bind
    apply wpAny_pure
    simp only [Bool.false_eq_true, if_false]
    refine wpAny_bind (wpAny_mono try_ ?_ fun _ _ e => e)
    rintro r s1 ⟨k, rfl, q⟩
    exact wpAny_pure q
end
end Wp
set_option Elab.async false
set_option linter.all false
set_option maxRecDepth 100000
set_option maxHeartbeats 4000000
namespace Wp
open PySem PySem.Spec PyProof.Rows L2
open PySem.W (InstAt Looks findIn isFn mroIn notFirst)
/-- the right side's type is none that goes first -/
inductive Second (K : PySem.W.Frag) (H : Hp) (C : Addr) : V → Prop
  | str (z : Str) : notFirst K C (.type "str") = true → Second K H C (.str z)
  | tup (q : Addr) (ys : List V) : SqT K H q ys → notFirst K C (.type "tuple") = true → Second K H C (.ref q)
  | ins (b D : Addr) (dy : Addr) (gs : List (Str × V)) : H b = some (.ins D dy gs) → notFirst K C (.ref D) = true → Second K H C (.ref b)
section
variable {X : Cx}
theorem Second.type {C : Addr} {y : V} {u : Value} {pins : List (Addr × Obj)} {σ : L2.St} {H : Hp} {s : Shared} (h : Second X.K H C y) (I : Inv X pins σ H s) (r : RelV y u) :
    ∃ tb, Looks (model X.prog X.w) s.heap (typeOf u) tb ∧ notFirst X.K C tb = true := by
  cases h with
  | str z nf =>
    obtain ⟨t, rfl⟩ := r
    exact ⟨_, Looks.of_pure rfl, nf⟩
  | tup q ys sq nf =>
    cases r
    obtain ⟨its, _, ⟨o, ho, hc, _⟩, _⟩ := I.tuple sq
    exact ⟨_, hc ▸ (Looks.ld ho).andThen .now, nf⟩
  | ins b D dy gs hb nf =>
    cases r
    obtain ⟨mA, O, _⟩ := ins_get I.hok hb
    obtain ⟨od, J, _⟩ := O.look
    exact ⟨_, J.type, nf⟩
end
/-- what `x == y` or `x != y` promises: the class's own == answers -/
def rOwn (neg : Bool) (K : PySem.W.Frag) (C : Addr) (sp : Sp) (E : XK) : R2 := fun x y H Q => ∃ (a dx : Addr) (fs : List (Str × V)), x = .ref a ∧ H a = some (.ins C dx fs) ∧ Second K H C y ∧
  sp [x, y] H (fun v H' => ∃ k, v = .bl k ∧ Q (.bl (if neg then !k else k)) H') E
/-- the class's own ==, and what it is called by -/
structure OwnEqual (K : PySem.W.Frag) (C f : Addr) : Prop where
  top : mroIn K C (.type "object") = some true
  ne : findIn K (.ref C) "__ne__" = some (some (.builtin "object.__ne__"))
  eq : findIn K (.ref C) "__eq__" = some (some (.ref f))
  fn : isFn K (.ref f) = true
section
variable {X : Cx} {CX : CXT} {n : Nat} {C f : Addr} {fd : FuncData} {ps : List Str} {sp : Sp} {E : XK}
theorem run_own {A : Around} {pins : List (Addr × Obj)} {σ : L2.St} {H : Hp} {s : Shared} {Q : VK} {us : List Value} {ys : List V} (F : FnOk X.prog X.w X.K X.mg X.base CX n f fd ps sp) (hb : Binds X.K fd ps []) (hx : Passes CX X E)
    (room : Room n A) (fr : A.frames = X.A.frames) (I : Inv X pins σ H s) (r : Vals ys us) (h : sp ys H Q E) : wpAny (model X.prog X.w) A (call (.ref f) us) (EP X pins σ Q) X.xe s := by
  have lenY : ys.length = ps.length := F.len _ _ _ _ h
  have lenU : us.length = ps.length := by rw [← r.length, lenY]
  have b0 := hb s us I.kIn (by simpa using lenU)
  rw [List.append_nil] at b0
  have e0 : Env0 X.prog X.w X.K X.mg X.base A X.stack s H := { I.env0 with frames := fr.trans I.env0.frames }
  apply wpAny_call
  refine codeAny_mono (F.run A X.stack s H ⟨us, []⟩ us ys Q E room e0 b0 r h) ?_
  intro res s2 got
  rcases res with e | (_ | _ | _ | u)
  · exact hx pins σ H s e s2 I got
  · exact got.elim
  · exact got.elim
  · exact got.elim
  · exact I.after got
theorem op_ownEq (F : FnOk X.prog X.w X.K X.mg X.base CX n f fd ps sp) (hb : Binds X.K fd ps []) (hx : Passes CX X E) (O : OwnEqual X.K C f) (room : Room n X.A) : OpR X (compareOp .Eq) (rOwn false X.K C sp E) := by
  rintro pins s σ H x y v u Q I rx ry ⟨a, dx, fs, rfl, ha, sec, p⟩
  obtain ⟨tb, lk, nf⟩ := sec.type I ry
  cases rx
  obtain ⟨mA, J, _⟩ := ins_get I.hok ha
  obtain ⟨od, J, _⟩ := J.look
  obtain ⟨m, fr⟩ := I.fr
  show wpAny _ _ (richCompare .Eq _ _) _ _ _
  refine PySem.W.cmp_K (op := .Eq) room.units0 fr I.ok.mod.kin J lk nf O.eq O.fn ?_
  refine wpAny_mono (run_own F hb hx room rfl I (ys := [.ref a, y]) (.cons (show L2.RelV (.ref a) (.ref a) from rfl) (.cons ry .nil)) p) ?_ fun _ _ e => e
  rintro r s2 ⟨z, σ2, J2, rz, k, rfl, q⟩
  obtain rfl := rz
  exact ⟨.bl k, _, J2, (show L2.RelV (.bl k) (.bool k) from rfl), q⟩
theorem op_ownNe (F : FnOk X.prog X.w X.K X.mg X.base CX n f fd ps sp) (hb : Binds X.K fd ps []) (hx : Passes CX X E) (O : OwnEqual X.K C f) (room : Room (n + 1) X.A) : OpR X (compareOp .NotEq) (rOwn true X.K C sp E) := by
  rintro pins s σ H x y v u Q I rx ry ⟨a, dx, fs, rfl, ha, sec, p⟩
  obtain ⟨tb, lk, nf⟩ := sec.type I ry
  cases rx
  obtain ⟨mA, J, _⟩ := ins_get I.hok ha
  obtain ⟨od, J, _⟩ := J.look
  show wpAny _ _ (richCompare .NotEq _ _) _ _ _
  refine ne_own (f := f) (by have := room.un; omega) I.kIn J lk nf O.top O.ne O.eq O.fn ?_
  refine wpAny_mono (run_own F hb hx room.in1 rfl I (ys := [.ref a, y]) (.cons (show L2.RelV (.ref a) (.ref a) from rfl) (.cons ry .nil)) p) ?_ fun _ _ e => e
  rintro r s2 ⟨z, σ2, J2, rz, k, rfl, q⟩
  obtain rfl := rz
  exact ⟨k, rfl, .bl (!k), _, J2, (show L2.RelV (.bl (!k)) (.bool (!k)) from rfl), q⟩
end
end Wp
set_option Elab.async false
set_option linter.all false
set_option maxRecDepth 100000
set_option maxHeartbeats 4000000
/-! `in` of a list, == of two tuples, by the items' own ==, with either answer. -/
namespace GB
open PySem PySem.SeqAt
open AutoSeq1 (wpAny_loadPart')
open MeetsSeq MeetsSeq2 MeetsSeq3 SeqRoads2
open GQ (FinOf call_here)
section
variable {prog : Program} {w : World} {A : Around} {R : Result → Shared → Prop}
/-- at each turn the list stands as it stood -/
def Stands (l : Addr) (T : String) (items : Array Value) (J : Shared → Prop) : Prop := ∀ s, J s → ∃ dd n sl, s.heap.get? l = some { cls := .type T, dict := dd, data := .seq items n, slots := sl }
theorem contains_loopJ (l : Addr) (items : Array Value) (x : Value) (e : Nat → Bool) (J : Shared → Prop) (hl : Stands l "list" items J)
    (he : ∀ i (h : i < items.size) s, J s → wpAny (model prog w) A.in1 (eqBool items[i] x) (fun r s' => r = e i ∧ J s') (fun e s' => R (.error e) s') s)
    (fin : ∀ s, J s → R (.ok (.ret (.bool ((List.range items.size).any e)))) s) (k : Nat) :
    ∀ i : Nat, items.size - i = k → i ≤ items.size → (∀ j, j < i → e j = false) → ∀ s, J s →
      wpAny (model prog w) A.in1 (Builtin.«list.__contains__.loop» ⟨[.ref l, x, rawInt i], []⟩) (FinOf prog w A R) (fun e s' => R (.error e) s') s := by
  induction k with
  | zero =>
    intro i hk hi no s h
    obtain ⟨dd, n, sl, hl1⟩ := hl _ h
    have hi' : i = items.size := by omega
    have hany : (List.range items.size).any e = false := by
      rw [List.any_eq_false]
      intro j hj
      rw [no j (by rw [hi']; exact List.mem_range.mp hj)]
      exact Bool.false_ne_true
    have hR := fin s h
    rw [hany] at hR
    obtain ⟨hp, g, d, tk, os⟩ := s
    wp_walk using wpAny_loadPart' hl1
    have hi1 : items[((i : Nat) : Int).toNat]? = none := by simp; omega
    rw [hi1]
    wp_walk
    exact hR
  | succ k ih =>
    intro i hk hi no s h
    obtain ⟨dd, n, sl, hl1⟩ := hl _ h
    have hlt : i < items.size := by omega
    have ht := he i hlt s h
    obtain ⟨hp, g, d, tk, os⟩ := s
    wp_walk using wpAny_loadPart' hl1
    have hi1 : items[((i : Nat) : Int).toNat]? = some items[i] := by simp [hlt]
    have hc : ((i : Int) + 1) = ((i + 1 : Nat) : Int) := by omega
    rw [hi1]
    refine wpAny_bind (wpAny_mono ht (fun r s2 h2 => ?_) fun _ _ x => x)
    obtain ⟨hr, h2⟩ := h2
    subst hr
    cases he' : e i with
    | true =>
      have hany : (List.range items.size).any e = true := List.any_eq_true.mpr ⟨i, List.mem_range.mpr hlt, he'⟩
      have hR := fin s2 h2
      rw [hany] at hR
      obtain ⟨hp2, g2, d2, tk2, os2⟩ := s2
      wp_walk
      exact hR
    | false =>
      have hrec := ih (i + 1) (by omega) (by omega) (fun j hj => by
        rcases Nat.lt_or_ge j i with q | q
        · exact no j q
        · rw [show j = i by omega]; exact he') s2 h2
      obtain ⟨hp2, g2, d2, tk2, os2⟩ := s2
      wp_walk
      rw [hc]
      exact ⟨plainId_quiet plain_contains_loop _, codeAny_builtin entry_contains_loop (by
        rw [Around.under_plainId plain_contains_loop _]
        exact hrec)⟩
theorem list_containsJ (l : Addr) (items : Array Value) (x : Value) (e : Nat → Bool) (J : Shared → Prop) (hl : Stands l "list" items J)
    (he : ∀ i (h : i < items.size) s, J s → wpAny (model prog w) A.in1 (eqBool items[i] x) (fun r s' => r = e i ∧ J s') (fun e s' => R (.error e) s') s)
    (fin : ∀ s, J s → R (.ok (.ret (.bool ((List.range items.size).any e)))) s) {s : Shared} (h : J s) :
    wpAny (model prog w) A.in1 (Builtin.«list.__contains__» ⟨[.ref l, x], []⟩) (FinOf prog w A R) (fun e s' => R (.error e) s') s := by
  obtain ⟨dd, n, sl, hl1⟩ := hl _ h
  have hrec := contains_loopJ (A := A) (R := R) l items x e J hl he fin _ 0 rfl (Nat.zero_le _) (fun j hj => absurd hj (Nat.not_lt_zero _)) s h
  obtain ⟨hp, g, d, tk, os⟩ := s
  wp_walk using wpAny_loadPart' hl1
  exact ⟨plainId_quiet plain_contains_loop _, codeAny_builtin entry_contains_loop (by
    rw [Around.under_plainId plain_contains_loop _]
    exact hrec)⟩
theorem tuple_eqJ (l b : Addr) (items items2 : Array Value) (e : Nat → Bool) (J : Shared → Prop) (hl : Stands l "tuple" items J) (hb : Stands b "tuple" items2 J)
    (he : ∀ i (h1 : i < items.size) (h2 : i < items2.size) s, J s → wpAny (model prog w) A.in1 (eqBool items[i] items2[i]) (fun r s' => r = e i ∧ J s') (fun e s' => R (.error e) s') s)
    (fin : ∀ s, J s → R (.ok (.ret (.bool ((List.range (min items.size items2.size)).all e && items.size == items2.size)))) s) {s : Shared} (h : J s) :
    wpAny (model prog w) A.in1 (Builtin.«tuple.__eq__» ⟨[.ref l, .ref b], []⟩) (FinOf prog w A R) (fun e s' => R (.error e) s') s := by
  obtain ⟨dd, n, sl, hl1⟩ := hl _ h
  obtain ⟨dd2, n2, sl2, hb1⟩ := hb _ h
  have f2 := AutoSeq1.sub_tuple_tuple
  have hZ : (items.toList.zip items2.toList).length = min items.size items2.size := by simp
  have h0 := h
  obtain ⟨hp, g, d, tk, os⟩ := s
  wp_walk using wpAny_loadPart' hl1, wpAny_loadPart' hb1, wpAny_forIn_list _ (fun rest b s' => b.1 = none ∧ J s' ∧ ∃ i, rest = (items.toList.zip items2.toList).drop i ∧
      (∀ s, J s → R (.ok (.ret (.bool (((List.range (min items.size items2.size)).drop i).all e && items.size == items2.size)))) s)) _
  case turn =>
    rintro ⟨y, x⟩ rest b s' ⟨hb', hJ, i, hz, hR⟩
    have hlt : i < (items.toList.zip items2.toList).length := by
      rcases Nat.lt_or_ge i (items.toList.zip items2.toList).length with h' | h'
      · exact h'
      · rw [List.drop_of_length_le h'] at hz; cases hz
    have hm : i < min items.size items2.size := hZ ▸ hlt
    have h1 : i < items.size := Nat.lt_of_lt_of_le hm (Nat.min_le_left _ _)
    have h2 : i < items2.size := Nat.lt_of_lt_of_le hm (Nat.min_le_right _ _)
    rw [List.drop_eq_getElem_cons hlt] at hz
    injection hz with hyx hrest
    have hy : y = items[i] := by have := congrArg Prod.fst hyx; simpa using this
    have hx : x = items2[i] := by have := congrArg Prod.snd hyx; simpa using this
    subst hy hx
    have hd : (List.range (min items.size items2.size)).drop i = i :: (List.range (min items.size items2.size)).drop (i + 1) := by simp [List.drop_eq_getElem_cons, hm]
    rw [hd, List.all_cons] at hR
    refine wpAny_bind (wpAny_mono (he i h1 h2 s' hJ) (fun r s2 q2 => ?_) fun _ _ x => x)
    obtain ⟨hr, q2⟩ := q2
    subst hr
    cases hy : e i with
    | true =>
      rw [hy] at hR
      wp_walk
      exact ⟨rfl, q2, i + 1, hrest, fun s3 q3 => by simpa using hR s3 q3⟩
    | false =>
      rw [hy] at hR
      have hR2 := hR s2 q2
      wp_walk
      simpa using hR2
  case fin =>
    rintro ⟨b1, b2⟩ s' ⟨hb', hJ, i, hz, hR⟩
    simp only at hb'
    subst hb'
    have hge : min items.size items2.size ≤ i := by
      rcases Nat.lt_or_ge i (items.toList.zip items2.toList).length with h' | h'
      · rw [List.drop_eq_getElem_cons h'] at hz; cases hz
      · exact hZ ▸ h'
    have hR2 := hR s' hJ
    rw [List.drop_of_length_le (by simpa using hge)] at hR2
    wp_walk
    simpa [Builtin.Tuple.tupleCompareSizes] using hR2
  case h =>
    exact ⟨rfl, h0, 0, rfl, fun s q => by simpa using fin s q⟩
end
section
variable {prog : Program} {w : World} {A : Around} {E : Value → Shared → Prop} {s : Shared}
/-- in a list inside the operator -/
theorem contains_J {l : Addr} {items : Array Value} {x : Value} {e : Nat → Bool} {J : Shared → Prop} {Q : Bool → Shared → Prop} (hl : Stands l "list" items J)
    (he : ∀ i (h : i < items.size) s, J s → wpAny (model prog w) A.in1 (eqBool items[i] x) (fun r s' => r = e i ∧ J s') E s)
    (fin : ∀ s, J s → Q ((List.range items.size).any e) s) (h : J s) : wpAny (model prog w) A (contains (.ref l) x) Q E s := by
  obtain ⟨dd, n, sl, hl1⟩ := hl _ h
  refine wpAny_contains_slot (Q := Q) ⟨_, hl1, rfl⟩ F.slot_list_contains (wpAny_mono (Q := fun v s' => ∃ b, v = .bool b ∧ Q b s') (call_here F.slot_list_contains ⟨_, hl1, rfl⟩ F.entry_list_contains (F.args_list_contains_2 _ _) ?_) (fun v s' hv => ?_) fun _ _ e => e)
  · exact list_containsJ (R := wants (fun v s' => ∃ b, v = .bool b ∧ Q b s') E) l items x e J hl he (fun s q => ⟨_, rfl, fin s q⟩) h
  · obtain ⟨b, rfl, hq⟩ := hv
    exact wpAny_truthy_bool hq
theorem rc_tupJ {l b : Addr} {items items2 : Array Value} {e : Nat → Bool} {J : Shared → Prop} {Q : Value → Shared → Prop} (hu : A.units < cLine) (hl : Stands l "tuple" items J) (hb : Stands b "tuple" items2 J)
    (he : ∀ i (h1 : i < items.size) (h2 : i < items2.size) s, J s → wpAny (model prog w) A.in1 (eqBool items[i] items2[i]) (fun r s' => r = e i ∧ J s') E s)
    (fin : ∀ s, J s → Q (.bool ((List.range (min items.size items2.size)).all e && items.size == items2.size)) s) (h : J s) : wpAny (model prog w) A (richCompare .Eq (.ref l) (.ref b)) Q E s := by
  obtain ⟨dd, n, sl, hl1⟩ := hl _ h
  obtain ⟨dd2, n2, sl2, hb1⟩ := hb _ h
  refine wpAny_richCompare_same_room (op := .Eq) ⟨_, hl1, rfl⟩ ⟨_, hb1, rfl⟩ F.slot_tuple_eq (call_here F.slot_tuple_eq ⟨_, hl1, rfl⟩ F.entry_tuple_eq (F.args_tuple_eq_2 _ _) ?_) hu
  exact tuple_eqJ (R := wants (fun v s' => v ≠ .notImplemented ∧ Q v s') E) l b items items2 e J hl hb he (fun s q => ⟨(fun x => nomatch x), fin s q⟩) h
end
end GB
namespace Wp
open PySem PySem.Spec PyProof.Rows L2
open PySem.W (InstAt Looks findIn isFn mroIn notFirst)
open SeqAt
theorem vals_refs : ∀ {zs : List Addr} {us : List Value}, Vals (zs.map V.ref) us → us = zs.map Value.ref
  | [], _, .nil => rfl
  | z :: zs, _, .cons a r => by
    cases a
    rw [vals_refs r]
    rfl
/-- what == of two own things inside a builtin answers: k, and nothing that is tracked changes -/
def Answ (K : PySem.W.Frag) (C : Addr) (sp : Sp) (E : XK) (H : Hp) (a b : Addr) (k : Bool) : Prop := ∃ (dx : Addr) (fs : List (Str × V)) (D dy : Addr) (gs : List (Str × V)), H a = some (.ins C dx fs) ∧ H b = some (.ins D dy gs) ∧ notFirst K C (.ref D) = true ∧
  (a = b → k = true) ∧ sp [.ref a, .ref b] H (fun v H' => v = .bl k ∧ H' = H) E
section
variable {X : Cx} {CX : CXT} {n : Nat} {C f : Addr} {fd : FuncData} {ps : List Str} {sp : Sp} {E : XK}
theorem eqb_own (F : FnOk X.prog X.w X.K X.mg X.base CX n f fd ps sp) (hb : Binds X.K fd ps []) (hx : Passes CX X E) (O : OwnEqual X.K C f) {A : Around} {pins : List (Addr × Obj)} {σ : L2.St} {H : Hp} {s : Shared} {a b : Addr} {k : Bool} (sb : Sub X n A)
    (I : Inv X pins σ H s) (d : Answ X.K C sp E H a b k) : wpAny (model X.prog X.w) A (eqBool (.ref a) (.ref b)) (fun r s' => r = k ∧ Inv X pins σ H s') X.xe s := by
  obtain ⟨dx, fs, D, dy, gs, ha, hb', nf, same, p⟩ := d
  by_cases hab : a = b
  · have hk := same hab
    subst hk hab
    exact SeqAt.EqAt.same (A := A) (s := s) (.ref a) X.prog X.w X.xe _ ⟨rfl, I⟩
  · refine GQ.eqBool_refG hab ?_
    obtain ⟨mA, J, _⟩ := ins_get I.hok ha
    obtain ⟨od, J, _⟩ := J.look
    obtain ⟨mB, J', _⟩ := ins_get I.hok hb'
    obtain ⟨od', J', _⟩ := J'.look
    obtain ⟨m, fr⟩ := I.fr
    refine PySem.W.cmp_K (op := .Eq) sb.room.units0 fr I.ok.mod.kin J J'.type nf O.eq O.fn ?_
    refine wpAny_mono (run_own F hb hx sb.room sb.fr I (ys := [.ref a, .ref b]) (.cons (show L2.RelV (.ref a) (.ref a) from rfl) (.cons (show L2.RelV (.ref b) (.ref b) from rfl) .nil)) p) ?_ fun _ _ e => e
    rintro r s2 ⟨z, H2, J2, rz, ez, eH⟩
    subst ez
    cases rz
    rw [eH] at J2
    exact ⟨k, rfl, rfl, J2⟩
theorem stands_list {pins : List (Addr × Obj)} {σ : L2.St} {H : Hp} {l : Addr} {zs : List Addr} (h : SqL X.K H l (zs.map V.ref)) : GB.Stands l "list" (zs.map Value.ref).toArray (Inv X pins σ H) := fun s I => by
  obtain ⟨its, rv, pl, hz⟩ := I.list h
  rw [vals_refs rv] at pl
  obtain ⟨⟨cls, dd, data, sl⟩, ho, hc, n, hd⟩ := pl.isList
  simp only at hc hd
  subst hc hd
  exact ⟨dd, n, sl, ho⟩
theorem stands_tup {pins : List (Addr × Obj)} {σ : L2.St} {H : Hp} {l : Addr} {zs : List Addr} (h : SqT X.K H l (zs.map V.ref)) : GB.Stands l "tuple" (zs.map Value.ref).toArray (Inv X pins σ H) := fun s I => by
  obtain ⟨its, rv, pl, hz⟩ := I.tuple h
  rw [vals_refs rv] at pl
  obtain ⟨⟨cls, dd, data, sl⟩, ho, hc, n, hd⟩ := pl
  simp only at hc hd
  subst hc hd
  exact ⟨dd, n, sl, ho⟩
/-- x in ys, ys a list of own things, by the items' own == -/
def rInOwn (neg : Bool) (K : PySem.W.Frag) (C : Addr) (sp : Sp) (E : XK) : R2 := fun x y H Q => ∃ (b l : Addr) (zs : List Addr) (e : Nat → Bool), x = .ref b ∧ y = .ref l ∧ SqL K H l (zs.map V.ref) ∧
  (∀ i z, zs[i]? = some z → Answ K C sp E H z b (e i)) ∧ Q (.bl (neg != (List.range zs.length).any e)) H
theorem contains_own (F : FnOk X.prog X.w X.K X.mg X.base CX n f fd ps sp) (hb : Binds X.K fd ps []) (hx : Passes CX X E) (O : OwnEqual X.K C f) (hr : Room (n + 1) X.A) {pins : List (Addr × Obj)} {σ : L2.St} {H : Hp} {s : Shared} {b l : Addr} {zs : List Addr} {e : Nat → Bool}
    {Q : Bool → Shared → Prop} (I : Inv X pins σ H s) (hl : SqL X.K H l (zs.map V.ref)) (he : ∀ i z, zs[i]? = some z → Answ X.K C sp E H z b (e i)) (hQ : ∀ s, Inv X pins σ H s → Q ((List.range zs.length).any e) s) :
    wpAny (model X.prog X.w) X.A (contains (.ref l) (.ref b)) Q X.xe s := by
  refine GB.contains_J (stands_list hl) (e := e) (fun i h s' I' => ?_) (fun s' I' => by simpa using hQ s' I') I
  have h' : i < zs.length := by simpa using h
  have hz : (zs.map Value.ref).toArray[i] = Value.ref zs[i] := by simp
  rw [hz]
  exact eqb_own F hb hx O ((⟨hr, rfl⟩ : Sub X (n + 1) X.A).in1) I' (he i _ (List.getElem?_eq_getElem h'))
theorem op_inOwn (F : FnOk X.prog X.w X.K X.mg X.base CX n f fd ps sp) (hb : Binds X.K fd ps []) (hx : Passes CX X E) (O : OwnEqual X.K C f) (hr : Room (n + 1) X.A) : OpR X (compareOp .In) (rInOwn false X.K C sp E) := by
  rintro pins s σ H x y v u Q I rx ry ⟨b, l, zs, e, rfl, rfl, hl, he, q⟩
  cases rx
  cases ry
  show wpAny _ _ (do return Value.bool (← contains (.ref l) (.ref b))) _ _ _
  refine wpAny_bind (contains_own F hb hx O hr I hl he fun s' I' => wpAny_pure ?_)
  exact ⟨_, H, I', (show L2.RelV (.bl _) (.bool _) from rfl), by simpa using q⟩
theorem op_notInOwn (F : FnOk X.prog X.w X.K X.mg X.base CX n f fd ps sp) (hb : Binds X.K fd ps []) (hx : Passes CX X E) (O : OwnEqual X.K C f) (hr : Room (n + 1) X.A) : OpR X (compareOp .NotIn) (rInOwn true X.K C sp E) := by
  rintro pins s σ H x y v u Q I rx ry ⟨b, l, zs, e, rfl, rfl, hl, he, q⟩
  cases rx
  cases ry
  show wpAny _ _ (do return Value.bool (!(← contains (.ref l) (.ref b)))) _ _ _
  refine wpAny_bind (contains_own F hb hx O hr I hl he fun s' I' => wpAny_pure ?_)
  exact ⟨_, H, I', (show L2.RelV (.bl _) (.bool _) from rfl), by simpa using q⟩
/-- xs == ys, two tuples of own things -/
def rEqTO (K : PySem.W.Frag) (C : Addr) (sp : Sp) (E : XK) : R2 := fun x y H Q => ∃ (a b : Addr) (zs ts : List Addr) (e : Nat → Bool), x = .ref a ∧ y = .ref b ∧ SqT K H a (zs.map V.ref) ∧ SqT K H b (ts.map V.ref) ∧
  (∀ i z t, zs[i]? = some z → ts[i]? = some t → Answ K C sp E H z t (e i)) ∧ Q (.bl ((List.range (min zs.length ts.length)).all e && zs.length == ts.length)) H
theorem op_eqTO (F : FnOk X.prog X.w X.K X.mg X.base CX n f fd ps sp) (hb : Binds X.K fd ps []) (hx : Passes CX X E) (O : OwnEqual X.K C f) (hr : Room (n + 1) X.A) : OpR X (compareOp .Eq) (rEqTO X.K C sp E) := by
  rintro pins s σ H x y v u Q I rx ry ⟨a, b, zs, ts, e, rfl, rfl, ha, hb', he, q⟩
  cases rx
  cases ry
  show wpAny _ _ (richCompare .Eq _ _) _ _ _
  refine GB.rc_tupJ (e := e) hr.units0 (stands_tup ha) (stands_tup hb') (fun i h1 h2 s' I' => ?_) (fun s' I' => ?_) I
  · have k1 : i < zs.length := by simpa using h1
    have k2 : i < ts.length := by simpa using h2
    have e1 : (zs.map Value.ref).toArray[i] = Value.ref zs[i] := by simp
    have e2 : (ts.map Value.ref).toArray[i] = Value.ref ts[i] := by simp
    rw [e1, e2]
    exact eqb_own F hb hx O ((⟨hr, rfl⟩ : Sub X (n + 1) X.A).in1) I' (he i _ _ (List.getElem?_eq_getElem k1) (List.getElem?_eq_getElem k2))
  · exact ⟨_, H, I', (show L2.RelV (.bl _) (.bool _) from rfl), by simpa using q⟩
end
end Wp
set_option Elab.async false
set_option linter.all false
set_option maxRecDepth 100000
set_option maxHeartbeats 4000000
/-! An own `|` or `&` of two things of one class; a staticmethod called by its class's name; makers by starred arguments. -/
namespace Wp
open PySem PySem.Spec PyProof.Rows L2 ClX
open PySem.W (InstAt Looks findIn isFn mroIn notFirst selfFirst)
/-- what an own operator's def promises -/
def rBinO (C : Addr) (sp : Sp) (E : XK) : R2 := fun x y H Q => ∃ (a dx : Addr) (fs : List (Str × V)) (b dy : Addr) (gs : List (Str × V)), x = .ref a ∧ y = .ref b ∧ H a = some (.ins C dx fs) ∧ H b = some (.ins C dy gs) ∧
  sp [.ref a, .ref b] H (fun v H' => (∃ r, v = .ref r) ∧ Q v H') E
section
variable {X : Cx} {CX : CXT} {n : Nat} {C f : Addr} {fd : FuncData} {ps : List Str} {sp : Sp} {E : XK}
theorem op_ownBin {op : Operator} (F : FnOk X.prog X.w X.K X.mg X.base CX n f fd ps sp) (hb : Binds X.K fd ps []) (hx : Passes CX X E) (hc : selfFirst X.K C = true) (hs : findIn X.K (.ref C) (PySem.dunder op.info.2) = some (some (.ref f))) (hf : isFn X.K (.ref f) = true)
    (hr : Room n X.A) : OpR X (binaryOp op) (rBinO C sp E) := by
  rintro pins s σ H x y v u Q I rx ry ⟨a, dx, fs, b, dy, gs, rfl, rfl, ha, hb', p⟩
  cases rx
  cases ry
  obtain ⟨mA, J, _⟩ := ins_get I.hok ha
  obtain ⟨od, J, _⟩ := J.look
  obtain ⟨mB, J', _⟩ := ins_get I.hok hb'
  obtain ⟨od', J', _⟩ := J'.look
  obtain ⟨m, fr⟩ := I.fr
  refine PySem.W.binop_K fr I.ok.mod.kin J J'.type hc hs hf ?_
  refine wpAny_mono (run_own F hb hx hr rfl I (ys := [.ref a, .ref b]) (.cons (show L2.RelV (.ref a) (.ref a) from rfl) (.cons (show L2.RelV (.ref b) (.ref b) from rfl) .nil)) p) ?_ fun _ _ e => e
  rintro r s2 ⟨z, H2, J2, rz, ⟨q, ez⟩, qq⟩
  subst ez
  cases rz
  exact ⟨_, H2, J2, (show L2.RelV (.ref q) (.ref q) from rfl), qq⟩
end
/-- C.m is a staticmethod: its record at p, its def at g -/
structure SMet (K : PySem.W.Frag) (C : Addr) (mc : Value) (m : Str) (p g : Addr) : Prop where
  at_ : PySem.W.findCls K (.ref C) mc m = some (.get (.builtin "staticmethod.__get__") (.ref p) .none (.ref C))
  rc : ∃ rest, PySem.W.recIn K p "staticmethod" = some (.ref g :: rest)
  kp : PySem.W.keepIn K (.ref g) = true
section
variable {X : Cx} {pins : List (Addr × Obj)} {σ : L2.St} {H : Hp} {s : Shared} {C p g : Addr} {mc : Value} {m : Str} {A : Around} {E : Value → Shared → Prop}
theorem getsmet_ok {b : Bool} {Q : Value → Shared → Prop} (I : Inv X pins σ H s) (r : CRead X.K C mc) (k : SMet X.K C mc m p g) (h : ∀ s', Inv X pins σ H s' → Q (.ref g) s') : wpAny (model X.prog X.w) A (getAttr (.ref C) m b) Q E s := by
  obtain ⟨rest, hp⟩ := k.rc
  refine PySem.W.cls_bind I.kIn r.rd k.at_ ?_
  refine wpAny_call (PySem.W.sm_get (s := { s with toks := s.toks + 1 }) I.kIn hp (PySem.W.handed_on rfl ?_))
  exact h _ (I.tok _)
theorem getmethsm_ok {pl : Sem Bool} {Q : Value × List Value → Shared → Prop} (I : Inv X pins σ H s) (r : CRead X.K C mc) (k : SMet X.K C mc m p g)
    (h : ∀ s', Inv X pins σ H s' → Q (.ref g, []) s') : wpAny (model X.prog X.w) A (getMethod (.ref C) m pl) Q E s :=
  PySem.W.method_cls I.kIn r.ga (getsmet_ok I r k h)
end
/-- C.m() -/
def tSMeth0 (C : Addr) (sp : Sp) (E : XK) (ta : TE) : TE := fun σ H Q => ta σ H fun x H1 => x = .ref C ∧ sp [] H1 Q E
section
variable {X : Cx} {CX : CXT} {k : Nat} {C p g : Addr} {fd : FuncData} {ps : List Str} {mc : Value} {sp : Sp} {E : XK} {o e : Expr} {m : Str} {pos apos np spos : Pos} {x : Str} {ta te : TE} {pl : Sem Bool}
theorem pe_smeth0 (he : PE X o ta) (r : CRead X.K C mc) (c : SMet X.K C mc m p g) (F : FnOk X.prog X.w X.K X.mg X.base CX k g fd ps sp) (hb : Binds X.K fd ps []) (hr : Room k X.A) (hx : Passes CX X E)
    (ht : eval (.Call (.Attribute o m apos) [] [] pos) X.env = (do
      let ov ← eval o X.env
      standAt apos.atName
      let (f, first) ← holding [ov] (getMethod ov m pl)
      callWith pos f first (backTo pos (starEach [] X.env)) (backToKw pos (keywordEach [] X.env))) := by rfl) :
    PE X (.Call (.Attribute o m apos) [] [] pos) (tSMeth0 C sp E ta) := by
  refine ⟨fun pins s σ H Q I h => ?_⟩
  refine PySem.W.methodCall_KW (pl := pl) (thn (he.run pins s σ H _ I h) fun u s1 ⟨y, H1, I1, ry, ey, q⟩ => ?_) ht
  subst ey
  obtain rfl : u = Value.ref C := ry
  refine getmethsm_ok I1 r c fun s2 I2 => ?_
  exact PySem.W.callWith_K0 (first := []) I2.kIn c.kp (run_fn (us := []) (vs := []) (dvs := []) F hr hb .nil hx I2 .nil q)
/-- C(*e) -/
theorem pe_makeS {f : Addr} (M : Mk X.K C f) (F : FnR X.prog X.w X.K X.mg X.base CX k f sp) (hr : Room (k + 1) X.A) (hg : Gl X x) (hm : X.mg x = some (.ref C)) (hx : Passes CX X E) (he : PE X e te) (hd : (x == ("__debug__" : Str)) = false := by decide)
    (hst : starEach [.Starred e spos] X.env = [(true, eval e X.env)] := by rfl) :
    PE X (.Call (.Name x np) [.Starred e spos] [] pos) (StX.tMakeR C sp E fun σ H Q => te σ H fun y H1 => ∃ a xs, y = V.ref a ∧ (SqT X.K H1 a xs ∨ SqL X.K H1 a xs) ∧ Q xs H1) := by
  refine ⟨fun pins s σ H Q I h => ?_⟩
  refine wpAny_Call_Name_kw (ld_glob I hg hm ?_ hd)
  refine PySem.W.callWith_S (h₀ := X.base) I.ok.mod.kin M.kp (thn (he.run pins s σ H _ I h) fun v s1 ⟨y, H1, I1, ry, a, xs, ey, hxs, q⟩ => ?_) hst
  subst ey
  obtain rfl : v = Value.ref a := ry
  exact StX.star_any I1 hxs fun us s2 I2 rv => ⟨I2.kIn, StX.run_makeR M F hr hx I2 rv q⟩
/-- C() -/
theorem pe_makeR0 {f : Addr} (M : Mk X.K C f) (F : FnR X.prog X.w X.K X.mg X.base CX k f sp) (hr : Room (k + 1) X.A) (hg : Gl X x) (hm : X.mg x = some (.ref C)) (hx : Passes CX X E) (hd : (x == ("__debug__" : Str)) = false := by decide) :
    PE X (.Call (.Name x np) [] [] pos) (StX.tMakeR C sp E tNil) := by
  refine ⟨fun pins s σ H Q I h => ?_⟩
  refine wpAny_Call_Name_kw (ld_glob I hg hm ?_ hd)
  exact PySem.W.callWith_K0 I.kIn M.kp (StX.run_makeR (us := []) M F hr hx I .nil h)
end
end Wp
set_option Elab.async false
set_option linter.all false
set_option maxRecDepth 100000
set_option maxHeartbeats 4000000
/-! None asked of a dict whose keys are tuples. -/
namespace Wk
open PySem PySem.Spec PyProof.Rows L2
section
variable {prog : Program} {w : World} {A : Around} {E : Value → Shared → Prop} {s : Shared} {d : Addr} {xs : List (NestedKey × Addr × Value)}
theorem eq_keyNone {k : NestedKey} {a : Addr} (hu : A.units + 8 < cLine) (k0 : (nestedKind prog w).is s.heap k a) : SeqAt.EqAt A s (.ref a) .none false := by
  have z := eqAt_key k .none A s (.ref a) .none k0.1 .none (by
    have := k0.2
    show A.units + min k.depth 0 < cLine
    omega)
  have e0 : NestedKey.beq k .none = false := by
    have k1 := k0.1
    generalize k = kk at k1
    cases k1
    rfl
  rw [e0] at z
  exact z
theorem none_find {o : Obj} {es ep} {hh : Int} {Q : Option Nat → Shared → Prop} (hu : A.units + 8 < cLine) (ho : s.heap.get? d = some o) (hd : o.data = .dict es ep) (he : es.toList = xs.map (entryOfKey (nestedKind prog w)))
    (his : ∀ x ∈ xs, (nestedKind prog w).is s.heap x.1 x.2.1) (q : Q none s) : wpAny (model prog w) A (dictFind d .none hh) Q E s := by
  have hmem : ∀ e ∈ es, ∃ x ∈ xs, e = entryOfKey (nestedKind prog w) x := by
    intro e hin
    have : e ∈ xs.map (entryOfKey (nestedKind prog w)) := he ▸ Array.mem_toList_iff.mpr hin
    obtain ⟨x, hx, rfl⟩ := List.mem_map.mp this
    exact ⟨x, hx, rfl⟩
  have hst : ∀ v ∈ (placesWithHash es.size (fun i => es[i]?.map (·.hash)) hh).filterMap (fun i => es[i]?.map (·.key)), ∃ k' b, v = .ref b ∧ (nestedKind prog w).is s.heap k' b := by
    intro v hv
    obtain ⟨i, _, hi⟩ := List.mem_filterMap.mp hv
    cases hei : es[i]? with
    | none => rw [hei] at hi; cases hi
    | some e =>
      rw [hei] at hi
      obtain rfl : e.key = v := by simpa using hi
      obtain ⟨x, hx, rfl⟩ := hmem e (Array.mem_of_getElem? hei)
      exact ⟨x.1, x.2.1, rfl, his x hx⟩
  have step : ∀ (i : Nat) (e : DictEntry), es[i]? = some e → SeqAt.EqAt A s e.key .none false := by
    intro i e hei
    obtain ⟨x, hx, rfl⟩ := hmem e (Array.mem_of_getElem? hei)
    exact eq_keyNone hu (his x hx)
  unfold dictFind
  try with_reducible refine wpAny_holding ?_
  refine wpAny_bind (wpAny_dictEntries ho hd ?_)
  dsimp only
  generalize hpl : placesWithHash es.size (fun i => es[i]?.map (·.hash)) hh = places at hst ⊢
  cases hstored : places.filterMap (fun i => es[i]?.map (·.key)) with
  | nil =>
    have no : ∀ i ∈ places, es[i]? = none := by
      intro i hi
      cases e : es[i]? with
      | none => rfl
      | some x =>
        have := List.filterMap_eq_nil_iff.mp hstored i hi
        rw [e] at this
        cases this
    rw [if_pos (by rfl)]
    unfold dictWalkPlain
    try refine wpAny_bind ?_
    try refine wpAny_bind ?_
    refine wpAny_forIn_list _ (fun rest b s' => s' = s ∧ b = (none, ()) ∧ ∀ i ∈ rest, i ∈ places) _ ?_ ?_ _ _ ⟨rfl, rfl, fun _ h => h⟩
    · rintro x rest b s' ⟨rfl, rfl, hr⟩
      rw [no x (hr x List.mem_cons_self)]
      exact wpAny_pure ⟨rfl, rfl, fun i hi => hr i (List.mem_cons_of_mem _ hi)⟩
    · rintro b s' ⟨rfl, rfl, _⟩
      first
        | exact wpAny_pure q
        | exact wpAny_pure (wpAny_pure q)
  | cons v0 vr =>
    obtain ⟨k0, b0, ev0, hk0⟩ := hst v0 (by rw [hstored]; exact List.mem_cons_self)
    rw [if_neg (by rw [ev0]; simp [carriedByValue])]
    rw [if_neg (by rw [ev0]; simp)]
    rw [hstored] at hst
    have tell : ∀ Q' : Bool → Shared → Prop, Q' false s → wpAny (model prog w) A (tableMayTell .none (v0 :: vr)) Q' E s := by
      intro Q' h
      unfold tableMayTell
      rw [if_neg (by simp)]
      refine wpAny_bind (QuietAt.byValue (n := 8) (v := .none) rfl A E _ ?_)
      simp only [Bool.not_true, Bool.false_eq_true, if_false]
      refine wpAny_bind ?_
      refine wpAny_forIn_list _ (fun rest r s' => s' = s ∧ r = (none, ()) ∧ ∀ v ∈ rest, ∃ k' b, v = .ref b ∧ (nestedKind prog w).is s.heap k' b) _ ?_ ?_ _ _ ⟨rfl, rfl, hst⟩
      · rintro x rest r s' ⟨rfl, rfl, hr⟩
        obtain ⟨k', b, rfl, hb⟩ := hr x List.mem_cons_self
        refine wpAny_bind ((nestedKind prog w).quiet hb ?_)
        simp only [Bool.not_true, Bool.false_eq_true, if_false]
        exact wpAny_pure ⟨rfl, rfl, fun v hv => hr v (List.mem_cons_of_mem _ hv)⟩
      · rintro r s' ⟨rfl, rfl, _⟩
        exact wpAny_pure h
    refine wpAny_bind (tell _ ?_)
    rw [if_neg (by simp)]
    refine wpAny_bind ?_
    refine wpAny_forIn_list _ (fun rest b s' => s' = s ∧ b = (none, none)) _ ?_ ?_ _ _ ⟨rfl, rfl⟩
    · rintro x rest b s' ⟨rfl, rfl⟩
      cases hei : es[x]? with
      | none => exact wpAny_pure ⟨rfl, rfl⟩
      | some e =>
        dsimp only
        split
        · refine wpAny_bind (wpAny_dictEpoch ho hd (wpAny_bind (step x e hei prog w E _ (wpAny_bind (wpAny_dictEpoch ho hd ?_)))))
          rw [if_neg (by simp)]
          simp only [Bool.false_eq_true, if_false]
          refine wpAny_bind (wpAny_rule ?_)
          first | rw [if_neg (by simp)] | skip
          first
            | exact wpAny_pure ⟨rfl, rfl⟩
            | exact wpAny_bind (wpAny_pure (wpAny_pure ⟨rfl, rfl⟩))
        · exact wpAny_pure ⟨rfl, rfl⟩
    · rintro b s' ⟨rfl, rfl⟩
      exact wpAny_pure q
end
end Wk
set_option Elab.async false
set_option linter.all false
set_option maxRecDepth 100000
set_option maxHeartbeats 4000000
/-! A dict whose keys are the tuples of a memo, at the hand layer. -/
namespace Wk
open PySem PySem.Spec PyProof.Rows L2
section
variable {prog : Program} {w : World} {A : Around} {E : Value → Shared → Prop} {s : Shared} {d : Addr} {xs : List (NestedKey × Addr × Value)}
theorem none_get {Q : Option Value → Shared → Prop} (hu : A.units + 8 < cLine) (hm : s.heap.DictOfH (nestedKind prog w) d xs) (h : Q none { s with toks := s.toks + 1 }) : wpAny (model prog w) A (dictGet d .none) Q E s := by
  obtain ⟨o, es, ep, ho, _, hd, he, his, hn⟩ := hm
  unfold dictGet
  try with_reducible refine wpAny_holding ?_
  refine wpAny_bind (pyHash_key (w := w) .none .none A s _ .none (show A.units + 0 < cLine by omega) (wpAny_bind (none_find (s := { s with toks := s.toks + 1 }) (o := o) hu ho hd he his ?_)))
  exact wpAny_pure h
theorem none_in {Q : Value → Shared → Prop} (hu : A.in1.units + 8 < cLine) (hd : (d == sysModules) = false) (hm : s.heap.DictOfH (nestedKind prog w) d xs) (h : Q (.bool false) { s with toks := s.toks + 1 }) :
    wpAny (model prog w) A (compareOp .In .none (.ref d)) Q E s := by
  show wpAny _ _ (do return .bool (← contains (.ref d) .none)) Q E s
  refine wpAny_bind (wpAny_contains_slot hm.typeIs PySem.F.slot_dict_contains ?_)
  refine call_meetsIn PySem.F.slot_dict_contains hm.typeIs PySem.F.entry_dict_contains (PySem.F.args_dict_contains_2 _ _) (S := fun A' R s' => A' = A ∧ s' = s ∧ R (.ok (.ret (.bool false))) { s with toks := s.toks + 1 }) (.of_wp fun A' R s' hS => ?_) ⟨rfl, rfl, wpAny_truthy_bool (wpAny_pure h)⟩
  obtain ⟨rfl, rfl, hq⟩ := hS
  show wpAny _ _ (dictGet d .none >>= _) _ _ _
  refine wpAny_bind (none_get hu hm ?_)
  show wpAny _ _ (Builtin.Dict.pendingKey? d .none >>= _) _ _ _
  exact wpAny_bind (wpAny_pendingKey_other hd (wpAny_pure ⟨_, rfl, hq⟩))
theorem none_getm {Q : Value → Shared → Prop} (hu : A.in1.units + 8 < cLine) (hd : (d == sysModules) = false) (hm : s.heap.DictOfH (nestedKind prog w) d xs) (h : Q .none { s with toks := s.toks + 1 }) :
    wpAny (model prog w) A (call (.builtin "dict.get") [.ref d, .none]) Q E s := by
  refine call_meetsIn PySem.F.slot_dict_get hm.typeIs PySem.F.entry_dict_get (PySem.F.args_dict_get_2 _ _) (S := fun A' R s' => A' = A ∧ s' = s ∧ R (.ok (.ret .none)) { s with toks := s.toks + 1 }) (.of_wp fun A' R s' hS => ?_) ⟨rfl, rfl, h⟩
  obtain ⟨rfl, rfl, hq⟩ := hS
  show wpAny _ _ (dictGet d .none >>= _) _ _ _
  refine wpAny_bind (none_get hu hm ?_)
  show wpAny _ _ (Builtin.Dict.missed d .none >>= _) _ _ _
  exact wpAny_bind (wpAny_missed_other hd (wpAny_pure ⟨.none, rfl, hq⟩))
end
/-! ## the dict of a memo -/
/-- an entry: the key, where its tuple stands, the number -/
abbrev Ent := NestedKey × Addr × Int
def EntR (e : Ent) (x : NestedKey × Addr × Value) : Prop := x.1 = e.1 ∧ x.2.1 = e.2.1 ∧ ∃ t, x.2.2 = .int e.2.2 t
def memoD (P : Program) (w : World) (d : Addr) (l : List Ent) : HO := .ext fun h => (d == sysModules) = false ∧ l.length ≤ 1000 ∧ ∃ xs, Paired EntR l xs ∧
  ∃ o es ep, h.get? d = some o ∧ o.ExactDict ∧ o.data = .dict es ep ∧ es.toList = xs.map (entryOfKey (nestedKind P w)) ∧ (xs.map (·.1)).Nodup
/-- the tuple of a key -/
inductive KeyAt (H : Hp) : NestedKey → Addr → Prop
  | its {a : Addr} {n : Int} : H a = some (.tup [.str "itself", .int n]) → KeyAt H (.tup [.text "itself", .num n]) a
  | mks {a q : Addr} {z : Str} {ns : List Int} : H a = some (.tup [.str "marks", .str z, .ref q]) → H q = some (.tup (ns.map V.int)) → KeyAt H (.tup [.text "marks", .text z, .tup (ns.map .num)]) a
def KeysAt (H : Hp) (l : List Ent) : Prop := ∀ e ∈ l, KeyAt H e.1 e.2.1
theorem KeyAt.keeps {H H' : Hp} {k : NestedKey} {a : Addr} (h : KeyAt H k a) (t : ∀ b xs, H b = some (.tup xs) → H' b = some (.tup xs)) : KeyAt H' k a := by
  cases h with
  | its e => exact .its (t _ _ e)
  | mks e e2 => exact .mks (t _ _ e) (t _ _ e2)
theorem KeysAt.keeps {H H' : Hp} {l : List Ent} (h : KeysAt H l) (t : ∀ b xs, H b = some (.tup xs) → H' b = some (.tup xs)) : KeysAt H' l := fun e he => (h e he).keeps t
theorem nums_all {h : Heap} : ∀ {ns : List Int} {us : List Value}, Vals (ns.map V.int) us → NestedAll h (ns.map NestedKey.num) us
  | [], _, .nil => .nil
  | n :: ns, _, .cons r t => by
    obtain ⟨k, rfl⟩ := r
    exact .cons (.int n k) (nums_all t)
theorem nums_flat : ∀ ns : List Int, NestedKey.depthAll (ns.map NestedKey.num) = 0
  | [] => rfl
  | n :: ns => by
    show max 0 (NestedKey.depthAll (ns.map NestedKey.num)) = 0
    rw [nums_flat ns]
    rfl
theorem key_is {P : Program} {w : World} {H : Hp} {h : Heap} {k : NestedKey} {a : Addr} (ok : HOk P w H h) (x : KeyAt H k a) : (nestedKind P w).is h k a := by
  cases x with
  | its e =>
    obtain ⟨_, its, r, o, h1, h2, n, h3⟩ := (show ObjOk P w H h a (.tup _) from ok a _ e)
    cases r with
    | cons r1 r =>
      cases r with
      | cons r2 r =>
        cases r
        obtain ⟨t1, rfl⟩ := r1
        obtain ⟨t2, rfl⟩ := r2
        exact ⟨.tup h1 h2 h3 (.cons (.text _ _) (.cons (.int _ _) .nil)), by show 0 + 1 ≤ 8; decide⟩
  | @mks _ q z ns e e2 =>
    obtain ⟨_, its, r, o, h1, h2, n, h3⟩ := (show ObjOk P w H h a (.tup _) from ok a _ e)
    obtain ⟨_, jts, rr, o2, g1, g2, n2, g3⟩ := (show ObjOk P w H h q (.tup _) from ok q _ e2)
    cases r with
    | cons r1 r =>
      cases r with
      | cons r2 r =>
        cases r with
        | cons r3 r =>
          cases r
          obtain ⟨t1, rfl⟩ := r1
          obtain ⟨t2, rfl⟩ := r2
          cases r3
          refine ⟨.tup h1 h2 h3 (.cons (.text _ _) (.cons (.text _ _) (.cons (.tup g1 g2 g3 (nums_all rr)) .nil))), ?_⟩
          show max 0 (max 0 (max (NestedKey.depthAll (ns.map NestedKey.num) + 1) 0)) + 1 ≤ 8
          rw [nums_flat]
          decide
theorem memo_at {P : Program} {w : World} {H : Hp} {h : Heap} {d : Addr} {l : List Ent} (ok : HOk P w H h) (e : H d = some (memoD P w d l)) (hk : KeysAt H l) :
    ∃ xs, (d == sysModules) = false ∧ l.length ≤ 1000 ∧ Paired EntR l xs ∧ h.DictOfH (nestedKind P w) d xs := by
  obtain ⟨⟨hd, hl, xs, r, o, es, ep, h1, h2, h3, h4, h5⟩, _⟩ := (show ObjOk P w H h d (memoD P w d l) from ok d _ e)
  refine ⟨xs, hd, hl, r, o, es, ep, h1, h2, h3, h4, ?_, h5⟩
  have all : ∀ {l : List Ent} {m : List (NestedKey × Addr × Value)}, Paired EntR l m → KeysAt H l → ∀ x ∈ m, (nestedKind P w).is h x.1 x.2.1 := by
    intro l m q
    induction q with
    | nil => intro _ x hx; exact nomatch hx
    | @cons p q ps qs hq t ih =>
      intro hk x hx
      rcases List.mem_cons.mp hx with e | hx
      · subst e
        rw [hq.1, hq.2.1]
        exact key_is ok (hk p List.mem_cons_self)
      · exact ih (fun e he => hk e (List.mem_cons_of_mem _ he)) x hx
  exact all r hk
theorem memo_new {P : Program} {w : World} {H' : Hp} {h' : Heap} {d : Addr} {l : List Ent} {xs : List (NestedKey × Addr × Value)} (hd : (d == sysModules) = false) (hl : l.length ≤ 1000) (r : Paired EntR l xs)
    (dd : h'.DictOfH (nestedKind P w) d xs) : ObjOk P w H' h' d (memoD P w d l) := by
  obtain ⟨o, es, ep, h1, h2, h3, h4, _, h5⟩ := dd
  refine ⟨⟨hd, hl, xs, r, o, es, ep, h1, h2, h3, h4, h5⟩, ⟨o, h1⟩, ?_⟩
  rintro g1 g2 ⟨hd, hl, xs, r, o, es, ep, h1, h2, h3, h4, h5⟩ k
  exact ⟨hd, hl, xs, r, o, es, ep, k o h1, h2, h3, h4, h5⟩
/-- the number that is kept for a key -/
def findE : List Ent → NestedKey → Option Int
  | [], _ => none
  | e :: l, k => if e.1 = k then some e.2.2 else findE l k
theorem find_at {l : List Ent} {xs : List (NestedKey × Addr × Value)} (r : Paired EntR l xs) (k : NestedKey) :
    (∃ n t, findE l k = some n ∧ (atKey xs k).map (·.2) = some (.int n t)) ∨ (findE l k = none ∧ atKey xs k = none) := by
  induction r with
  | nil => exact .inr ⟨rfl, rfl⟩
  | @cons p q ps qs hq t ih =>
    obtain ⟨e1, e2, t, e3⟩ := hq
    by_cases h : p.1 = k
    · refine .inl ⟨p.2.2, t, by simp [findE, h], ?_⟩
      simp [atKey, e1, h, e3]
    · have h1 : findE (p :: ps) k = findE ps k := by simp [findE, h]
      have h2 : atKey (q :: qs) k = atKey qs k := by simp [atKey, e1, h]
      rw [h1, h2]
      exact ih
def V.ofN : Option Int → V
  | some n => .int n
  | none => .non
end Wk
set_option Elab.async false
set_option linter.all false
set_option maxRecDepth 100000
set_option maxHeartbeats 4000000
/-! What is asked of the dict of a memo. -/
namespace Wk
open PySem PySem.Spec PyProof.Rows L2
theorem find_isSome {l : List Ent} {xs : List (NestedKey × Addr × Value)} (r : Paired EntR l xs) (k : NestedKey) : (atKey xs k).isSome = (findE l k).isSome := by
  rcases find_at r k with ⟨n, t, e1, e2⟩ | ⟨e1, e2⟩
  · rw [e1]
    cases h : atKey xs k with
    | none => rw [h] at e2; cases e2
    | some p => rfl
  · rw [e1, e2]
    rfl
section
variable {X : Cx}
/-- {} -/
def tMNew (P : Program) (w : World) : TE := fun _ H Q => ∀ p, H p = none → Q (.ref p) (upd H p (memoD P w p []))
theorem pe_mnew {pos : Pos} : PE X (.Dict [] [] pos) (tMNew X.prog X.w) := ⟨fun pins s σ H Q I h =>
  wpAny_Dict_empty ⟨.ref s.heap.objs.size, _, I.laid (a := s.heap.objs.size) (o := memoD X.prog X.w s.heap.objs.size []) (t' := s.toks) (fun _ _ q => Heap.get?_push_of_some _ q) (Nat.le_refl _)
    (memo_new (beq_eq_false_iff_ne.mpr (Ne.symm (Nat.ne_of_lt I.big))) (Nat.zero_le _) .nil (Heap.DictOfH.new _)), rfl, h _ (I.hok.fresh (Nat.le_refl _))⟩⟩
/-- the value asked for: None, or a key's tuple -/
def AskedAs (H : Hp) (y : V) (l : List Ent) (r : Option Int) : Prop := (y = .non ∧ r = none) ∨ ∃ k b, y = .ref b ∧ KeyAt H k b ∧ r = findE l k
/-- y in d -/
def rMIn (P : Program) (w : World) : R2 := fun y x H Q => ∃ a l r, x = .ref a ∧ H a = some (memoD P w a l) ∧ KeysAt H l ∧ AskedAs H y l r ∧ Q (.bl r.isSome) H
theorem op_min (hu : X.A.units + 10 < cLine) : OpR X (compareOp .In) (rMIn X.prog X.w) := by
  rintro pins s σ H y x v u Q I ry rx ⟨a, l, r, rfl, ha, hk, as, q⟩
  cases rx
  obtain ⟨xs, hd, hl, rel, dd⟩ := memo_at I.hok ha hk
  rcases as with ⟨rfl, rfl⟩ | ⟨k, b, rfl, kb, rfl⟩
  · cases ry
    exact none_in (show X.A.units + 1 + 8 < cLine by omega) hd dd ⟨.bl false, H, I.tok _, rfl, q⟩
  · cases ry
    refine wpAny_in_heap (show X.A.units + 1 + 8 < cLine by omega) (key_is I.hok kb) hd dd ?_
    rw [find_isSome rel k]
    exact ⟨.bl _, H, I.tok _, rfl, q⟩
/-- y not in d -/
def rMNotIn (P : Program) (w : World) : R2 := fun y x H Q => ∃ a l k b, x = .ref a ∧ H a = some (memoD P w a l) ∧ KeysAt H l ∧ y = .ref b ∧ KeyAt H k b ∧ Q (.bl (!(findE l k).isSome)) H
theorem op_mnotin (hu : X.A.units + 10 < cLine) : OpR X (compareOp .NotIn) (rMNotIn X.prog X.w) := by
  rintro pins s σ H y x v u Q I ry rx ⟨a, l, k, b, rfl, ha, hk, rfl, kb, q⟩
  cases rx
  cases ry
  obtain ⟨xs, hd, hl, rel, dd⟩ := memo_at I.hok ha hk
  refine wpAny_notIn_heap (show X.A.units + 1 + 8 < cLine by omega) (key_is I.hok kb) hd dd ?_
  rw [find_isSome rel k]
  exact ⟨.bl _, H, I.tok _, rfl, q⟩
/-- d.get(y) -/
def tyMemo (P : Program) (w : World) (x : V) (H : Hp) : Prop := ∃ a l, x = .ref a ∧ H a = some (memoD P w a l)
theorem ty_memo : TyOk X "dict" (tyMemo X.prog X.w) := by
  intro pins σ H s x v I r ty
  obtain ⟨a, l, rfl, ha⟩ := ty
  cases r
  obtain ⟨⟨hd, hl, xs, r, o, es, ep, h1, h2, h3, h4, h5⟩, _⟩ := (show ObjOk X.prog X.w H s.heap a (memoD X.prog X.w a l) from I.hok a _ ha)
  refine ⟨⟨_, h1, h2.1⟩, fun b e => ?_⟩
  cases e
  exact ⟨_, h1, h2.2.1⟩
def rMGet (P : Program) (w : World) : V → List V → Hp → VK → Prop := fun x ys H Q => ∃ a l y r, x = .ref a ∧ ys = [y] ∧ H a = some (memoD P w a l) ∧ KeysAt H l ∧ AskedAs H y l r ∧ Q (V.ofN r) H
theorem mt_mget (hu : X.A.units + 10 < cLine) : MtR X "dict.get" (rMGet X.prog X.w) := by
  intro pins s σ H x ys v us Q I rx rys h
  obtain ⟨a, l, y, r, rfl, rfl, ha, hk, as, q⟩ := h
  cases rx
  obtain ⟨u, rfl, ry⟩ := vals1 rys
  obtain ⟨xs, hd, hl, rel, dd⟩ := memo_at I.hok ha hk
  rcases as with ⟨rfl, rfl⟩ | ⟨k, b, rfl, kb, rfl⟩
  · cases ry
    exact none_getm (show X.A.units + 1 + 8 < cLine by omega) hd dd ⟨.non, H, I.tok _, rfl, q⟩
  · cases ry
    refine call_meetsIn PySem.F.slot_dict_get dd.typeIs PySem.F.entry_dict_get (PySem.F.args_dict_get_2 _ _) (meetsH_dict_get (nestedKind X.prog X.w) a b hd) ⟨(show X.A.units + 1 + 8 < cLine by omega), k, xs, key_is I.hok kb, dd, ?_⟩
    rcases find_at rel k with ⟨n, t, e1, e2⟩ | ⟨e1, e2⟩
    · rw [e2]
      rw [e1] at q
      exact ⟨.int n, H, I.tok _, ⟨t, rfl⟩, q⟩
    · rw [e2]
      rw [e1] at q
      exact ⟨.non, H, I.tok _, rfl, q⟩
/-- d[y] = v, where y is new -/
def sMPut (P : Program) (w : World) (td ty tv : TE) : TS := fun D σ H => tv σ H fun v H1 => td σ H1 fun x H2 => ty σ H2 fun y H3 => ∃ a l k b n, x = .ref a ∧ v = .int n ∧ H3 a = some (memoD P w a l) ∧ KeysAt H3 l ∧ l.length < 1000 ∧
  y = .ref b ∧ KeyAt H3 k b ∧ findE l k = none ∧ D.nx σ (upd H3 a (memoD P w a (l ++ [(k, b, n)])))
theorem ps_mput {o i value : Expr} {pos pos' : Pos} {td ty tv : TE} (hu : X.A.units + 10 < cLine) (ho : PE X o td) (hi : PE X i ty) (hv : PE X value tv) (hs : swapsWith value (some (.Subscript o i pos')) pos.line X.env = pure false) :
    PS X (.Assign [.Subscript o i pos'] value pos) (sMPut X.prog X.w td ty tv) := by
  refine ⟨fun pins s σ H D I h => ?_⟩
  refine wpAny_Assign_Subscript (thn (hv.run pins s σ H _ I h) fun r s1 ⟨v, H1, I1, rv, q1⟩ => thn (ho.run pins s1 σ H1 _ I1 q1) fun u s2 ⟨x, H2, I2, rx, q2⟩ => thn (hi.run pins s2 σ H2 _ I2 q2) fun iv s3 ⟨y, H3, I3, ry, a, l, k, b, n, ex, ev, ha, hk, hl, ey, kb, no, q3⟩ => ?_) hs
  subst ex ev ey
  cases rx
  cases ry
  obtain ⟨t, rfl⟩ := rv
  obtain ⟨xs, hd, _, rel, dd⟩ := memo_at I3.hok ha hk
  have no2 : atKey xs k = none := by
    rcases find_at rel k with ⟨n, t, e1, e2⟩ | ⟨e1, e2⟩
    · rw [no] at e1; cases e1
    · exact e2
  have hz : xs.length ≤ sizeLine := by
    rw [← Paired.length rel, sizeLine_eq]
    omega
  refine wpAny_setItem_heap (hsz := hz) (show X.A.units + 1 + 8 < cLine by omega) (key_is I3.hok kb) dd fun h' dd' hs => ?_
  rw [storedH_new no2] at dd'
  have he : ∃ q, h'.get? a = some q := let ⟨q, _, _, hq, _⟩ := dd'; ⟨q, hq⟩
  exact ⟨σ, _, d_write I3 (by rw [ha]; exact True.intro) hs he (memo_new hd (by rw [List.length_append]; show l.length + 1 ≤ 1000; omega) (Paired.snoc rel ⟨rfl, rfl, t, rfl⟩) dd'), q3⟩
/-- len(d) -/
def rMLen (P : Program) (w : World) : List V → Hp → VK → Prop := fun xs H Q => ∃ a l, xs = [.ref a] ∧ H a = some (memoD P w a l) ∧ KeysAt H l ∧ Q (.int ((l.length : Nat) : Int)) H
theorem call_mlen : CallR X (.builtin "len") (rMLen X.prog X.w) := by
  intro pins s σ H xs us Q I r h
  obtain ⟨a, l, rfl, ha, hk, q⟩ := h
  obtain ⟨u, rfl, rx⟩ := vals1 r
  cases rx
  obtain ⟨ys, hd, hl, rel, dd⟩ := memo_at I.hok ha hk
  have e := Paired.length rel
  refine call_len_dictH hd dd (by rw [← e]; omega) ?_
  rw [← e]
  exact ⟨.int ((l.length : Nat) : Int), H, I.tok _, ⟨_, rfl⟩, q⟩
/-- d.items() -/
def rMItems (P : Program) (w : World) : V → List V → Hp → VK → Prop := fun x xs H Q => ∃ a l, x = .ref a ∧ xs = [] ∧ H a = some (memoD P w a l) ∧ ∀ p, H p = none → Q (.ref p) (upd H p (DX.itemsO p a))
theorem mt_mitems : MtR X "dict.items" (rMItems X.prog X.w) := by
  intro pins s σ H x xs v us Q I rx rxs h
  obtain ⟨a, l, rfl, rfl, ha, q⟩ := h
  cases rx
  cases rxs
  obtain ⟨⟨hd, hl, xs, r, o, es, ep, h1, h2, h3, h4, h5⟩, _⟩ := (show ObjOk X.prog X.w H s.heap a (memoD X.prog X.w a l) from I.hok a _ ha)
  refine DT.callItems (es := es) (ep := ep) hd ⟨o, h1, h2, h3⟩ ?_
  have hf : H s.heap.objs.size = none := I.hok.fresh (Nat.le_refl _)
  exact ⟨.ref s.heap.objs.size, upd H s.heap.objs.size (DX.itemsO s.heap.objs.size a), I.laid (t' := s.toks) (fun b u e => Heap.get?_push_of_some _ e) (Nat.le_refl _) (DX.itemsO_ok (Heap.get?_push_size _ rfl)), rfl, q _ hf⟩
/-- list(d.items()) -/
def rMList (P : Program) (w : World) : List V → Hp → VK → Prop := fun xs H Q => ∃ p a l, xs = [.ref p] ∧ H p = some (DX.itemsO p a) ∧ H a = some (memoD P w a l) ∧ KeysAt H l ∧
  ∀ (H2 : Hp) (L : Addr) (bs : List Addr), (∀ b o, H b = some o → H2 b = some o) → H L = none → (∀ b ∈ bs, H b = none) → bs.length = l.length → H2 L = some (.lst (bs.map V.ref)) →
    (∀ (j : Nat) (b : Addr) (e : Ent), bs[j]? = some b → l[j]? = some e → H2 b = some (.tup [.ref e.2.1, .int e.2.2])) → Q (.ref L) H2
theorem call_mlist (hc : X.calm = true) : CallR X (.type "list") (rMList X.prog X.w) := by
  intro pins s σ H xs us Q I r h
  obtain ⟨p, a, l, rfl, hp, ha, hk, q⟩ := h
  obtain rfl := Vals.ref1 r
  have view : s.heap.IsItemsView p a := (show ObjOk X.prog X.w H s.heap p (DX.itemsO p a) from I.hok p _ hp).1
  obtain ⟨xs', hd, hl, rel, o, es, ep, ho, hx, hdat, hes, his, hn⟩ := memo_at I.hok ha hk
  have l1 := Paired.length rel
  have l2 : es.size = xs'.length := size_of_entries hes
  have hh : X.A.handled = none := I.ok.hd hc
  refine PySem.W.dil_call (es := es) (ep := ep) hh view ⟨o, ho, hx, hdat⟩ (by rw [sizeLine_eq]; omega) fun h' tk acc c as hkp hS hla hG hacc => ?_
  have nd : as.Nodup := List.Pairwise.imp (fun h => Nat.ne_of_lt h) hG.rise
  have pr : ∀ (j : Nat) (b : Addr), as[j]? = some b → ∃ (e : Ent) (t : Tok), l[j]? = some e ∧ h'.get? b = some { cls := .type "tuple", data := .seq #[Value.ref e.2.1, Value.int e.2.2 t] } := by
    intro j b hj
    obtain ⟨hje, hg⟩ := hG.pairs j b hj
    have he : es[j]? = some es[j] := Array.getElem?_eq_getElem hje
    rw [entry_at hes j] at he
    cases hxj : xs'[j]? with
    | none =>
      rw [hxj] at he
      cases he
    | some x =>
      rw [hxj] at he
      have een : entryOfKey (nestedKind X.prog X.w) x = es[j] := Option.some.inj he
      obtain ⟨e0, he0, r1, r2, t, r3⟩ := DX.pget rel hxj
      refine ⟨e0, t, he0, ?_⟩
      rw [hg, ← een]
      show some _ = some _
      rw [← r2, ← r3]
      rfl
  have hn0 : H s.heap.objs.size = none := I.hok.fresh (Nat.le_refl _)
  have I1 : Inv X pins σ H { s with heap := h', toks := tk } := I.kept (t' := tk) hkp
  have hlen : (as.map V.ref).length ≤ sizeLine := by
    rw [List.length_map, sizeLine_eq]
    omega
  have rv : Vals (as.map V.ref) acc.toList := by
    rw [hacc]
    exact vals_maps (fun z : Addr => V.ref z) (fun z => Value.ref z) as fun _ _ => rfl
  have I2 : Inv X pins σ (upd H s.heap.objs.size (.lst (as.map V.ref))) { s with heap := h', toks := tk } :=
    I1.take (h' := h') (t' := tk) (fun b ob _ e => e) (I.fpOk (Nat.le_refl _) hn0) ⟨hlen, acc.toList, c, rv, by simpa using hS⟩
  obtain ⟨H2, I3, g, qt⟩ := DX.takeT (P := fun b vs => ∃ (j : Nat) (e : Ent), as[j]? = some b ∧ l[j]? = some e ∧ vs = [.ref e.2.1, .int e.2.2]) I as _ I2 nd fun b hb => by
    obtain ⟨j, hj⟩ := List.mem_iff_getElem?.mp hb
    obtain ⟨e, t, he, hg⟩ := pr j b hj
    have hbl : s.heap.objs.size < b := hG.above b hb
    refine ⟨Nat.le_of_lt hbl, ?_, [.ref e.2.1, .int e.2.2], ⟨j, e, hj, he, rfl⟩, fun H3 => ⟨(by rw [sizeLine_eq]; show 2 ≤ 16777216; omega), [Value.ref e.2.1, Value.int e.2.2 t], .cons rfl (.cons ⟨t, rfl⟩ .nil), ⟨_, hg, rfl, 0, rfl⟩⟩⟩
    rw [upd_ne (Nat.ne_of_gt hbl)]
    exact I.hok.fresh (Nat.le_of_lt hbl)
  have gr : ∀ b o, H b = some o → H2 b = some o := fun b o e => g b o (by rw [upd_ne (ne_of_none e hn0)]; exact e)
  refine ⟨.ref s.heap.objs.size, H2, I3, rfl, q H2 s.heap.objs.size as gr hn0 (fun b hb => I.hok.fresh (Nat.le_of_lt (hG.above b hb))) (by omega) (g _ _ upd_same) fun j b e hj he => ?_⟩
  obtain ⟨vs, ⟨j', e', j1, j2, ev⟩, hH⟩ := qt b (List.mem_of_getElem? hj)
  have eij : j = j' := (List.getElem?_inj (List.getElem?_eq_some_iff.mp hj).1 nd).mp (hj.trans j1.symm)
  subst eij
  rw [he] at j2
  cases j2
  rw [ev] at hH
  exact hH
end
end Wk
set_option Elab.async false
set_option linter.all false
set_option maxRecDepth 100000
set_option maxHeartbeats 4000000
/-! Things of a class of one's own: len, in, == and != by identity. -/
namespace Wk
open PySem PySem.Spec PyProof.Rows L2
open PySem.W (InstAt Looks findIn isFn mroIn notFirst)
section
variable {prog : Program} {w : World} {A : Around} {E : Value → Shared → Prop} {s : Shared} {K : PySem.W.Frag} {x y C : Addr} {ox oy : Obj} {od odo : Option Obj} {b : Value}
theorem bound_blt {id : String} {name : Str} {T : String} {args : List Value} {Q : Option Value → Shared → Prop} (X : K.In s.heap) (I : InstAt s.heap x ox C od) (S : Slot T name id) (hs : findIn K (.ref C) name = some (some (.builtin id)))
    (h : wpAny (model prog w) A (call (.builtin id) (.ref x :: args)) (fun v => Q (some v)) E s) : wpAny (model prog w) A (callSpecialIfBound? (.ref x) name args) Q E s := by
  unfold callSpecialIfBound? bindSpecialIfBound?
  apply wpAny_holding
  apply wpAny_bind
  apply wpAny_bind
  apply wpAny_bind
  apply I.type.here
  apply (PySem.W.looks_findIn X hs).here
  apply wpAny_bind
  refine wpAny_askSetting (wpAny_ite ?_)
  have run : wpAny (model prog w) A (call (.builtin id) ([.ref x] ++ args) >>= fun v => pure (some v)) Q E s := wpAny_bind (wpAny_mono h (fun _ _ q => wpAny_pure q) fun _ _ e => e)
  split
  · exact wpAny_bind (wpAny_of_eq (S.bind _) (wpAny_pure run))
  · exact wpAny_tryCatch (wpAny_bind (wpAny_of_eq (S.bind _) (wpAny_pure run)))
theorem inst_tup (I : InstAt s.heap x ox C od) : ox.cls ≠ .type "tuple" := by
  rw [I.cls]
  intro z
  cases z
/-- object.__eq__ -/
theorem eq_obj0 {Q : Value → Shared → Prop} (X : K.In s.heap) (I : InstAt s.heap x ox C od) (hm : mroIn K C (.type "object") = some true) (hq : Q (.bool true) s) :
    wpAny (model prog w) A (call (.builtin "object.__eq__") [.ref x, .ref x]) Q E s := by
  refine wpAny_call (codeAny_call_builtin F.cmp_object.eq.plain F.cmpEntry_eq (PySem.W.check_slot F.cmpKind_eq F.cmpSplit_eq (I.type.andThen (PySem.W.looks_mroIn X hm)) (F.cmpArgs_eq _ _) ?_))
  unfold Builtin.«object.__eq__»
  repeat (first | with_reducible refine wpAny_isSame_ref_self ?_ | wp_step)
  exact hq
theorem eq_obj1 {Q : Value → Shared → Prop} (X : K.In s.heap) (I : InstAt s.heap x ox C od) (J : s.heap.get? y = some oy) (hne : x ≠ y) (hm : mroIn K C (.type "object") = some true) (hq : Q .notImplemented s) :
    wpAny (model prog w) A (call (.builtin "object.__eq__") [.ref x, .ref y]) Q E s := by
  refine wpAny_call (codeAny_call_builtin F.cmp_object.eq.plain F.cmpEntry_eq (PySem.W.check_slot F.cmpKind_eq F.cmpSplit_eq (I.type.andThen (PySem.W.looks_mroIn X hm)) (F.cmpArgs_eq _ _) ?_))
  unfold Builtin.«object.__eq__»
  repeat (first | with_reducible refine wpAny_isSame_ref_other hne I.at_ J (inst_tup I) ?_ | wp_step)
  exact hq
/-- object.__ne__ of two things -/
theorem ne_obj {Q : Value → Shared → Prop} (hu : A.in1.units < cLine) (X : K.In s.heap) (I : InstAt s.heap x ox C od) (J : s.heap.get? y = some oy) (hm : mroIn K C (.type "object") = some true) (he : findIn K (.ref C) "__eq__" = some (some (.builtin "object.__eq__")))
    (hne : x ≠ y) (hq : Q .notImplemented s) : wpAny (model prog w) A (call (.builtin "object.__ne__") [.ref x, .ref y]) Q E s := by
  refine wpAny_call (codeAny_call_builtin F.cmp_object.ne.plain F.cmpEntry_ne (PySem.W.check_slot F.cmpKind_ne F.cmpSplit_ne (I.type.andThen (PySem.W.looks_mroIn X hm)) (F.cmpArgs_ne _ _) ?_))
  unfold Builtin.«object.__ne__»
  have one : wpAny (model prog w) A.in1 (callSpecialIfBound? (.ref x) "__eq__" [.ref y]) (fun r s' => r = some .notImplemented ∧ s' = s) (fun z s' => E z s') s :=
    bound_blt X I F.cmp_object.eq he (eq_obj1 X I J hne hm ⟨rfl, rfl⟩)
  generalize callSpecialIfBound? = CS at one ⊢
  repeat (first | with_reducible refine wpAny_cRoomFor hu ?_ | with_reducible refine wpAny_mono one (fun r s1 got => ?_) (fun _ _ e => e) | wp_step)
  obtain ⟨rfl, rfl⟩ := got
  repeat wp_step
  exact hq
theorem ne_two (hu : A.units + 1 < cLine) (X : K.In s.heap) (I : InstAt s.heap x ox C od) (J : InstAt s.heap y oy C odo) (hm : mroIn K C (.type "object") = some true) (he : findIn K (.ref C) "__eq__" = some (some (.builtin "object.__eq__")))
    (hn : findIn K (.ref C) "__ne__" = some (some (.builtin "object.__ne__"))) (hne : x ≠ y) {Q : Value → Shared → Prop} (h : Q (.bool true) s) : wpAny (model prog w) A (richCompare .NotEq (.ref x) (.ref y)) Q E s := by
  have one : wpAny (model prog w) A (tryCompare (.ref x) "__ne__" (.ref y)) (fun r s' => r = none ∧ s' = s) E s := by
    unfold tryCompare
    exact wpAny_bind (bound_blt X I F.cmp_object.ne hn (ne_obj hu X I J.at_ hm he hne (wpAny_pure ⟨rfl, rfl⟩)))
  have two : wpAny (model prog w) A (tryCompare (.ref y) "__ne__" (.ref x)) (fun r s' => r = none ∧ s' = s) E s := by
    unfold tryCompare
    exact wpAny_bind (bound_blt X J F.cmp_object.ne hn (ne_obj hu X J I.at_ hm he (Ne.symm hne) (wpAny_pure ⟨rfl, rfl⟩)))
  unfold richCompare
  simp only [oneThing_ref, cmpInfo_NotEq]
  refine wpAny_holding (wpAny_bind (wpAny_cRoomFor (by omega) ?_))
  refine wpAny_bind (I.type.here ?_)
  refine wpAny_bind (J.type.here ?_)
  rw [if_neg (by simp)]
  refine wpAny_bind (wpAny_pure ?_)
  simp only [Bool.false_eq_true, if_false, Bool.not_false, if_true]
  refine wpAny_bind (m := tryCompare (.ref x) _ (.ref y)) (wpAny_mono one (fun r s1 z => ?_) fun _ _ e => e)
  obtain ⟨z1, z2⟩ := z
  subst z1 z2
  refine wpAny_bind (m := tryCompare (.ref y) _ (.ref x)) (wpAny_mono two (fun r s2 z => ?_) fun _ _ e => e)
  obtain ⟨z1, z2⟩ := z
  subst z1 z2
  exact wpAny_bind (wpAny_rule (wpAny_bind (wpAny_isSame_ref_other hne I.at_ J.at_ (inst_tup I) (wpAny_pure h))))
theorem eq_one (hu : A.units + 1 < cLine) (X : K.In s.heap) (I : InstAt s.heap x ox C od) (hm : mroIn K C (.type "object") = some true) (he : findIn K (.ref C) "__eq__" = some (some (.builtin "object.__eq__")))
    {Q : Value → Shared → Prop} (h : Q (.bool true) s) : wpAny (model prog w) A (richCompare .Eq (.ref x) (.ref x)) Q E s := by
  have one : wpAny (model prog w) A (tryCompare (.ref x) "__eq__" (.ref x)) (fun r s' => r = some (.bool true) ∧ s' = s) E s := by
    unfold tryCompare
    exact wpAny_bind (bound_blt X I F.cmp_object.eq he (eq_obj0 X I hm (wpAny_pure ⟨rfl, rfl⟩)))
  unfold richCompare
  simp only [oneThing_ref, cmpInfo_Eq]
  refine wpAny_holding (wpAny_bind (wpAny_cRoomFor (by omega) ?_))
  refine wpAny_bind (I.type.here ?_)
  refine wpAny_bind (I.type.here ?_)
  rw [if_neg (by simp)]
  refine wpAny_bind (wpAny_pure ?_)
  simp only [Bool.false_eq_true, if_false, Bool.not_false, if_true]
  refine wpAny_bind (m := tryCompare (.ref x) _ (.ref x)) (wpAny_mono one (fun r s1 z => ?_) fun _ _ e => e)
  obtain ⟨z1, z2⟩ := z
  subst z1 z2
  exact wpAny_pure h
end
end Wk
set_option Elab.async false
set_option linter.all false
set_option maxRecDepth 100000
set_option maxHeartbeats 4000000
namespace Wk
open PySem PySem.Spec PyProof.Rows L2
open PySem.W (InstAt Looks findIn isFn mroIn notFirst)
/-- a class whose == and != are those of object -/
structure IdEqual (K : PySem.W.Frag) (C : Addr) : Prop where
  top : mroIn K C (.type "object") = some true
  ne : findIn K (.ref C) "__ne__" = some (some (.builtin "object.__ne__"))
  eq : findIn K (.ref C) "__eq__" = some (some (.builtin "object.__eq__"))
section
variable {X : Cx} {CX : CXT} {n : Nat} {C f : Addr} {fd : FuncData} {ps : List Str} {sp : Sp} {E : XK}
theorem inst_of {pins : List (Addr × Obj)} {σ : L2.St} {H : Hp} {s : Shared} {a dx : Addr} {fs : List (Str × V)} (I : Inv X pins σ H s) (ha : H a = some (.ins C dx fs)) : ∃ ox od, InstAt s.heap a ox C od := by
  obtain ⟨mA, J, _⟩ := ins_get I.hok ha
  obtain ⟨od, J, _⟩ := J.look
  exact ⟨_, od, J⟩
/-- x != y, two things -/
def rIdNe (C : Addr) : R2 := fun x y H Q => ∃ a b dx dy fs gs, x = .ref a ∧ y = .ref b ∧ a ≠ b ∧ H a = some (.ins C dx fs) ∧ H b = some (.ins C dy gs) ∧ Q (.bl true) H
theorem op_idNe (hu : X.A.units + 1 < cLine) (O : IdEqual X.K C) : OpR X (compareOp .NotEq) (rIdNe C) := by
  rintro pins s σ H x y v u Q I rx ry ⟨a, b, dx, dy, fs, gs, rfl, rfl, hne, ha, hb, q⟩
  cases rx
  cases ry
  obtain ⟨ox, od, J1⟩ := inst_of I ha
  obtain ⟨oy, od2, J2⟩ := inst_of I hb
  exact ne_two hu I.kIn J1 J2 O.top O.eq O.ne hne ⟨.bl true, H, I, rfl, q⟩
/-- x == x -/
def rIdEq (C : Addr) : R2 := fun x y H Q => ∃ a dx fs, x = .ref a ∧ y = .ref a ∧ H a = some (.ins C dx fs) ∧ Q (.bl true) H
theorem op_idEq (hu : X.A.units + 1 < cLine) (O : IdEqual X.K C) : OpR X (compareOp .Eq) (rIdEq C) := by
  rintro pins s σ H x y v u Q I rx ry ⟨a, dx, fs, rfl, rfl, ha, q⟩
  cases rx
  cases ry
  obtain ⟨ox, od, J1⟩ := inst_of I ha
  exact eq_one hu I.kIn J1 O.top O.eq ⟨.bl true, H, I, rfl, q⟩
theorem run_own {A : Around} {pins : List (Addr × Obj)} {σ : L2.St} {H : Hp} {s : Shared} {Q : VK} {us : List Value} {ys : List V} (F : FnOk X.prog X.w X.K X.mg X.base CX n f fd ps sp) (hb : Binds X.K fd ps []) (hx : Passes CX X E)
    (room : Room n A) (fr : A.frames = X.A.frames) (I : Inv X pins σ H s) (r : Vals ys us) (h : sp ys H Q E) : wpAny (model X.prog X.w) A (call (.ref f) us) (EP X pins σ Q) X.xe s := by
  have lenY : ys.length = ps.length := F.len _ _ _ _ h
  have lenU : us.length = ps.length := by rw [← r.length, lenY]
  have b0 := hb s us I.kIn (by simpa using lenU)
  rw [List.append_nil] at b0
  have e0 : Env0 X.prog X.w X.K X.mg X.base A X.stack s H := { I.env0 with frames := fr.trans I.env0.frames }
  apply wpAny_call
  refine codeAny_mono (F.run A X.stack s H ⟨us, []⟩ us ys Q E room e0 b0 r h) ?_
  intro res s2 got
  rcases res with e | (_ | _ | _ | u)
  · exact hx pins σ H s e s2 I got
  · exact got.elim
  · exact got.elim
  · exact got.elim
  · exact I.after got
/-- len(x), by the class's own __len__ -/
def rOwnLen (C : Addr) (sp : Sp) (E : XK) : List V → Hp → VK → Prop := fun xs H Q => ∃ a dx fs, xs = [.ref a] ∧ H a = some (.ins C dx fs) ∧ sp [.ref a] H (fun v H' => ∃ m : Int, v = .int m ∧ 0 ≤ m ∧ m < 2 ^ 63 ∧ Q (.int m) H') E
theorem call_ownLen (F : FnOk X.prog X.w X.K X.mg X.base CX n f fd ps sp) (hb : Binds X.K fd ps []) (hx : Passes CX X E) (hs : findIn X.K (.ref C) "__len__" = some (some (.ref f))) (hf : isFn X.K (.ref f) = true) (room : Room (n + 1) X.A) :
    CallR X (.builtin "len") (rOwnLen C sp E) := by
  intro pins s σ H xs us Q I r h
  obtain ⟨a, dx, fs, rfl, ha, p⟩ := h
  obtain ⟨u, rfl, rx⟩ := vals1 r
  cases rx
  obtain ⟨ox, od, J⟩ := inst_of I ha
  obtain ⟨m, fr⟩ := I.fr
  refine PySem.W.len_K fr I.ok.mod.kin J hs hf ?_
  refine wpAny_mono (run_own F hb hx room.in1 rfl I (.cons (show L2.RelV (.ref a) (.ref a) from rfl) .nil) p) ?_ fun _ _ e => e
  rintro z s2 ⟨v, H2, I2, rz, m, rfl, m0, m1, q⟩
  obtain ⟨t, rfl⟩ := rz
  exact ⟨⟨m0, m1⟩, .int m, H2, I2.tok _, ⟨_, rfl⟩, q⟩
/-- y in x, by the class's own __contains__ -/
def rOwnIn (C : Addr) (sp : Sp) (E : XK) : R2 := fun y x H Q => ∃ a dx fs, x = .ref a ∧ H a = some (.ins C dx fs) ∧ sp [.ref a, y] H (fun v H' => ∃ c : Bool, v = .bl c ∧ Q (.bl c) H') E
theorem op_ownIn (F : FnOk X.prog X.w X.K X.mg X.base CX n f fd ps sp) (hb : Binds X.K fd ps []) (hx : Passes CX X E) (hs : findIn X.K (.ref C) "__contains__" = some (some (.ref f))) (hf : isFn X.K (.ref f) = true) (room : Room n X.A) :
    OpR X (compareOp .In) (rOwnIn C sp E) := by
  rintro pins s σ H y x v u Q I ry rx ⟨a, dx, fs, rfl, ha, p⟩
  cases rx
  obtain ⟨ox, od, J⟩ := inst_of I ha
  obtain ⟨m, fr⟩ := I.fr
  refine PySem.W.in_K fr I.ok.mod.kin J hs hf ?_
  refine wpAny_mono (run_own F hb hx room rfl I (ys := [.ref a, y]) (.cons (show L2.RelV (.ref a) (.ref a) from rfl) (.cons ry .nil)) p) ?_ fun _ _ e => e
  rintro z s2 ⟨v, H2, I2, rz, c, rfl, q⟩
  obtain rfl := rz
  exact wpAny_truthy_bool ⟨.bl c, H2, I2, rfl, q⟩
end
/-! ## == of a key's tuple and of None -/
section
variable {X : Cx}
/-- a tuple that is a key, held against a key or None -/
def rKeyEq : R2 := fun x y H Q => ∃ k a, x = .ref a ∧ KeyAt H k a ∧ ((y = .non ∧ Q (.bl false) H) ∨ ∃ k2 b, y = .ref b ∧ KeyAt H k2 b ∧ Q (.bl (decide (k = k2))) H)
theorem is_tup {h : Heap} {k : NestedKey} {a : Addr} {P : Program} {w : World} (x : (nestedKind P w).is h k a) : ∃ its, h.IsTuple a its := by
  obtain ⟨x, _⟩ := x
  cases x with
  | tup h1 h2 h3 _ => exact ⟨_, _, h1, h2, _, h3⟩
end
end Wk
set_option Elab.async false
set_option linter.all false
set_option maxRecDepth 100000
set_option maxHeartbeats 4000000
/-! An own __iter__ that gives a tuple's iterator: for x in o, list(o). Own == beside a list. -/
namespace W8
open PySem PySem.Spec PyProof.Rows L2
open PySem.W (InstAt Looks findIn isFn mroIn notFirst)
open ItX
/-! ## a promise that may speak of how much stood there -/
structure NOk (P : Program) (w : World) (K : PySem.W.Frag) (mg : Str → Option Value) (bs : Heap)
    (CX : CXT) (k : Nat) (f : Addr) (fd : FuncData) (ps : List Str) (sp : Nat → Sp) : Prop where
  len : ∀ n ys H Q E, sp n ys H Q E → ys.length = ps.length
  run : ∀ (A : Around) (out : List Env) (s : Shared) (H : Hp) (ar : Args) (us : List Value) (ys : List V) (Q : VK) (E : XK),
    Room k A → Env0 P w K mg bs A out s H → BindsTo s fd ar (ps.zip us) →
    Vals ys us → sp s.heap.objs.size ys H Q E → codeAny (model P w) A (.call (.ref f) ar) (CR CX out P w H s Q E) s
theorem nok_of {CX : CXT} {P : Program} {w : World} {K : PySem.W.Frag} {mg : Str → Option Value} {bs : Heap} {k : Nat} {f : Addr} {fd : FuncData} {x qual : Str} {st : Stmt} {N ps : List Str} {sp : Nat → Sp}
    (F : Fun K x qual st f fd) (S : FnScope N ps (defScope st)) (len : ∀ n ys H Q E, sp n ys H Q E → ys.length = ps.length)
    (body : ∀ (cd : Value) (A : Around) (out : List Env) (s : Shared) (H : Hp) (ys : List V) (Q : VK) (E : XK),
      Room k (A.deeper (envOfC qual (defScope st) s.heap.objs.size f cd)) → sp s.heap.objs.size ys H Q E →
      ∃ t, PSs (cxOf CX P w K mg bs N qual (defScope st) f cd A out s H E) (defBody st) t ∧
        t { nx := fun _ H' => Q .non H', rt := Q } (start N ys) H) : NOk P w K mg bs CX (k + 1) f fd ps sp := by
  obtain ⟨oc, od, kV, doc, pm, an, cd, ct, osl, rfl, lk, hcd⟩ := F.ex
  constructor
  · exact len
  · intro A out s H ar us ys Q E hR e0 hB hV hP
    have hLen := len _ _ _ _ _ hP
    have inK : K.In s.heap := e0.mod.kin.keeps fun b o e => (e0.bs b o e).1
    have noL : s.heap.NoLimit := e0.mod.nolimit.keeps fun b o e => (e0.bs b o e).1
    have kinds : ∀ y ∈ ps.zip us, (defScope st).names.lookup y.1 = some .local ∨
        ((defScope st).names.lookup y.1 = some .cell ∧ ((cellsFrom (s.heap.objs.size + 1) (defScope st).names []).lookup y.1).isSome = true) := by
      intro y hy
      obtain ⟨n, v⟩ := y
      cases S.par n (List.of_mem_zip hy).1 with
      | inl z => exact Or.inl z
      | inr z => exact Or.inr ⟨z, PySem.W.cellsFrom_some _ _ _ (Or.inl z)⟩
    apply codeAny_call_function hR.depth (inK _ _ lk) rfl S.co S.gen rfl (PySem.W.codeRec_of inK hcd)
    apply hB
    refine wpAny_newFunctionEnv_cells S.kind kinds ?_
    intro env ee s1 hin
    subst ee
    refine ⟨noL.keeps hin.toInCall.keep, ?_⟩
    apply codeAny_func
    obtain ⟨t, ht, hq⟩ := body cd A out s H ys Q E (hR.deeper _) hP
    have J : Inv (cxOf CX P w K mg bs N qual (defScope st) f cd A out s H E) [] (start N ys) H s1 := inv_start S hR.hd e0 hLen hV hin
    refine wpAny_mono (ht.run [] s1 (start N ys) H _ J hq) ?_ (fun _ _ z => z)
    intro fl s2 hs
    cases fl with
    | ret u =>
      obtain ⟨v, σ2, H2, J2, rv, q⟩ := hs
      exact ⟨v, H2, J2.os, J2.bare, J2.base, J2.hok, rv, q⟩
    | next =>
      obtain ⟨σ2, H2, J2, q⟩ := hs
      exact ⟨V.non, H2, J2.os, J2.bare, J2.base, J2.hok, rfl, q⟩
    | brk =>
      obtain ⟨_, _, _, q⟩ := hs
      exact q.elim
    | cont =>
      obtain ⟨_, _, _, q⟩ := hs
      exact q.elim
/-! ## iter(t), t a tuple -/
def ItT (l it : Addr) : HO := .ext fun h => h.get? it = some { cls := .type "tuple_iterator", data := .fields #[.ref l, .int 0 0] }
def rIterT (K : PySem.W.Frag) (n : Nat) : List V → Hp → VK → Prop := fun xs H Q => ∃ (l : Addr) (zs : List V), xs = [.ref l] ∧ SqT K H l zs ∧ ∀ it, H it = Option.none → n ≤ it → Q (.ref it) (upd H it (ItT l it))
theorem itT_ok {P : Program} {w : World} {H : Hp} {h : Heap} {l it : Addr} (e : h.get? it = some { cls := .type "tuple_iterator", data := .fields #[.ref l, .int 0 0] }) : ObjOk P w H h it (ItT l it) := ⟨e, ⟨_, e⟩, fun h1 h2 q k => k _ q⟩
section
variable {X : Cx}
theorem call_iterT : CallR X (.builtin "iter") (rIterT X.K X.s_0.heap.objs.size) := by
  intro pins s σ H xs us Q I r h
  obtain ⟨l, zs, rfl, hq, q⟩ := h
  obtain ⟨u, rfl, ru⟩ := vals1 r
  cases ru
  obtain ⟨its, rv, pl, hz⟩ := I.tuple hq
  refine Calls.call_function_entry (by decide +kernel) (by decide +kernel) PySem.W.kdk_entry_iter (PySem.W.kdk_args_iter _) ?_
  unfold Builtin.«iter»
  refine wpAny_bind (m := someArgs "iter" 1 2 _) (wpAny_of_eq (a := [Value.ref l]) (by first | rfl | kernel_rfl!) ?_)
  show wpAny _ _ (pyIter (.ref l) >>= _) _ _ _
  refine wpAny_bind (wpAny_pyIter_tuple (show s.heap.IsTuple l its.toArray from pl) ?_)
  refine wpAny_pure ⟨_, rfl, ?_⟩
  exact ⟨.ref s.heap.objs.size, _, I.laid (t' := s.toks) (fun b u e => Heap.get?_push_of_some _ e) (Nat.le_refl _) (itT_ok (Heap.get?_push_size _ rfl)), rfl, q _ (I.hok.fresh (Nat.le_refl _)) I.sz⟩
end
section
variable {X : Cx} {n nl : Nat} {C f fl : Addr} {fd fdl : FuncData} {ps psl : List Str} {sp : Nat → Sp} {spl : Sp} {E : XK}
/-- the call of such a def that lets nothing out -/
theorem run_nok {A : Around} {pins : List (Addr × Obj)} {σ : L2.St} {H : Hp} {s : Shared} {Q : VK} {us : List Value} {ys : List V} {Ex : Value → Shared → Prop} (F : NOk X.prog X.w X.K X.mg X.base CX0 n f fd ps sp) (hb : Binds X.K fd ps [])
    (room : Room n A) (fr : A.frames = X.A.frames) (I : Inv X pins σ H s) (r : Vals ys us) (h : sp s.heap.objs.size ys H Q E) : wpAny (model X.prog X.w) A (call (.ref f) us) (EP X pins σ Q) Ex s := by
  have lenY : ys.length = ps.length := F.len _ _ _ _ _ h
  have lenU : us.length = ps.length := by rw [← r.length, lenY]
  have b0 := hb s us I.kIn (by simpa using lenU)
  rw [List.append_nil] at b0
  have e0 : Env0 X.prog X.w X.K X.mg X.base A X.stack s H := { I.env0 with frames := fr.trans I.env0.frames }
  apply wpAny_call
  refine codeAny_mono (F.run A X.stack s H ⟨us, []⟩ us ys Q E room e0 b0 r h) ?_
  intro res s2 got
  rcases res with e | (_ | _ | _ | u)
  · exact got.elim
  · exact got.elim
  · exact got.elim
  · exact got.elim
  · exact I.after got
theorem run_fok {A : Around} {pins : List (Addr × Obj)} {σ : L2.St} {H : Hp} {s : Shared} {Q : VK} {us : List Value} {ys : List V} {Ex : Value → Shared → Prop} (F : FnOk X.prog X.w X.K X.mg X.base CX0 n f fd ps spl) (hb : Binds X.K fd ps [])
    (room : Room n A) (fr : A.frames = X.A.frames) (I : Inv X pins σ H s) (r : Vals ys us) (h : spl ys H Q E) : wpAny (model X.prog X.w) A (call (.ref f) us) (EP X pins σ Q) Ex s :=
  run_nok (sp := fun _ => spl) ⟨fun _ => F.len, F.run⟩ hb room fr I r h
/-- what __iter__ is to hand back: a new iterator over the tuple at l -/
def Fresh (n : Nat) (H : Hp) (R : Addr → Addr → Prop) : VK := fun v H2 => ∃ l it, v = .ref it ∧ H it = Option.none ∧ n ≤ it ∧ H2 = upd H it (ItT l it) ∧ R l it
/-- for x in o -/
def iOwn (X : Cx) (C : Addr) (sp : Nat → Sp) (E : XK) (te : TE) : TI := fun σ H R => te σ H fun x H1 => ∃ a dx fs, x = .ref a ∧ H1 a = some (.ins C dx fs) ∧
  ∀ n, X.s_0.heap.objs.size ≤ n → sp n [.ref a] H1 (Fresh n H1 fun l _ => R (Itt X.K l) H1) E
theorem fresh_it {pins : List (Addr × Obj)} {σ : L2.St} {H : Hp} {s : Shared} {l it n : Addr} (I : Inv X pins σ (upd H it (ItT l it)) s) (hn : H it = Option.none) (h : X.s_0.heap.objs.size ≤ it) :
    Inv X pins σ H s ∧ s.heap.get? it = some { cls := .type "tuple_iterator", data := .fields #[.ref l, .int 0 0] } ∧ FpOk X pins H it := by
  have e := inv_drop I (show upd H it (ItT l it) it = some (.ext _) from upd_same)
  have p := inv_fp I (u := ItT l it) upd_same h
  rw [dropH_upd hn] at e p
  exact ⟨e, (I.hok it _ upd_same).1, p⟩
theorem pi_own {tg e : Expr} {te : TE} (he : PE X e te) (F : NOk X.prog X.w X.K X.mg X.base CX0 n f fd ps sp) (hb : Binds X.K fd ps []) (hs : findIn X.K (.ref C) "__iter__" = some (some (.ref f))) (hf : isFn X.K (.ref f) = true)
    (room : Room n X.A) : PI X tg e (iOwn X C sp E te) := by
  refine ⟨fun pins s σ H R I h => ?_⟩
  refine thn (he.run pins s σ H _ I h) fun u s1 ⟨x, H1, I1, rx, a, dx, fs, ex, ha, p⟩ => ?_
  subst ex
  cases rx
  obtain ⟨mA, J, _⟩ := ins_get I1.hok ha
  obtain ⟨od, J, _⟩ := J.look
  obtain ⟨m, fr⟩ := I1.fr
  refine PySem.W.owit_iter fr I1.ok.mod.kin J hs hf ?_
  refine wpAny_mono (run_nok F hb room rfl I1 (.cons (show L2.RelV (.ref a) (.ref a) from rfl) .nil) (p _ I1.sz)) ?_ fun _ _ e => e
  rintro r s2 ⟨v, H2, I2, rv, l, it, rfl, hn, hnew, rfl, q⟩
  cases rv
  obtain ⟨I3, eo, fp⟩ := fresh_it (n := 0) I2 hn (Nat.le_trans I1.sz hnew)
  unfold PySem.W.OwitIt
  have hT : s2.TypeIs (.ref it) "tuple_iterator" := ⟨_, eo, rfl⟩
  refine wpAny_specialOf hT PySem.F.slot_tuple_iterator_next.lookup ?_
  refine ⟨it, [it], _, Itt X.K l, H1, rfl, I3, turn_tuple l it, ⟨_, eo, rfl, rfl⟩, fun b hb => ?_, q⟩
  have e : b = it := by simpa using hb
  subst e
  exact fp
/-- the rest of the tuple at l is appended to the list at q -/
theorem ext_loop {pins : List (Addr × Obj)} {σ : L2.St} {A1 : Around} {Rs : Result → Shared → Prop} {q it l : Addr} {zs : List V} (hh : A1.handled = none) (few : zs.length ≤ 1000) (nq : it ≠ q) :
    ∀ (k i : Nat) (H : Hp) (s : Shared), i + k = zs.length → Inv X pins σ H s → FpOk X pins H it → s.heap.IsTupleIter it l i → SqT X.K H l zs → H q = some (.lst (zs.take i)) →
      (∀ s', Inv X pins σ (upd H q (.lst zs)) s' → Rs (.ok (.ret .none)) s') → codeAny (model X.prog X.w) A1 (.builtin "list.extend.loop" ⟨[.ref q, .ref it, .none], []⟩) Rs s := by
  intro k
  induction k with
  | zero =>
    intro i H s hk I fp hit hl hq done
    refine codeAny_builtin PySem.F.entry_extend_loop ?_
    rw [Around.under_plainId PySem.F.plain_extend_loop _]
    show wpAny _ A1.in1 (pyNext (.ref it) >>= _) _ _ s
    obtain ⟨its, rv, pl, hz⟩ := I.tuple hl
    have hlen := rv.length
    obtain ⟨f0, f1, f2, f3, f4, f5⟩ := fp
    refine wpAny_bind (wpAny_pyNext_tuple_end (A := A1.in1) hh hit (show s.heap.IsTuple l its.toArray from pl) (by simp; omega) fun h' eb => ?_)
    have I2 := I.turned (t' := s.toks) (fun b o hb e => eb b o hb e) f0 f1 f3 f4 f5
    refine wpAny_pure (done _ ?_)
    have e : zs.take i = zs := List.take_of_length_le (by omega)
    rw [e] at hq
    have eH : upd H q (.lst zs) = H := by
      funext b
      by_cases z : b = q
      · rw [z, upd_same, hq]
      · rw [upd_ne z]
    rw [eH]
    exact I2
  | succ k ih =>
    intro i H s hk I fp hit hl hq done
    refine codeAny_builtin PySem.F.entry_extend_loop ?_
    rw [Around.under_plainId PySem.F.plain_extend_loop _]
    show wpAny _ A1.in1 (pyNext (.ref it) >>= _) _ _ s
    obtain ⟨its, rv, pl, hz⟩ := I.tuple hl
    have hi : i < zs.length := by omega
    have hx : zs[i]? = some zs[i] := List.getElem?_eq_getElem hi
    obtain ⟨u, hu, ru⟩ := rv.get hx
    have fp0 := fp
    obtain ⟨f0, f1, f2, f3, f4, f5⟩ := fp
    refine wpAny_bind (wpAny_pyNext_tuple_item (A := A1.in1) hit (show s.heap.IsTuple l its.toArray from pl) (x := u) (by simpa using hu) fun h' st' sb => ?_)
    have I1 : Inv X pins σ H { s with heap := h' } := I.turned (t' := s.toks) (fun b o hb e => (sb.2 b hb).trans e) f0 f1 f3 f4 f5
    show wpAny _ A1.in1 (updateSeq q (·.push u) >>= _) _ _ _
    obtain ⟨z, its2, n2, r2, hl2, e2⟩ := I1.lstM hq
    have l2 : (zs.take i).length = i := by rw [List.length_take]; omega
    refine wpAny_bind (wpAny_updateSeq e2 rfl (wpAny_pure ⟨plainId_quiet PySem.F.plain_extend_loop _, ?_⟩) (by rw [List.size_toArray, sizeLine_eq]; omega) (by show (its2.toArray.push u).size ≤ sizeLine + 1; rw [Array.size_push, List.size_toArray, sizeLine_eq]; omega))
    have I2 := I1.lset (its' := its2 ++ [u]) (ys := zs.take i ++ [zs[i]]) (f := (·.push u)) (t' := s.toks) hq e2 (by simp) (r2.append (.cons ru .nil)) (by rw [List.length_append, List.length_singleton, l2, sizeLine_eq]; omega)
    have eq' : zs.take i ++ [zs[i]] = zs.take (i + 1) := (take_snoc hx).symm
    rw [eq'] at I2
    refine ih (i + 1) _ _ (by omega) I2 ?_ ?_ ?_ upd_same fun s' I' => done s' ?_
    · refine ⟨?_, f1, f2, f3, f4, f5⟩
      rw [upd_ne nq]
      exact f0
    · exact st'.extBut (Heap.SameBut.update ..).extBut nq
    · rcases hl with (hl | ⟨o, hl⟩) | hl
      · exact .inl (.inl (by rw [upd_ne (ne_of hl hq (fun z => nomatch z))]; exact hl))
      · exact .inl (.inr ⟨o, by rw [upd_ne (ne_of hl hq (fun z => nomatch z))]; exact hl⟩)
      · exact .inr hl
    · rw [upd_upd] at I'
      exact I'
/-- list(o) -/
def rListOwn (X : Cx) (C : Addr) (sp : Nat → Sp) (spl : Sp) (E : XK) : List V → Hp → VK → Prop := fun xs H Q => ∃ a dx fs, xs = [.ref a] ∧ H a = some (.ins C dx fs) ∧
  ∀ q n, H q = none → sp n [.ref a] (upd H q (.lst [])) (Fresh n (upd H q (.lst [])) fun l it => ∃ zs, SqT X.K H l zs ∧ zs.length ≤ 1000 ∧
    spl [.ref a] (upd (upd H q (.lst [])) it (ItT l it)) (fun v H3 => ∃ m : Int, v = .int m ∧ 0 ≤ m ∧ m ≤ 1000 ∧ Same (upd (upd H q (.lst [])) it (ItT l it)) H3) E ∧ ∀ H4, Same H H4 → H4 q = some (.lst zs) → Q (.ref q) H4) E
theorem call_listIt (F : NOk X.prog X.w X.K X.mg X.base CX0 n f fd ps sp) (hb : Binds X.K fd ps []) (hs : findIn X.K (.ref C) "__iter__" = some (some (.ref f))) (hf : isFn X.K (.ref f) = true)
    (L : FnOk X.prog X.w X.K X.mg X.base CX0 nl fl fdl psl spl) (hbl : Binds X.K fdl psl []) (hsl : findIn X.K (.ref C) "__len__" = some (some (.ref fl))) (hfl : isFn X.K (.ref fl) = true)
    (room : Room (n + 3) X.A) (rooml : Room (nl + 3) X.A) (hc : X.calm = true) : CallR X (.type "list") (rListOwn X C sp spl E) := by
  intro pins s σ H xs us Q I rv h
  obtain ⟨a, dx, fs, rfl, ha, p⟩ := h
  obtain ⟨u, rfl, ru⟩ := rv.one
  cases ru
  have sb : Sub X n X.A.in1.in1 := Sub.in1 (Sub.in1 (⟨room.mono (by omega), rfl⟩ : Sub X (n + 2) X.A))
  have sbl : Sub X nl X.A.in1.in1.in1 := Sub.in1 (Sub.in1 (Sub.in1 (⟨rooml, rfl⟩ : Sub X (nl + 3) X.A)))
  refine callType_codes (Q₁ := fun obj s₁ => obj = .ref s.heap.objs.size ∧ s₁ = { s with heap := s.heap.push { cls := .type "list", data := .seq #[] } }) PySem.F.called_list (PySem.F.typeCall_list_1 _) PySem.F.entry_list_init
    (code_list_new _ ⟨rfl, rfl⟩) fun obj s₁ h₁ => ?_
  obtain ⟨rfl, rfl⟩ := h₁
  have hS : (s.heap.push { cls := .type "list", data := .seq #[] }).get? s.heap.objs.size = some { cls := .type "list", data := .seq #[] } := Heap.get?_push_size _ rfl
  refine ⟨⟨_, hS, rfl⟩, PySem.F.args_list_init_2 _ _, ?_⟩
  have fr : H s.heap.objs.size = none := I.hok.fresh (Nat.le_refl _)
  have I1 : Inv X pins σ (upd H s.heap.objs.size (.lst [])) { s with heap := s.heap.push { cls := .type "list", data := .seq #[] } } := I.lnew (its := []) (t' := s.toks) .nil (Nat.zero_le _)
  show wpAny _ _ (do let old ← Builtin.List.listItems (.ref s.heap.objs.size); Builtin.List.listUpdate (.ref s.heap.objs.size) (fun _ => #[]); letGo old.toList.reverse; Builtin.List.listExtendWith (.ref s.heap.objs.size) (.ref a) .none) _ _ _
  refine wpAny_bind ?_
  unfold Builtin.List.listItems
  refine wpAny_bind (wpAny_seqItems hS rfl (wpAny_pure ?_))
  show wpAny _ _ (updateSeq s.heap.objs.size (fun _ => #[]) >>= fun _ => letGo (#[] : Array Value).toList.reverse >>= fun _ => Builtin.List.listExtendWith (.ref s.heap.objs.size) (.ref a) .none) _ _ _
  refine wpAny_bind (wpAny_updateSeq hS rfl ?_)
  have I2 := I1.lset (f := fun _ => #[]) (its := []) (its' := []) (ys := []) (t' := s.toks) upd_same hS rfl .nil (Nat.zero_le _)
  rw [upd_upd] at I2
  refine wpAny_bind (wpAny_letGo ?_)
  generalize s.heap.objs.size = q at *
  have ha2 : upd H q (.lst []) a = some (.ins C dx fs) := by rw [upd_ne (ne_of_none ha fr)]; exact ha
  have hne : q ≠ a := fun z => by
    rw [z, ha] at fr
    cases fr
  obtain ⟨mA, J, _⟩ := ins_get I2.hok ha2
  obtain ⟨od, J, _⟩ := J.look
  obtain ⟨m0, hF⟩ := I2.fr
  unfold Builtin.List.listExtendWith
  refine wpAny_bind (J.type.here ?_)
  have h1 : Builtin.List.listSameRef (.ref q) (.ref a) = false := by simp [Builtin.List.listSameRef, hne]
  have h2 : (Value.ref C == Value.type "list") = false := rfl
  have h3 : (Value.ref C == Value.type "tuple") = false := rfl
  simp only [h1, h2, h3, Bool.or_false, Bool.false_eq_true, if_false]
  refine wpAny_bind (PySem.W.owit_iter hF I2.ok.mod.kin J hs hf ?_)
  refine wpAny_mono (run_nok F hb sb.room sb.fr I2 (.cons (show L2.RelV (.ref a) (.ref a) from rfl) .nil) (p q _ fr)) ?_ fun _ _ e => e
  rintro r s2 ⟨v, H2, I3, rv, l, it, rfl, hn, hnew, rfl, zs, hl, few, pl, done⟩
  cases rv
  have ha3 : upd (upd H q (.lst [])) it (ItT l it) a = some (.ins C dx fs) := by rw [upd_ne (ne_of_none ha2 hn)]; exact ha2
  have eo := (fresh_it (n := 0) I3 hn (Nat.le_trans I2.sz hnew)).2.1
  unfold PySem.W.OwitIt
  have hT : s2.TypeIs (.ref it) "tuple_iterator" := ⟨_, eo, rfl⟩
  refine wpAny_specialOf hT PySem.F.slot_tuple_iterator_next.lookup ?_
  refine wpAny_bind (wpAny_holding ?_)
  obtain ⟨mB, J2, _⟩ := ins_get I3.hok ha3
  obtain ⟨od2, J2, _⟩ := J2.look
  obtain ⟨m2, hF2⟩ := I3.fr
  unfold Builtin.List.listLengthHint
  refine wpAny_bind (wpAny_bind (J2.type.here ((PySem.W.looks_findIn I3.kIn hsl).here ?_)))
  dsimp only
  refine PySem.W.KFB.if_not rfl ?_
  refine wpAny_ite_split (fun _ => ?_) (fun hab => absurd rfl hab)
  refine wpAny_bind (wpAny_rule ?_)
  refine wpAny_bind (wpAny_attempt ?_)
  refine PySem.W.len_K hF2 I3.ok.mod.kin J2 hsl hfl ?_
  refine wpAny_mono (run_fok L hbl sbl.room sbl.fr I3 (.cons (show L2.RelV (.ref a) (.ref a) from rfl) .nil) pl) ?_ fun _ _ e => e
  rintro z s3 ⟨v, H3, I5, rz, m, rfl, m0, m1, sm⟩
  obtain ⟨t, rfl⟩ := rz
  refine ⟨⟨m0, by omega⟩, ?_⟩
  refine wpAny_bind (m := asInt? (.int m s3.toks)) (wpAny_pure ?_)
  dsimp only
  refine wpAny_ite_split (fun hab => absurd hab (by rw [notLongL (by rw [sizeLine_eq]; omega)]; exact Bool.false_ne_true)) (fun _ => ?_)
  refine wpAny_pure ?_
  have eit := sm it _ upd_same
  have I6 := (inv_drop I5 (show H3 it = some (.ext _) from eit)).tok (s3.toks + 1)
  have fp := inv_fp I5 eit (Nat.le_trans I2.sz hnew)
  have nq : it ≠ q := fun z => by
    rw [z, upd_same] at hn
    cases hn
  have eo3 : s3.heap.get? it = some { cls := .type "tuple_iterator", data := .fields #[.ref l, .int 0 0] } := (I5.hok it _ eit).1
  have sH : Same H (dropH H3 it) := fun b o e => by
    have n1 : b ≠ q := fun z => by
      rw [z, fr] at e
      cases e
    have n2 : b ≠ it := fun z => by
      rw [z] at e
      rw [upd_ne nq, e] at hn
      cases hn
    rw [dropH_ne n2]
    exact sm _ _ (by rw [upd_ne n2, upd_ne n1]; exact e)
  have eq3 : dropH H3 it q = some (.lst []) := by
    rw [dropH_ne (Ne.symm nq)]
    exact sm _ _ (by rw [upd_ne (Ne.symm nq), upd_same])
  have hh : X.A.in1.handled = none := I.ok.hd hc
  have last : ∀ s', Inv X pins σ (upd (dropH H3 it) q (.lst zs)) s' → EP X pins σ Q (.ref q) s' := fun s' I' => ⟨.ref q, _, I', rfl, done _ (fun b o e => by
    rw [upd_ne fun z => by rw [z, fr] at e; cases e]
    exact sH b o e) upd_same⟩
  have go : ∀ s', Inv X pins σ (dropH H3 it) s' → s'.heap.IsTupleIter it l 0 → codeAny (model X.prog X.w) X.A.in1 (.builtin "list.extend.loop" ⟨[.ref q, .ref it, .none], []⟩) (wants (fun r s₂ => r = Value.none ∧ EP X pins σ Q (.ref q) s₂) X.xe) s' := fun s' I' t' =>
    ext_loop hh few nq zs.length 0 _ s' (by omega) I' fp t' (sH.sqT hl) (by rw [eq3]; rfl) fun s2 I2 => ⟨rfl, last s2 I2⟩
  refine wpAny_ite_split (fun _ => ?_) (fun _ => wpAny_pure ⟨plainId_quiet PySem.F.plain_extend_loop _, go _ I6 ⟨_, eo3, rfl, rfl⟩⟩)
  refine wpAny_bind (wpAny_rule ?_)
  refine wpAny_bind ?_
  show wpAny _ _ (updateSeq q (·.push .none) >>= fun _ => updateSeq q (·.pop)) _ _ _
  obtain ⟨z3, its3, k3, r3, hl3, e3⟩ := I6.lstM eq3
  cases r3
  refine wpAny_bind (wpAny_updateSeq e3 rfl ?_)
  have I7 := I6.lset (f := (·.push Value.none)) (its' := [Value.none]) (ys := [.non]) (t' := s3.toks + 1) eq3 e3 (by simp) (.cons rfl .nil) (by rw [List.length_singleton, sizeLine_eq]; decide)
  obtain ⟨z4, its4, k4, r4, hl4, e4⟩ := I7.lstM upd_same
  obtain ⟨u4, rfl, ru4⟩ := r4.one
  refine wpAny_updateSeq e4 rfl ?_ (by show 1 ≤ sizeLine; rw [sizeLine_eq]; decide) (by show 0 ≤ sizeLine + 1; exact Nat.zero_le _)
  have I8 := I7.lset (f := (·.pop)) (its := [u4]) (its' := []) (ys := []) (t' := s3.toks + 1) upd_same e4 (by rfl) .nil (Nat.zero_le _)
  rw [upd_upd] at I8
  have hH : upd (dropH H3 it) q (.lst []) = dropH H3 it := by
    funext b
    by_cases hb : b = q
    · rw [hb, upd_same, eq3]
    · rw [upd_ne hb]
  rw [hH] at I8
  refine wpAny_pure ⟨plainId_quiet PySem.F.plain_extend_loop _, go _ I8 ?_⟩
  have t0 : s3.heap.IsTupleIter it l 0 := ⟨_, eo3, rfl, rfl⟩
  exact (t0.extBut (Heap.SameBut.update ..).extBut nq).extBut (Heap.SameBut.update ..).extBut nq
end
end W8
set_option Elab.async false
set_option linter.all false
set_option maxRecDepth 100000
set_option maxHeartbeats 4000000
namespace W8
open PySem PySem.Spec PyProof.Rows L2
open Wp (OwnEqual Answ)
def top (i : Nat) : Stmt := PySem.Challenge.pw_waypairs_k82_profiles_of_sets.main.body.getD i (.Pass ⟨0, 0, 0, 0⟩)
def meth (i j : Nat) : Stmt := match top i with
  | .ClassDef _ _ _ body _ _ _ _ _ _ _ => body.getD j (.Pass ⟨0, 0, 0, 0⟩)
  | s => s
theorem ps_dead {X : Cx} {st : Stmt} : PS X st (fun _ _ _ => False) := ⟨fun _ _ _ _ _ _ h => h.elim⟩
theorem blkOk_in {N : List Str} {scope inner : Scope} {env : Env} {own : List (Str × Nat)} (sc : Scope) (e : env.scope = sc) (h : blkC N (relS scope sc) inner own = true) : BlkOk N (relabel scope env) inner own := by
  subst e
  exact blkOk_by h
theorem boot_isi : bootBuiltins "isinstance" = some (.builtin "isinstance") := by decide +kernel
theorem boot_ttuple : bootBuiltins "tuple" = some (.type "tuple") := by decide +kernel
theorem boot_tbool : bootBuiltins "bool" = some (.type "bool") := by decide +kernel
theorem boot_tint : bootBuiltins "int" = some (.type "int") := by decide +kernel
theorem boot_any : bootBuiltins "any" = some (.builtin "any") := by decide +kernel
theorem boot_all : bootBuiltins "all" = some (.builtin "all") := by decide +kernel
theorem boot_iter : bootBuiltins "iter" = some (.builtin "iter") := by decide +kernel
structure Bn (mg : Str → Option Value) : Prop where
  isinstance : mg "isinstance" = none
  tuple : mg "tuple" = none
  list : mg "list" = none
  all : mg "all" = none
  any : mg "any" = none
  iter : mg "iter" = none
  len : mg "len" = none
  range : mg "range" = none
  abs : mg "abs" = none
  int : mg "int" = none
  enumerate : mg "enumerate" = none
  max : mg "max" = none
  min : mg "min" = none
  bool : mg "bool" = none
structure Known (P : Program) (w : World) (K : PySem.W.Frag) (mg : Str → Option Value) (base : Heap) (CX : CXT) (k : Nat) (x : Str) (ps : List Str) (sp : Sp) (f : Addr) (fd : FuncData) : Prop where
  ok : FnOk P w K mg base CX k f fd ps sp
  mg : mg x = some (.ref f)
  kp : PySem.W.keepIn K (.ref f) = true
  bi : Binds K fd ps []
/-- what isinstance asks of an own class -/
structure OwnC (K : PySem.W.Frag) (C : Addr) : Prop where
  cl : Cls K C
  ha : PySem.W.findIn K (.ref C) "__class__" = some (some (.builtin "object.__class__"))
  hn : PySem.W.specialIn K (.builtin "object.__class__") "__get__" = some (some (.builtin "getset_descriptor.__get__"))
  htk : PySem.W.takesIn K (.builtin "object.__class__") = some true
  hm : PySem.W.mroIn K C (.type "object") = some true
  self : PySem.W.kitOne K (.ref C) (.ref C) = some true
  other : ∀ t ∈ ["list", "tuple"], PySem.W.kitOne K (.type t) (.ref C) = some false
theorem OwnC.ty {K : PySem.W.Frag} {C : Addr} (O : OwnC K C) {H : Hp} {a dx : Addr} {fs : List (Str × V)} (h : H a = some (.ins C dx fs)) : TyX K H (.ref a) (.ref C) := .base (.ins h O.cl O.ha O.hn O.htk O.hm)
/-- the class of the sets -/
structure MfC (K : PySem.W.Frag) (mg : Str → Option Value) (CM : Addr) : Prop where
  own : OwnC K CM
  no : NoAttr K CM "names"
  mg : mg "Manners" = some (.ref CM)
  crd : ClX.CRead K CM (.type "type")
  wrd : ∃ TW u, ClX.CVal K CM (.type "type") "WORDS" (.ref TW) u ∧ ∀ H, SqT K H TW (all3.map V.str)
/-- a set of manners -/
def Mn (CM : Addr) (H : Hp) (a : Addr) (m : Cd) : Prop := ∃ dx t, H a = some (.ins CM dx [("names", .ref t)]) ∧ H t = some (.tup ((wds m).map V.str))
def rM (CM : Addr) : Rp Cd := fun H v m => ∃ a, v = .ref a ∧ Mn CM H a m
theorem mM (CM : Addr) : Mono (rM CM) := fun _ _ _ _ s ⟨a, e, dx, t, h1, h2⟩ => ⟨a, e, dx, t, s _ _ (fun _ z => by cases z) h1, s _ _ (fun _ z => by cases z) h2⟩
theorem Mn.kp {CM : Addr} {H H' : Hp} {a : Addr} {m : Cd} (h : Mn CM H a m) (s : Kp H H') : Mn CM H' a m :=
  let ⟨dx, t, h1, h2⟩ := h
  ⟨dx, t, s _ _ (fun _ z => by cases z) h1, s _ _ (fun _ z => by cases z) h2⟩
theorem Mn.same {CM : Addr} {H H' : Hp} {a : Addr} {m : Cd} (h : Mn CM H a m) (s : Same H H') : Mn CM H' a m := h.kp (.of s)
/-- all but what stands at x is as before -/
def But (x : Addr) (H H' : Hp) : Prop := ∀ b o, b ≠ x → H b = some o → H' b = some o
section
variable {P : Program} {w : World} {K : PySem.W.Frag} {mg : Str → Option Value} {base : Heap} {CM : Addr}
/-! ## Manners(*names) -/
abbrev sMI : Stmt := meth 4 1
abbrev nMI : List Str := ["self", "names", "given", "name", "word"]
def spMI0 (CM : Addr) : Sp := fun vs H Q _ => ∃ (x p dx : Addr) (ws : List Str), vs = [.ref x, .ref p] ∧ H p = some (.tup (ws.map V.str)) ∧ (∀ w ∈ ws, w ∈ all3) ∧ ws.Nodup ∧ ws.length ≤ 3 ∧ H x = some (.ins CM dx []) ∧ ∀ H', But x H H' → Mn CM H' x (codeOf ws) → Q .non H'
theorem scMI : FnScope nMI ["self", "names"] (defScope sMI) := ⟨rfl, rfl, rfl, by decide +kernel, rfl, by decide +kernel, by decide +kernel⟩
theorem body_MI {f : Addr} (B : Bn mg) (M : MfC K mg CM) {cdv : Value} (A : Around) (outer : List Env) (s : Shared) (H : Hp) (vs : List V) (Q : VK) (E : XK) (h : spMI0 CM vs H Q E) :
    ∃ t, PSs (cxOf CX0 P w K mg base nMI "Manners.__init__" (defScope sMI) f cdv A outer s H E) (defBody sMI) t ∧ t { nx := fun _ H' => Q .non H', rt := Q } (start nMI vs) H := by
  obtain ⟨x, p, dx, ws, rfl, hp, hws, nd, l3, hx, k⟩ := h
  obtain ⟨TW, u, cv, hTW⟩ := M.wrd
  suffices q : ∃ t, PSs (cxOf CX0 P w K mg base nMI "Manners.__init__" (defScope sMI) f cdv A outer s H E).nox (defBody sMI) t ∧ t { nx := fun _ H' => Q .non H', rt := Q } (start nMI [.ref x, .ref p]) H from let ⟨t, h1, h2⟩ := q; ⟨t, PSs.nox h1, h2⟩
  refine ⟨_, 
      (pss_cons (ps_set (i := 2) scMI.nd rfl (.inr rfl) (pe_lst pa_nil))
      (pss_cons (ps_for PassesOwn.never rfl (pi_tup (pv 1)) (pg_name (i := 3) scMI.nd rfl (Or.inl rfl)) 
        (pss_cons (ps_if (PW.pt (pw_or (pt_cmpR op_notIn_seq (pv 3) (ClX.pe_cval (pe_glob (v := .ref CM) (by rfl) M.mg rfl)) (by rfl)) (pw_or1 (pt_cmpR op_in_seq (pv 3) (pv 2) (by rfl))))) (pss_one ps_dead) pss_nil)
        (pss_one (ps_expr (pe_bm PySem.F.plainAttrs_list PySem.F.slot_list_append PySem.F.type_list_append mt_append (pv 2) (pa_cons (pv 3) pa_nil))))))
      (pss_one (ps_fld (pv 0) (pe_callTy call_tuple_of (by rfl) B.tuple boot_ttuple (pa_cons (pe_lc (own := [("word", 4)]) (g := gName 4)  rfl scMI.nd (pi_tup (ClX.pe_cval (pe_glob (v := .ref CM) (by rfl) M.mg rfl))) (blkOk_by (N := nMI) (sc := defScope sMI) (by decide +kernel)) (fun _ _ _ _ _ => pg_name (i := 4) scMI.nd rfl (Or.inl rfl)) (fun _ _ _ _ _ => pts_one (pt_cmpR (show OpR _ (compareOp .In) (rIn K false) from op_in_seq) (pv 4) (pv 2) (by rfl))) (fun _ _ _ _ _ => (pv 4))) pa_nil)) rfl)))), ?_⟩
  refine ⟨Nat.zero_le _, fun l hl => ?_⟩
  have s0 : Same H (upd H l (.lst [])) := same_new hl
  refine ⟨_, rfl, p, rfl, ⟨_, SqT.of (s0 _ _ hp)⟩, for_it (walk_tup (xs := ws.map V.str))
    (fun i σ H' => ∃ y3 y4, σ = [some (.ref x), some (.ref p), some (.ref l), y3, y4] ∧ Same H H' ∧ H' l = some (.lst ((ws.take i).map V.str)))
    ⟨none, none, rfl, s0, upd_same⟩ (fun i σ H' _ ⟨_, _, _, q, _⟩ => SqT.of (q _ _ hp)) ?_ ?_⟩
  · rintro i v σ H1 H2 hi ⟨y3, y4, rfl, sm, el⟩ ⟨rfl, hv⟩
    obtain ⟨c, hc, r⟩ := (ev_words (H := H) ws).at hv
    have r : v = .str c := r
    subst r
    have mc : c ∈ ws := List.mem_of_getElem? hc
    have n1 : inV (.str c) (all3.map V.str) = true := by
      rw [inV_strs, List.contains_eq_mem]
      exact decide_eq_true (hws c mc)
    have n2 : inV (.str c) ((ws.take i).map V.str) = false := by
      rw [inV_strs, List.contains_eq_mem]
      refine decide_eq_false fun z => ?_
      obtain ⟨j, hj, e⟩ := List.getElem_of_mem z
      rw [List.length_take] at hj
      rw [List.getElem_take] at e
      have k1 : ws[j]? = some c := by rw [← e]; exact List.getElem?_eq_getElem _
      have := (List.getElem?_inj (i := j) (j := i) (by omega) nd).mp (k1.trans hc.symm)
      omega
    refine ⟨_, rfl, _, _, _, _, rfl, M.crd, cv, TW, _, rfl, .inr (hTW _), rfl, flat_strs _, _, rfl, ?_⟩
    show (if (!inV (.str c) (all3.map V.str)) = true then _ else _)
    rw [n1]
    refine iteF ⟨_, rfl, _, rfl, l, _, rfl, .inl (SqL.of el), rfl, flat_strs _, _, rfl, ?_⟩
    show (if inV (.str c) ((ws.take i).map V.str) = true then _ else _)
    rw [n2]
    refine iteF ⟨_, rfl, .inl ⟨rfl, _, SqL.of el⟩, _, rfl, l, _, _, rfl, rfl, el, ?_, _, _, rfl, sm.over hl, ?_⟩
    · rw [List.length_map, List.length_take, sizeLine_eq]
      omega
    · rw [upd_same, take_snoc hc, List.map_append]
      rfl
  · rintro σ H1 ⟨y3, y4, rfl, sm, el⟩
    have ew : ws.take (ws.map V.str).length = ws := by
      rw [List.length_map]
      exact List.take_length
    rw [ew] at el
    refine ⟨CM, _, _, _, rfl, M.crd, cv, TW, rfl, ⟨_, hTW _⟩, fun D hD => ?_⟩
    refine lc_sieve mW mW (fun w => ws.contains w) id (walk_tup (xs := all3.map V.str)) (by decide) (fun H' _ => hTW H') hD (ev_words all3) ?_ ?_ ?_
    · rintro v c H2 Rq _ s2 r kk
      have r : v = .str c := r
      subst r
      refine ⟨_, rfl, _, rfl, l, _, rfl, .inl (SqL.of (s2 _ _ el)), rfl, flat_strs _, _, rfl, ?_⟩
      have := kk _ (Same.refl _)
      rw [← inV_strs] at this
      exact this
    · rintro v c H2 Rq _ _ s2 r kk
      exact ⟨_, rfl, kk _ _ (Same.refl _) r⟩
    · intro H' ys s2 eD ev
      rw [List.map_id, wds_code] at ev
      have := ev_words_eq ev
      subst this
      refine ⟨D, _, rfl, .inl ⟨SqL.of eD, fun t ht => ?_⟩⟩
      have s3 := (sm.trans s2).trans (same_new (o := .tup ((wds (codeOf ws)).map V.str)) ht)
      refine ⟨_, rfl, x, CM, dx, [], rfl, s3 _ _ hx, M.own.cl, M.no, by decide, ?_⟩
      have nxt : x ≠ t := fun z => by
        rw [z] at hx
        have q := (sm.trans s2) _ _ hx
        rw [ht] at q
        cases q
      refine k _ (fun b o nb e => ?_) ⟨dx, t, upd_same, ?_⟩
      · rw [upd_ne nb]
        exact s3 _ _ e
      · rw [upd_ne (Ne.symm nxt), upd_same]
/-- C(*words) -/
def spMI (CM : Addr) : Sp := fun vs H Q _ => ∃ (x dx : Addr) (ws : List Str), vs = .ref x :: ws.map V.str ∧ (∀ w ∈ ws, w ∈ all3) ∧ ws.Nodup ∧ ws.length ≤ 3 ∧ H x = some (.ins CM dx []) ∧ ∀ H', But x H H' → Mn CM H' x (codeOf ws) → Q .non H'
theorem ok_MI {f : Addr} {fd : FuncData} (F : Fun K "__init__" "Manners.__init__" sMI f fd) (B : Bn mg) (M : MfC K mg CM) : FnR P w K mg base CX0 2 f (spMI CM) := by
  obtain ⟨oc, od, kV, doc, pm, an, cd, ct, osl, rfl, lk, hcd⟩ := F.ex
  refine FnR.imp (FnR.mono (StX.fn_star (ps := ["self"]) (pv := "names") (sp := spMI0 CM) (k := 1) lk hcd scMI StX.cxUp_none (fun us rest hl => ?_) fun A outer s H vs Q E hr h => body_MI B M A outer s H vs Q E h) (by decide)) fun vs H Q E h => ?_
  · exact StX.bind_star1 (B := fun l => bindArgs (PySem.W.fnOf "__init__" "Manners.__init__" (defArgs sMI) (defBody sMI) (defScope sMI) .none kV doc pm an cd ct) ⟨l, []⟩) (fun a => rfl) (fun a r rs => rfl) us rest hl
  · obtain ⟨x, dx, ws, rfl, hws, nd, l3, hx, k⟩ := h
    refine ⟨[.ref x], ws.map V.str, rfl, rfl, by rw [List.length_map, sizeLine_eq]; omega, fun p hp => ⟨x, p, dx, ws, rfl, upd_same, hws, nd, l3, same_new hp _ _ hx, fun H' b m => k H' (fun c o nc e => b c o nc (same_new hp _ _ e)) m⟩⟩
end
end W8
set_option Elab.async false
set_option linter.all false
set_option maxRecDepth 100000
set_option maxHeartbeats 4000000
namespace W8
open PySem PySem.Spec PyProof.Rows L2
open Wp (OwnEqual Answ)
structure MkM (P : Program) (w : World) (K : PySem.W.Frag) (mg : Str → Option Value) (base : Heap) (CM f : Addr) : Prop where
  ok : FnR P w K mg base CX0 2 f (spMI CM)
  mkr : Mk K CM f
theorem made_M {CM : Addr} {H1 : Hp} {Q : VK} {E : XK} {ws : List Str} (hws : ∀ w ∈ ws, w ∈ all3) (nd : ws.Nodup) (l3 : ws.length ≤ 3) (k : ∀ x H2, H1 x = none → Same H1 H2 → Mn CM H2 x (codeOf ws) → Q (.ref x) H2) :
    ∀ x dx, H1 x = none → H1 dx = none → dx ≠ x → spMI CM (.ref x :: ws.map V.str) (upd (upd H1 dx (.own x)) x (.ins CM dx [])) (fun v H2 => v = .non ∧ Q (.ref x) H2) E := fun x dx hx hd ne =>
  ⟨x, dx, ws, rfl, hws, nd, l3, upd_same, fun H' b m => ⟨rfl, k x H' hx (fun c o e => by
    have n1 := ne_of_none e hx
    have n2 := ne_of_none e hd
    exact b _ _ n1 (by rw [upd_ne n1, upd_ne n2]; exact e)) m⟩⟩
theorem made_c {CM : Addr} {H1 : Hp} {Q : VK} {E : XK} (m : Cd) (k : ∀ x H2, H1 x = none → Same H1 H2 → Mn CM H2 x m → Q (.ref x) H2) :
    ∀ x dx, H1 x = none → H1 dx = none → dx ≠ x → spMI CM (.ref x :: (wds m).map V.str) (upd (upd H1 dx (.own x)) x (.ins CM dx [])) (fun v H2 => v = .non ∧ Q (.ref x) H2) E :=
  made_M (wds_in m) (wds_nodup m) (wds_len m) fun x H2 h s q => k x H2 h s (by rw [code_wds] at q; exact q)
/-- a making, its arguments being the words of a code -/
theorem mk_te {CM : Addr} {t : TA} {σ : L2.St} {H1 : Hp} {Q : VK} {E : XK} (m : Cd) (ht : ∀ R : List V → Hp → Prop, R ((wds m).map V.str) H1 → t σ H1 R) (k : ∀ x H2, H1 x = none → Same H1 H2 → Mn CM H2 x m → Q (.ref x) H2) : StX.tMakeR CM (spMI CM) E t σ H1 Q := ht _ (made_c m k)
structure KMth (P : Program) (w : World) (K : PySem.W.Frag) (mg : Str → Option Value) (base : Heap) (C : Addr) (k : Nat) (x : Str) (ps : List Str) (sp : Sp) (f : Addr) (fd : FuncData) : Prop where
  ok : FnOk P w K mg base CX0 k f fd ps sp
  mt : Meth K C x f
  bi : Binds K fd ps []
section
variable {P : Program} {w : World} {K : PySem.W.Frag} {mg : Str → Option Value} {base : Heap} {CM fI : Addr}
theorem lk1 {f : Str} {v : V} : ([(f, v)] : List (Str × V)).lookup f = some v := by
  simp [List.lookup]
theorem dp_names {H : Hp} {t : Addr} {m : Cd} (h : H t = some (.tup ((wds m).map V.str))) : Dp K H (.ref t) (dT m) := .tup (SqT.of h) (dp_strs _)
/-! ## == -/
abbrev sME : Stmt := meth 4 2
abbrev nME : List Str := ["self", "other"]
def spME (CM : Addr) : Sp := fun vs H Q _ => ∃ (a b : Addr) (m n : Cd), vs = [.ref a, .ref b] ∧ Mn CM H a m ∧ Mn CM H b n ∧ Q (.bl (m == n)) H
theorem scME : FnScope nME ["self", "other"] (defScope sME) := ⟨rfl, rfl, rfl, by decide +kernel, rfl, by decide +kernel, by decide +kernel⟩
theorem ok_ME {f : Addr} {fd : FuncData} (F : Fun K "__eq__" "Manners.__eq__" sME f fd) (B : Bn mg) (M : MfC K mg CM) : FnOk P w K mg base CX0 1 f fd ["self", "other"] (spME CM) := by
  refine F.ok scME (fun vs H Q E h => ?_) (fun cdv A outer s H vs Q E hr h => ?_)
  · obtain ⟨a, b, m, n, rfl, _⟩ := h
    rfl
  · obtain ⟨a, b, m, n, rfl, ⟨dx, t, h1, h2⟩, ⟨dy, u, h3, h4⟩, q⟩ := h
    have hu : (A.deeper (envOfC "Manners.__eq__" (defScope sME) s.heap.objs.size f cdv)).units + 64 < cLine := by
      have := hr.un
      omega
    refine ⟨_, 
      (pss_one (ps_ret (pe_and (pe_callB call_isi (by rfl) B.isinstance boot_isi (pa_cons (pv 1) (pa_cons (pe_glob (v := .ref CM) (by rfl) M.mg rfl) pa_nil))) (pe_one (pe_cmpR (op_eqD hu) (pe_fld (pv 0) rfl) (pe_fld (pv 1) rfl) (nomark _)))))), ?_⟩
    refine ⟨_, rfl, .ref b, .ref CM, _, _, true, rfl, .own _, M.own.ty h3, M.own.self, _, rfl, ?_⟩
    refine ⟨_, rfl, a, CM, dx, _, _, rfl, h1, M.own.cl, M.no, lk1, _, rfl, b, CM, dy, _, _, rfl, h3, M.own.cl, M.no, lk1, dT m, dT n, dp_names h2, dp_names h4, dT_sh m, dT_sh n, ?_⟩
    rw [eqv_dT]
    rw [show (m == n) = decide (m = n) from rfl] at q
    exact q
/-! ## within -/
abbrev sMW : Stmt := meth 4 6
abbrev nMW : List Str := ["self", "other", "word"]
def spMW (CM : Addr) : Sp := fun vs H Q _ => ∃ (a b : Addr) (m n : Cd), vs = [.ref a, .ref b] ∧ Mn CM H a m ∧ Mn CM H b n ∧ ∀ H', Same H H' → Q (.bl (sub m n)) H'
theorem scMW : FnScope nMW ["self", "other"] (defScope sMW) := ⟨rfl, rfl, rfl, by decide +kernel, rfl, by decide +kernel, by decide +kernel⟩
theorem ok_MW {f : Addr} {fd : FuncData} (F : Fun K "within" "Manners.within" sMW f fd) (B : Bn mg) (M : MfC K mg CM) : FnOk P w K mg base CX0 1 f fd ["self", "other"] (spMW CM) := by
  refine F.ok scMW (fun vs H Q E h => ?_) (fun cdv A outer s H vs Q E hr h => ?_)
  · obtain ⟨a, b, m, n, rfl, _⟩ := h
    rfl
  · obtain ⟨a, b, m, n, rfl, ⟨dx, t, h1, h2⟩, ⟨dy, u, h3, h4⟩, q⟩ := h
    refine ⟨_, 
      (pss_one (ps_ret (pe_callB (cr_all rfl) (by rfl) B.all boot_all (pa_cons (pe_lc (own := [("word", 2)]) (g := gName 2) (tt := tYes) (te := tOp (rIn K false) (tVar 2) (tFld K (tVar 1) "names")) rfl scMW.nd (pi_tup (pe_fld (pv 0) rfl)) (blkOk_by (N := nMW) (sc := defScope sMW) (by decide +kernel)) (fun _ _ _ _ _ => pg_name (i := 2) scMW.nd rfl (Or.inl rfl)) (fun _ _ _ _ _ => pts_nil) (fun _ _ _ _ _ => (pe_cmpR (show OpR _ (compareOp .In) (rIn K false) from op_in_seq) (pv 2) (pe_fld (pv 1) rfl) (by rfl)))) pa_nil)))), ?_⟩
    refine ⟨_, rfl, a, CM, dx, _, _, rfl, h1, M.own.cl, M.no, lk1, t, rfl, ⟨_, SqT.of h2⟩, fun D hD => ?_⟩
    refine lc_sieve mW mB (fun _ => true) (fun w => (wds n).contains w) (walk_tup (xs := (wds m).map V.str)) (by have := wds_len m; omega) (fun H' s => SqT.of (s _ _ h2)) hD (ev_words (wds m)) ?_ ?_ ?_
    · rintro v c H2 Rq _ s2 r kk
      exact kk _ (Same.refl _)
    · rintro v c H2 Rq _ _ s2 r kk
      have r : v = .str c := r
      subst r
      refine ⟨_, rfl, _, rfl, b, CM, dy, _, _, rfl, s2 _ _ h3, M.own.cl, M.no, lk1, u, _, rfl, .inr (SqT.of (s2 _ _ h4)), rfl, flat_strs _, ?_⟩
      refine kk _ _ (Same.refl _) ?_
      show V.bl (inV (.str c) ((wds n).map V.str)) = _
      rw [inV_strs]
    · intro H' ys s2 eD ev
      have := ev_bools_eq ev
      subst this
      refine ⟨D, _, rfl, SqL.of eD, ?_⟩
      have e : (((wds m).filter fun _ => true).map fun w => (wds n).contains w).all id = sub m n := by
        rw [List.filter_eq_self.mpr fun _ _ => rfl, List.all_map]
        rfl
      rw [e]
      exact q _ s2
/-! ## | -/
abbrev sMO : Stmt := meth 4 5
abbrev nMO : List Str := ["self", "other", "words", "word"]
def spMO (CM : Addr) : Sp := fun vs H Q _ => ∃ (a b : Addr) (m n : Cd), vs = [.ref a, .ref b] ∧ Mn CM H a m ∧ Mn CM H b n ∧ ∀ x H', H x = none → Same H H' → Mn CM H' x (join m n) → Q (.ref x) H'
theorem scMO : FnScope nMO ["self", "other"] (defScope sMO) := ⟨rfl, rfl, rfl, by decide +kernel, rfl, by decide +kernel, by decide +kernel⟩
theorem ok_MO {f : Addr} {fd : FuncData} (F : Fun K "__or__" "Manners.__or__" sMO f fd) (B : Bn mg) (M : MfC K mg CM) (KM : MkM P w K mg base CM fI) : FnOk P w K mg base CX0 4 f fd ["self", "other"] (spMO CM) := by
  refine F.ok scMO (fun vs H Q E h => ?_) (fun cdv A outer s H vs Q E hr h => ?_)
  · obtain ⟨a, b, m, n, rfl, _⟩ := h
    rfl
  · obtain ⟨a, b, m, n, rfl, ⟨dx, t, h1, h2⟩, ⟨dy, u, h3, h4⟩, q⟩ := h
    obtain ⟨TW, uw, cv, hTW⟩ := M.wrd
    refine ⟨_, 
      (pss_cons (ps_setLc (i := 2) (own := [("word", 3)]) (g := gName 3) (te := tVar 3) (tt := tOr (tTest (tOp (rIn K false) (tVar 3) (tFld K (tVar 0) "names"))) (tTest (tOp (rIn K false) (tVar 3) (tFld K (tVar 1) "names")))) rfl scMO.nd rfl rfl (sw_true rfl rfl rfl (by decide +kernel)) (pi_tup (ClX.pe_cval (pe_glob (v := .ref CM) (by rfl) M.mg rfl))) (blkOk_by (N := nMO) (sc := defScope sMO) (by decide +kernel)) (fun _ _ _ _ _ => pg_name (i := 3) scMO.nd rfl (Or.inl rfl)) (fun _ _ _ _ _ => pts_one (PW.pt (pw_or (pt_cmpR (show OpR _ (compareOp .In) (rIn K false) from op_in_seq) (pv 3) (pe_fld (pv 0) rfl) (by rfl)) (pw_or1 (pt_cmpR (show OpR _ (compareOp .In) (rIn K false) from op_in_seq) (pv 3) (pe_fld (pv 1) rfl) (by rfl)))))) (fun _ _ _ _ _ => (pv 3)))
      (pss_one (ps_ret (Wp.pe_makeS KM.mkr KM.ok (hr.mono (by decide)) (by rfl) M.mg pass0 (pv 2))))), ?_⟩
    refine ⟨CM, _, _, _, rfl, M.crd, cv, TW, rfl, ⟨_, hTW _⟩, fun D hD => ?_⟩
    refine lc_sieve mW mW (fun w => (wds m).contains w || (wds n).contains w) id (walk_tup (xs := all3.map V.str)) (by decide) (fun H' _ => hTW H') hD (ev_words all3) ?_ ?_ ?_
    · rintro v c H2 Rq _ s2 r kk
      have r : v = .str c := r
      subst r
      refine ⟨_, rfl, _, rfl, a, CM, dx, _, _, rfl, s2 _ _ h1, M.own.cl, M.no, lk1, t, _, rfl, .inr (SqT.of (s2 _ _ h2)), rfl, flat_strs _, _, rfl, ?_⟩
      have z := kk _ (Same.refl _)
      show (if inV (.str c) ((wds m).map V.str) = true then _ else _)
      rw [inV_strs]
      cases e : (wds m).contains c with
      | true =>
        rw [e, Bool.true_or] at z
        exact iteT z
      | false =>
        rw [e, Bool.false_or] at z
        refine iteF ⟨_, rfl, _, rfl, b, CM, dy, _, _, rfl, s2 _ _ h3, M.own.cl, M.no, lk1, u, _, rfl, .inr (SqT.of (s2 _ _ h4)), rfl, flat_strs _, _, rfl, ?_⟩
        rw [← inV_strs] at z
        exact z
    · rintro v c H2 Rq _ _ s2 r kk
      exact ⟨_, rfl, kk _ _ (Same.refl _) r⟩
    · intro H' ys s2 eD ev
      rw [List.map_id, wds_join] at ev
      have := ev_words_eq ev
      subst this
      refine ⟨_, rfl, D, _, rfl, .inr (SqL.of eD), made_c (join m n) fun x H3 hx s3 mx => q x H3 (Same.free s2 hx) (s2.trans s3) mx⟩
/-! ## every -/
abbrev sMY : Stmt := meth 4 7
abbrev nMY : List Str := []
def spMY (CM : Addr) : Sp := fun vs H Q _ => vs = [] ∧ ∀ D H', H D = none → Same H H' → Ls (rM CM) H' D e8 → Q (.ref D) H'
theorem scMY : FnScope nMY [] (defScope sMY) := ⟨rfl, rfl, rfl, by decide +kernel, rfl, by decide +kernel, by decide +kernel⟩
theorem ok_MY {f : Addr} {fd : FuncData} (F : Fun K "every" "Manners.every" sMY f fd) (B : Bn mg) (M : MfC K mg CM) (KM : MkM P w K mg base CM fI) : FnOk P w K mg base CX0 4 f fd [] (spMY CM) := by
  refine F.ok scMY (fun vs H Q E h => ?_) (fun cdv A outer s H vs Q E hr h => ?_)
  · obtain ⟨rfl, _⟩ := h
    rfl
  · obtain ⟨rfl, q⟩ := h
    refine ⟨_, 
      (pss_one (ps_ret (pe_lst (pa_cons (Wp.pe_makeR0 KM.mkr KM.ok (hr.mono (by decide)) (by rfl) M.mg pass0) (pa_cons (StX.pe_makeR KM.mkr KM.ok (hr.mono (by decide)) (by rfl) M.mg pass0 (pa_cons pe_str pa_nil)) (pa_cons (StX.pe_makeR KM.mkr KM.ok (hr.mono (by decide)) (by rfl) M.mg pass0 (pa_cons pe_str pa_nil)) (pa_cons (StX.pe_makeR KM.mkr KM.ok (hr.mono (by decide)) (by rfl) M.mg pass0 (pa_cons pe_str pa_nil)) (pa_cons (StX.pe_makeR KM.mkr KM.ok (hr.mono (by decide)) (by rfl) M.mg pass0 (pa_cons pe_str (pa_cons pe_str pa_nil))) (pa_cons (StX.pe_makeR KM.mkr KM.ok (hr.mono (by decide)) (by rfl) M.mg pass0 (pa_cons pe_str (pa_cons pe_str pa_nil))) (pa_cons (StX.pe_makeR KM.mkr KM.ok (hr.mono (by decide)) (by rfl) M.mg pass0 (pa_cons pe_str (pa_cons pe_str pa_nil))) (pa_cons (StX.pe_makeR KM.mkr KM.ok (hr.mono (by decide)) (by rfl) M.mg pass0 (pa_cons pe_str (pa_cons pe_str (pa_cons pe_str pa_nil)))) pa_nil))))))))))), ?_⟩
    dsimp only [tRet, tLst, tCons]
    refine mk_te 0 (fun R h => h) fun x0 H0 n0 s0 m0 => ?_
    refine mk_te 1 (fun R h => h) fun x1 H1 n1 s1 m1 => ?_
    refine mk_te 2 (fun R h => h) fun x2 H2 n2 s2 m2 => ?_
    refine mk_te 3 (fun R h => h) fun x3 H3 n3 s3 m3 => ?_
    refine mk_te 4 (fun R h => h) fun x4 H4 n4 s4 m4 => ?_
    refine mk_te 5 (fun R h => h) fun x5 H5 n5 s5 m5 => ?_
    refine mk_te 6 (fun R h => h) fun x6 H6 n6 s6 m6 => ?_
    refine mk_te 7 (fun R h => h) fun x7 H7 n7 s7 m7 => ?_
    refine ⟨by show 8 ≤ sizeLine; decide, fun D hD => ?_⟩
    have k7 := s7
    have k6 := s6.trans k7
    have k5 := s5.trans k6
    have k4 := s4.trans k5
    have k3 := s3.trans k4
    have k2 := s2.trans k3
    have k1 := s1.trans k2
    have k0 := s0.trans k1
    have sD := same_new (o := .lst [.ref x0, .ref x1, .ref x2, .ref x3, .ref x4, .ref x5, .ref x6, .ref x7]) hD
    refine q D _ (Same.free k0 hD) (k0.trans sD) ⟨_, upd_same, ?_⟩
    exact .cons ⟨_, rfl, m0.same (k1.trans sD)⟩ (.cons ⟨_, rfl, m1.same (k2.trans sD)⟩ (.cons ⟨_, rfl, m2.same (k3.trans sD)⟩ (.cons ⟨_, rfl, m3.same (k4.trans sD)⟩ (.cons ⟨_, rfl, m4.same (k5.trans sD)⟩ (.cons ⟨_, rfl, m5.same (k6.trans sD)⟩ (.cons ⟨_, rfl, m6.same (k7.trans sD)⟩ (.cons ⟨_, rfl, m7.same sD⟩ .nil)))))))
end
end W8
set_option Elab.async false
set_option linter.all false
set_option maxRecDepth 100000
set_option maxHeartbeats 4000000
namespace W8
open PySem PySem.Spec PyProof.Rows L2
open Wp (OwnEqual Answ)
/-- the class's own == -/
structure EqM (P : Program) (w : World) (K : PySem.W.Frag) (mg : Str → Option Value) (base : Heap) (CM f : Addr) (fd : FuncData) : Prop where
  ok : FnOk P w K mg base CX0 1 f fd ["self", "other"] (spME CM)
  bi : Binds K fd ["self", "other"] []
  own : OwnEqual K CM f
  nf : PySem.W.notFirst K CM (.ref CM) = true
/-- Manners.every -/
structure EvM (P : Program) (w : World) (K : PySem.W.Frag) (mg : Str → Option Value) (base : Heap) (CM p f : Addr) (fd : FuncData) : Prop where
  ok : FnOk P w K mg base CX0 4 f fd [] (spMY CM)
  bi : Binds K fd [] []
  sm : Wp.SMet K CM (.type "type") "every" p f
def unS : V → Str
  | .str z => z
  | _ => ""
theorem unS_map : ∀ ws : List Str, (ws.map V.str).map unS = ws
  | [] => rfl
  | w :: ws => by
    rw [List.map_cons, List.map_cons, unS_map ws]
    rfl
theorem ans_M {K : PySem.W.Frag} {CM : Addr} {H : Hp} {a b : Addr} {m n : Cd} (nf : PySem.W.notFirst K CM (.ref CM) = true) (h : Mn CM H a m) (k : Mn CM H b n) : Answ K CM (spME CM) E0 H a b (m == n) := by
  obtain ⟨dx, t, h1, h2⟩ := h
  obtain ⟨dy, u, h3, h4⟩ := k
  refine ⟨dx, _, CM, dy, _, h1, h3, nf, fun e => ?_, a, b, m, n, rfl, ⟨dx, t, h1, h2⟩, ⟨dy, u, h3, h4⟩, rfl, rfl⟩
  subst e
  rw [h1] at h3
  cases h3
  rw [h2] at h4
  injection h4 with h4
  injection h4 with h4
  have e := congrArg (List.map unS) h4
  rw [unS_map, unS_map] at e
  exact beq_iff_eq.mpr (wds_inj _ _ e)
theorem ev_refs {CM : Addr} {H : Hp} : ∀ {xs : List V} {ms : List Cd}, Ev (rM CM) H xs ms → ∃ as : List Addr, xs = as.map V.ref ∧ as.length = ms.length ∧ ∀ (i : Nat) a, as[i]? = some a → ∃ m, ms[i]? = some m ∧ Mn CM H a m
  | [], [], _ => ⟨[], rfl, rfl, fun i a h => by simp at h⟩
  | x :: xs, m :: ms, e => by
    obtain ⟨as, e1, e2, e3⟩ := ev_refs e.uncons.2
    obtain ⟨a, ea, hm⟩ := e.uncons.1
    refine ⟨a :: as, by rw [ea, e1]; rfl, by simp [e2], fun i b h => ?_⟩
    cases i with
    | zero =>
      simp at h
      subst h
      exact ⟨m, rfl, hm⟩
    | succ i => exact e3 i b (by simpa using h)
  | [], _ :: _, e => by cases e.1
  | _ :: _, [], e => by cases e.1
theorem range_any (ms : List Cd) (m : Cd) : (List.range ms.length).any (fun i => ms.getD i 0 == m) = ms.contains m := by
  rw [Bool.eq_iff_iff, List.any_eq_true, List.contains_eq_mem, decide_eq_true_iff]
  constructor
  · rintro ⟨i, hi, e⟩
    have k := List.mem_range.mp hi
    have e := beq_iff_eq.mp e
    rw [List.getD_eq_getElem?_getD, List.getElem?_eq_getElem k] at e
    rw [← e]
    exact List.getElem_mem k
  · intro h
    obtain ⟨i, k, e⟩ := List.getElem_of_mem h
    refine ⟨i, List.mem_range.mpr k, beq_iff_eq.mpr ?_⟩
    rw [List.getD_eq_getElem?_getD, List.getElem?_eq_getElem k]
    exact e
theorem in_M {K : PySem.W.Frag} {CM : Addr} {H : Hp} {l b : Addr} {ms : List Cd} {m : Cd} {Q : VK} (nf : PySem.W.notFirst K CM (.ref CM) = true) (hl : Ls (rM CM) H l ms) (hb : Mn CM H b m) (q : Q (.bl (ms.contains m)) H) : Wp.rInOwn false K CM (spME CM) E0 (.ref b) (.ref l) H Q := by
  obtain ⟨xs, hx, ev⟩ := hl
  obtain ⟨as, rfl, len, at_⟩ := ev_refs ev
  refine ⟨b, l, as, fun i => ms.getD i 0 == m, rfl, rfl, SqL.of hx, fun i z hz => ?_, ?_⟩
  · obtain ⟨n, hn, mn⟩ := at_ i z hz
    have e : ms.getD i 0 = n := by rw [List.getD_eq_getElem?_getD, hn]; rfl
    show Answ K CM _ _ _ _ _ (ms.getD i 0 == m)
    rw [e]
    exact ans_M nf mn hb
  · rw [len, range_any]
    have e : (false != ms.contains m) = ms.contains m := by cases ms.contains m <;> rfl
    rw [e]
    exact q
theorem ne_M {K : PySem.W.Frag} {CM : Addr} {H : Hp} {a b : Addr} {m n : Cd} {Q : VK} (nf : PySem.W.notFirst K CM (.ref CM) = true) (ha : Mn CM H a m) (hb : Mn CM H b n) (q : Q (.bl (m != n)) H) : Wp.rOwn true K CM (spME CM) E0 (.ref a) (.ref b) H Q := by
  have ha0 := ha
  have hb0 := hb
  obtain ⟨dx, t, h1, h2⟩ := ha
  obtain ⟨dy, u, h3, h4⟩ := hb
  exact ⟨a, dx, _, rfl, h1, .ins b CM dy _ h3 nf, a, b, m, n, rfl, ha0, hb0, _, rfl, q⟩
theorem lk_none {f g : Str} {v : V} (h : (g == f) = false := by decide +kernel) : ([(f, v)] : List (Str × V)).lookup g = none := by
  simp [List.lookup, h]
section
variable {P : Program} {w : World} {K : PySem.W.Frag} {mg : Str → Option Value} {base : Heap} {CM fE fW pY fY : Addr} {fdE fdW fdY : FuncData}
/-! ## the least of some sets -/
abbrev sLst : Stmt := top 6
abbrev nLst : List Str := ["sets", "given", "one", "other"]
def spLst (CM : Addr) : Sp := fun vs H Q _ => ∃ (l : Addr) (ms : List Cd), vs = [.ref l] ∧ Ls (rM CM) H l ms ∧ ms.length ≤ 1000 ∧ ∀ D H', H D = none → Same H H' → Tu (rM CM) H' D (lst (fl (tel ms))) → Q (.ref D) H'
theorem scLst : FnScope nLst ["sets"] (defScope sLst) := ⟨rfl, rfl, rfl, by decide +kernel, rfl, by decide +kernel, by decide +kernel⟩
theorem ok_lst {f : Addr} {fd : FuncData} (F : Fun K "_least" "_least" sLst f fd) (B : Bn mg) (M : MfC K mg CM) (EQ : EqM P w K mg base CM fE fdE) (WI : KMth P w K mg base CM 1 "within" ["self", "other"] (spMW CM) fW fdW)
    (YS : EvM P w K mg base CM pY fY fdY) : FnOk P w K mg base CX0 5 f fd ["sets"] (spLst CM) := by
  refine F.ok scLst (fun vs H Q E h => ?_) (fun cdv A outer s H vs Q E hr h => ?_)
  · obtain ⟨l, ms, rfl, _⟩ := h
    rfl
  · obtain ⟨l, ms, rfl, ⟨zs, hl, ev⟩, few, k⟩ := h
    refine ⟨_, 
      (pss_cons (ps_set (i := 1) scLst.nd rfl (.inr rfl) (pe_lc (own := [("one", 2)]) (g := gName 2)  rfl scLst.nd (pi_list (Wp.pe_smeth0 (pe_glob (v := .ref CM) (by rfl) M.mg rfl) M.crd YS.sm YS.ok YS.bi (hr.mono (by decide)) pass0)) (blkOk_by (N := nLst) (sc := defScope sLst) (by decide +kernel)) (fun _ _ _ _ _ => pg_name (i := 2) scLst.nd rfl (Or.inl rfl)) (fun _ _ _ _ _ => pts_one (pt_cmpR (show OpR _ (compareOp .In) (Wp.rInOwn false K CM (spME CM) E0) from Wp.op_inOwn EQ.ok EQ.bi pass0 EQ.own (hr.mono (by decide))) (pv 2) (pv 0) (by rfl))) (fun _ _ _ _ _ => (pv 2))))
      (pss_one (ps_ret (pe_callTy call_tuple_of (by rfl) B.tuple boot_ttuple (pa_cons (pe_lc (own := [("one", 2)]) (g := gName 2) (te := tVar 2) (tt := tNot (tB (tCB (rAny K) (tCons (tLc (iList K (tVar 1)) (gName 3) tYes (tAndV (tMeth CM "within" (spMW CM) [] E0 (tVar 3) (tCons (tVar 2) tNil)) (tOp (Wp.rOwn true K CM (spME CM) E0) (tVar 3) (tVar 2))) [3]) tNil)))) rfl scLst.nd (pi_list (pv 1)) (blkOk_by (N := nLst) (sc := defScope sLst) (by decide +kernel)) (fun _ _ _ _ _ => pg_name (i := 2) scLst.nd rfl (Or.inr rfl)) (fun _ _ _ _ _ => pts_one (pt_not (pt_val (pe_callB (cr_any rfl) (by rfl) B.any boot_any (pa_cons (pe_lc (own := [("other", 3)]) (g := gName 3) (tt := tYes) (te := tAndV (tMeth CM "within" (spMW CM) [] E0 (tVar 3) (tCons (tVar 2) tNil)) (tOp (Wp.rOwn true K CM (spME CM) E0) (tVar 3) (tVar 2))) rfl scLst.nd (pi_list (pv 1)) (by exact blkOk_in (N := nLst) (defScope sLst) rfl (by decide +kernel)) (fun _ _ _ _ _ => pg_name (i := 3) scLst.nd rfl (Or.inl rfl)) (fun _ _ _ _ _ => pts_nil) (fun _ _ _ _ _ => (pe_and (pe_meth (pv 3) M.own.cl WI.mt WI.ok (hr.mono (by decide)) WI.bi .nil pass0 (pa_cons (pv 2) pa_nil)) (pe_one (pe_cmpR (show OpR _ (compareOp .NotEq) (Wp.rOwn true K CM (spME CM) E0) from Wp.op_ownNe EQ.ok EQ.bi pass0 EQ.own (hr.mono (by decide))) (pv 3) (pv 2) (nomark _)))))) pa_nil))))) (fun _ _ _ _ _ => (pv 2))) pa_nil))))), ?_⟩
    refine ⟨rfl, rfl, fun D0 H1 hD0 s1 ⟨xs, hxs, evx⟩ => ⟨D0, rfl, ⟨xs, SqL.of hxs⟩, fun D hD => ?_⟩⟩
    have hl1 : Ls (rM CM) H1 l ms := Ls.same (mM CM) ⟨zs, hl, ev⟩ s1
    refine lc_sieve (mM CM) (mM CM) (fun m => ms.contains m) id walk_list (by decide) (fun H' s => SqL.of (s _ _ hxs)) hD evx ?_ ?_ ?_
    · rintro v c H2 Rq _ s2 ⟨b, rfl, mb⟩ kk
      exact ⟨_, rfl, _, rfl, in_M EQ.nf (hl1.same (mM CM) s2) mb ⟨_, rfl, kk _ (Same.refl _)⟩⟩
    · rintro v c H2 Rq _ _ s2 r kk
      exact ⟨_, rfl, kk _ _ (Same.refl _) r⟩
    · intro H' ys s2 eD evy
      rw [List.map_id] at evy
      have eg : (e8.filter fun m => ms.contains m) = fl (mm ms) := by
        unfold fl
        congr 1
        funext m
        rw [mm_has, Bool.eq_iff_iff, List.any_eq_true]
        simp
      rw [eg] at evy
      have lg : (fl (mm ms)).length ≤ 1000 := by have := fl_len (mm ms); omega
      refine ⟨_, rfl, D, rfl, ⟨ys, SqL.of eD⟩, fun D2 hD2 => ?_⟩
      refine lc_sieve (mM CM) (mM CM) (fun one => !((fl (mm ms)).map fun other => sub other one && (other != one)).any id) id walk_list lg (fun H3 s => SqL.of (s _ _ eD)) hD2 evy ?_ ?_ ?_
      · rintro v c H3 Rq _ s3 ⟨b, rfl, mb⟩ kk
        refine ⟨_, rfl, D, rfl, ⟨ys, SqL.of (s3 _ _ eD)⟩, fun D3 hD3 => ?_⟩
        refine lc_sieve (mM CM) mB (fun _ => true) (fun other => sub other c && (other != c)) walk_list lg (fun H4 s => SqL.of (s _ _ (s3 _ _ eD))) hD3 (evy.same (mM CM) s3) (fun v c H4 Rq _ _ _ kk => kk _ (Same.refl _)) ?_ ?_
        · rintro v2 d H4 R4 _ _ s4 ⟨a, rfl, ma⟩ k4
          have ma0 := ma
          obtain ⟨dx, t, h1, h2⟩ := ma
          refine ⟨_, rfl, a, dx, _, rfl, h1, lk_none, _, rfl, a, b, d, c, rfl, ma0, mb.same s4, fun H5 s5 => ⟨_, rfl, ?_⟩⟩
          cases e : sub d c with
          | false =>
            refine iteF ?_
            refine k4 _ _ s5 ?_
            show V.bl false = _
            rw [e, Bool.false_and]
          | true =>
            refine iteT ⟨_, rfl, _, rfl, ne_M EQ.nf (ma0.same s5) (mb.same (s4.trans s5)) ?_⟩
            refine k4 _ _ s5 ?_
            rw [e, Bool.true_and]
            rfl
        · intro H4 bs s4 eD3 evb
          have := ev_bools_eq evb
          subst this
          rw [List.filter_eq_self.mpr fun _ _ => rfl] at eD3
          exact ⟨D3, _, rfl, SqL.of eD3, _, rfl, kk _ s4⟩
      · rintro v c H3 Rq _ _ s3 r kk
        exact ⟨_, rfl, kk _ _ (Same.refl _) r⟩
      · intro H3 us s3 eD2 evu
        rw [List.map_id, any_lst, lst_mm] at evu
        refine ⟨D2, us, rfl, .inl ⟨SqL.of eD2, fun t ht => ?_⟩⟩
        have s4 := (s1.trans s2).trans s3
        exact k t _ (Same.free s4 ht) (s4.trans (same_new ht)) ⟨us, upd_same, evu.same (mM CM) (same_new ht)⟩
end
end W8
set_option Elab.async false
set_option linter.all false
set_option maxRecDepth 100000
set_option maxHeartbeats 4000000
namespace W8
open PySem PySem.Spec PyProof.Rows L2
open Wp (OwnEqual Answ)
structure PfC (K : PySem.W.Frag) (mg : Str → Option Value) (CP : Addr) : Prop where
  own : OwnC K CP
  no : NoAttr K CP "least_sets"
  mg : mg "Profile" = some (.ref CP)
/-- a profile that tells for what the mask has -/
def Pf (CP CM : Addr) (H : Hp) (a : Addr) (t : Nat) : Prop := Uc t ∧ ∃ dx tp, H a = some (.ins CP dx [("least_sets", .ref tp)]) ∧ Tu (rM CM) H tp (lst (fl t))
theorem Pf.same {CP CM : Addr} {H H' : Hp} {a : Addr} {t : Nat} (h : Pf CP CM H a t) (s : Same H H') : Pf CP CM H' a t :=
  let ⟨u, dx, tp, h1, h2⟩ := h
  ⟨u, dx, tp, s _ _ h1, h2.same (mM CM) s⟩
theorem ev_upd {CM C x dx : Addr} {o : HO} {H : Hp} {us : List V} {cs : List Cd} (h : H x = some (.ins C dx [])) (e : Ev (rM CM) H us cs) : Ev (rM CM) (upd H x o) us cs := by
  refine ⟨e.1, fun i v c h1 h2 => ?_⟩
  obtain ⟨a, ea, dy, t, h3, h4⟩ := e.2 i v c h1 h2
  refine ⟨a, ea, dy, t, ?_, ?_⟩
  · rw [upd_ne (ne_of h3 h (fun z => by cases z))]
    exact h3
  · rw [upd_ne (ne_of h4 h (fun z => by cases z))]
    exact h4
section
variable {P : Program} {w : World} {K : PySem.W.Frag} {mg : Str → Option Value} {base : Heap} {CM CP fE fW pY fY fL fT : Addr} {fdE fdW fdY fdL fdT : FuncData}
/-! ## Profile(sets) -/
abbrev sPI : Stmt := meth 7 0
abbrev nPI : List Str := ["self", "sets"]
def spPI (K : PySem.W.Frag) (CP CM : Addr) : Sp := fun vs H Q _ => ∃ (x s dx : Addr) (zs : List V) (ms : List Cd), vs = [.ref x, .ref s] ∧ H x = some (.ins CP dx []) ∧ (SqL K H s zs ∨ SqT K H s zs) ∧ Ev (rM CM) H zs ms ∧ ms.length ≤ 1000 ∧
  ∀ H', But x H H' → Pf CP CM H' x (tel ms) → Q .non H'
theorem scPI : FnScope nPI ["self", "sets"] (defScope sPI) := ⟨rfl, rfl, rfl, by decide +kernel, rfl, by decide +kernel, by decide +kernel⟩
theorem ok_PI {params : Arguments} {dvs : List V} {f : Addr} {fd : FuncData} (F : FunD K "__init__" "Profile.__init__" params (defBody sPI) (defScope sPI) dvs [] f fd) (B : Bn mg) (N : PfC K mg CP) (KL : Known P w K mg base CX0 5 "_least" ["sets"] (spLst CM) fL fdL) :
    FnOk P w K mg base CX0 6 f fd ["self", "sets"] (spPI K CP CM) := by
  refine F.ok scPI (fun vs H Q E h => ?_) (fun cdv A outer s H vs Q E hr h => ?_)
  · obtain ⟨x, s, dx, zs, ms, rfl, _⟩ := h
    rfl
  · obtain ⟨x, s0, dx, zs, ms, rfl, hx, sq, ev, few, k⟩ := h
    refine ⟨_, 
      (pss_one (ps_fld (pv 0) (pe_call KL.ok (hr.mono (by decide)) rfl KL.mg KL.kp KL.bi .nil pass0 (pa_cons (pe_callTy call_list_of (by rfl) B.list PyProof.Rows.boot_list (pa_cons (pv 1) pa_nil)) pa_nil)) rfl)), ?_⟩
    refine ⟨_, rfl, s0, zs, rfl, sq, fun l hl => ?_⟩
    have s1 := same_new (o := .lst zs) hl
    refine ⟨l, ms, rfl, ⟨zs, upd_same, ev.same (mM CM) s1⟩, few, fun D H' hD s2 hT => ⟨_, rfl, x, CP, dx, [], rfl, (s1.trans s2) _ _ hx, N.own.cl, N.no, by decide, ?_⟩⟩
    have s3 := s1.trans s2
    obtain ⟨us, hu, eu⟩ := hT
    refine k _ (fun b o nb e => by rw [upd_ne nb]; exact s3 _ _ e) ⟨uc_tel ms, dx, D, upd_same, us, ?_, ?_⟩
    · rw [upd_ne (ne_of hu (s3 _ _ hx) (fun z => nomatch z))]
      exact hu
    · exact ev_upd ((s1.trans s2) _ _ hx) eu
/-! ## _tells -/
abbrev sTl : Stmt := meth 7 11
abbrev nTl : List Str := ["self", "manners", "least"]
def spTl (CP CM : Addr) : Sp := fun vs H Q _ => ∃ (a b : Addr) (t : Nat) (m : Cd), vs = [.ref a, .ref b] ∧ Pf CP CM H a t ∧ Mn CM H b m ∧ ∀ H', Same H H' → Q (.bl (has t m)) H'
theorem scTl : FnScope nTl ["self", "manners"] (defScope sTl) := ⟨rfl, rfl, rfl, by decide +kernel, rfl, by decide +kernel, by decide +kernel⟩
theorem ok_Tl {f : Addr} {fd : FuncData} (F : Fun K "_tells" "Profile._tells" sTl f fd) (B : Bn mg) (M : MfC K mg CM) (N : PfC K mg CP) (WI : KMth P w K mg base CM 1 "within" ["self", "other"] (spMW CM) fW fdW) :
    FnOk P w K mg base CX0 2 f fd ["self", "manners"] (spTl CP CM) := by
  refine F.ok scTl (fun vs H Q E h => ?_) (fun cdv A outer s H vs Q E hr h => ?_)
  · obtain ⟨a, b, t, m, rfl, _⟩ := h
    rfl
  · obtain ⟨a, b, t, m, rfl, ⟨uc, dx, tp, h1, us, hu, eu⟩, hb, k⟩ := h
    refine ⟨_, 
      (pss_one (ps_ret (pe_callB (cr_any rfl) (by rfl) B.any boot_any (pa_cons (pe_lc (own := [("least", 2)]) (g := gName 2) (tt := tYes) (te := tMeth CM "within" (spMW CM) [] E0 (tVar 2) (tCons (tVar 1) tNil)) rfl scTl.nd (pi_tup (pe_fld (pv 0) rfl)) (blkOk_by (N := nTl) (sc := defScope sTl) (by decide +kernel)) (fun _ _ _ _ _ => pg_name (i := 2) scTl.nd rfl (Or.inl rfl)) (fun _ _ _ _ _ => pts_nil) (fun _ _ _ _ _ => (pe_meth (pv 2) M.own.cl WI.mt WI.ok (hr.mono (by decide)) WI.bi .nil pass0 (pa_cons (pv 1) pa_nil)))) pa_nil)))), ?_⟩
    have few : (lst (fl t)).length ≤ 1000 := by
      have := lst_len (fl t)
      have := fl_len t
      omega
    refine ⟨_, rfl, a, CP, dx, _, _, rfl, h1, N.own.cl, N.no, lk1, tp, rfl, ⟨_, SqT.of hu⟩, fun D hD => ?_⟩
    refine lc_sieve (mM CM) mB (fun _ => true) (fun c => sub c m) walk_tup few (fun H' s => SqT.of (s _ _ hu)) hD eu (fun v c H2 Rq _ _ _ kk => kk _ (Same.refl _)) ?_ ?_
    · rintro v c H2 Rq _ _ s2 ⟨d, rfl, md⟩ kk
      have md0 := md
      obtain ⟨dy, u, h3, h4⟩ := md
      exact ⟨_, rfl, d, dy, _, rfl, h3, lk_none, _, rfl, d, b, c, m, rfl, md0, hb.same s2, fun H3 s3 => kk _ _ s3 rfl⟩
    · intro H' bs s2 eD evb
      have := ev_bools_eq evb
      subst this
      rw [List.filter_eq_self.mpr fun _ _ => rfl] at eD
      refine ⟨D, _, rfl, SqL.of eD, ?_⟩
      rw [List.any_map]
      have e : ((lst (fl t)).any (id ∘ fun c => sub c m)) = has t m := tells_has uc m
      rw [e]
      exact k _ s2
/-! ## len -/
abbrev sLn : Stmt := meth 7 2
abbrev nLn : List Str := ["self", "manners"]
def spLn (CP CM : Addr) : Sp := fun vs H Q _ => ∃ (a : Addr) (t : Nat), vs = [.ref a] ∧ Pf CP CM H a t ∧ ∀ H', Same H H' → Q (.int ((fl t).length : Nat)) H'
theorem scLn : FnScope nLn ["self"] (defScope sLn) := ⟨rfl, rfl, rfl, by decide +kernel, rfl, by decide +kernel, by decide +kernel⟩
theorem ok_Ln {f : Addr} {fd : FuncData} (F : Fun K "__len__" "Profile.__len__" sLn f fd) (B : Bn mg) (M : MfC K mg CM) (N : PfC K mg CP) (YS : EvM P w K mg base CM pY fY fdY) (TL : KMth P w K mg base CP 2 "_tells" ["self", "manners"] (spTl CP CM) fT fdT) :
    FnOk P w K mg base CX0 5 f fd ["self"] (spLn CP CM) := by
  refine F.ok scLn (fun vs H Q E h => ?_) (fun cdv A outer s H vs Q E hr h => ?_)
  · obtain ⟨a, t, rfl, _⟩ := h
    rfl
  · obtain ⟨a, t, rfl, pf, k⟩ := h
    refine ⟨_, 
      (pss_one (ps_ret (pe_callB call_len_seq (by rfl) B.len PySem.boot_len (pa_cons (pe_lc (own := [("manners", 1)]) (g := gName 1) (te := tVar 1) (tt := tB (tMeth CP "_tells" (spTl CP CM) [] E0 (tVar 0) (tCons (tVar 1) tNil))) rfl scLn.nd (pi_list (Wp.pe_smeth0 (pe_glob (v := .ref CM) (by rfl) M.mg rfl) M.crd YS.sm YS.ok YS.bi (hr.mono (by decide)) pass0)) (blkOk_by (N := nLn) (sc := defScope sLn) (by decide +kernel)) (fun _ _ _ _ _ => pg_name (i := 1) scLn.nd rfl (Or.inl rfl)) (fun _ _ _ _ _ => pts_one (pt_val (pe_meth (pv 0) N.own.cl TL.mt TL.ok (hr.mono (by decide)) TL.bi .nil pass0 (pa_cons (pv 1) pa_nil)))) (fun _ _ _ _ _ => (pv 1))) pa_nil)))), ?_⟩
    refine ⟨rfl, rfl, fun D0 H1 hD0 s1 ⟨xs, hxs, evx⟩ => ⟨D0, rfl, ⟨xs, SqL.of hxs⟩, fun D hD => ?_⟩⟩
    refine lc_sieve (mM CM) (mM CM) (has t) id walk_list (by decide) (fun H' s => SqL.of (s _ _ hxs)) hD evx ?_ ?_ ?_
    · rintro v c H2 Rq _ s2 ⟨b, rfl, mb⟩ kk
      have pf2 := (pf.same s1).same s2
      have pf0 := pf2
      obtain ⟨uc, dx, tp, h1, _⟩ := pf2
      exact ⟨_, rfl, a, dx, _, rfl, h1, lk_none, _, rfl, a, b, t, c, rfl, pf0, mb, fun H3 s3 => ⟨_, rfl, kk _ s3⟩⟩
    · rintro v c H2 Rq _ _ s2 r kk
      exact ⟨_, rfl, kk _ _ (Same.refl _) r⟩
    · intro H' ys s2 eD evy
      rw [List.map_id] at evy
      refine ⟨D, ys, rfl, .inl (SqL.of eD), ?_⟩
      have := k _ (s1.trans s2)
      rw [evy.1]
      exact this
/-! ## in -/
abbrev sCt : Stmt := meth 7 4
abbrev nCt : List Str := ["self", "x"]
def spCt (CP CM : Addr) : Sp := fun vs H Q _ => ∃ (a b : Addr) (t : Nat) (m : Cd), vs = [.ref a, .ref b] ∧ Pf CP CM H a t ∧ Mn CM H b m ∧ ∀ H', Same H H' → Q (.bl (has t m)) H'
theorem scCt : FnScope nCt ["self", "x"] (defScope sCt) := ⟨rfl, rfl, rfl, by decide +kernel, rfl, by decide +kernel, by decide +kernel⟩
theorem ok_Ct {f : Addr} {fd : FuncData} (F : Fun K "__contains__" "Profile.__contains__" sCt f fd) (B : Bn mg) (M : MfC K mg CM) (N : PfC K mg CP) (TL : KMth P w K mg base CP 2 "_tells" ["self", "manners"] (spTl CP CM) fT fdT) :
    FnOk P w K mg base CX0 3 f fd ["self", "x"] (spCt CP CM) := by
  refine F.ok scCt (fun vs H Q E h => ?_) (fun cdv A outer s H vs Q E hr h => ?_)
  · obtain ⟨a, b, t, m, rfl, _⟩ := h
    rfl
  · obtain ⟨a, b, t, m, rfl, pf, mb, k⟩ := h
    have pf0 := pf
    have mb0 := mb
    obtain ⟨uc, dx, tp, h1, _⟩ := pf
    obtain ⟨dy, u, h3, h4⟩ := mb
    refine ⟨_, 
      (pss_one (ps_ret (pe_and (pe_callB call_isi (by rfl) B.isinstance boot_isi (pa_cons (pv 1) (pa_cons (pe_glob (v := .ref CM) (by rfl) M.mg rfl) pa_nil))) (pe_one (pe_meth (pv 0) N.own.cl TL.mt TL.ok (hr.mono (by decide)) TL.bi .nil pass0 (pa_cons (pv 1) pa_nil)))))), ?_⟩
    refine ⟨_, rfl, .ref b, .ref CM, _, _, true, rfl, .own _, M.own.ty h3, M.own.self, _, rfl, ?_⟩
    refine iteT ⟨_, rfl, a, dx, _, rfl, h1, lk_none, _, rfl, a, b, t, m, rfl, pf0, mb0, k⟩
end
end W8
set_option Elab.async false
set_option linter.all false
set_option maxRecDepth 100000
set_option maxHeartbeats 4000000
namespace W8
open PySem PySem.Spec PyProof.Rows L2
open Wp (OwnEqual Answ)
theorem eq_codes : ∀ ms ns : List Cd, ((List.range (min ms.length ns.length)).all (fun i => ms.getD i 0 == ns.getD i 0) && ms.length == ns.length) = decide (ms = ns) := by
  intro ms ns
  rw [Bool.eq_iff_iff, Bool.and_eq_true, List.all_eq_true, beq_iff_eq, decide_eq_true_iff]
  constructor
  · rintro ⟨h, l⟩
    apply List.ext_getElem l
    intro i h1 h2
    have := beq_iff_eq.mp (h i (List.mem_range.mpr (by omega)))
    rw [List.getD_eq_getElem?_getD, List.getD_eq_getElem?_getD, List.getElem?_eq_getElem h1, List.getElem?_eq_getElem h2] at this
    exact this
  · rintro rfl
    exact ⟨fun i _ => beq_iff_eq.mpr rfl, rfl⟩
theorem eqT_M {K : PySem.W.Frag} {CM : Addr} {H : Hp} {a b : Addr} {ms ns : List Cd} {Q : VK} (nf : PySem.W.notFirst K CM (.ref CM) = true) (ha : Tu (rM CM) H a ms) (hb : Tu (rM CM) H b ns) (q : Q (.bl (decide (ms = ns))) H) :
    Wp.rEqTO K CM (spME CM) E0 (.ref a) (.ref b) H Q := by
  obtain ⟨xs, hx, ev⟩ := ha
  obtain ⟨ys, hy, ew⟩ := hb
  obtain ⟨as, rfl, la, pa⟩ := ev_refs ev
  obtain ⟨bs, rfl, lb, pb⟩ := ev_refs ew
  refine ⟨a, b, as, bs, fun i => ms.getD i 0 == ns.getD i 0, rfl, rfl, SqT.of hx, SqT.of hy, fun i z t h1 h2 => ?_, ?_⟩
  · obtain ⟨m, hm, mm⟩ := pa i z h1
    obtain ⟨n, hn, mn⟩ := pb i t h2
    have e1 : ms.getD i 0 = m := by rw [List.getD_eq_getElem?_getD, hm]; rfl
    have e2 : ns.getD i 0 = n := by rw [List.getD_eq_getElem?_getD, hn]; rfl
    show Answ K CM _ _ _ _ _ (ms.getD i 0 == ns.getD i 0)
    rw [e1, e2]
    exact ans_M nf mm mn
  · rw [la, lb, eq_codes]
    exact q
section
variable {P : Program} {w : World} {K : PySem.W.Frag} {mg : Str → Option Value} {base : Heap} {CM CP fE fW pY fY fL fT fC fI : Addr} {fdE fdW fdY fdL fdT fdC fdI : FuncData}
/-! ## iter -/
abbrev sIt : Stmt := meth 7 3
abbrev nIt : List Str := ["self"]
def spIt (CP CM : Addr) : Nat → Sp := fun n vs H Q _ => ∃ (a : Addr) (t : Nat), vs = [.ref a] ∧ Pf CP CM H a t ∧ ∀ l it, H it = none → n ≤ it → Tu (rM CM) H l (lst (fl t)) → Q (.ref it) (upd H it (ItT l it))
theorem scIt : FnScope nIt ["self"] (defScope sIt) := ⟨rfl, rfl, rfl, by decide +kernel, rfl, by decide +kernel, by decide +kernel⟩
theorem ok_It {f : Addr} {fd : FuncData} (F : Fun K "__iter__" "Profile.__iter__" sIt f fd) (B : Bn mg) (N : PfC K mg CP) : NOk P w K mg base CX0 1 f fd ["self"] (spIt CP CM) := by
  refine nok_of F scIt (fun n vs H Q E h => ?_) (fun cdv A outer s H vs Q E hr h => ?_)
  · obtain ⟨a, t, rfl, _⟩ := h
    rfl
  · obtain ⟨a, t, rfl, ⟨uc, dx, tp, h1, us, hu, eu⟩, k⟩ := h
    refine ⟨_, 
      (pss_one (ps_ret (pe_callB call_iterT (by rfl) B.iter boot_iter (pa_cons (pe_fld (pv 0) rfl) pa_nil)))), ?_⟩
    exact ⟨_, rfl, a, CP, dx, _, _, rfl, h1, N.own.cl, N.no, lk1, tp, us, rfl, SqT.of hu, fun it hn hz => k tp it hn hz ⟨us, hu, eu⟩⟩
/-! ## is_quiet -/
abbrev sQu : Stmt := meth 7 8
abbrev nQu : List Str := ["self"]
def spQu (CP CM : Addr) : Sp := fun vs H Q _ => ∃ (a : Addr) (t : Nat), vs = [.ref a] ∧ Pf CP CM H a t ∧ Q (.bl (fl t).isEmpty) H
theorem scQu : FnScope nQu ["self"] (defScope sQu) := ⟨rfl, rfl, rfl, by decide +kernel, rfl, by decide +kernel, by decide +kernel⟩
theorem ok_Qu {f : Addr} {fd : FuncData} (F : Fun K "is_quiet" "Profile.is_quiet" sQu f fd) (B : Bn mg) (N : PfC K mg CP) : FnOk P w K mg base CX0 1 f fd ["self"] (spQu CP CM) := by
  refine F.ok scQu (fun vs H Q E h => ?_) (fun cdv A outer s H vs Q E hr h => ?_)
  · obtain ⟨a, t, rfl, _⟩ := h
    rfl
  · obtain ⟨a, t, rfl, ⟨uc, dx, tp, h1, us, hu, eu⟩, k⟩ := h
    refine ⟨_, 
      (pss_one (ps_ret (pe_cmpR op_eq (pe_callB call_len_seq (by rfl) B.len PySem.boot_len (pa_cons (pe_fld (pv 0) rfl) pa_nil)) pe_int (nomark _)))), ?_⟩
    refine ⟨_, rfl, a, CP, dx, _, _, rfl, h1, N.own.cl, N.no, lk1, tp, us, rfl, .inr (SqT.of hu), rfl, ?_⟩
    have e : decide (V.int (us.length : Nat) = V.int 0) = (fl t).isEmpty := by
      rw [← quiet0 t uc.1 uc.2, eu.1]
      cases lst (fl t) with
      | nil => rfl
      | cons a r =>
        refine decide_eq_false fun z => ?_
        injection z with z
        simp at z
        omega
    rw [e]
    exact k
/-! ## within -/
abbrev sPW : Stmt := meth 7 10
abbrev nPW : List Str := ["self", "other", "manners"]
def spPW (CP CM : Addr) : Sp := fun vs H Q _ => ∃ (a b : Addr) (t u : Nat), vs = [.ref a, .ref b] ∧ Pf CP CM H a t ∧ Pf CP CM H b u ∧ ∀ H', Same H H' → Q (.bl ((fl t).filter fun m => !has u m).isEmpty) H'
theorem scPW : FnScope nPW ["self", "other"] (defScope sPW) := ⟨rfl, rfl, rfl, by decide +kernel, rfl, by decide +kernel, by decide +kernel⟩
theorem ok_PW {f : Addr} {fd : FuncData} (F : Fun K "within" "Profile.within" sPW f fd) (B : Bn mg) (N : PfC K mg CP) (CT : KMth P w K mg base CP 3 "__contains__" ["self", "x"] (spCt CP CM) fC fdC) :
    FnOk P w K mg base CX0 4 f fd ["self", "other"] (spPW CP CM) := by
  refine F.ok scPW (fun vs H Q E h => ?_) (fun cdv A outer s H vs Q E hr h => ?_)
  · obtain ⟨a, b, t, u, rfl, _⟩ := h
    rfl
  · obtain ⟨a, b, t, u, rfl, ⟨uc, dx, tp, h1, us, hu, eu⟩, pb, k⟩ := h
    refine ⟨_, 
      (pss_one (ps_ret (pe_callB (cr_all rfl) (by rfl) B.all boot_all (pa_cons (pe_lc (own := [("manners", 2)]) (g := gName 2) (tt := tYes) (te := tOp (Wk.rOwnIn CP (spCt CP CM) E0) (tVar 2) (tVar 1)) rfl scPW.nd (pi_tup (pe_fld (pv 0) rfl)) (blkOk_by (N := nPW) (sc := defScope sPW) (by decide +kernel)) (fun _ _ _ _ _ => pg_name (i := 2) scPW.nd rfl (Or.inl rfl)) (fun _ _ _ _ _ => pts_nil) (fun _ _ _ _ _ => (pe_cmpR (show OpR _ (compareOp .In) (Wk.rOwnIn CP (spCt CP CM) E0) from Wk.op_ownIn CT.ok CT.bi pass0 CT.mt.at_ CT.mt.fn (hr.mono (by decide))) (pv 2) (pv 1) (by rfl)))) pa_nil)))), ?_⟩
    have few : (lst (fl t)).length ≤ 1000 := by
      have := lst_len (fl t)
      have := fl_len t
      omega
    refine ⟨_, rfl, a, CP, dx, _, _, rfl, h1, N.own.cl, N.no, lk1, tp, rfl, ⟨_, SqT.of hu⟩, fun D hD => ?_⟩
    refine lc_sieve (mM CM) mB (fun _ => true) (has u) walk_tup few (fun H' s => SqT.of (s _ _ hu)) hD eu (fun v c H2 Rq _ _ _ kk => kk _ (Same.refl _)) ?_ ?_
    · rintro v c H2 Rq _ _ s2 ⟨d, rfl, md⟩ kk
      have pb2 := pb.same s2
      obtain ⟨uc2, dy, tq, h3, _⟩ := pb.same s2
      exact ⟨_, rfl, _, rfl, b, dy, _, rfl, h3, b, d, u, c, rfl, pb2, md, fun H3 s3 => ⟨_, rfl, kk _ _ s3 rfl⟩⟩
    · intro H' bs s2 eD evb
      have := ev_bools_eq evb
      subst this
      rw [List.filter_eq_self.mpr fun _ _ => rfl] at eD
      refine ⟨D, _, rfl, SqL.of eD, ?_⟩
      rw [List.all_map]
      have e : ((lst (fl t)).all (id ∘ has u)) = ((fl t).filter fun m => !has u m).isEmpty := within0 t uc.1 uc.2 u pb.1.1 pb.1.2
      rw [e]
      exact k _ s2
/-! ## == -/
abbrev sPE : Stmt := meth 7 1
abbrev nPE : List Str := ["self", "other"]
def spPE (CP CM : Addr) : Sp := fun vs H Q _ => ∃ (a b : Addr) (t : Nat), vs = [.ref a, .ref b] ∧ Pf CP CM H a t ∧ ((∃ u, Pf CP CM H b u ∧ Q (.bl (decide (fl t = fl u))) H) ∨ ((∃ xs, H b = some (.lst xs) ∨ H b = some (.tup xs)) ∧ Q (.bl false) H))
theorem scPE : FnScope nPE ["self", "other"] (defScope sPE) := ⟨rfl, rfl, rfl, by decide +kernel, rfl, by decide +kernel, by decide +kernel⟩
theorem ok_PE {f : Addr} {fd : FuncData} (F : Fun K "__eq__" "Profile.__eq__" sPE f fd) (B : Bn mg) (N : PfC K mg CP) (EQ : EqM P w K mg base CM fE fdE) : FnOk P w K mg base CX0 3 f fd ["self", "other"] (spPE CP CM) := by
  refine F.ok scPE (fun vs H Q E h => ?_) (fun cdv A outer s H vs Q E hr h => ?_)
  · obtain ⟨a, b, t, rfl, _⟩ := h
    rfl
  · obtain ⟨a, b, t, rfl, ⟨uc, dx, tp, h1, h2⟩, k⟩ := h
    refine ⟨_, 
      (pss_one (ps_ret (pe_and (pe_callB call_isi (by rfl) B.isinstance boot_isi (pa_cons (pv 1) (pa_cons (pe_glob (v := .ref CP) (by rfl) N.mg rfl) pa_nil))) (pe_one (pe_cmpR (Wp.op_eqTO EQ.ok EQ.bi pass0 EQ.own (hr.mono (by decide))) (pe_fld (pv 0) rfl) (pe_fld (pv 1) rfl) (nomark _)))))), ?_⟩
    rcases k with ⟨u, ⟨uc2, dy, tq, h3, h4⟩, q⟩ | ⟨⟨xs, hb⟩, q⟩
    · refine ⟨_, rfl, .ref b, .ref CP, _, _, true, rfl, .own _, N.own.ty h3, N.own.self, _, rfl, ?_⟩
      refine iteT ⟨_, rfl, a, CP, dx, _, _, rfl, h1, N.own.cl, N.no, lk1, _, rfl, b, CP, dy, _, _, rfl, h3, N.own.cl, N.no, lk1, ?_⟩
      refine eqT_M EQ.nf h2 h4 ?_
      rw [lst_inj0 t uc.1 uc.2 u uc2.1 uc2.2]
      exact q
    · rcases hb with hb | hb
      · exact ⟨_, rfl, .ref b, .ref CP, _, _, false, rfl, .own _, .base (.lst hb), N.own.other _ (by simp), _, rfl, iteF q⟩
      · exact ⟨_, rfl, .ref b, .ref CP, _, _, false, rfl, .own _, .base (.tup hb), N.own.other _ (by simp), _, rfl, iteF q⟩
end
end W8
set_option Elab.async false
set_option linter.all false
set_option maxRecDepth 100000
set_option maxHeartbeats 4000000
namespace W8
open PySem PySem.Spec PyProof.Rows L2
open Wp (OwnEqual Answ)
structure MkP (P : Program) (w : World) (K : PySem.W.Frag) (mg : Str → Option Value) (base : Heap) (CP CM f : Addr) (fd : FuncData) : Prop where
  ok : FnOk P w K mg base CX0 6 f fd ["self", "sets"] (spPI K CP CM)
  mkr : Mk K CP f
  bi : Binds K fd ["self", "sets"] []
  dft : ∃ (T : Addr) (ds : List Value), Vals [.ref T] ds ∧ Binds K fd ["self", "sets"] ds ∧ ∀ H, SqT K H T []
/-- an own | of two things of a class -/
structure OwnB (P : Program) (w : World) (K : PySem.W.Frag) (mg : Str → Option Value) (base : Heap) (C : Addr) (k : Nat) (op : Operator) (sp : Sp) (f : Addr) (fd : FuncData) : Prop where
  ok : FnOk P w K mg base CX0 k f fd ["self", "other"] sp
  bi : Binds K fd ["self", "other"] []
  sf : PySem.W.selfFirst K C = true
  at_ : PySem.W.findIn K (.ref C) (PySem.dunder op.info.2) = some (some (.ref f))
  fn : PySem.W.isFn K (.ref f) = true
theorem made_P {K : PySem.W.Frag} {CP CM : Addr} {H1 : Hp} {s : Addr} {zs : List V} {ms : List Cd} {Q : VK} {E : XK} (sq : SqL K H1 s zs ∨ SqT K H1 s zs) (ev : Ev (rM CM) H1 zs ms) (few : ms.length ≤ 1000)
    (k : ∀ x H2, H1 x = none → Same H1 H2 → Pf CP CM H2 x (tel ms) → Q (.ref x) H2) :
    ∀ x dx, H1 x = none → H1 dx = none → dx ≠ x → spPI K CP CM [.ref x, .ref s] (upd (upd H1 dx (.own x)) x (.ins CP dx [])) (fun v H2 => v = .non ∧ Q (.ref x) H2) E := fun x dx hx hd ne => by
  have s2 : Same H1 (upd (upd H1 dx (.own x)) x (.ins CP dx [])) := fun c o e => by
    have n1 := ne_of_none e hx
    have n2 := ne_of_none e hd
    rw [upd_ne n1, upd_ne n2]
    exact e
  refine ⟨x, s, dx, zs, ms, rfl, upd_same, sq.elim (fun q => .inl (s2.seq q)) fun q => .inr (s2.sqT q), ev.same (mM CM) s2, few, fun H' b m => ⟨rfl, k x H' hx (fun c o e => b _ _ (ne_of_none e hx) (s2 _ _ e)) m⟩⟩
theorem flat_len {α β γ : Type} (f : α → β → γ) (ds : List β) : ∀ cs : List α, (cs.flatMap fun c => ds.map (f c)).length = cs.length * ds.length
  | [] => by simp
  | c :: cs => by
    rw [List.flatMap_cons, List.length_append, flat_len f ds cs, List.length_map, List.length_cons, Nat.succ_mul]
    omega
/-- [f(x, y) for x in xs for y in ys] -/
theorem lc_pairs {α β γ : Type} {R : Rp α} {R2 : Rp β} {R3 : Rp γ} (mR : Mono R) (mR2 : Mono R2) (mR3 : Mono R3) (f : α → β → γ) {J : It} {G : Hp → Prop} {xs ys : List V} {cs : List α} {ds : List β} {wi1 : TI} {te : TE} {i i1 : Nat} {σ : L2.St} {H : Hp} {D : Addr} {Q : Hp → Prop}
    (w : Walk J xs.length G (YAt xs)) (few : cs.length ≤ 30) (few2 : ds.length ≤ 30) (hG : ∀ H', Same H H' → G H') (new : H D = none) (ev : Ev R H xs cs) (ew : Ev R2 H ys ds)
    (inner : ∀ (x : V) (H1 : Hp) (Rq : It → Hp → Prop), Same H H1 → (∀ (J1 : It) (G1 : Hp → Prop), Walk J1 ys.length G1 (YAt ys) → (∀ H', Same H H' → G1 H') → Rq J1 H1) → wi1 ((σ.set i1 none).set i none |>.set i (some x)) H1 Rq)
    (elt : ∀ (x y : V) (c : α) (d : β) (H1 : Hp) (Rq : VK), Same H H1 → R H1 x c → R2 H1 y d → (∀ z H2, Same H1 H2 → R3 H2 z (f c d) → Rq z H2) → te (((((σ.set i1 none).set i none).set i (some x)).set i1 none).set i1 (some y)) H1 Rq)
    (ne : i ≠ i1)
    (k : ∀ H' zs, Same H H' → H' D = some (.lst zs) → Ev R3 H' zs (cs.flatMap fun c => ds.map (f c)) → Q H') :
    ∃ W : Nat → Nat → Hp → Prop, (∃ m, W 0 m (upd H D (.lst []))) ∧ ∀ j m H, W j m H →
      (J.stop j H ∧ Q H) ∨ (J.go j H ∧ ∃ Nx : Hp → Prop, (∀ H', Nx H' → ∃ m', m' < m ∧ W (j + 1) m' H') ∧ ∀ x H', J.yld j H x H' → gName i x (wipe σ [i, i1]) H' fun σ2 H2 => wipe σ2 [i, i1] = wipe σ [i, i1] ∧ tYes σ2 H2 fun b H3 =>
        if b = true then wi1 σ2 H3 fun J1 H4 => ∃ W1 : Nat → Nat → Hp → Prop, (∃ m, W1 0 m H4) ∧ ∀ j k H, W1 j k H →
          (J1.stop j H ∧ Nx H) ∨ (J1.go j H ∧ ∃ Nx1 : Hp → Prop, (∀ H', Nx1 H' → ∃ k', k' < k ∧ W1 (j + 1) k' H') ∧ ∀ x H', J1.yld j H x H' → gName i1 x (wipe σ2 [i1]) H' fun σ3 H5 => wipe σ3 [i1] = wipe σ2 [i1] ∧ tYes σ3 H5 fun b H6 =>
            if b = true then te σ3 H6 fun y H7 => ∃ acc, H7 D = some (.lst acc) ∧ acc.length < sizeLine ∧ Nx1 (upd H7 D (.lst (acc ++ [y]))) else Nx1 H6)
        else Nx H3) := by
  refine ⟨fun j m H' => m = xs.length - j ∧ j ≤ xs.length ∧ Same H H' ∧ ∃ zs, H' D = some (.lst zs) ∧ Ev R3 H' zs ((cs.take j).flatMap fun c => ds.map (f c)),
    ⟨xs.length, rfl, Nat.zero_le _, same_new new, [], upd_same, Ev.nil⟩, ?_⟩
  rintro j m H1 ⟨rfl, hj, sm, zs, hD, ez⟩
  by_cases hlt : j < xs.length
  · refine .inr ⟨w.goes j H1 hlt (hG H1 sm), fun H' => Same H H' ∧ ∃ zs, H' D = some (.lst zs) ∧ Ev R3 H' zs ((cs.take (j + 1)).flatMap fun c => ds.map (f c)), fun H' q => ⟨xs.length - (j + 1), by omega, rfl, hlt, q⟩, fun x H2 hy => ?_⟩
    obtain ⟨rfl, hx⟩ := w.yields j H1 x H2 hlt (hG H1 sm) hy
    obtain ⟨c, hc, r⟩ := ev.at hx
    have cj : cs.take (j + 1) = cs.take j ++ [c] := take_snoc hc
    have lt2 : (cs.take j).length ≤ 30 := by rw [List.length_take]; omega
    refine ⟨?_, ?_⟩
    · show ((((σ.set i1 none).set i none).set i (some x)).set i1 none).set i none = (σ.set i1 none).set i none
      rw [List.set_set, List.set_comm _ _ ne, List.set_set, List.set_set]
    · dsimp only [tYes]
      rw [if_pos rfl]
      refine inner x H2 _ sm fun J1 G1 w1 hG1 => ?_
      refine ⟨fun j1 m H' => m = ys.length - j1 ∧ j1 ≤ ys.length ∧ Same H H' ∧ ∃ zs, H' D = some (.lst zs) ∧ Ev R3 H' zs (((cs.take j).flatMap fun c => ds.map (f c)) ++ (ds.take j1).map (f c)),
        ⟨ys.length, rfl, Nat.zero_le _, sm, zs, hD, by simpa using ez⟩, ?_⟩
      rintro j1 m H3 ⟨rfl, hj1, sm3, zs3, hD3, ez3⟩
      by_cases hlt1 : j1 < ys.length
      · refine .inr ⟨w1.goes j1 H3 hlt1 (hG1 H3 sm3), fun H' => Same H H' ∧ ∃ zs, H' D = some (.lst zs) ∧ Ev R3 H' zs (((cs.take j).flatMap fun c => ds.map (f c)) ++ (ds.take (j1 + 1)).map (f c)), fun H' q => ⟨ys.length - (j1 + 1), by omega, rfl, hlt1, q⟩, fun y H4 hy1 => ?_⟩
        obtain ⟨rfl, hx1⟩ := w1.yields j1 H3 y H4 hlt1 (hG1 H3 sm3) hy1
        obtain ⟨d, hd, r1⟩ := ew.at hx1
        refine ⟨by simp [wipe, List.set_set], ?_⟩
        dsimp only [tYes]
        rw [if_pos rfl]
        refine elt x y c d H4 _ sm3 (mR _ _ _ _ (.of sm3) r) (mR2 _ _ _ _ (.of sm3) r1) fun z H5 s5 r5 => ⟨zs3, s5 _ _ hD3, ?_, (sm3.trans s5).over new, zs3 ++ [z], upd_same, ?_⟩
        · rw [ez3.1, List.length_append, sizeLine_eq, List.length_map, List.length_take, flat_len]
          have : (cs.take j).length * ds.length ≤ 30 * 30 := Nat.mul_le_mul lt2 few2
          omega
        · rw [take_snoc hd, List.map_append, ← List.append_assoc]
          have q : Ev R3 H5 (zs3 ++ [z]) ((((cs.take j).flatMap fun c => ds.map (f c)) ++ (ds.take j1).map (f c)) ++ [f c d]) := (ez3.same mR3 s5).append (Ev.cons r5 Ev.nil)
          exact q.kp mR3 (.lst (s5 _ _ hD3))
      · have e : j1 = ys.length := by omega
        subst e
        refine .inl ⟨w1.stops H3 (hG1 H3 sm3), sm3, zs3, hD3, ?_⟩
        rw [cj, List.flatMap_append]
        have e2 : ds.take ys.length = ds := by rw [ew.1]; exact List.take_length
        rw [e2] at ez3
        simpa using ez3
  · have e : j = xs.length := by omega
    subst e
    have e2 : cs.take xs.length = cs := by rw [ev.1]; exact List.take_length
    rw [e2] at ez
    exact .inl ⟨w.stops H1 (hG H1 sm), k H1 zs sm hD ez⟩
section
variable {P : Program} {w : World} {K : PySem.W.Frag} {mg : Str → Option Value} {base : Heap} {CM CP fE fW pY fY fL fT fC fI fO : Addr} {fdE fdW fdY fdL fdT fdC fdI fdO : FuncData}
/-! ## greatest -/
abbrev sGr : Stmt := meth 7 9
abbrev nGr : List Str := ["self", "quiet", "manners", "one", "other"]
def spGr (CP CM : Addr) : Sp := fun vs H Q _ => ∃ (a : Addr) (t : Nat), vs = [.ref a] ∧ Pf CP CM H a t ∧ ∀ D H', H D = none → Same H H' → Ls (rM CM) H' D (grs (ql t)) → Q (.ref D) H'
theorem scGr : FnScope nGr ["self"] (defScope sGr) := ⟨rfl, rfl, rfl, by decide +kernel, rfl, by decide +kernel, by decide +kernel⟩
theorem ok_Gr {f : Addr} {fd : FuncData} (F : Fun K "greatest" "Profile.greatest" sGr f fd) (B : Bn mg) (M : MfC K mg CM) (N : PfC K mg CP) (EQ : EqM P w K mg base CM fE fdE) (WI : KMth P w K mg base CM 1 "within" ["self", "other"] (spMW CM) fW fdW)
    (YS : EvM P w K mg base CM pY fY fdY) (TL : KMth P w K mg base CP 2 "_tells" ["self", "manners"] (spTl CP CM) fT fdT) : FnOk P w K mg base CX0 5 f fd ["self"] (spGr CP CM) := by
  refine F.ok scGr (fun vs H Q E h => ?_) (fun cdv A outer s H vs Q E hr h => ?_)
  · obtain ⟨a, t, rfl, _⟩ := h
    rfl
  · obtain ⟨a, t, rfl, pf, k⟩ := h
    refine ⟨_, 
      (pss_cons (ps_set (i := 1) scGr.nd rfl (.inr rfl) (pe_lc (own := [("manners", 2)]) (g := gName 2) (te := tVar 2) (tt := tNot (tB (tMeth CP "_tells" (spTl CP CM) [] E0 (tVar 0) (tCons (tVar 2) tNil)))) rfl scGr.nd (pi_list (Wp.pe_smeth0 (pe_glob (v := .ref CM) (by rfl) M.mg rfl) M.crd YS.sm YS.ok YS.bi (hr.mono (by decide)) pass0)) (blkOk_by (N := nGr) (sc := defScope sGr) (by decide +kernel)) (fun _ _ _ _ _ => pg_name (i := 2) scGr.nd rfl (Or.inl rfl)) (fun _ _ _ _ _ => pts_one (pt_not (pt_val (pe_meth (pv 0) N.own.cl TL.mt TL.ok (hr.mono (by decide)) TL.bi .nil pass0 (pa_cons (pv 2) pa_nil))))) (fun _ _ _ _ _ => (pv 2))))
      (pss_one (ps_ret (pe_lc (own := [("one", 3)]) (g := gName 3) (te := tVar 3) (tt := tNot (tB (tCB (rAny K) (tCons (tLc (iList K (tVar 1)) (gName 4) tYes (tAndV (tMeth CM "within" (spMW CM) [] E0 (tVar 3) (tCons (tVar 4) tNil)) (tOp (Wp.rOwn true K CM (spME CM) E0) (tVar 3) (tVar 4))) [4]) tNil)))) rfl scGr.nd (pi_list (pv 1)) (blkOk_by (N := nGr) (sc := defScope sGr) (by decide +kernel)) (fun _ _ _ _ _ => pg_name (i := 3) scGr.nd rfl (Or.inr rfl)) (fun _ _ _ _ _ => pts_one (pt_not (pt_val (pe_callB (cr_any rfl) (by rfl) B.any boot_any (pa_cons (pe_lc (own := [("other", 4)]) (g := gName 4) (tt := tYes) (te := tAndV (tMeth CM "within" (spMW CM) [] E0 (tVar 3) (tCons (tVar 4) tNil)) (tOp (Wp.rOwn true K CM (spME CM) E0) (tVar 3) (tVar 4))) rfl scGr.nd (pi_list (pv 1)) (by exact blkOk_in (N := nGr) (defScope sGr) rfl (by decide +kernel)) (fun _ _ _ _ _ => pg_name (i := 4) scGr.nd rfl (Or.inl rfl)) (fun _ _ _ _ _ => pts_nil) (fun _ _ _ _ _ => (pe_and (pe_meth (pv 3) M.own.cl WI.mt WI.ok (hr.mono (by decide)) WI.bi .nil pass0 (pa_cons (pv 4) pa_nil)) (pe_one (pe_cmpR (show OpR _ (compareOp .NotEq) (Wp.rOwn true K CM (spME CM) E0) from Wp.op_ownNe EQ.ok EQ.bi pass0 EQ.own (hr.mono (by decide))) (pv 3) (pv 4) (nomark _)))))) pa_nil))))) (fun _ _ _ _ _ => (pv 3)))))), ?_⟩
    refine ⟨rfl, rfl, fun D0 H1 hD0 s1 ⟨xs, hxs, evx⟩ => ⟨D0, rfl, ⟨xs, SqL.of hxs⟩, fun D hD => ?_⟩⟩
    refine lc_sieve (mM CM) (mM CM) (fun m => !has t m) id walk_list (by decide) (fun H' s => SqL.of (s _ _ hxs)) hD evx ?_ ?_ ?_
    · rintro v c H2 Rq _ s2 ⟨b, rfl, mb⟩ kk
      have pf2 := (pf.same s1).same s2
      have pf0 := pf2
      obtain ⟨uc, dx, tp, h1, _⟩ := pf2
      exact ⟨_, rfl, a, dx, _, rfl, h1, lk_none, _, rfl, a, b, t, c, rfl, pf0, mb, fun H3 s3 => ⟨_, rfl, kk _ s3⟩⟩
    · rintro v c H2 Rq _ _ s2 r kk
      exact ⟨_, rfl, kk _ _ (Same.refl _) r⟩
    · intro H' ys s2 eD evy
      rw [List.map_id] at evy
      have lg : (ql t).length ≤ 1000 := by have := ql_len t; omega
      refine ⟨_, rfl, D, rfl, ⟨ys, SqL.of eD⟩, fun D2 hD2 => ?_⟩
      refine lc_sieve (mM CM) (mM CM) (fun one => !((ql t).map fun other => sub one other && (one != other)).any id) id walk_list lg (fun H3 s => SqL.of (s _ _ eD)) hD2 evy ?_ ?_ ?_
      · rintro v c H3 Rq _ s3 ⟨b, rfl, mb⟩ kk
        refine ⟨_, rfl, D, rfl, ⟨ys, SqL.of (s3 _ _ eD)⟩, fun D3 hD3 => ?_⟩
        refine lc_sieve (mM CM) mB (fun _ => true) (fun other => sub c other && (c != other)) walk_list lg (fun H4 s => SqL.of (s _ _ (s3 _ _ eD))) hD3 (evy.same (mM CM) s3) (fun v c H4 Rq _ _ _ kk => kk _ (Same.refl _)) ?_ ?_
        · rintro v2 d H4 R4 _ _ s4 ⟨a2, rfl, ma⟩ k4
          have mb4 := mb.same s4
          have mb5 := mb4
          obtain ⟨dx, u, h1, h2⟩ := mb4
          refine ⟨_, rfl, b, dx, _, rfl, h1, lk_none, _, rfl, b, a2, c, d, rfl, mb5, ma, fun H5 s5 => ⟨_, rfl, ?_⟩⟩
          cases e : sub c d with
          | false =>
            refine iteF ?_
            refine k4 _ _ s5 ?_
            show V.bl false = _
            rw [e, Bool.false_and]
          | true =>
            refine iteT ⟨_, rfl, _, rfl, ne_M EQ.nf (mb5.same s5) (ma.same s5) ?_⟩
            refine k4 _ _ s5 ?_
            rw [e, Bool.true_and]
            rfl
        · intro H4 bs s4 eD3 evb
          have := ev_bools_eq evb
          subst this
          rw [List.filter_eq_self.mpr fun _ _ => rfl] at eD3
          exact ⟨D3, _, rfl, SqL.of eD3, _, rfl, kk _ s4⟩
      · rintro v c H3 Rq _ _ s3 r kk
        exact ⟨_, rfl, kk _ _ (Same.refl _) r⟩
      · intro H3 us s3 eD2 evu
        rw [List.map_id, any_grs] at evu
        have s4 := s1.trans s2
        exact k D2 _ (Same.free s4 hD2) (s4.trans s3) ⟨us, eD2, evu⟩
/-! ## | -/
abbrev sPO : Stmt := meth 7 5
abbrev nPO : List Str := ["self", "other"]
def spPO (f : Nat → Nat → Nat) (CP CM : Addr) : Sp := fun vs H Q _ => ∃ (a b : Addr) (t u : Nat), vs = [.ref a, .ref b] ∧ Pf CP CM H a t ∧ Pf CP CM H b u ∧ ∀ x H', H x = none → Same H H' → Pf CP CM H' x (f t u) → Q (.ref x) H'
theorem scPO : FnScope nPO ["self", "other"] (defScope sPO) := ⟨rfl, rfl, rfl, by decide +kernel, rfl, by decide +kernel, by decide +kernel⟩
theorem ok_PO {f : Addr} {fd : FuncData} (F : Fun K "__or__" "Profile.__or__" sPO f fd) (B : Bn mg) (N : PfC K mg CP) (KP : MkP P w K mg base CP CM fI fdI) : FnOk P w K mg base CX0 8 f fd ["self", "other"] (spPO Nat.lor CP CM) := by
  refine F.ok scPO (fun vs H Q E h => ?_) (fun cdv A outer s H vs Q E hr h => ?_)
  · obtain ⟨a, b, t, u, rfl, _⟩ := h
    rfl
  · obtain ⟨a, b, t, u, rfl, ⟨uc, dx, tp, h1, us, hu, eu⟩, ⟨uc2, dy, tq, h3, ws, hw, ew⟩, k⟩ := h
    refine ⟨_, 
      (pss_one (ps_ret (pe_make KP.mkr KP.ok (hr.mono (by decide)) (by rfl) N.mg KP.bi .nil pass0 (pa_cons (pe_op op_catA (pe_fld (pv 0) rfl) (pe_fld (pv 1) rfl)) pa_nil)))), ?_⟩
    have l1 : us.length ≤ 8 := by
      have := lst_len (fl t)
      have := fl_len t
      have := eu.1
      omega
    have l2 : ws.length ≤ 8 := by
      have := lst_len (fl u)
      have := fl_len u
      have := ew.1
      omega
    have et : tel (lst (fl t) ++ lst (fl u)) = Nat.lor t u := by
      rw [tel_append, tel_lst uc, tel_lst uc2]
      rfl
    have lz : (lst (fl t) ++ lst (fl u)).length ≤ 1000 := by
      rw [List.length_append, ← eu.1, ← ew.1]
      omega
    have last : ∀ (s0 : Addr) (H1 : Hp), Same H H1 → SqT K H1 s0 (us ++ ws) → ∀ x dx, H1 x = none → H1 dx = none → dx ≠ x → spPI K CP CM [.ref x, .ref s0] (upd (upd H1 dx (.own x)) x (.ins CP dx [])) (fun v H2 => v = .non ∧ Q (.ref x) H2) E0 := fun s0 H1 s1 sq =>
      made_P (.inr sq) ((eu.append ew).same (mM CM) s1) lz fun x H2 hx s2 pf => k x H2 (Same.free s1 hx) (s1.trans s2) (by rw [et] at pf; exact pf)
    refine ⟨_, rfl, a, CP, dx, _, _, rfl, h1, N.own.cl, N.no, lk1, _, rfl, b, CP, dy, _, _, rfl, h3, N.own.cl, N.no, lk1, tp, tq, us, ws, rfl, rfl, SqT.of hu, SqT.of hw, by rw [sizeLine_eq]; omega, fun e => ?_, fun _ e => ?_, fun _ _ p hp => ?_⟩
    · refine last tq H (Same.refl _) ?_
      rw [e]
      exact SqT.of hw
    · refine last tp H (Same.refl _) ?_
      rw [e, List.append_nil]
      exact SqT.of hu
    · exact last p _ (same_new hp) (SqT.of upd_same)
/-! ## & -/
abbrev sPA : Stmt := meth 7 6
abbrev nPA : List Str := ["self", "other", "one", "another"]
theorem scPA : FnScope nPA ["self", "other"] (defScope sPA) := ⟨rfl, rfl, rfl, by decide +kernel, rfl, by decide +kernel, by decide +kernel⟩
theorem ok_PA {f : Addr} {fd : FuncData} (F : Fun K "__and__" "Profile.__and__" sPA f fd) (B : Bn mg) (N : PfC K mg CP) (KP : MkP P w K mg base CP CM fI fdI) (OR : OwnB P w K mg base CM 4 .BitOr (spMO CM) fO fdO) :
    FnOk P w K mg base CX0 8 f fd ["self", "other"] (spPO Nat.land CP CM) := by
  refine F.ok scPA (fun vs H Q E h => ?_) (fun cdv A outer s H vs Q E hr h => ?_)
  · obtain ⟨a, b, t, u, rfl, _⟩ := h
    rfl
  · obtain ⟨a, b, t, u, rfl, ⟨uc, dx, tp, h1, us, hu, eu⟩, ⟨uc2, dy, tq, h3, ws, hw, ew⟩, k⟩ := h
    refine ⟨_, 
      (pss_one (ps_ret (pe_make KP.mkr KP.ok (hr.mono (by decide)) (by rfl) N.mg KP.bi .nil pass0 (pa_cons (pe_lc2 (own := [("one", 2), ("another", 3)]) (vs1 := [3]) (g := gName 2) (tt := tYes) (g1 := gName 3) (tt1 := tYes) (wi1 := iTup K (tFld K (tVar 1) "least_sets")) (te := tOp (Wp.rBinO CM (spMO CM) E0) (tVar 2) (tVar 3)) rfl scPA.nd (pi_tup (pe_fld (pv 0) rfl)) (blkOk_by (N := nPA) (sc := defScope sPA) (by decide +kernel)) (by decide)
        (fun _ _ _ _ _ => pg_name (i := 2) scPA.nd rfl (Or.inl rfl)) (fun _ _ _ _ _ => pts_nil) (fun _ _ _ _ _ => (pi_tup (pe_fld (pv 1) rfl))) (fun _ _ _ _ _ => pg_name (i := 3) scPA.nd rfl (Or.inl rfl)) (fun _ _ _ _ _ => pts_nil)
        (fun _ _ _ _ _ => pe_op (show OpR _ (binaryOp .BitOr) (Wp.rBinO CM (spMO CM) E0) from Wp.op_ownBin OR.ok OR.bi pass0 OR.sf OR.at_ OR.fn (hr.mono (by decide))) (pv 2) (pv 3))) pa_nil)))), ?_⟩
    refine ⟨_, rfl, a, CP, dx, _, _, rfl, h1, N.own.cl, N.no, lk1, tp, rfl, ⟨_, SqT.of hu⟩, fun D hD => ?_⟩
    have l1 : (lst (fl t)).length ≤ 8 := by
      have := lst_len (fl t)
      have := fl_len t
      omega
    have l2 : (lst (fl u)).length ≤ 8 := by
      have := lst_len (fl u)
      have := fl_len u
      omega
    refine lc_pairs (mM CM) (mM CM) (mM CM) join walk_tup (by omega) (by omega) (fun H' s => SqT.of (s _ _ hu)) hD eu ew ?_ ?_ (by decide) ?_
    · intro v H1 Rq s1 kk
      exact ⟨_, rfl, b, CP, dy, _, _, rfl, s1 _ _ h3, N.own.cl, N.no, lk1, tq, rfl, ⟨_, SqT.of (s1 _ _ hw)⟩, kk _ _ walk_tup fun H' s => SqT.of (s _ _ hw)⟩
    · rintro v1 v2 c d H1 Rq s1 ⟨p, rfl, mp⟩ ⟨q, rfl, mq⟩ kk
      have mp0 := mp
      have mq0 := mq
      obtain ⟨dp, tp1, hp1, _⟩ := mp
      obtain ⟨dq, tq1, hq1, _⟩ := mq
      exact ⟨_, rfl, _, rfl, p, dp, _, q, dq, _, rfl, rfl, hp1, hq1, p, q, c, d, rfl, mp0, mq0, fun x H2 hx s2 mx => ⟨⟨x, rfl⟩, kk _ _ s2 ⟨x, rfl, mx⟩⟩⟩
    · intro H' zs s2 eD ez
      refine made_P (.inl (SqL.of eD)) ez ?_ fun x H2 hx s3 pf => k x H2 (Same.free s2 hx) (s2.trans s3) ?_
      · rw [flat_len]
        have : (lst (fl t)).length * (lst (fl u)).length ≤ 8 * 8 := Nat.mul_le_mul l1 l2
        omega
      · rw [tel_joins, tel_lst uc, tel_lst uc2] at pf
        exact pf
end
end W8
set_option Elab.async false
set_option linter.all false
set_option maxRecDepth 100000
set_option maxHeartbeats 4000000
namespace W8
open PySem PySem.Spec PyProof.Rows L2
theorem mod7 {x b : Int} (hb : 0 < b) : 0 ≤ x % b ∧ x % b < b := ⟨Int.emod_nonneg _ (by omega), Int.emod_lt_of_pos _ hb⟩
/-- the bag at p -/
def Bg (p : Addr) (H : Hp) : Prop := ∃ a b : Int, H p = some (.lst [.int a, .int b]) ∧ 0 ≤ b ∧ b < 2147483648
theorem Bg.same {p : Addr} {H H' : Hp} (h : Bg p H) (s : Same H H') : Bg p H' :=
  let ⟨a, b, e, r⟩ := h
  ⟨a, b, s _ _ e, r⟩
theorem But.of {p : Addr} {H H' : Hp} (s : Same H H') : But p H H' := fun b o _ e => s b o e
theorem But.trans {p : Addr} {H H1 H2 : Hp} (a : But p H H1) (b : But p H1 H2) : But p H H2 := fun c o n e => b c o n (a c o n e)
theorem But.refl {p : Addr} {H : Hp} : But p H H := fun _ _ _ e => e
section
variable {P : Program} {w : World} {K : PySem.W.Frag} {mg : Str → Option Value} {base : Heap}
/-! ## a number drawn -/
abbrev sTk : Stmt := top 10
abbrev nTk : List Str := ["_law_bag_here", "_law_many", "_law_digit"]
def spTk : Sp := fun vs H Q _ => ∃ (p : Addr) (m : Int), vs = [.ref p, .int m] ∧ Bg p H ∧ 0 < m ∧ m ≤ 1000 ∧ ∀ (k : Int) H', 0 ≤ k → k < m → But p H H' → Bg p H' → Q (.int k) H'
theorem scTk : FnScope nTk ["_law_bag_here", "_law_many"] (defScope sTk) := ⟨rfl, rfl, rfl, by decide +kernel, rfl, by decide +kernel, by decide +kernel⟩
theorem ok_Tk {f : Addr} {fd : FuncData} (F : Fun K "_law_take" "_law_take" sTk f fd) (B : Bn mg) : FnOk P w K mg base CX0 1 f fd ["_law_bag_here", "_law_many"] spTk := by
  refine F.ok scTk (fun vs H Q E h => ?_) (fun cdv A outer s H vs Q E hr h => ?_)
  · obtain ⟨p, m, rfl, _⟩ := h
    rfl
  · obtain ⟨p, m, rfl, ⟨a, b, hp, b0, b1⟩, m0, m1, k⟩ := h
    refine ⟨_, 
      (pss_cons (ps_if (pt_cmpR op_gt (pe_ix ix_list (pv 0) pe_int (fun _ _ => rfl)) pe_int (nomark _)) 
        (pss_cons (ps_set (i := 2) scTk.nd rfl (.inl rfl) (pe_op op_mod (pe_callTy call_int1 (by rfl) B.int PyProof.Rows.boot_int (pa_cons (pe_ix ix_list (pv 0) pe_int (fun _ _ => rfl)) pa_nil)) (pv 1)))
        (pss_cons (ps_asg (pe_op op_fdivN (pe_ix ix_list (pv 0) pe_int (fun _ _ => rfl)) (pv 1)) (pg_sub (pv 0) pe_int set_list))
        (pss_one (ps_ret (pv 2))))) pss_nil)
      (pss_cons (ps_asg (pe_op op_mod (pe_callTy call_int1 (by rfl) B.int PyProof.Rows.boot_int (pa_cons (pe_op op_add (pe_op op_mul (pe_ix ix_list (pv 0) pe_int (fun _ _ => rfl)) pe_int) pe_int) pa_nil)) pe_int) (pg_sub (pv 0) pe_int set_list))
      (pss_one (ps_ret (pe_op op_mod (pe_op op_fdiv (pe_op op_mod (pe_callTy call_int1 (by rfl) B.int PyProof.Rows.boot_int (pa_cons (pe_op op_mul (pe_op op_fdiv (pe_ix ix_list (pv 0) pe_int (fun _ _ => rfl)) pe_int) pe_int) pa_nil)) pe_int) pe_int) (pv 1)))))), ?_⟩
    refine ⟨_, rfl, p, _, _, _, rfl, rfl, SqL.of hp, atI_nat (j := 0) rfl, _, _, rfl, rfl, _, rfl, ?_⟩
    refine ite2 (fun _ => ?_) (fun _ => ?_)
    · refine ⟨_, rfl, p, _, _, _, rfl, rfl, SqL.of hp, atI_nat (j := 0) rfl, .inl ⟨_, rfl, _, rfl, _, _, rfl, rfl, m0, ?_⟩⟩
      refine ⟨_, rfl, p, _, _, _, rfl, rfl, SqL.of hp, atI_nat (j := 0) rfl, _, rfl, _, _, rfl, rfl, ⟨by omega, by omega⟩, _, rfl, p, _, _, 0, rfl, rfl, hp, rfl, ?_⟩
      refine ⟨_, rfl, k _ _ (mod7 m0).1 (mod7 m0).2 (fun b o nb e => ?_) ⟨_, _, upd_same, b0, b1⟩⟩
      rw [upd_ne nb]
      exact e
    · refine ⟨_, rfl, p, _, _, _, rfl, rfl, SqL.of hp, atI_nat (j := 1) rfl, _, _, rfl, rfl, .inr (by decide), _, _, rfl, rfl, .inl ⟨_, rfl, _, _, rfl, rfl, (by show (0 : Int) < 2147483587; decide), _, rfl, p, _, _, 1, rfl, rfl, hp, rfl, ?_⟩⟩
      refine ⟨_, rfl, p, _, _, _, rfl, rfl, SqL.of upd_same, atI_nat (j := 1) rfl, _, _, rfl, rfl, ⟨by decide, by decide⟩, _, _, rfl, rfl, .inr (by decide), .inl ⟨_, rfl, _, _, rfl, rfl, (by show (0 : Int) < 2147483629; decide), _, _, rfl, rfl, ⟨by decide, by decide⟩, _, rfl, _, _, rfl, rfl, m0, ?_⟩⟩
      have q := mod7 (x := b * 59359 + 6339) (b := 2147483587) (by decide)
      refine k _ _ (mod7 m0).1 (mod7 m0).2 (fun b o nb e => ?_) ⟨_, _, upd_same, q.1, by omega⟩
      rw [upd_ne nb]
      exact e
/-! ## one of some -/
abbrev sOf : Stmt := top 11
abbrev nOf : List Str := ["_law_bag_here", "_law_some"]
def spOf (K : PySem.W.Frag) : Sp := fun vs H Q _ => ∃ (p q : Addr) (xs : List V), vs = [.ref p, .ref q] ∧ Bg p H ∧ SqL K H q xs ∧ q ≠ p ∧ 0 < xs.length ∧ xs.length ≤ 1000 ∧ ∀ x H', x ∈ xs → But p H H' → Bg p H' → Q x H'
theorem scOf : FnScope nOf ["_law_bag_here", "_law_some"] (defScope sOf) := ⟨rfl, rfl, rfl, by decide +kernel, rfl, by decide +kernel, by decide +kernel⟩
theorem sqL_at {K : PySem.W.Frag} {H H' : Hp} {q : Addr} {xs : List V} (h : SqL K H q xs) (k : ∀ o, H q = some o → H' q = some o) : SqL K H' q xs := by
  rcases h with (h | ⟨o, h⟩) | h
  · exact .inl (.inl (k _ h))
  · exact .inl (.inr ⟨o, k _ h⟩)
  · exact .inr h
theorem ok_Of {f fT : Addr} {fd fdT : FuncData} (F : Fun K "_law_of" "_law_of" sOf f fd) (B : Bn mg) (TK : Known P w K mg base CX0 1 "_law_take" ["_law_bag_here", "_law_many"] spTk fT fdT) : FnOk P w K mg base CX0 2 f fd ["_law_bag_here", "_law_some"] (spOf K) := by
  refine F.ok scOf (fun vs H Q E h => ?_) (fun cdv A outer s H vs Q E hr h => ?_)
  · obtain ⟨p, q, xs, rfl, _⟩ := h
    rfl
  · obtain ⟨p, q, xs, rfl, S, hq, nq, l0, l1, k⟩ := h
    refine ⟨_, 
      (pss_one (ps_ret (pe_ix ix_list (pv 1) (pe_call TK.ok (hr.mono (by decide)) rfl TK.mg TK.kp TK.bi .nil pass0 (pa_cons (pv 0) (pa_cons (pe_callB call_len_seq (by rfl) B.len PySem.boot_len (pa_cons (pv 1) pa_nil)) pa_nil))) (fun _ _ => rfl)))), ?_⟩
    refine ⟨_, rfl, _, rfl, _, rfl, q, _, rfl, .inl hq, p, (xs.length : Int), rfl, S, by omega, by omega, fun v H' v0 v1 g S' => ?_⟩
    obtain ⟨j, rfl⟩ := Int.eq_ofNat_of_zero_le v0
    have hj : j < xs.length := by omega
    have hx : xs[j]? = some xs[j] := List.getElem?_eq_getElem hj
    exact ⟨q, _, _, _, rfl, rfl, sqL_at hq (fun o e => g _ _ nq e), atI_nat hx, k _ _ (List.getElem_mem hj) g S'⟩
/-! ## the bag -/
abbrev sBg : Stmt := top 9
abbrev nBg : List Str := ["_law_script", "_law_at", "_law_number", "_law_mixed", "_law_spot", "_law_each"]
def spBg (K : PySem.W.Frag) : Sp := fun vs H Q _ => ∃ (a : Addr) (ns : List Int) (i : Nat), vs = [.ref a, .int (i : Nat)] ∧ SqL K H a (ns.map V.int) ∧ ns.length ≤ 63 ∧ i ≤ 1000 ∧ ∀ p H', H p = none → Same H H' → Bg p H' → Q (.ref p) H'
theorem scBg : FnScope nBg ["_law_script", "_law_at"] (defScope sBg) := ⟨rfl, rfl, rfl, by decide +kernel, rfl, by decide +kernel, by decide +kernel⟩
theorem ok_Bg {f : Addr} {fd : FuncData} (F : Fun K "_law_bag" "_law_bag" sBg f fd) (B : Bn mg) : FnOk P w K mg base CX0 1 f fd ["_law_script", "_law_at"] (spBg K) := by
  refine F.ok scBg (fun vs H Q E h => ?_) (fun cdv A outer s H vs Q E hr h => ?_)
  · obtain ⟨p, ns, pl, rfl, _⟩ := h
    rfl
  · obtain ⟨p, ns, pl, rfl, hS, few, lp, k⟩ := h
    obtain ⟨tC, hC, qC⟩ : ∃ t, PSs (cxOf CX0 P w K mg base nBg "_law_bag" (defScope sBg) f cdv A outer s H E).nox ((defBody sBg).drop 1) t ∧
        ∀ (c : Int), t { nx := fun _ H' => Q .non H', rt := Q } [some (.ref p), some (.int pl), some (.int c), none, none, none] H := by
      refine ⟨_, 
      (pss_cons (ps_set (i := 3) scBg.nd rfl (.inl rfl) (pe_op op_add (pe_op op_mul pe_int (pv 1)) pe_int))
      (pss_cons (ps_for PassesOwn.never rfl (pi_enum (by rfl) B.enumerate (pa_cons (pe_slice sl_list (pv 0) po_none (po_some pe_int)) pa_nil)) (pg_tup rfl (pgs_cons (pg_name (i := 4) scBg.nd rfl (Or.inl rfl)) (pgs_cons (pg_name (i := 5) scBg.nd rfl (Or.inl rfl)) pgs_nil))) 
        (pss_one (ps_set (i := 3) scBg.nd rfl (.inl rfl) (pe_op op_mod (pe_callTy call_int1 (by rfl) B.int PyProof.Rows.boot_int (pa_cons (pe_op op_add (pe_op op_add (pe_op op_add (pe_op op_mul (pv 3) pe_int) (pe_op op_mod (pe_callTy call_int1 (by rfl) B.int PyProof.Rows.boot_int (pa_cons (pv 5) pa_nil)) pe_int)) (pe_op op_mul pe_int (pv 4))) pe_int) pa_nil)) pe_int))))
      (pss_one (ps_ret (pe_lst (pa_cons (pe_ifExp (pt_cmpR op_ge (pe_callB call_abs (by rfl) B.abs (by decide +kernel) (pa_cons (pv 2) pa_nil)) (pe_op op_pow pe_int pe_int) (nomark _)) (pe_callB call_abs (by rfl) B.abs (by decide +kernel) (pa_cons (pv 2) pa_nil)) pe_int) (pa_cons (pv 3) pa_nil))))))), ?_⟩
      intro c
      refine ⟨_, rfl, _, _, rfl, rfl, .inl ⟨by decide, by decide⟩, _, _, rfl, rfl, ?_⟩
      refine ⟨_, rfl, 63, rfl, p, _, rfl, hS, fun l hl => ⟨l, _, rfl, SqL.of upd_same, ?_⟩⟩
      have s1 := same_new (o := .lst (cutV (ns.map V.int) none (some 63))) hl
      generalize hxs : cutV (ns.map V.int) none (some 63) = xs at s1
      have isI : ∀ v ∈ xs, ∃ z : Int, v = .int z := fun v hv => by
        rw [← hxs] at hv
        unfold cutV at hv
        have := List.mem_of_mem_drop (List.mem_of_mem_take hv)
        obtain ⟨z, _, e⟩ := List.mem_map.mp this
        exact ⟨z, e.symm⟩
      refine for_it walk_enum (fun i σ H' => ∃ (mx : Int) (y4 y5 : Option V), 0 ≤ mx ∧ mx < 2147483648 ∧ σ = [some (.ref p), some (.int pl), some (.int c), some (.int mx), y4, y5] ∧ Same (upd H l (.lst xs)) H')
        ⟨_, none, none, (by show (0 : Int) ≤ 2203 * (pl : Int) + 911; omega), (by show 2203 * (pl : Int) + 911 < 2147483648; omega), rfl, Same.refl _⟩ (fun i σ H' _ ⟨_, _, _, _, _, _, s2⟩ => SqL.of (s2 _ _ upd_same)) ?_ ?_
      · rintro i v σ H1 H2 hi ⟨mx, y4, y5, m0, m1, rfl, sm⟩ ⟨T, x, y, rfl, hT, rfl, ex, ey⟩
        injection ex with ex
        subst ex
        obtain ⟨z, rfl⟩ := isI y (List.mem_of_getElem? ey)
        refine ⟨T, [.int (i : Nat), .int z], rfl, SqT.of upd_same, rfl, _, _, rfl, _, _, rfl, rfl, ?_⟩
        have s2 := sm.trans (same_new (o := .tup [.int (i : Nat), .int z]) hT)
        refine ⟨_, rfl, _, _, rfl, rfl, .inr (by decide), _, rfl, .inl ⟨_, rfl, _, _, rfl, rfl, (by show (0 : Int) < 2147483629; decide), _, _, rfl, rfl, _, rfl, _, _, rfl, rfl, .inl ⟨by decide, by decide⟩, _, _, rfl, rfl, _, _, rfl, rfl, .inl ⟨_, rfl, _, _, rfl, rfl, (by show (0 : Int) < 2147483563; decide), ?_⟩⟩⟩
        have q := mod7 (x := mx * 38569 + z % 2147483629 + 101 * (i : Int) + 7) (b := 2147483563) (by decide)
        exact ⟨_, _, _, q.1, by omega, rfl, s2⟩
      · rintro σ H1 ⟨mx, y4, y5, m0, m1, rfl, sm⟩
        have fin : ∀ (a : Int) q, H1 q = none → Q (.ref q) (upd H1 q (.lst [.int a, .int mx])) := fun a q hq => k q _ (Same.free (s1.trans sm) hq) ((s1.trans sm).trans (same_new hq)) ⟨_, _, upd_same, m0, m1⟩
        refine ⟨_, rfl, _, rfl, _, _, rfl, rfl, ⟨by decide, by decide, by decide⟩, _, _, rfl, rfl, _, rfl, ?_⟩
        refine ite2 (fun _ => ⟨_, rfl, _, rfl, _, rfl, (by show 2 ≤ sizeLine; decide), fun q hq => fin _ q hq⟩) (fun _ => ⟨_, rfl, (by show 2 ≤ sizeLine; decide), fun q hq => fin _ q hq⟩)
    refine ⟨_, 
      (pss_cons (ps_set (i := 2) scBg.nd rfl (.inl rfl) (pe_ifExp (pt_cmpR op_lt (pv 1) (pe_callB call_len_seq (by rfl) B.len PySem.boot_len (pa_cons (pv 0) pa_nil)) (nomark _)) (pe_ix ix_list (pv 0) (pv 1) (fun _ _ => rfl)) pe_int)) hC), ?_⟩
    refine ⟨_, rfl, _, rfl, p, _, rfl, .inl hS, _, _, rfl, rfl, _, rfl, ?_⟩
    refine ite2 (fun hlt => ?_) (fun _ => ?_)
    · have hlt := of_decide_eq_true hlt
      rw [List.length_map] at hlt
      have hj : pl < ns.length := by omega
      have hx : (ns.map V.int)[pl]? = some (V.int ns[pl]) := by
        rw [List.getElem?_map, List.getElem?_eq_getElem hj]
        rfl
      exact ⟨_, rfl, _, rfl, p, _, _, _, rfl, rfl, hS, atI_nat hx, qC _⟩
    · exact qC 0
end
end W8
set_option Elab.async false
set_option linter.all false
set_option maxRecDepth 100000
set_option maxHeartbeats 4000000
namespace W8
open PySem PySem.Spec PyProof.Rows L2
theorem mk_ws {CM : Addr} {t : TA} {σ : L2.St} {H1 : Hp} {Q : VK} {E : XK} (ws : List Str) (hws : ∀ w ∈ ws, w ∈ all3) (nd : ws.Nodup) (l3 : ws.length ≤ 3) (ht : ∀ R : List V → Hp → Prop, R (ws.map V.str) H1 → t σ H1 R) (k : ∀ x H2, H1 x = none → Same H1 H2 → Mn CM H2 x (codeOf ws) → Q (.ref x) H2) : StX.tMakeR CM (spMI CM) E t σ H1 Q := ht _ (made_M hws nd l3 k)
theorem take_join : ∀ m : Cd, ∀ i : Fin 3, ((wds m)[i.val]?.map fun w => join (codeOf ((wds m).take i.val)) (codeOf [w]) == codeOf ((wds m).take (i.val + 1))) ≠ some false := by decide +kernel
section
variable {P : Program} {w : World} {K : PySem.W.Frag} {mg : Str → Option Value} {base : Heap} {CM fI fO : Addr} {fdO : FuncData}
/-! ## the eight sets -/
abbrev sEi : Stmt := top 12
abbrev nEi : List Str := []
def spEi : Sp := fun vs H Q _ => vs = [] ∧ ∀ D H', H D = none → Same H H' → Ls rT H' D e8 → Q (.ref D) H'
theorem scEi : FnScope nEi [] (defScope sEi) := ⟨rfl, rfl, rfl, by decide +kernel, rfl, by decide +kernel, by decide +kernel⟩
theorem ok_Ei {f : Addr} {fd : FuncData} (F : Fun K "_law_eight" "_law_eight" sEi f fd) : FnOk P w K mg base CX0 1 f fd [] spEi := by
  refine F.ok scEi (fun vs H Q E h => ?_) (fun cdv A outer s H vs Q E hr h => ?_)
  · obtain ⟨rfl, _⟩ := h
    rfl
  · obtain ⟨rfl, k⟩ := h
    refine ⟨_, 
      (pss_one (ps_ret (pe_lst (pa_cons (pe_tup pa_nil) (pa_cons (pe_tup (pa_cons pe_str pa_nil)) (pa_cons (pe_tup (pa_cons pe_str pa_nil)) (pa_cons (pe_tup (pa_cons pe_str pa_nil)) (pa_cons (pe_tup (pa_cons pe_str (pa_cons pe_str pa_nil))) (pa_cons (pe_tup (pa_cons pe_str (pa_cons pe_str pa_nil))) (pa_cons (pe_tup (pa_cons pe_str (pa_cons pe_str pa_nil))) (pa_cons (pe_tup (pa_cons pe_str (pa_cons pe_str (pa_cons pe_str pa_nil)))) pa_nil))))))))))), ?_⟩
    refine ⟨by show 0 ≤ sizeLine; decide, fun a0 h0 => ?_⟩
    refine ⟨by show 1 ≤ sizeLine; decide, fun a1 h1 => ?_⟩
    refine ⟨by show 1 ≤ sizeLine; decide, fun a2 h2 => ?_⟩
    refine ⟨by show 1 ≤ sizeLine; decide, fun a3 h3 => ?_⟩
    refine ⟨by show 2 ≤ sizeLine; decide, fun a4 h4 => ?_⟩
    refine ⟨by show 2 ≤ sizeLine; decide, fun a5 h5 => ?_⟩
    refine ⟨by show 2 ≤ sizeLine; decide, fun a6 h6 => ?_⟩
    refine ⟨by show 3 ≤ sizeLine; decide, fun a7 h7 => ?_⟩
    refine ⟨by show 8 ≤ sizeLine; decide, fun D hD => ?_⟩
    have s0 := same_new (o := .tup ((wds 0).map V.str)) h0
    have s1 := same_new (o := .tup ((wds 1).map V.str)) h1
    have s2 := same_new (o := .tup ((wds 2).map V.str)) h2
    have s3 := same_new (o := .tup ((wds 3).map V.str)) h3
    have s4 := same_new (o := .tup ((wds 4).map V.str)) h4
    have s5 := same_new (o := .tup ((wds 5).map V.str)) h5
    have s6 := same_new (o := .tup ((wds 6).map V.str)) h6
    have s7 := same_new (o := .tup ((wds 7).map V.str)) h7
    have sD := same_new (o := .lst [.ref a0, .ref a1, .ref a2, .ref a3, .ref a4, .ref a5, .ref a6, .ref a7]) hD
    have k7 := sD
    have k6 := s7.trans k7
    have k5 := s6.trans k6
    have k4 := s5.trans k5
    have k3 := s4.trans k4
    have k2 := s3.trans k3
    have k1 := s2.trans k2
    have k0 := s1.trans k1
    have kk := s0.trans k0
    refine k D _ (Same.free (s0.trans (s1.trans (s2.trans (s3.trans (s4.trans (s5.trans (s6.trans s7))))))) hD) kk ⟨_, upd_same, ?_⟩
    exact .cons ⟨_, rfl, k0 _ _ upd_same⟩ (.cons ⟨_, rfl, k1 _ _ upd_same⟩ (.cons ⟨_, rfl, k2 _ _ upd_same⟩ (.cons ⟨_, rfl, k3 _ _ upd_same⟩ (.cons ⟨_, rfl, k4 _ _ upd_same⟩ (.cons ⟨_, rfl, k5 _ _ upd_same⟩ (.cons ⟨_, rfl, k6 _ _ upd_same⟩ (.cons ⟨_, rfl, k7 _ _ upd_same⟩ .nil)))))))
/-! ## a set of manners by its words -/
abbrev sMs : Stmt := top 13
abbrev nMs : List Str := ["_law_names", "_law_found", "_law_name"]
def spMs (CM : Addr) : Sp := fun vs H Q _ => ∃ (a : Addr) (m : Cd), vs = [.ref a] ∧ H a = some (.tup ((wds m).map V.str)) ∧ ∀ x H', H x = none → Same H H' → Mn CM H' x m → Q (.ref x) H'
theorem scMs : FnScope nMs ["_law_names"] (defScope sMs) := ⟨rfl, rfl, rfl, by decide +kernel, rfl, by decide +kernel, by decide +kernel⟩
theorem ok_Ms {f : Addr} {fd : FuncData} (F : Fun K "_law_manners" "_law_manners" sMs f fd) (B : Bn mg) (M : MfC K mg CM) (KM : MkM P w K mg base CM fI) (OR : OwnB P w K mg base CM 4 .BitOr (spMO CM) fO fdO) :
    FnOk P w K mg base CX0 5 f fd ["_law_names"] (spMs CM) := by
  refine F.ok scMs (fun vs H Q E h => ?_) (fun cdv A outer s H vs Q E hr h => ?_)
  · obtain ⟨a, m, rfl, _⟩ := h
    rfl
  · obtain ⟨a, m, rfl, ha, k⟩ := h
    refine ⟨_, 
      (pss_cons (ps_set (i := 1) scMs.nd rfl (.inl rfl) (Wp.pe_makeR0 KM.mkr KM.ok (hr.mono (by decide)) (by rfl) M.mg pass0))
      (pss_cons (ps_for PassesOwn.never rfl (pi_tup (pv 0)) (pg_name (i := 2) scMs.nd rfl (Or.inl rfl)) 
        (pss_one (ps_set (i := 1) scMs.nd rfl (.inl rfl) (pe_op (Wp.op_ownBin OR.ok OR.bi pass0 OR.sf OR.at_ OR.fn (hr.mono (by decide))) (pv 1) (StX.pe_makeR KM.mkr KM.ok (hr.mono (by decide)) (by rfl) M.mg pass0 (pa_cons (pv 2) pa_nil))))))
      (pss_one (ps_ret (pv 1))))), ?_⟩
    dsimp only [tSeq, tAsg]
    refine mk_ws [] (by simp) (by simp) (by simp) (fun R h => h) fun x0 H1 hx0 s1 m0 => ?_
    refine ⟨_, rfl, a, rfl, ⟨_, SqT.of (s1 _ _ ha)⟩, for_it (walk_tup (xs := (wds m).map V.str))
      (fun i σ H' => ∃ x y2, σ = [some (.ref a), some (.ref x), y2] ∧ Same H H' ∧ H x = none ∧ Mn CM H' x (codeOf ((wds m).take i)))
      ⟨x0, none, rfl, s1, hx0, m0⟩ (fun i σ H' _ ⟨_, _, _, s2, _⟩ => SqT.of (s2 _ _ ha)) ?_ ?_⟩
    · rintro i v σ H2 H3 hi ⟨x, y2, rfl, s2, hx, mx⟩ ⟨rfl, hv⟩
      obtain ⟨c, hc, r⟩ := (ev_words (H := H) (wds m)).at hv
      have r : v = .str c := r
      subst r
      have mc : c ∈ wds m := List.mem_of_getElem? hc
      have i3 : i < 3 := by
        have := wds_len m
        rw [List.length_map] at hi
        omega
      have ej : join (codeOf ((wds m).take i)) (codeOf [c]) = codeOf ((wds m).take (i + 1)) := by
        have q := take_join m ⟨i, i3⟩
        simp only [hc, Option.map_some] at q
        exact beq_iff_eq.mp (by simpa using q)
      have mx0 := mx
      obtain ⟨dx, t, h1, h2⟩ := mx
      refine ⟨_, rfl, ?_⟩
      dsimp only
      refine mk_ws [c] (fun z hz => ?_) (by simp) (by simp) (fun R h => ⟨_, rfl, h⟩) fun x3 H4 hx3 s3 m3 => ?_
      · rw [List.mem_singleton.mp hz]
        exact wds_in m _ mc
      · have m30 := m3
        obtain ⟨dy, u, h3, h4⟩ := m3
        refine ⟨x, dx, _, x3, dy, _, rfl, rfl, s3 _ _ h1, h3, x, x3, _, _, rfl, mx0.same s3, m30, fun x4 H5 hx4 s4 m4 => ⟨⟨x4, rfl⟩, x4, _, rfl, (s2.trans s3).trans s4, Same.free (s2.trans s3) hx4, ?_⟩⟩
        rw [ej] at m4
        exact m4
    · rintro σ H2 ⟨x, y2, rfl, s2, hx, mx⟩
      have e : (wds m).take ((wds m).map V.str).length = wds m := by
        rw [List.length_map]
        exact List.take_length
      rw [e, code_wds] at mx
      exact ⟨_, rfl, k x H2 hx s2 mx⟩
/-! ## the very one -/
abbrev sIs : Stmt := top 14
abbrev nIs : List Str := ["_law_actual", "_law_expected"]
def spIs : Sp := fun vs H Q _ => (∃ a b : Bool, vs = [.bl a, .bl b] ∧ Q (.bl (a == b)) H) ∨ ∃ i j : Int, vs = [.int i, .int j] ∧ Q (.bl (decide (i = j))) H
theorem scIs : FnScope nIs ["_law_actual", "_law_expected"] (defScope sIs) := ⟨rfl, rfl, rfl, by decide +kernel, rfl, by decide +kernel, by decide +kernel⟩
theorem ok_Is {f : Addr} {fd : FuncData} (F : Fun K "_law_is" "_law_is" sIs f fd) (B : Bn mg) : FnOk P w K mg base CX0 1 f fd ["_law_actual", "_law_expected"] spIs := by
  refine F.ok scIs (fun vs H Q E h => ?_) (fun cdv A outer s H vs Q E hr h => ?_)
  · rcases h with ⟨a, b, rfl, _⟩ | ⟨a, b, rfl, _⟩ <;> rfl
  · refine ⟨_, 
      (pss_cons (ps_if (pt_val (pe_callB call_isi (by rfl) B.isinstance boot_isi (pa_cons (pv 1) (pa_cons (pe_bltn (v := .ty "bool") (by rfl) B.bool boot_tbool rfl) pa_nil)))) 
        (pss_one (ps_ret (pe_and (pe_callB call_isi (by rfl) B.isinstance boot_isi (pa_cons (pv 0) (pa_cons (pe_bltn (v := .ty "bool") (by rfl) B.bool boot_tbool rfl) pa_nil))) (pe_one (pe_cmpR op_eq (pv 0) (pv 1) (nomark _)))))) pss_nil)
      (pss_one (ps_ret (pe_and (pe_callB call_isi (by rfl) B.isinstance boot_isi (pa_cons (pv 0) (pa_cons (pe_bltn (v := .ty "int") (by rfl) B.int boot_tint rfl) pa_nil))) (pe_and (pe_not (pe_callB call_isi (by rfl) B.isinstance boot_isi (pa_cons (pv 0) (pa_cons (pe_bltn (v := .ty "bool") (by rfl) B.bool boot_tbool rfl) pa_nil)))) (pe_one (pe_cmpR op_eq (pv 0) (pv 1) (nomark _)))))))), ?_⟩
    rcases h with ⟨a, b, rfl, q⟩ | ⟨i, j, rfl, q⟩
    · refine ⟨_, rfl, .bl b, .ty "bool", _, _, true, rfl, .ty _, .base (.bl b), kit_ty (by decide +kernel), _, rfl, ?_⟩
      refine iteT ⟨_, rfl, .bl a, .ty "bool", _, _, true, rfl, .ty _, .base (.bl a), kit_ty (by decide +kernel), _, rfl, ?_⟩
      refine iteT ⟨_, rfl, _, rfl, rfl, ?_⟩
      have e : decide (V.bl a = V.bl b) = (a == b) := by cases a <;> cases b <;> decide
      rw [e]
      exact q
    · refine ⟨_, rfl, .int j, .ty "bool", _, _, false, rfl, .ty _, .base (.int j), kit_ty (by decide +kernel), _, rfl, ?_⟩
      refine iteF ⟨_, rfl, .int i, .ty "int", _, _, true, rfl, .ty _, .base (.int i), kit_ty (by decide +kernel), _, rfl, ?_⟩
      refine iteT ⟨_, rfl, .int i, .ty "bool", _, _, false, rfl, .ty _, .base (.int i), kit_ty (by decide +kernel), _, rfl, ?_⟩
      refine ⟨_, rfl, iteT ⟨_, rfl, _, rfl, rfl, ?_⟩⟩
      have e : decide (V.int i = V.int j) = decide (i = j) := by
        by_cases z : i = j
        · rw [z]
          simp
        · rw [decide_eq_false z, decide_eq_false fun q => z (by injection q)]
      rw [e]
      exact q
/-! ## a part -/
abbrev sPt : Stmt := top 15
abbrev nPt : List Str := ["_law_less", "_law_more", "_law_name"]
def spPt (K : PySem.W.Frag) : Sp := fun vs H Q _ => ∃ (x y : V) (m n : Cd), vs = [x, y] ∧ rT H x m ∧ rT H y n ∧ ∀ H', Same H H' → Q (.bl (sub m n)) H'
theorem scPt : FnScope nPt ["_law_less", "_law_more"] (defScope sPt) := ⟨rfl, rfl, rfl, by decide +kernel, rfl, by decide +kernel, by decide +kernel⟩
theorem eqv_nil (ds : List PyData) : PyData.eqv (.list ds) (.list []) = ds.isEmpty := by cases ds <;> rfl
theorem ok_Pt {f : Addr} {fd : FuncData} (F : Fun K "_law_part" "_law_part" sPt f fd) : FnOk P w K mg base CX0 1 f fd ["_law_less", "_law_more"] (spPt K) := by
  refine F.ok scPt (fun vs H Q E h => ?_) (fun cdv A outer s H vs Q E hr h => ?_)
  · obtain ⟨x, y, m, n, rfl, _⟩ := h
    rfl
  · obtain ⟨_, _, m, n, rfl, ⟨a, rfl, ha⟩, ⟨b, rfl, hb⟩, k⟩ := h
    have hu : (A.deeper (envOfC "_law_part" (defScope sPt) s.heap.objs.size f cdv)).units + 64 < cLine := by
      have := hr.un
      omega
    refine ⟨_, 
      (pss_one (ps_ret (pe_cmpR (show OpR _ (compareOp .Eq) (rEqD K) from op_eqD hu) (pe_lc (own := [("_law_name", 2)]) (g := gName 2) (te := tVar 2) (tt := tTest (tOp (rIn K true) (tVar 2) (tVar 1))) rfl scPt.nd (pi_tup (pv 0)) (blkOk_by (N := nPt) (sc := defScope sPt) (by decide +kernel)) (fun _ _ _ _ _ => pg_name (i := 2) scPt.nd rfl (Or.inl rfl)) (fun _ _ _ _ _ => pts_one (pt_cmpR (show OpR _ (compareOp .NotIn) (rIn K true) from op_notIn_seq) (pv 2) (pv 1) (by rfl))) (fun _ _ _ _ _ => (pv 2))) (pe_lst pa_nil) (nomark _)))), ?_⟩
    refine ⟨_, rfl, a, rfl, ⟨_, SqT.of ha⟩, fun D hD => ?_⟩
    refine lc_sieve mW mW (fun w => !(wds n).contains w) id (walk_tup (xs := (wds m).map V.str)) (by have := wds_len m; omega) (fun H' s => SqT.of (s _ _ ha)) hD (ev_words (wds m)) ?_ ?_ ?_
    · rintro v c H2 Rq _ s2 r kk
      have r : v = .str c := r
      subst r
      refine ⟨_, rfl, _, rfl, b, _, rfl, .inr (SqT.of (s2 _ _ hb)), rfl, flat_strs _, _, rfl, ?_⟩
      have := kk _ (Same.refl _)
      rw [← inV_strs] at this
      exact this
    · rintro v c H2 Rq _ _ s2 r kk
      exact ⟨_, rfl, kk _ _ (Same.refl _) r⟩
    · intro H' ys s2 eD ev
      rw [List.map_id] at ev
      have := ev_words_eq ev
      subst this
      refine ⟨Nat.zero_le _, fun q hq => ?_⟩
      have s3 := s2.trans (same_new (o := .lst []) hq)
      have eD2 := same_new (o := .lst []) hq _ _ eD
      refine ⟨_, _, .lst (SqL.of eD2) (dp_strs _), .lst (SqL.of upd_same) .nil, strs_sh fun w hw => wds_in m w (List.mem_filter.mp hw).1, rfl, ?_⟩
      rw [eqv_nil, List.isEmpty_map, sub_law]
      exact k _ s3
end
end W8
set_option Elab.async false
set_option linter.all false
set_option maxRecDepth 100000
set_option maxHeartbeats 4000000
namespace W8
open PySem PySem.Spec PyProof.Rows L2
theorem eqv_dnil (ms : List Cd) : PyData.eqv (dL ms) (.list []) = ms.isEmpty := by
  show PyData.eqv (.list (ms.map dT)) (.list []) = _
  rw [eqv_nil, List.isEmpty_map]
section
variable {P : Program} {w : World} {K : PySem.W.Frag} {mg : Str → Option Value} {base : Heap} {CM fP fE fT fO : Addr} {fdP fdE fdT fdO : FuncData}
/-! ## what tells -/
abbrev sTe : Stmt := top 16
abbrev nTe : List Str := ["_law_sets_here", "_law_one", "_law_less"]
def spTe : Sp := fun vs H Q _ => ∃ (l : Addr) (ms : List Cd), vs = [.ref l] ∧ Ls rT H l ms ∧ ms.length ≤ 1000 ∧ ∀ D H', H D = none → Same H H' → Ls rT H' D (fl (tel ms)) → Q (.ref D) H'
theorem scTe : FnScope nTe ["_law_sets_here"] (defScope sTe) := ⟨rfl, rfl, rfl, by decide +kernel, rfl, by decide +kernel, by decide +kernel⟩
theorem ok_Te {f : Addr} {fd : FuncData} (F : Fun K "_law_telling" "_law_telling" sTe f fd) (B : Bn mg) (PT : Known P w K mg base CX0 1 "_law_part" ["_law_less", "_law_more"] (spPt K) fP fdP) (EI : Known P w K mg base CX0 1 "_law_eight" [] spEi fE fdE) :
    FnOk P w K mg base CX0 2 f fd ["_law_sets_here"] spTe := by
  refine F.ok scTe (fun vs H Q E h => ?_) (fun cdv A outer s H vs Q E hr h => ?_)
  · obtain ⟨l, ms, rfl, _⟩ := h
    rfl
  · obtain ⟨l, ms, rfl, hl, few, k⟩ := h
    have hu : (A.deeper (envOfC "_law_telling" (defScope sTe) s.heap.objs.size f cdv)).units + 64 < cLine := by
      have := hr.un
      omega
    refine ⟨_, 
      (pss_one (ps_ret (pe_lc (own := [("_law_one", 1)]) (g := gName 1) (te := tVar 1) (tt := tTest (tOp (rNeD K) (tLc (iList K (tVar 0)) (gName 2) (tB (tCall (spPt K) [] E0 (tCons (tVar 2) (tCons (tVar 1) tNil)))) (tVar 2) [2]) (tLst tNil))) rfl scTe.nd (pi_list (pe_call0 EI.ok (hr.mono (by decide)) rfl EI.mg EI.kp EI.bi .nil pass0)) (blkOk_by (N := nTe) (sc := defScope sTe) (by decide +kernel)) (fun _ _ _ _ _ => pg_name (i := 1) scTe.nd rfl (Or.inr rfl)) (fun _ _ _ _ _ => pts_one (pt_cmpR (show OpR _ (compareOp .NotEq) (rNeD K) from op_neD hu) (pe_lc (own := [("_law_less", 2)]) (g := gName 2) (te := tVar 2) (tt := (tB (tCall (spPt K) [] E0 (tCons (tVar 2) (tCons (tVar 1) tNil))))) rfl scTe.nd (pi_list (pv 0)) (by exact blkOk_in (N := nTe) (defScope sTe) rfl (by decide +kernel)) (fun _ _ _ _ _ => pg_name (i := 2) scTe.nd rfl (Or.inl rfl)) (fun _ _ _ _ _ => pts_one (pt_val (pe_call PT.ok (hr.mono (by decide)) rfl PT.mg PT.kp PT.bi .nil pass0 (pa_cons (pv 2) (pa_cons (pv 1) pa_nil))))) (fun _ _ _ _ _ => (pv 2))) (pe_lst pa_nil) (nomark _))) (fun _ _ _ _ _ => (pv 1))))), ?_⟩
    refine ⟨rfl, fun D0 H1 hD0 s1 ⟨xs, hxs, evx⟩ => ⟨D0, rfl, ⟨xs, SqL.of hxs⟩, fun D hD => ?_⟩⟩
    refine lc_sieve mT mT (fun one => !(ms.filter fun less => sub less one).isEmpty) id walk_list (by decide) (fun H' s => SqL.of (s _ _ hxs)) hD evx ?_ ?_ ?_
    · rintro v c H2 Rq _ s2 rv kk
      obtain ⟨zs, hz, ez⟩ := (hl.same mT s1).same mT s2
      refine ⟨_, rfl, l, rfl, ⟨zs, SqL.of hz⟩, fun D3 hD3 => ?_⟩
      refine lc_sieve mT mT (fun less => sub less c) id walk_list few (fun H' s => SqL.of (s _ _ hz)) hD3 ez ?_ ?_ ?_
      · rintro v2 d H4 R4 _ s4 r2 k4
        exact ⟨_, rfl, _, rfl, v2, v, d, c, rfl, r2, mT _ _ _ _ (.of s4) rv, fun H5 s5 => ⟨_, rfl, k4 _ s5⟩⟩
      · rintro v2 d H4 R4 _ _ s4 r2 k4
        exact ⟨_, rfl, k4 _ _ (Same.refl _) r2⟩
      · intro H4 ys s4 eD3 evy
        rw [List.map_id] at evy
        refine ⟨Nat.zero_le _, fun q hq => ?_⟩
        have s5 := same_new (o := .lst []) hq
        refine ⟨_, .list [], dp_L (Ls.same mT ⟨ys, eD3, evy⟩ s5), .lst (SqL.of upd_same) .nil, dL_sh _, rfl, _, rfl, ?_⟩
        rw [eqv_dnil]
        exact kk _ (s4.trans s5)
    · rintro v c H2 Rq _ _ s2 r kk
      exact ⟨_, rfl, kk _ _ (Same.refl _) r⟩
    · intro H' ys s2 eD evy
      rw [List.map_id, fl_tel] at evy
      exact k D _ (Same.free s1 hD) (s1.trans s2) ⟨ys, eD, evy⟩
/-! ## the least -/
abbrev sLe : Stmt := top 17
abbrev nLe : List Str := ["_law_telling_here", "_law_one", "_law_less"]
def spLe : Sp := fun vs H Q _ => ∃ (l : Addr) (ms : List Cd), vs = [.ref l] ∧ Ls rT H l ms ∧ ms.length ≤ 1000 ∧ ∀ D H', H D = none → Same H H' → Ls rT H' D (lst ms) → Q (.ref D) H'
theorem scLe : FnScope nLe ["_law_telling_here"] (defScope sLe) := ⟨rfl, rfl, rfl, by decide +kernel, rfl, by decide +kernel, by decide +kernel⟩
theorem ok_Le {f : Addr} {fd : FuncData} (F : Fun K "_law_least" "_law_least" sLe f fd) (B : Bn mg) (PT : Known P w K mg base CX0 1 "_law_part" ["_law_less", "_law_more"] (spPt K) fP fdP) :
    FnOk P w K mg base CX0 2 f fd ["_law_telling_here"] spLe := by
  refine F.ok scLe (fun vs H Q E h => ?_) (fun cdv A outer s H vs Q E hr h => ?_)
  · obtain ⟨l, ms, rfl, _⟩ := h
    rfl
  · obtain ⟨l, ms, rfl, hl, few, k⟩ := h
    have hu : (A.deeper (envOfC "_law_least" (defScope sLe) s.heap.objs.size f cdv)).units + 64 < cLine := by
      have := hr.un
      omega
    refine ⟨_, 
      (pss_one (ps_ret (pe_lc (own := [("_law_one", 1)]) (g := gName 1) (te := tVar 1) (tt := tTest (tOp (rEqD K) (tLc (iList K (tVar 0)) (gName 2) (tAnd (tTest (tOp (rNeD K) (tVar 2) (tVar 1))) (tB (tCall (spPt K) [] E0 (tCons (tVar 2) (tCons (tVar 1) tNil))))) (tVar 2) [2]) (tLst tNil))) rfl scLe.nd (pi_list (pv 0)) (blkOk_by (N := nLe) (sc := defScope sLe) (by decide +kernel)) (fun _ _ _ _ _ => pg_name (i := 1) scLe.nd rfl (Or.inr rfl)) (fun _ _ _ _ _ => pts_one (pt_cmpR (show OpR _ (compareOp .Eq) (rEqD K) from op_eqD hu) (pe_lc (own := [("_law_less", 2)]) (g := gName 2) (te := tVar 2) (tt := (tAnd (tTest (tOp (rNeD K) (tVar 2) (tVar 1))) (tB (tCall (spPt K) [] E0 (tCons (tVar 2) (tCons (tVar 1) tNil)))))) rfl scLe.nd (pi_list (pv 0)) (by exact blkOk_in (N := nLe) (defScope sLe) rfl (by decide +kernel)) (fun _ _ _ _ _ => pg_name (i := 2) scLe.nd rfl (Or.inl rfl)) (fun _ _ _ _ _ => pts_one (PW.pt (pw_and (pt_cmpR (show OpR _ (compareOp .NotEq) (rNeD K) from op_neD hu) (pv 2) (pv 1) (nomark _)) (pw_and1 (pt_val (pe_call PT.ok (hr.mono (by decide)) rfl PT.mg PT.kp PT.bi .nil pass0 (pa_cons (pv 2) (pa_cons (pv 1) pa_nil)))))))) (fun _ _ _ _ _ => (pv 2))) (pe_lst pa_nil) (nomark _))) (fun _ _ _ _ _ => (pv 1))))), ?_⟩
    have hl0 := hl
    obtain ⟨xs, hxs, evx⟩ := hl
    refine ⟨_, rfl, l, rfl, ⟨xs, SqL.of hxs⟩, fun D hD => ?_⟩
    refine lc_sieve mT mT (fun one => (ms.filter fun less => less != one && sub less one).isEmpty) id walk_list few (fun H' s => SqL.of (s _ _ hxs)) hD evx ?_ ?_ ?_
    · rintro v c H2 Rq _ s2 rv kk
      obtain ⟨zs, hz, ez⟩ := hl0.same mT s2
      refine ⟨_, rfl, l, rfl, ⟨zs, SqL.of hz⟩, fun D3 hD3 => ?_⟩
      refine lc_sieve mT mT (fun less => less != c && sub less c) id walk_list few (fun H' s => SqL.of (s _ _ hz)) hD3 ez ?_ ?_ ?_
      · rintro v2 d H4 R4 _ s4 r2 k4
        have rv4 := mT _ _ _ _ (.of s4) rv
        refine ⟨_, rfl, _, rfl, dT d, dT c, dp_T r2, dp_T rv4, dT_sh d, dT_sh c, _, rfl, ?_⟩
        rw [eqv_dT]
        have z := k4
        rw [show (d != c) = !decide (d = c) from rfl] at z
        cases e : decide (d = c) with
        | true =>
          rw [e] at z
          exact iteF (z _ (Same.refl _))
        | false =>
          rw [e] at z
          exact iteT ⟨_, rfl, _, rfl, v2, v, d, c, rfl, r2, rv4, fun H5 s5 => ⟨_, rfl, z _ s5⟩⟩
      · rintro v2 d H4 R4 _ _ s4 r2 k4
        exact ⟨_, rfl, k4 _ _ (Same.refl _) r2⟩
      · intro H4 ys s4 eD3 evy
        rw [List.map_id] at evy
        refine ⟨Nat.zero_le _, fun q hq => ?_⟩
        have s5 := same_new (o := .lst []) hq
        refine ⟨_, .list [], dp_L (Ls.same mT ⟨ys, eD3, evy⟩ s5), .lst (SqL.of upd_same) .nil, dL_sh _, rfl, _, rfl, ?_⟩
        rw [eqv_dnil]
        exact kk _ (s4.trans s5)
    · rintro v c H2 Rq _ _ s2 r kk
      exact ⟨_, rfl, kk _ _ (Same.refl _) r⟩
    · intro H' ys s2 eD evy
      rw [List.map_id] at evy
      exact k D _ hD s2 ⟨ys, eD, evy⟩
/-! ## the greatest -/
abbrev sGe : Stmt := top 18
abbrev nGe : List Str := ["_law_telling_here", "_law_quiet", "_law_one", "_law_more"]
def spGe : Sp := fun vs H Q _ => ∃ (l : Addr) (t : Nat), vs = [.ref l] ∧ Ls rT H l (fl t) ∧ ∀ D H', H D = none → Same H H' → Ls rT H' D (grs (ql t)) → Q (.ref D) H'
theorem scGe : FnScope nGe ["_law_telling_here"] (defScope sGe) := ⟨rfl, rfl, rfl, by decide +kernel, rfl, by decide +kernel, by decide +kernel⟩
theorem ok_Ge {f : Addr} {fd : FuncData} (F : Fun K "_law_greatest" "_law_greatest" sGe f fd) (B : Bn mg) (PT : Known P w K mg base CX0 1 "_law_part" ["_law_less", "_law_more"] (spPt K) fP fdP) (EI : Known P w K mg base CX0 1 "_law_eight" [] spEi fE fdE) :
    FnOk P w K mg base CX0 2 f fd ["_law_telling_here"] spGe := by
  refine F.ok scGe (fun vs H Q E h => ?_) (fun cdv A outer s H vs Q E hr h => ?_)
  · obtain ⟨l, t, rfl, _⟩ := h
    rfl
  · obtain ⟨l, t, rfl, hl, k⟩ := h
    have hu65 : (A.deeper (envOfC "_law_greatest" (defScope sGe) s.heap.objs.size f cdv)).units + 65 < cLine := by
      have := hr.un
      omega
    have hu : (A.deeper (envOfC "_law_greatest" (defScope sGe) s.heap.objs.size f cdv)).units + 64 < cLine := by omega
    refine ⟨_, 
      (pss_cons (ps_set (i := 1) scGe.nd rfl (.inr rfl) (pe_lc (own := [("_law_one", 2)]) (g := gName 2) (te := tVar 2) (tt := tTest (tOp (rNotInD K) (tVar 2) (tVar 0))) rfl scGe.nd (pi_list (pe_call0 EI.ok (hr.mono (by decide)) rfl EI.mg EI.kp EI.bi .nil pass0)) (blkOk_by (N := nGe) (sc := defScope sGe) (by decide +kernel)) (fun _ _ _ _ _ => pg_name (i := 2) scGe.nd rfl (Or.inl rfl)) (fun _ _ _ _ _ => pts_one (pt_cmpR (show OpR _ (compareOp .NotIn) (rNotInD K) from op_notInD hu65) (pv 2) (pv 0) (by rfl))) (fun _ _ _ _ _ => (pv 2))))
      (pss_one (ps_ret (pe_lc (own := [("_law_one", 2)]) (g := gName 2) (te := tVar 2) (tt := tTest (tOp (rEqD K) (tLc (iList K (tVar 1)) (gName 3) (tAnd (tTest (tOp (rNeD K) (tVar 3) (tVar 2))) (tB (tCall (spPt K) [] E0 (tCons (tVar 2) (tCons (tVar 3) tNil))))) (tVar 3) [3]) (tLst tNil))) rfl scGe.nd (pi_list (pv 1)) (blkOk_by (N := nGe) (sc := defScope sGe) (by decide +kernel)) (fun _ _ _ _ _ => pg_name (i := 2) scGe.nd rfl (Or.inr rfl)) (fun _ _ _ _ _ => pts_one (pt_cmpR (show OpR _ (compareOp .Eq) (rEqD K) from op_eqD hu) (pe_lc (own := [("_law_more", 3)]) (g := gName 3) (te := tVar 3) (tt := (tAnd (tTest (tOp (rNeD K) (tVar 3) (tVar 2))) (tB (tCall (spPt K) [] E0 (tCons (tVar 2) (tCons (tVar 3) tNil)))))) rfl scGe.nd (pi_list (pv 1)) (by exact blkOk_in (N := nGe) (defScope sGe) rfl (by decide +kernel)) (fun _ _ _ _ _ => pg_name (i := 3) scGe.nd rfl (Or.inl rfl)) (fun _ _ _ _ _ => pts_one (PW.pt (pw_and (pt_cmpR (show OpR _ (compareOp .NotEq) (rNeD K) from op_neD hu) (pv 3) (pv 2) (nomark _)) (pw_and1 (pt_val (pe_call PT.ok (hr.mono (by decide)) rfl PT.mg PT.kp PT.bi .nil pass0 (pa_cons (pv 2) (pa_cons (pv 3) pa_nil)))))))) (fun _ _ _ _ _ => (pv 3))) (pe_lst pa_nil) (nomark _))) (fun _ _ _ _ _ => (pv 2)))))), ?_⟩
    refine ⟨rfl, fun D0 H1 hD0 s1 ⟨xs, hxs, evx⟩ => ⟨D0, rfl, ⟨xs, SqL.of hxs⟩, fun D hD => ?_⟩⟩
    refine lc_sieve mT mT (fun m => !(fl t).contains m) id walk_list (by decide) (fun H' s => SqL.of (s _ _ hxs)) hD evx ?_ ?_ ?_
    · rintro v c H2 Rq _ s2 rv kk
      refine ⟨_, rfl, _, rfl, dT c, _, dp_T rv, dp_L ((hl.same mT s1).same mT s2), dT_sh c, dL_sh _, _, rfl, ?_⟩
      rw [any_dT]
      exact kk _ (Same.refl _)
    · rintro v c H2 Rq _ _ s2 r kk
      exact ⟨_, rfl, kk _ _ (Same.refl _) r⟩
    · intro H' us s2 eD evu
      rw [List.map_id, ql_eq] at evu
      have lg : (ql t).length ≤ 1000 := by have := ql_len t; omega
      refine ⟨_, rfl, D, rfl, ⟨us, SqL.of eD⟩, fun D2 hD2 => ?_⟩
      refine lc_sieve mT mT (fun one => ((ql t).filter fun more => more != one && sub one more).isEmpty) id walk_list lg (fun H' s => SqL.of (s _ _ eD)) hD2 evu ?_ ?_ ?_
      · rintro v c H2 Rq _ s3 rv kk
        have hz := s3 _ _ eD
        have ez := evu.same mT s3
        refine ⟨_, rfl, D, rfl, ⟨us, SqL.of hz⟩, fun D3 hD3 => ?_⟩
        refine lc_sieve mT mT (fun more => more != c && sub c more) id walk_list lg (fun H' s => SqL.of (s _ _ hz)) hD3 ez ?_ ?_ ?_
        · rintro v2 d H4 R4 _ s4 r2 k4
          have rv4 := mT _ _ _ _ (.of s4) rv
          refine ⟨_, rfl, _, rfl, dT d, dT c, dp_T r2, dp_T rv4, dT_sh d, dT_sh c, _, rfl, ?_⟩
          rw [eqv_dT]
          have z := k4
          rw [show (d != c) = !decide (d = c) from rfl] at z
          cases e : decide (d = c) with
          | true =>
            rw [e] at z
            exact iteF (z _ (Same.refl _))
          | false =>
            rw [e] at z
            exact iteT ⟨_, rfl, _, rfl, v, v2, c, d, rfl, rv4, r2, fun H5 s5 => ⟨_, rfl, z _ s5⟩⟩
        · rintro v2 d H4 R4 _ _ s4 r2 k4
          exact ⟨_, rfl, k4 _ _ (Same.refl _) r2⟩
        · intro H4 ys s4 eD3 evy
          rw [List.map_id] at evy
          refine ⟨Nat.zero_le _, fun q hq => ?_⟩
          have s5 := same_new (o := .lst []) hq
          refine ⟨_, .list [], dp_L (Ls.same mT ⟨ys, eD3, evy⟩ s5), .lst (SqL.of upd_same) .nil, dL_sh _, rfl, _, rfl, ?_⟩
          rw [eqv_dnil]
          exact kk _ (s4.trans s5)
      · rintro v c H2 Rq _ _ s2 r kk
        exact ⟨_, rfl, kk _ _ (Same.refl _) r⟩
      · intro H3 ys s3 eD2 evy
        rw [List.map_id] at evy
        have s4 := s1.trans s2
        exact k D2 _ (Same.free s4 hD2) (s4.trans s3) ⟨ys, eD2, evy⟩
end
end W8
set_option Elab.async false
set_option linter.all false
set_option maxRecDepth 100000
set_option maxHeartbeats 4000000
namespace W8
open PySem PySem.Spec PyProof.Rows L2
theorem Bg.kp {p : Addr} {H H' : Hp} (h : Bg p H) (b : But p H H') : Kp H H' := fun c o n e => by
  refine b c o (fun z => ?_) e
  obtain ⟨x, y, q, _⟩ := h
  rw [z, q] at e
  exact n _ (Option.some.inj e).symm
theorem But.none {p : Addr} {H H' : Hp} (b : But p H H') (h : Bg p H) {q : Addr} (e : H' q = Option.none) (h' : Bg p H') : H q = Option.none := by
  cases z : H q with
  | none => rfl
  | some o =>
    by_cases y : q = p
    · obtain ⟨_, _, r, _⟩ := h'
      rw [y, r] at e
      cases e
    · rw [b _ _ y z] at e
      cases e
theorem Bg.ne {p q : Addr} {H : Hp} (h : Bg p H) (e : H q = Option.none) : q ≠ p := fun z => by
  obtain ⟨_, _, r, _⟩ := h
  rw [z, r] at e
  cases e
theorem cut_at {xs : List V} (h : xs.length = 8) {k : Int} (k0 : 0 ≤ k) (k1 : k < 2) : ∃ j : Nat, j < 2 ∧ cutV xs (some k) none = xs.drop j := by
  obtain ⟨j, rfl⟩ := Int.eq_ofNat_of_zero_le k0
  refine ⟨j, by omega, ?_⟩
  unfold cutV
  rw [h]
  have hj : j = 0 ∨ j = 1 := by omega
  rcases hj with rfl | rfl
  · show (xs.drop 0).take 8 = _
    exact List.take_of_length_le (by simp [h])
  · show (xs.drop 1).take 7 = _
    exact List.take_of_length_le (by simp [h])
section
variable {P : Program} {w : World} {K : PySem.W.Frag} {mg : Str → Option Value} {base : Heap} {CM fP fE fT fO : Addr} {fdP fdE fdT fdO : FuncData}
/-! ## up to ten sets -/
abbrev sSs : Stmt := top 20
abbrev nSs : List Str := ["_law_bag_here", "_law_turn"]
def spSs : Sp := fun vs H Q _ => ∃ (p : Addr), vs = [.ref p] ∧ Bg p H ∧ ∀ (D : Addr) (ms : List Cd) H', H D = none → But p H H' → Bg p H' → Ls rT H' D ms → ms.length ≤ 10 → Q (.ref D) H'
theorem scSs : FnScope nSs ["_law_bag_here"] (defScope sSs) := ⟨rfl, rfl, rfl, by decide +kernel, rfl, by decide +kernel, by decide +kernel⟩
theorem ok_Ss {f : Addr} {fd : FuncData} (F : Fun K "_law_sets" "_law_sets" sSs f fd) (B : Bn mg) (TK : Known P w K mg base CX0 1 "_law_take" ["_law_bag_here", "_law_many"] spTk fT fdT) (OF : Known P w K mg base CX0 2 "_law_of" ["_law_bag_here", "_law_some"] (spOf K) fO fdO)
    (EI : Known P w K mg base CX0 1 "_law_eight" [] spEi fE fdE) : FnOk P w K mg base CX0 3 f fd ["_law_bag_here"] spSs := by
  refine F.ok scSs (fun vs H Q E h => ?_) (fun cdv A outer s H vs Q E hr h => ?_)
  · obtain ⟨p, rfl, _⟩ := h
    rfl
  · obtain ⟨p, rfl, S, k⟩ := h
    refine ⟨_, 
      (pss_one (ps_ret (pe_lc (own := [("_law_turn", 1)]) (g := gName 1) (tt := tYes) (te := tCall (spOf K) [] E0 (tCons (tVar 0) (tCons (tSl (rSlL K) (tCall spEi [] E0 tNil) (tPart (tCall spTk [] E0 (tCons (tVar 0) (tCons (tC (.int 2)) tNil)))) tNoPart) tNil))) rfl scSs.nd (pi_range1 rfl B.range (pa_cons (pe_call OF.ok (hr.mono (by decide)) rfl OF.mg OF.kp OF.bi .nil pass0 (pa_cons (pv 0) (pa_cons (pe_lst (pa_cons pe_int (pa_cons pe_int (pa_cons pe_int (pa_cons pe_int (pa_cons pe_int (pa_cons pe_int pa_nil))))))) pa_nil))) pa_nil)) (blkOk_by (N := nSs) (sc := defScope sSs) (by decide +kernel)) (fun _ _ _ _ _ => pg_name (i := 1) scSs.nd rfl (Or.inl rfl)) (fun _ _ _ _ _ => pts_nil) (fun _ _ _ _ _ => (pe_call OF.ok (hr.mono (by decide)) rfl OF.mg OF.kp OF.bi .nil pass0 (pa_cons (pv 0) (pa_cons (pe_slice (show SlR _ (rSlL K) from sl_list) (pe_call0 EI.ok (hr.mono (by decide)) rfl EI.mg EI.kp EI.bi .nil pass0) (po_some (pe_call TK.ok (hr.mono (by decide)) rfl TK.mg TK.kp TK.bi .nil pass0 (pa_cons (pv 0) (pa_cons pe_int pa_nil)))) po_none) pa_nil))))))), ?_⟩
    refine ⟨_, rfl, (by show 6 ≤ sizeLine; decide), fun l hl => ?_⟩
    have s1 := same_new (o := .lst [.int 0, .int 1, .int 2, .int 3, .int 4, .int 10]) hl
    refine ⟨p, l, _, rfl, S.same s1, SqL.of upd_same, S.ne hl, by decide, by decide, fun x H2 hx b2 S2 => ?_⟩
    obtain ⟨n, rfl, n10⟩ : ∃ n : Nat, x = .int (n : Nat) ∧ n ≤ 10 := by
      simp only [List.mem_cons, List.not_mem_nil, or_false] at hx
      rcases hx with rfl | rfl | rfl | rfl | rfl | rfl
      · exact ⟨0, rfl, by decide⟩
      · exact ⟨1, rfl, by decide⟩
      · exact ⟨2, rfl, by decide⟩
      · exact ⟨3, rfl, by decide⟩
      · exact ⟨4, rfl, by decide⟩
      · exact ⟨10, rfl, by decide⟩
    have b02 : But p H H2 := (But.of s1).trans b2
    refine ⟨_, rfl, by omega, by omega, fun D hD => ?_⟩
    rw [show ((n : Nat) : Int).toNat = n from Int.toNat_natCast n]
    have nD : D ≠ p := S2.ne hD
    have HD : H D = none := b02.none S hD S2
    refine lc_it walk_range (fun i H' => But p H H' ∧ Bg p H' ∧ ∃ ys ms, ms.length = i ∧ H' D = some (.lst ys) ∧ Ev rT H' ys ms) ⟨b02.trans (But.of (same_new hD)), S2.same (same_new hD), [], [], rfl, upd_same, Ev.nil⟩ (fun _ _ _ _ => trivial) ?_ ?_
    · rintro i y H5 H6 hi ⟨b5, S5, ys, ms, lm, eD, ey⟩ ⟨rfl, rfl⟩
      refine ⟨rfl, ?_⟩
      refine ⟨_, rfl, rfl, fun D0 H7 hD0 s7 ⟨xs, hxs, evx⟩ => ?_⟩
      have S7 := S5.same s7
      refine ⟨_, rfl, p, 2, rfl, S7, by decide, by decide, fun v H8 v0 v1 b8 S8 => ?_⟩
      have nD0 : D0 ≠ p := S5.ne hD0
      have hx8 := b8 _ _ nD0 hxs
      have ex8 := evx.kp mT (S7.kp b8)
      obtain ⟨j, j2, ec⟩ := cut_at evx.1 v0 v1
      refine ⟨_, rfl, D0, xs, rfl, SqL.of hx8, fun q hq => ?_⟩
      rw [ec]
      have s9 := same_new (o := .lst (xs.drop j)) hq
      have ed := (ex8.drop j).same mT s9
      have l8 : (xs.drop j).length = 8 - j := by
        rw [List.length_drop, evx.1]
        rfl
      refine ⟨p, q, _, rfl, S8.same s9, SqL.of upd_same, S8.ne hq, by omega, by omega, fun x H10 hx b10 S10 => ?_⟩
      have b5_10 : But p H6 H10 := ((But.of s7).trans b8).trans ((But.of s9).trans b10)
      obtain ⟨i2, hi2, e2⟩ := List.getElem_of_mem hx
      obtain ⟨c, hc, r⟩ := ed.at (x := x) (i := i2) (by rw [List.getElem?_eq_getElem hi2, e2])
      have r10 := mT _ _ _ _ ((S8.same s9).kp b10) r
      have eD10 := b5_10 _ _ nD eD
      refine ⟨ys, eD10, ?_, ?_, ?_, ys ++ [x], ms ++ [c], by simp [lm], upd_same, ?_⟩
      · rw [ey.1, lm, sizeLine_eq]
        omega
      · exact fun b o nb e => by
          rw [upd_ne (ne_of_none e HD)]
          exact b5_10 _ _ nb (b5 _ _ nb e)
      · obtain ⟨a1, a2, a3, a4⟩ := S10
        exact ⟨a1, a2, by rw [upd_ne (Ne.symm nD)]; exact a3, a4⟩
      · have z : Ev rT H10 (ys ++ [x]) (ms ++ [c]) := (ey.kp mT (S5.kp b5_10)).append (Ev.cons r10 Ev.nil)
        exact z.kp mT (.lst eD10)
    · rintro H5 ⟨b5, S5, ys, ms, lm, eD, ey⟩
      exact k D ms H5 (b02.none S hD S2) b5 S5 ⟨ys, eD, ey⟩ (by omega)
end
end W8
set_option Elab.async false
set_option linter.all false
set_option maxRecDepth 100000
set_option maxHeartbeats 4000000
namespace W8
open PySem PySem.Spec PyProof.Rows L2
structure PrC (P : Program) (w : World) (K : PySem.W.Frag) (mg : Str → Option Value) (base : Heap) (CP CM : Addr) : Prop where
  it : ∃ f fd, NOk P w K mg base CX0 1 f fd ["self"] (spIt CP CM) ∧ Binds K fd ["self"] [] ∧ PySem.W.findIn K (.ref CP) "__iter__" = some (some (.ref f)) ∧ PySem.W.isFn K (.ref f) = true
  ln : ∃ f fd, KMth P w K mg base CP 5 "__len__" ["self"] (spLn CP CM) f fd
  ct : ∃ f fd, KMth P w K mg base CP 3 "__contains__" ["self", "x"] (spCt CP CM) f fd
  gr : ∃ f fd, KMth P w K mg base CP 5 "greatest" ["self"] (spGr CP CM) f fd
  qu : ∃ p f fd, PropOf K CP "is_quiet" p f ∧ FnOk P w K mg base CX0 1 f fd ["self"] (spQu CP CM) ∧ Binds K fd ["self"] []
section
variable {P : Program} {w : World} {K : PySem.W.Frag} {mg : Str → Option Value} {base : Heap} {CM CP fL fE fG fM fS fI : Addr} {fdL fdE fdG fdM fdS : FuncData}
/-! ## a profile that fits -/
abbrev sFi : Stmt := top 19
abbrev nFi : List Str := ["_law_profile", "_law_telling_here", "_law_least_here", "_law_one", "_law_told"]
def spFi (CP CM : Addr) : Sp := fun vs H Q _ => ∃ (a l : Addr) (t : Nat), vs = [.ref a, .ref l] ∧ Pf CP CM H a t ∧ Ls rT H l (fl t) ∧ ∀ H', Same H H' → Q (.bl true) H'
theorem scFi : FnScope nFi ["_law_profile", "_law_telling_here"] (defScope sFi) := ⟨rfl, rfl, rfl, by decide +kernel, rfl, by decide +kernel, by decide +kernel⟩
theorem names_sieve {CM : Addr} (M : MfC K mg CM) {J : It} {G : Hp → Prop} {xs : List V} {cs : List Cd} {σ : L2.St} {H : Hp} {D : Addr} {Q : Hp → Prop} (hσ : 3 < σ.length)
    (w : Walk J xs.length G (YAt xs)) (few : cs.length ≤ 1000) (hG : ∀ H', Same H H' → G H') (new : H D = none) (ev : Ev (rM CM) H xs cs) (k : ∀ H', Same H H' → Ls rT H' D cs → Q H') :
    ∃ W : Nat → Nat → Hp → Prop, (∃ m, W 0 m (upd H D (.lst []))) ∧ ∀ j m H, W j m H →
      (J.stop j H ∧ Q H) ∨ (J.go j H ∧ ∃ Nx : Hp → Prop, (∀ H', Nx H' → ∃ m', m' < m ∧ W (j + 1) m' H') ∧ ∀ x H', J.yld j H x H' → gName 3 x (wipe σ [3]) H' fun σ2 H2 => wipe σ2 [3] = wipe σ [3] ∧ tYes σ2 H2 fun b H3 =>
        if b = true then tFld K (tVar 3) "names" σ2 H3 fun y H4 => ∃ acc, H4 D = some (.lst acc) ∧ acc.length < sizeLine ∧ Nx (upd H4 D (.lst (acc ++ [y]))) else Nx H3) := by
  refine lc_sieve (mM CM) mT (fun _ => true) id w few hG new ev (fun v c H2 Rq _ _ _ kk => kk _ (Same.refl _)) ?_ ?_
  · rintro v c H2 Rq _ _ s2 ⟨a, rfl, dx, t, h1, h2⟩ kk
    exact ⟨_, by simp [hσ], a, CM, dx, _, _, rfl, h1, M.own.cl, M.no, lk1, kk _ _ (Same.refl _) ⟨t, rfl, h2⟩⟩
  · intro H' ys s2 eD ev2
    rw [List.map_id, List.filter_eq_self.mpr fun _ _ => rfl] at ev2
    exact k H' s2 ⟨ys, eD, ev2⟩
theorem ne_L {K : PySem.W.Frag} {H : Hp} {x y : Addr} {ms : List Cd} {Q : VK} (hx : Ls rT H x ms) (hy : Ls rT H y ms) (q : Q (.bl false) H) : rNeD K (.ref x) (.ref y) H Q := by
  refine ⟨dL ms, dL ms, dp_L hx, dp_L hy, dL_sh _, dL_sh _, ?_⟩
  rw [eqv_dL, decide_eq_true rfl]
  exact q
theorem ok_Fi {f : Addr} {fd : FuncData} (F : Fun K "_law_fits" "_law_fits" sFi f fd) (B : Bn mg) (M : MfC K mg CM) (N : PfC K mg CP) (KM : MkM P w K mg base CM fI) (R : PrC P w K mg base CP CM)
    (LE : Known P w K mg base CX0 2 "_law_least" ["_law_telling_here"] spLe fL fdL) (GE : Known P w K mg base CX0 2 "_law_greatest" ["_law_telling_here"] spGe fG fdG) (EI : Known P w K mg base CX0 1 "_law_eight" [] spEi fE fdE)
    (MS : Known P w K mg base CX0 5 "_law_manners" ["_law_names"] (spMs CM) fM fdM) (IS : Known P w K mg base CX0 1 "_law_is" ["_law_actual", "_law_expected"] spIs fS fdS) :
    FnOk P w K mg base CX0 8 f fd ["_law_profile", "_law_telling_here"] (spFi CP CM) := by
  obtain ⟨fIt, fdIt, IT, bIT, aIT, fIT⟩ := R.it
  obtain ⟨fLn, fdLn, LN⟩ := R.ln
  obtain ⟨fCt, fdCt, CT⟩ := R.ct
  obtain ⟨fGr, fdGr, GR⟩ := R.gr
  obtain ⟨pQu, fQu, fdQu, pQU, QU, bQU⟩ := R.qu
  refine F.ok scFi (fun vs H Q E h => ?_) (fun cdv A outer s H vs Q E hr h => ?_)
  · obtain ⟨a, l, t, rfl, _⟩ := h
    rfl
  · obtain ⟨a, l, t, rfl, pf, hl, k⟩ := h
    have hu65 : (A.deeper (envOfC "_law_fits" (defScope sFi) s.heap.objs.size f cdv)).units + 65 < cLine := by
      have := hr.un
      omega
    have hu : (A.deeper (envOfC "_law_fits" (defScope sFi) s.heap.objs.size f cdv)).units + 64 < cLine := by omega
    obtain ⟨tC, hC, qC⟩ : ∃ t, PSs (cxOf CX0 P w K mg base nFi "_law_fits" (defScope sFi) f cdv A outer s H E).nox ((defBody sFi).drop 4) t ∧
        ∀ (H1 : Hp) (y2 y3 : Option V), Same H H1 → t { nx := fun _ H' => Q .non H', rt := Q } [some (.ref a), some (.ref l), y2, y3, none] H1 := by
      refine ⟨_, 
      (pss_cons (ps_set (i := 4) scFi.nd rfl (.inl rfl) (pe_meth0 (pv 0) N.own.cl GR.mt GR.ok (hr.mono (by decide)) GR.bi .nil pass0))
      (pss_cons (ps_if (PW.pt (pw_or (pt_not (pt_val (pe_callB call_isi (by rfl) B.isinstance boot_isi (pa_cons (pv 4) (pa_cons (pe_bltn (v := .ty "list") (by rfl) B.list PyProof.Rows.boot_list rfl) pa_nil))))) (pw_or1 (pt_cmpR (op_neD hu) (pe_lc (own := [("_law_one", 3)]) (g := gName 3) (tt := tYes) (te := tFld K (tVar 3) "names") rfl scFi.nd (pi_list (pv 4)) (blkOk_by (N := nFi) (sc := defScope sFi) (by decide +kernel)) (fun _ _ _ _ _ => pg_name (i := 3) scFi.nd rfl (Or.inl rfl)) (fun _ _ _ _ _ => pts_nil) (fun _ _ _ _ _ => (pe_fld (pv 3) rfl))) (pe_call GE.ok (hr.mono (by decide)) rfl GE.mg GE.kp GE.bi .nil pass0 (pa_cons (pv 1) pa_nil)) (nomark _))))) 
        (pss_one (ps_ret pe_bl)) pss_nil)
      (pss_cons (ps_expr (pe_bm PySem.F.plainAttrs_list PySem.F.slot_list_append PySem.F.type_list_append mt_append (pv 4) (pa_cons (StX.pe_makeR KM.mkr KM.ok (hr.mono (by decide)) (by rfl) M.mg pass0 (pa_cons pe_str pa_nil)) pa_nil)))
      (pss_cons (ps_if (pt_cmpR (op_neD hu) (pe_lc (own := [("_law_one", 3)]) (g := gName 3) (tt := tYes) (te := tFld K (tVar 3) "names") rfl scFi.nd (pi_list (pe_meth0 (pv 0) N.own.cl GR.mt GR.ok (hr.mono (by decide)) GR.bi .nil pass0)) (blkOk_by (N := nFi) (sc := defScope sFi) (by decide +kernel)) (fun _ _ _ _ _ => pg_name (i := 3) scFi.nd rfl (Or.inl rfl)) (fun _ _ _ _ _ => pts_nil) (fun _ _ _ _ _ => (pe_fld (pv 3) rfl))) (pe_call GE.ok (hr.mono (by decide)) rfl GE.mg GE.kp GE.bi .nil pass0 (pa_cons (pv 1) pa_nil)) (nomark _)) 
        (pss_one (ps_ret pe_bl)) pss_nil)
      (pss_one (ps_ret (pe_and (pe_call IS.ok (hr.mono (by decide)) rfl IS.mg IS.kp IS.bi .nil pass0 (pa_cons (pe_callB (Wk.call_ownLen LN.ok LN.bi pass0 LN.mt.at_ LN.mt.fn (hr.mono (by decide))) (by rfl) B.len PySem.boot_len (pa_cons (pv 0) pa_nil)) (pa_cons (pe_callB call_len_seq (by rfl) B.len PySem.boot_len (pa_cons (pv 1) pa_nil)) pa_nil))) (pe_one (pe_call IS.ok (hr.mono (by decide)) rfl IS.mg IS.kp IS.bi .nil pass0 (pa_cons (pe_prop (pv 0) N.own.cl pQU QU (hr.mono (by decide)) bQU .nil pass0 rfl) (pa_cons (pe_cmpR (op_eqD hu) (pv 1) (pe_lst pa_nil) (nomark _)) pa_nil))))))))))), ?_⟩
      intro H1 y2 y3 s1
      have pf1 := pf.same s1
      have pf10 := pf1
      obtain ⟨uc, dx, tp, h1, us, hu1, eu⟩ := pf1
      have few : (grs (ql t)).length ≤ 1000 := by
        have := grs_len (ql t)
        have := ql_len t
        omega
      refine ⟨_, rfl, a, dx, _, rfl, h1, lk_none, a, t, rfl, pf10, fun D4 H2 hD4 s2 ⟨gs, hg, eg⟩ => ?_⟩
      refine ⟨_, rfl, .ref D4, .ty "list", _, _, true, rfl, .ty _, .base (.lst hg), kit_ty (by decide +kernel), _, rfl, iteF ?_⟩
      refine ⟨_, rfl, D4, rfl, ⟨_, SqL.of hg⟩, fun D hD => ?_⟩
      refine names_sieve M (by show 3 < 5; decide) walk_list few (fun H' s => SqL.of (s _ _ hg)) hD eg fun H3 s3 hN => ?_
      have s13 := (s1.trans s2).trans s3
      refine ⟨_, rfl, l, t, rfl, hl.same mT s13, fun D5 H5 hD5 s5 hG => ?_⟩
      refine ne_L (hN.same mT s5) hG ⟨_, rfl, iteF ?_⟩
      have hg5 := (s3.trans s5) _ _ hg
      have s15 := s13.trans s5
      have HD4 : H D4 = none := Same.free s1 hD4
      refine ⟨_, rfl, .inl ⟨rfl, _, SqL.of hg5⟩, ?_⟩
      dsimp only [tCons]
      refine mk_ws [wSet] (by simp [all3]) (by simp) (by simp) (fun R h => h) fun x H6 hx s6 mx => ?_
      have hg6 := s6 _ _ hg5
      refine ⟨D4, _, _, rfl, rfl, hg6, ?_, ?_⟩
      · have := eg.1
        rw [sizeLine_eq]
        omega
      have s7 : Same H (upd H6 D4 (.lst (gs ++ [.ref x]))) := (s15.trans s6).over HD4
      generalize upd H6 D4 (.lst (gs ++ [.ref x])) = H7 at s7
      have pf7 := pf.same s7
      have pf70 := pf7
      obtain ⟨uc7, dx7, tp7, h7, _⟩ := pf7
      refine ⟨_, rfl, a, dx7, _, rfl, h7, lk_none, a, t, rfl, pf70, fun D8 H8 hD8 s8 ⟨gs8, hg8, eg8⟩ => ⟨D8, rfl, ⟨_, SqL.of hg8⟩, fun D9 hD9 => ?_⟩⟩
      refine names_sieve M (by show 3 < 5; decide) walk_list few (fun H' s => SqL.of (s _ _ hg8)) hD9 eg8 fun H9 s9 hN9 => ?_
      have s79 := (s7.trans s8).trans s9
      refine ⟨_, rfl, l, t, rfl, hl.same mT s79, fun D10 H10 hD10 s10 hG10 => ?_⟩
      refine ne_L (hN9.same mT s10) hG10 ⟨_, rfl, iteF ?_⟩
      have s11 := s79.trans s10
      have pf11 := pf.same s11
      have pf110 := pf11
      obtain ⟨uc11, dx11, tp11, h11, _⟩ := pf11
      have lf := fl_len t
      refine ⟨_, rfl, a, dx11, _, rfl, h11, a, t, rfl, pf110, fun H12 s12 => ⟨((fl t).length : Nat), rfl, by omega, by omega, ?_⟩⟩
      obtain ⟨zs, hz, ez⟩ := hl.same mT (s11.trans s12)
      refine ⟨_, rfl, l, zs, rfl, .inl (SqL.of hz), .inr ⟨_, _, rfl, _, rfl, ?_⟩⟩
      rw [ez.1, decide_eq_true rfl]
      refine iteT ?_
      have pf12 := pf.same (s11.trans s12)
      have pf120 := pf12
      obtain ⟨uc12, dx12, tp12, h12, _⟩ := pf12
      refine ⟨_, rfl, a, dx12, _, rfl, h12, a, t, rfl, pf120, _, rfl, Nat.zero_le _, fun q hq => ?_⟩
      have s13' := (s11.trans s12).trans (same_new (o := .lst []) hq)
      refine ⟨_, .list [], dp_L (hl.same mT s13'), .lst (SqL.of upd_same) .nil, dL_sh _, rfl, .inl ⟨_, _, rfl, ?_⟩⟩
      rw [eqv_dnil, beq_self_eq_true]
      exact k _ s13'
    obtain ⟨tB, hB, qB⟩ : ∃ t, PSs (cxOf CX0 P w K mg base nFi "_law_fits" (defScope sFi) f cdv A outer s H E).nox ((defBody sFi).drop 3) t ∧
        ∀ (H1 : Hp) (y2 : Option V), Same H H1 → t { nx := fun _ H' => Q .non H', rt := Q } [some (.ref a), some (.ref l), y2, none, none] H1 := by
      refine ⟨_, 
      (pss_cons (ps_for PassesOwn.never rfl (pi_list (pe_call0 EI.ok (hr.mono (by decide)) rfl EI.mg EI.kp EI.bi .nil pass0)) (pg_name (i := 3) scFi.nd rfl (Or.inl rfl)) 
        (pss_one (ps_if (pt_not (pt_val (pe_call IS.ok (hr.mono (by decide)) rfl IS.mg IS.kp IS.bi .nil pass0 (pa_cons (pe_cmpR (Wk.op_ownIn CT.ok CT.bi pass0 CT.mt.at_ CT.mt.fn (hr.mono (by decide))) (pe_call MS.ok (hr.mono (by decide)) rfl MS.mg MS.kp MS.bi .nil pass0 (pa_cons (pv 3) pa_nil)) (pv 0) (by rfl)) (pa_cons (pe_cmpR (op_inD hu65) (pv 3) (pv 1) (by rfl)) pa_nil))))) 
          (pss_one (ps_ret pe_bl)) pss_nil))) hC), ?_⟩
      intro H1 y2 s1
      refine ⟨rfl, fun D0 H2 hD0 s2 ⟨xs, hxs, evx⟩ => ⟨D0, rfl, ⟨xs, SqL.of hxs⟩, ?_⟩⟩
      refine for_it walk_list (fun i σ H' => ∃ y3, σ = [some (.ref a), some (.ref l), y2, y3, none] ∧ Same H2 H') ⟨none, rfl, Same.refl _⟩ (fun i σ H' _ ⟨_, _, s⟩ => SqL.of (s _ _ hxs)) ?_ ?_
      · rintro i v σ H3 H4 hi ⟨y3, rfl, s3⟩ ⟨rfl, hv⟩
        obtain ⟨c, hc, b, rfl, hb⟩ := (evx.same mT s3).at hv
        refine ⟨_, rfl, b, c, rfl, hb, fun x H5 hx s5 mx => ?_⟩
        have s05 := ((s1.trans s2).trans s3).trans s5
        have pf5 := pf.same s05
        have pf50 := pf5
        obtain ⟨uc, dx, tp, h1, _⟩ := pf5
        refine ⟨_, rfl, a, dx, _, rfl, h1, a, x, t, c, rfl, pf50, mx, fun H6 s6 => ⟨_, rfl, ?_⟩⟩
        refine ⟨_, rfl, _, rfl, dT c, _, dp_T ⟨b, rfl, (s5.trans s6) _ _ hb⟩, dp_L (hl.same mT (s05.trans s6)), dT_sh c, dL_sh _, ?_⟩
        rw [any_dT, mem_fl]
        refine .inl ⟨_, _, rfl, _, rfl, ?_⟩
        rw [beq_self_eq_true]
        exact iteF ⟨_, rfl, s3.trans (s5.trans s6)⟩
      · rintro σ H3 ⟨y3, rfl, s3⟩
        exact qC H3 _ _ ((s1.trans s2).trans s3)
    refine ⟨_, 
      (pss_cons (ps_set (i := 2) scFi.nd rfl (.inl rfl) (pe_call LE.ok (hr.mono (by decide)) rfl LE.mg LE.kp LE.bi .nil pass0 (pa_cons (pv 1) pa_nil)))
      (pss_cons (ps_if (PW.pt (pw_or (pt_not (pt_val (pe_callB call_isi (by rfl) B.isinstance boot_isi (pa_cons (pv 0) (pa_cons (pe_glob (v := .ref CP) (by rfl) N.mg rfl) pa_nil))))) (pw_or1 (pt_not (pt_val (pe_callB call_isi (by rfl) B.isinstance boot_isi (pa_cons (pe_fld (pv 0) rfl) (pa_cons (pe_bltn (v := .ty "tuple") (by rfl) B.tuple boot_ttuple rfl) pa_nil)))))))) 
        (pss_one (ps_ret pe_bl)) pss_nil)
      (pss_cons (ps_if (PW.pt (pw_or (pt_cmpR (op_neD hu) (pe_lc (own := [("_law_one", 3)]) (g := gName 3) (tt := tYes) (te := tFld K (tVar 3) "names") rfl scFi.nd (pi_tup (pe_fld (pv 0) rfl)) (blkOk_by (N := nFi) (sc := defScope sFi) (by decide +kernel)) (fun _ _ _ _ _ => pg_name (i := 3) scFi.nd rfl (Or.inl rfl)) (fun _ _ _ _ _ => pts_nil) (fun _ _ _ _ _ => (pe_fld (pv 3) rfl))) (pv 2) (nomark _)) (pw_or1 (pt_cmpR (op_neD hu) (pe_lc (own := [("_law_one", 3)]) (g := gName 3) (tt := tYes) (te := tFld K (tVar 3) "names") rfl scFi.nd (pi_own (E := E0) (pv 0) IT bIT aIT fIT (hr.mono (by decide))) (blkOk_by (N := nFi) (sc := defScope sFi) (by decide +kernel)) (fun _ _ _ _ _ => pg_name (i := 3) scFi.nd rfl (Or.inl rfl)) (fun _ _ _ _ _ => pts_nil) (fun _ _ _ _ _ => (pe_fld (pv 3) rfl))) (pv 2) (nomark _))))) 
        (pss_one (ps_ret pe_bl)) pss_nil) hB))), ?_⟩
    have few : (fl t).length ≤ 1000 := by
      have := fl_len t
      omega
    have fewl : (lst (fl t)).length ≤ 1000 := by
      have := lst_len (fl t)
      omega
    refine ⟨_, rfl, l, fl t, rfl, hl, few, fun D1 H1 hD1 s1 hL1 => ?_⟩
    have pf1 := pf.same s1
    have pf10 := pf1
    obtain ⟨uc, dx, tp, h1, us, hu1, eu⟩ := pf1
    refine ⟨_, rfl, .ref a, .ref CP, _, _, true, rfl, .own _, N.own.ty h1, N.own.self, _, rfl, iteF ?_⟩
    refine ⟨_, rfl, a, CP, dx, _, _, rfl, h1, N.own.cl, N.no, lk1, .ref tp, .ty "tuple", _, _, true, rfl, .ty _, .base (.tup hu1), kit_ty (by decide +kernel), _, rfl, iteF ?_⟩
    refine ⟨_, rfl, a, CP, dx, _, _, rfl, h1, N.own.cl, N.no, lk1, tp, rfl, ⟨_, SqT.of hu1⟩, fun D hD => ?_⟩
    refine names_sieve M (by show 3 < 5; decide) walk_tup fewl (fun H' s => SqT.of (s _ _ hu1)) hD eu fun H2 s2 hN => ?_
    refine ⟨_, rfl, ne_L hN (hL1.same mT s2) ⟨_, rfl, iteF ?_⟩⟩
    have pf2 := pf10.same s2
    refine ⟨_, rfl, a, dx, _, rfl, s2 _ _ h1, fun n hn => ⟨a, t, rfl, pf2, fun l2 it hit nit ⟨ws, hw, ew⟩ => ⟨l2, it, rfl, hit, nit, rfl, fun D3 hD3 => ?_⟩⟩⟩
    refine names_sieve M (by show 3 < 5; decide) walk_tup fewl (fun H' s => SqT.of (s _ _ hw)) hD3 ew fun H3 s3 hN3 => ?_
    refine ⟨_, rfl, ne_L hN3 ((hL1.same mT s2).same mT s3) ⟨_, rfl, iteF ?_⟩⟩
    exact qB H3 _ ((s1.trans s2).trans s3)
end
end W8
set_option Elab.async false
set_option linter.all false
set_option maxRecDepth 100000
set_option maxHeartbeats 4000000
namespace Wp8
open PySem PySem.Spec PyProof.Rows L2 Wp
open PySem.W (InstAt Looks findIn isFn mroIn notFirst)
/-- == of an own thing beside whatever does not go first -/
def rOwn2 (K : PySem.W.Frag) (C : Addr) (sp : Sp) (E : XK) : R2 := fun x y H Q => ∃ (a dx : Addr) (fs : List (Str × V)), x = .ref a ∧ H a = some (.ins C dx fs) ∧ (Second K H C y ∨ ∃ q ys, y = .ref q ∧ H q = some (.lst ys) ∧ notFirst K C (.type "list") = true) ∧
  sp [x, y] H (fun v H' => ∃ k, v = .bl k ∧ Q (.bl k) H') E
theorem op_ownEq2 {X : Cx} {CX : CXT} {n : Nat} {C f : Addr} {fd : FuncData} {ps : List Str} {sp : Sp} {E : XK} (F : FnOk X.prog X.w X.K X.mg X.base CX n f fd ps sp) (hb : Binds X.K fd ps []) (hx : Passes CX X E) (O : OwnEqual X.K C f) (room : Room n X.A) : OpR X (compareOp .Eq) (rOwn2 X.K C sp E) := by
  rintro pins s σ H x y v u Q I rx ry ⟨a, dx, fs, rfl, ha, sec, p⟩
  obtain ⟨tb, lk, nf⟩ : ∃ tb, Looks (model X.prog X.w) s.heap (typeOf u) tb ∧ notFirst X.K C tb = true := by
    rcases sec with sec | ⟨q, ys, rfl, hq, nf⟩
    · exact sec.type I ry
    · cases ry
      obtain ⟨_, its, n0, _, _, ho⟩ := I.lstM hq
      exact ⟨_, (Looks.ld ho).andThen .now, nf⟩
  cases rx
  obtain ⟨mA, J, _⟩ := ins_get I.hok ha
  obtain ⟨od, J, _⟩ := J.look
  obtain ⟨m, fr⟩ := I.fr
  show wpAny _ _ (richCompare .Eq _ _) _ _ _
  refine PySem.W.cmp_K (op := .Eq) room.units0 fr I.ok.mod.kin J lk nf O.eq O.fn ?_
  refine wpAny_mono (run_own F hb hx room rfl I (ys := [.ref a, y]) (.cons (show L2.RelV (.ref a) (.ref a) from rfl) (.cons ry .nil)) p) ?_ fun _ _ e => e
  rintro r s2 ⟨z, σ2, J2, rz, k, rfl, q⟩
  obtain rfl := rz
  exact ⟨.bl k, _, J2, (show L2.RelV (.bl k) (.bool k) from rfl), q⟩
end Wp8
namespace W8
open PySem PySem.Spec PyProof.Rows L2
open Wp (OwnEqual Answ)
structure EqP (P : Program) (w : World) (K : PySem.W.Frag) (mg : Str → Option Value) (base : Heap) (CP CM f : Addr) (fd : FuncData) : Prop where
  ok : FnOk P w K mg base CX0 3 f fd ["self", "other"] (spPE CP CM)
  bi : Binds K fd ["self", "other"] []
  own : OwnEqual K CP f
  nf : PySem.W.notFirst K CP (.ref CP) = true
  nt : PySem.W.notFirst K CP (.type "tuple") = true
  nl : PySem.W.notFirst K CP (.type "list") = true
section
variable {P : Program} {w : World} {K : PySem.W.Frag} {mg : Str → Option Value} {base : Heap} {CM CP fI fJ fQ fO fA fW f1 f2 f3 f4 f5 f6 f7 f8 : Addr} {fdJ fdQ fdO fdA fdW fd1 fd2 fd3 fd4 fd5 fd6 fd7 fd8 : FuncData}
def loopBody : Stmt → List Stmt
  | .For _ _ b _ _ => b
  | _ => []
abbrev sLw : Stmt := top 21
abbrev nLw : List Str := ["_law_script", "_law_at", "_law_bag_here", "_law_sets_here", "_law_others", "_law_given", "_law_one", "_law_two", "_law_first", "_law_second", "_law_each"]
def spLw (K : PySem.W.Frag) : Sp := fun vs H Q _ => ∃ (a : Addr) (ns : List Int), vs = [.ref a] ∧ SqL K H a (ns.map V.int) ∧ ns.length ≤ 63 ∧ ∀ H', Q (.bl true) H'
theorem scLw : FnScope nLw ["_law_script"] (defScope sLw) := ⟨rfl, rfl, rfl, by decide +kernel, rfl, by decide +kernel, by decide +kernel⟩
abbrev bLw : List Stmt := loopBody ((defBody sLw).getD 0 (.Pass ⟨0, 0, 0, 0⟩))
abbrev cxLw (P : Program) (w : World) (K : PySem.W.Frag) (mg : Str → Option Value) (base : Heap) (f : Addr) (cdv : Value) (A : Around) (outer : List Env) (s : Shared) (H : Hp) (E : XK) : Cx :=
  (cxOf CX0 P w K mg base nLw "law" (defScope sLw) f cdv A outer s H E).nox
end
structure AllC (P : Program) (w : World) (K : PySem.W.Frag) (mg : Str → Option Value) (base : Heap) (CM CP : Addr) : Prop where
  B : Bn mg
  M : MfC K mg CM
  N : PfC K mg CP
  KM : ∃ f, MkM P w K mg base CM f
  KP : ∃ f fd, MkP P w K mg base CP CM f fd
  R : PrC P w K mg base CP CM
  PQ : ∃ f fd, EqP P w K mg base CP CM f fd
  PO : ∃ f fd, OwnB P w K mg base CP 8 .BitOr (spPO Nat.lor CP CM) f fd
  PA : ∃ f fd, OwnB P w K mg base CP 8 .BitAnd (spPO Nat.land CP CM) f fd
  PW : ∃ f fd, KMth P w K mg base CP 4 "within" ["self", "other"] (spPW CP CM) f fd
  BG : ∃ f fd, Known P w K mg base CX0 1 "_law_bag" ["_law_script", "_law_at"] (spBg K) f fd
  SS : ∃ f fd, Known P w K mg base CX0 3 "_law_sets" ["_law_bag_here"] spSs f fd
  MS : ∃ f fd, Known P w K mg base CX0 5 "_law_manners" ["_law_names"] (spMs CM) f fd
  TK : ∃ f fd, Known P w K mg base CX0 1 "_law_take" ["_law_bag_here", "_law_many"] spTk f fd
  TE : ∃ f fd, Known P w K mg base CX0 2 "_law_telling" ["_law_sets_here"] spTe f fd
  FI : ∃ f fd, Known P w K mg base CX0 8 "_law_fits" ["_law_profile", "_law_telling_here"] (spFi CP CM) f fd
  EI : ∃ f fd, Known P w K mg base CX0 1 "_law_eight" [] spEi f fd
  IS : ∃ f fd, Known P w K mg base CX0 1 "_law_is" ["_law_actual", "_law_expected"] spIs f fd
/-- what stands behind the drawing -/
structure Std (CP CM : Addr) (o6 o7 d8 d9 : Addr) (t u : Nat) (H : Hp) : Prop where
  p1 : Pf CP CM H o6 t
  p2 : Pf CP CM H o7 u
  l1 : Ls rT H d8 (fl t)
  l2 : Ls rT H d9 (fl u)
theorem Std.same {CP CM o6 o7 d8 d9 : Addr} {t u : Nat} {H H' : Hp} (h : Std CP CM o6 o7 d8 d9 t u H) (s : Same H H') : Std CP CM o6 o7 d8 d9 t u H' := ⟨h.p1.same s, h.p2.same s, h.l1.same mT s, h.l2.same mT s⟩
section
variable {P : Program} {w : World} {K : PySem.W.Frag} {mg : Str → Option Value} {base : Heap} {CM CP : Addr} {f : Addr} {cdv : Value} {A : Around} {outer : List Env} {s : Shared} {H0 : Hp} {E : XK}
theorem eq_list {fQ : Addr} {fdQ : FuncData} (PQ : EqP P w K mg base CP CM fQ fdQ) {H : Hp} {o q : Addr} {t : Nat} {ys : List V} {Q : VK} (p : Pf CP CM H o t) (hq : H q = some (.lst ys)) (k : Q (.bl false) H) : Wp8.rOwn2 K CP (spPE CP CM) E0 (.ref o) (.ref q) H Q := by
  have p0 := p
  obtain ⟨uc, dx, tp, h1, _⟩ := p
  exact ⟨o, dx, _, rfl, h1, .inr ⟨q, ys, rfl, hq, PQ.nl⟩, o, q, t, rfl, p0, .inr ⟨⟨ys, .inl hq⟩, _, rfl, k⟩⟩
theorem eq_prof {fQ : Addr} {fdQ : FuncData} (PQ : EqP P w K mg base CP CM fQ fdQ) {H : Hp} {o q : Addr} {t u : Nat} {Q : VK} (p : Pf CP CM H o t) (p2 : Pf CP CM H q u) (k : Q (.bl (decide (fl t = fl u))) H) : Wp8.rOwn2 K CP (spPE CP CM) E0 (.ref o) (.ref q) H Q := by
  have p0 := p
  have p20 := p2
  obtain ⟨uc, dx, tp, h1, _⟩ := p
  obtain ⟨uc2, dy, tq, h3, _⟩ := p2
  exact ⟨o, dx, _, rfl, h1, .inl (.ins q CP dy _ h3 PQ.nf), o, q, t, rfl, p0, .inl ⟨u, p20, _, rfl, k⟩⟩
theorem list_prof {X : Cx} {H : Hp} {o : Addr} {t : Nat} {Q : VK} (hK : X.K = K) (p : Pf CP CM H o t) (k : ∀ q H4 ws, Same H H4 → H4 q = some (.lst ws) → Ev (rM CM) H4 ws (lst (fl t)) → Q (.ref q) H4) : rListOwn X CP (spIt CP CM) (spLn CP CM) E0 [.ref o] H Q := by
  have p0 := p
  obtain ⟨uc, dx, tp, h1, _⟩ := p
  refine ⟨o, dx, _, rfl, h1, fun q n hq => ⟨o, t, rfl, p0.same (same_new hq), fun l it hit nit ⟨ws, hw, ew⟩ => ⟨l, it, rfl, hit, nit, rfl, ws, ?_, ?_, ?_, ?_⟩⟩⟩
  · refine SqT.of ?_
    by_cases z : l = q
    · rw [z, upd_same] at hw
      cases hw
    · rw [upd_ne z] at hw
      exact hw
  · rw [ew.1]
    have := lst_len (fl t)
    have := fl_len t
    omega
  · refine ⟨o, t, rfl, (p0.same (same_new hq)).same (same_new hit), fun H' s => ⟨_, rfl, by omega, ?_, s⟩⟩
    have := fl_len t
    omega
  · refine fun H4 s4 hq4 => k q H4 ws s4 hq4 ?_
    have e : Ev (rM CM) H ws (lst (fl t)) := by
      refine ⟨ew.1, fun i v c h1 h2 => ?_⟩
      obtain ⟨a, ea, dy, tt, h3, h4⟩ := ew.2 i v c h1 h2
      refine ⟨a, ea, dy, tt, ?_, ?_⟩
      · by_cases z : a = q
        · rw [z, upd_same] at h3
          cases h3
        · rw [upd_ne z] at h3
          exact h3
      · by_cases z : tt = q
        · rw [z, upd_same] at h4
          cases h4
        · rw [upd_ne z] at h4
          exact h4
    exact e.same (mM CM) s4
/-- the last two tests of a turn -/
theorem lw12 (Z : AllC P w K mg base CM CP) (hr : Room 9 (A.deeper (envOfC "law" (defScope sLw) s.heap.objs.size f cdv))) :
    ∃ t, PSs (cxLw P w K mg base f cdv A outer s H0 E) (bLw.drop 12) t ∧
      ∀ (D : Ends) (y0 y1 y2 y3 y4 y5 : Option V) (o6 o7 d8 d9 : Addr) (t8 t9 : Nat) (y10 : Option V) (H : Hp), Std CP CM o6 o7 d8 d9 t8 t9 H →
        (∀ H', Same H H' → D.nx [y0, y1, y2, y3, y4, y5, some (.ref o6), some (.ref o7), some (.ref d8), some (.ref d9), y10] H') →
        t D [y0, y1, y2, y3, y4, y5, some (.ref o6), some (.ref o7), some (.ref d8), some (.ref d9), y10] H := by
  obtain ⟨fKM, KM⟩ := Z.KM
  obtain ⟨fKP, fdKP, KP⟩ := Z.KP
  obtain ⟨fIt, fdIt, IT, bIT, aIT, fIT⟩ := Z.R.it
  obtain ⟨fLn, fdLn, LN⟩ := Z.R.ln
  obtain ⟨fQ, fdQ, PQ⟩ := Z.PQ
  obtain ⟨fI, fdI, IS⟩ := Z.IS
  obtain ⟨fF, fdF, FI⟩ := Z.FI
  have B := Z.B
  have N := Z.N
  have hu : (A.deeper (envOfC "law" (defScope sLw) s.heap.objs.size f cdv)).units + 64 < cLine := by
    have := hr.un
    omega
  refine ⟨_, 
      (pss_cons (ps_if (PW.pt (pw_or (pt_not (pt_val (pe_call IS.ok (hr.mono (by decide)) rfl IS.mg IS.kp IS.bi .nil pass0 (pa_cons (pe_cmpR (Wp8.op_ownEq2 PQ.ok PQ.bi pass0 PQ.own (hr.mono (by decide))) (pv 6) (pv 7) (nomark _)) (pa_cons (pe_cmpR (op_eqD hu) (pv 8) (pv 9) (nomark _)) pa_nil))))) (pw_or1 (pt_not (pt_val (pe_call IS.ok (hr.mono (by decide)) rfl IS.mg IS.kp IS.bi .nil pass0 (pa_cons (pe_cmpR (Wp8.op_ownEq2 PQ.ok PQ.bi pass0 PQ.own (hr.mono (by decide))) (pv 6) (pe_make KP.mkr KP.ok (hr.mono (by decide)) (by rfl) N.mg KP.bi .nil pass0 (pa_cons (pe_callTy (call_listIt (E := E0) IT bIT aIT fIT LN.ok LN.bi LN.mt.at_ LN.mt.fn (hr.mono (by decide)) (hr.mono (by decide)) rfl) (by rfl) B.list PyProof.Rows.boot_list (pa_cons (pv 6) pa_nil)) pa_nil)) (nomark _)) (pa_cons pe_bl pa_nil)))))))) 
        (pss_one (ps_ret pe_bl)) pss_nil)
      (pss_one (ps_if (PW.pt (pw_or (pt_cmpR (Wp8.op_ownEq2 PQ.ok PQ.bi pass0 PQ.own (hr.mono (by decide))) (pv 6) (pe_fld (pv 6) rfl) (nomark _)) (pw_or (pt_cmpR (Wp8.op_ownEq2 PQ.ok PQ.bi pass0 PQ.own (hr.mono (by decide))) (pv 6) (pe_callTy (call_listIt (E := E0) IT bIT aIT fIT LN.ok LN.bi LN.mt.at_ LN.mt.fn (hr.mono (by decide)) (hr.mono (by decide)) rfl) (by rfl) B.list PyProof.Rows.boot_list (pa_cons (pv 6) pa_nil)) (nomark _)) (pw_or (pt_not (pt_val (pe_call FI.ok (hr.mono (by decide)) rfl FI.mg FI.kp FI.bi .nil pass0 (pa_cons (pv 6) (pa_cons (pv 8) pa_nil))))) (pw_or1 (pt_not (pt_val (pe_call FI.ok (hr.mono (by decide)) rfl FI.mg FI.kp FI.bi .nil pass0 (pa_cons (pv 7) (pa_cons (pv 9) pa_nil)))))))))) 
        (pss_one (ps_ret pe_bl)) pss_nil))), ?_⟩
  intro D y0 y1 y2 y3 y4 y5 o6 o7 d8 d9 t8 t9 y10 H S k
  have pf0 := S.p1
  refine ⟨_, rfl, _, rfl, eq_prof PQ S.p1 S.p2 ⟨_, rfl, _, rfl, dL (fl t8), dL (fl t9), dp_L S.l1, dp_L S.l2, dL_sh _, dL_sh _, ?_⟩⟩
  rw [eqv_dL]
  refine .inl ⟨_, _, rfl, _, rfl, ?_⟩
  rw [beq_self_eq_true]
  refine iteF ?_
  refine ⟨_, rfl, _, rfl, ?_⟩
  dsimp only [tNil]
  refine list_prof rfl S.p1 fun q H4 ws s4 hq4 ew4 => ?_
  have few : (lst (fl t8)).length ≤ 1000 := by
    have := lst_len (fl t8)
    have := fl_len t8
    omega
  dsimp only [tCons, tC, tNil, List.append_nil]
  refine made_P (Q := fun y H2 => Wp8.rOwn2 K CP (spPE CP CM) E0 (.ref o6) y H2 _) (.inl (SqL.of hq4)) ew4 few fun x H5 hx s5 px => ?_
  rw [tel_lst S.p1.1] at px
  have S5 := (S.same s4).same s5
  refine eq_prof PQ S5.p1 px (.inl ⟨_, _, rfl, _, rfl, ?_⟩)
  rw [decide_eq_true rfl]
  refine iteF ?_
  -- the last test
  have p5 := S5.p1
  obtain ⟨uc, dx, tp, h1, us, hu1, eu⟩ := p5
  refine ⟨_, rfl, _, rfl, o6, CP, dx, _, _, rfl, h1, N.own.cl, N.no, lk1, o6, dx, _, rfl, h1, .inl (.tup tp _ (SqT.of hu1) PQ.nt), o6, tp, t8, rfl, S5.p1, .inr ⟨⟨us, .inr hu1⟩, _, rfl, _, rfl, iteF ?_⟩⟩
  refine ⟨_, rfl, _, rfl, ?_⟩
  dsimp only [tNil]
  refine list_prof rfl S5.p1 fun q2 H6 ws2 s6 hq6 ew6 => ?_
  have S6 := S5.same s6
  refine eq_list PQ S6.p1 hq6 ?_
  refine ⟨_, rfl, iteF ?_⟩
  refine ⟨_, rfl, _, rfl, o6, d8, t8, rfl, S6.p1, S6.l1, fun H7 s7 => ⟨_, rfl, iteF ?_⟩⟩
  have S7 := S6.same s7
  refine ⟨_, rfl, _, rfl, o7, d9, t9, rfl, S7.p2, S7.l2, fun H8 s8 => ⟨_, rfl, iteF ?_⟩⟩
  exact k H8 ((((s4.trans s5).trans s6).trans s7).trans s8)
end
end W8
set_option Elab.async false
set_option linter.all false
set_option maxRecDepth 100000
set_option maxHeartbeats 4000000
namespace W8
open PySem PySem.Spec PyProof.Rows L2
open Wp (OwnEqual Answ)
section
variable {P : Program} {w : World} {K : PySem.W.Frag} {mg : Str → Option Value} {base : Heap} {CM CP : Addr} {f : Addr} {cdv : Value} {A : Around} {outer : List Env} {s : Shared} {H0 : Hp} {E : XK}
theorem few_fl (t : Nat) : (fl t).length ≤ 1000 := by
  have := fl_len t
  omega
/-- joined, met, within -/
theorem lw9 (Z : AllC P w K mg base CM CP) (hr : Room 9 (A.deeper (envOfC "law" (defScope sLw) s.heap.objs.size f cdv))) :
    ∃ t, PSs (cxLw P w K mg base f cdv A outer s H0 E) (bLw.drop 9) t ∧
      ∀ (D : Ends) (y0 y1 y2 y3 y4 y5 : Option V) (o6 o7 d8 d9 : Addr) (t8 t9 : Nat) (y10 : Option V) (H : Hp), Std CP CM o6 o7 d8 d9 t8 t9 H →
        (∀ H', Same H H' → D.nx [y0, y1, y2, y3, y4, y5, some (.ref o6), some (.ref o7), some (.ref d8), some (.ref d9), y10] H') →
        t D [y0, y1, y2, y3, y4, y5, some (.ref o6), some (.ref o7), some (.ref d8), some (.ref d9), y10] H := by
  obtain ⟨tL, hL, qL⟩ := lw12 (w := w) (mg := mg) (base := base) (outer := outer) (H0 := H0) (E := E) Z hr
  obtain ⟨fPO, fdPO, PO⟩ := Z.PO
  obtain ⟨fPA, fdPA, PA⟩ := Z.PA
  obtain ⟨fPW, fdPW, WN⟩ := Z.PW
  obtain ⟨fE, fdE, EI⟩ := Z.EI
  obtain ⟨fI, fdI, IS⟩ := Z.IS
  obtain ⟨fF, fdF, FI⟩ := Z.FI
  have B := Z.B
  have N := Z.N
  have hu65 : (A.deeper (envOfC "law" (defScope sLw) s.heap.objs.size f cdv)).units + 65 < cLine := by
    have := hr.un
    omega
  have hu : (A.deeper (envOfC "law" (defScope sLw) s.heap.objs.size f cdv)).units + 64 < cLine := by omega
  refine ⟨_, 
      (pss_cons (ps_if (pt_not (pt_val (pe_call FI.ok (hr.mono (by decide)) rfl FI.mg FI.kp FI.bi .nil pass0 (pa_cons (pe_op (Wp.op_ownBin PO.ok PO.bi pass0 PO.sf PO.at_ PO.fn (hr.mono (by decide))) (pv 6) (pv 7)) (pa_cons (pe_lc (own := [("_law_each", 10)]) (g := gName 10) (te := tVar 10) (tt := tOr (tTest (tOp (rInD K) (tVar 10) (tVar 8))) (tTest (tOp (rInD K) (tVar 10) (tVar 9)))) rfl scLw.nd (pi_list (pe_call0 EI.ok (hr.mono (by decide)) rfl EI.mg EI.kp EI.bi .nil pass0)) (blkOk_by (N := nLw) (sc := defScope sLw) (by decide +kernel)) (fun _ _ _ _ _ => pg_name (i := 10) scLw.nd rfl (Or.inl rfl)) (fun _ _ _ _ _ => pts_one (PW.pt (pw_or (pt_cmpR (show OpR _ (compareOp .In) (rInD K) from op_inD hu65) (pv 10) (pv 8) (by rfl)) (pw_or1 (pt_cmpR (show OpR _ (compareOp .In) (rInD K) from op_inD hu65) (pv 10) (pv 9) (by rfl)))))) (fun _ _ _ _ _ => (pv 10))) pa_nil))))) 
        (pss_one (ps_ret pe_bl)) pss_nil)
      (pss_cons (ps_if (pt_not (pt_val (pe_call FI.ok (hr.mono (by decide)) rfl FI.mg FI.kp FI.bi .nil pass0 (pa_cons (pe_op (Wp.op_ownBin PA.ok PA.bi pass0 PA.sf PA.at_ PA.fn (hr.mono (by decide))) (pv 6) (pv 7)) (pa_cons (pe_lc (own := [("_law_each", 10)]) (g := gName 10) (te := tVar 10) (tt := (tTest (tOp (rInD K) (tVar 10) (tVar 9)))) rfl scLw.nd (pi_list (pv 8)) (blkOk_by (N := nLw) (sc := defScope sLw) (by decide +kernel)) (fun _ _ _ _ _ => pg_name (i := 10) scLw.nd rfl (Or.inl rfl)) (fun _ _ _ _ _ => pts_one (pt_cmpR (show OpR _ (compareOp .In) (rInD K) from op_inD hu65) (pv 10) (pv 9) (by rfl))) (fun _ _ _ _ _ => (pv 10))) pa_nil))))) 
        (pss_one (ps_ret pe_bl)) pss_nil)
      (pss_cons (ps_if (pt_not (pt_val (pe_call IS.ok (hr.mono (by decide)) rfl IS.mg IS.kp IS.bi .nil pass0 (pa_cons (pe_meth (pv 6) N.own.cl WN.mt WN.ok (hr.mono (by decide)) WN.bi .nil pass0 (pa_cons (pv 7) pa_nil)) (pa_cons (pe_cmpR (op_eqD hu) (pe_lc (own := [("_law_each", 10)]) (g := gName 10) (te := tVar 10) (tt := tTest (tOp (rNotInD K) (tVar 10) (tVar 9))) rfl scLw.nd (pi_list (pv 8)) (blkOk_by (N := nLw) (sc := defScope sLw) (by decide +kernel)) (fun _ _ _ _ _ => pg_name (i := 10) scLw.nd rfl (Or.inl rfl)) (fun _ _ _ _ _ => pts_one (pt_cmpR (show OpR _ (compareOp .NotIn) (rNotInD K) from op_notInD hu65) (pv 10) (pv 9) (by rfl))) (fun _ _ _ _ _ => (pv 10))) (pe_lst pa_nil) (nomark _)) pa_nil))))) 
        (pss_one (ps_ret pe_bl)) pss_nil) hL))), ?_⟩
  intro D y0 y1 y2 y3 y4 y5 o6 o7 d8 d9 t8 t9 y10 H S k
  have p1 := S.p1
  have p2 := S.p2
  obtain ⟨uc1, dx, tp, h1, _⟩ := p1
  obtain ⟨uc2, dy, tq, h2, _⟩ := p2
  -- joined
  refine ⟨_, rfl, _, rfl, o6, dx, _, o7, dy, _, rfl, rfl, h1, h2, o6, o7, t8, t9, rfl, S.p1, S.p2, fun x H1 hx s1 px => ⟨⟨x, rfl⟩, ?_⟩⟩
  have S1 := S.same s1
  refine ⟨rfl, fun D0 H2 hD0 s2 ⟨xs, hxs, evx⟩ => ⟨D0, rfl, ⟨xs, SqL.of hxs⟩, fun DL hDL => ?_⟩⟩
  have S2 := S1.same s2
  refine lc_sieve mT mT (fun m => (fl t8).contains m || (fl t9).contains m) id walk_list (by decide) (fun H' s => SqL.of (s _ _ hxs)) hDL evx ?_ ?_ ?_
  · rintro v c H3 Rq _ s3 rv kk
    have z := kk _ (Same.refl _)
    have S3 := S2.same s3
    refine ⟨_, rfl, _, rfl, dT c, _, dp_T rv, dp_L S3.l1, dT_sh c, dL_sh _, _, rfl, ?_⟩
    rw [any_dT]
    cases e : (fl t8).contains c with
    | true =>
      rw [e, Bool.true_or] at z
      exact iteT z
    | false =>
      rw [e, Bool.false_or] at z
      refine iteF ⟨_, rfl, _, rfl, dT c, _, dp_T rv, dp_L S3.l2, dT_sh c, dL_sh _, _, rfl, ?_⟩
      rw [any_dT]
      exact z
  · rintro v c H3 Rq _ _ s3 r kk
    exact ⟨_, rfl, kk _ _ (Same.refl _) r⟩
  intro H3 ys s3 eD evy
  rw [List.map_id, fl_or] at evy
  refine ⟨x, DL, t8 ||| t9, rfl, (px.same s2).same s3, ⟨ys, eD, evy⟩, fun H4 s4 => ⟨_, rfl, iteF ?_⟩⟩
  have S4 := (S2.same s3).same s4
  have s04 := ((s1.trans s2).trans s3).trans s4
  -- met
  refine ⟨_, rfl, _, rfl, o6, dx, _, o7, dy, _, rfl, rfl, s04 _ _ h1, s04 _ _ h2, o6, o7, t8, t9, rfl, S4.p1, S4.p2, fun x5 H5 hx5 s5 px5 => ⟨⟨x5, rfl⟩, ?_⟩⟩
  have S5 := S4.same s5
  obtain ⟨zs, hz, ez⟩ := S5.l1
  refine ⟨_, rfl, d8, rfl, ⟨zs, SqL.of hz⟩, fun DL2 hDL2 => ?_⟩
  refine lc_sieve mT mT (fun m => (fl t9).contains m) id walk_list (few_fl t8) (fun H' s => SqL.of (s _ _ hz)) hDL2 ez ?_ ?_ ?_
  · rintro v c H6 Rq _ s6 rv kk
    refine ⟨_, rfl, _, rfl, dT c, _, dp_T rv, dp_L (S5.same s6).l2, dT_sh c, dL_sh _, _, rfl, ?_⟩
    rw [any_dT]
    exact kk _ (Same.refl _)
  · rintro v c H6 Rq _ _ s6 r kk
    exact ⟨_, rfl, kk _ _ (Same.refl _) r⟩
  intro H6 ys6 s6 eD6 ev6
  rw [List.map_id, fl_and] at ev6
  refine ⟨x5, DL2, t8 &&& t9, rfl, px5.same s6, ⟨ys6, eD6, ev6⟩, fun H7 s7 => ⟨_, rfl, iteF ?_⟩⟩
  have S7 := (S5.same s6).same s7
  have s07 := ((s04.trans s5).trans s6).trans s7
  -- within
  refine ⟨_, rfl, o6, dx, _, rfl, s07 _ _ h1, lk_none, _, rfl, o6, o7, t8, t9, rfl, S7.p1, S7.p2, fun H8 s8 => ?_⟩
  have S8 := S7.same s8
  obtain ⟨zs8, hz8, ez8⟩ := S8.l1
  refine ⟨_, rfl, d8, rfl, ⟨zs8, SqL.of hz8⟩, fun DL9 hDL9 => ?_⟩
  refine lc_sieve mT mT (fun m => !(fl t9).contains m) id walk_list (few_fl t8) (fun H' s => SqL.of (s _ _ hz8)) hDL9 ez8 ?_ ?_ ?_
  · rintro v c H9 Rq _ s9 rv kk
    refine ⟨_, rfl, _, rfl, dT c, _, dp_T rv, dp_L (S8.same s9).l2, dT_sh c, dL_sh _, _, rfl, ?_⟩
    rw [any_dT]
    exact kk _ (Same.refl _)
  · rintro v c H9 Rq _ _ s9 r kk
    exact ⟨_, rfl, kk _ _ (Same.refl _) r⟩
  intro H9 ys9 s9 eD9 ev9
  rw [List.map_id] at ev9
  refine ⟨Nat.zero_le _, fun q hq => ?_⟩
  have s10 := same_new (o := .lst []) hq
  refine ⟨_, .list [], dp_L (Ls.same mT ⟨ys9, eD9, ev9⟩ s10), .lst (SqL.of upd_same) .nil, dL_sh _, rfl, ?_⟩
  rw [eqv_dnil]
  have e : ((fl t8).filter fun m => !(fl t9).contains m).isEmpty = ((fl t8).filter fun m => !has t9 m).isEmpty := by
    congr 2
    funext m
    rw [mem_fl]
  rw [e]
  refine .inl ⟨_, _, rfl, _, rfl, ?_⟩
  rw [beq_self_eq_true]
  refine iteF ?_
  exact qL D y0 y1 y2 y3 y4 y5 o6 o7 d8 d9 t8 t9 y10 _ ((S8.same s9).same s10) fun H' s' => k H' ((((s07.trans s8).trans s9).trans s10).trans s')
end
end W8
set_option Elab.async false
set_option linter.all false
set_option maxRecDepth 100000
set_option maxHeartbeats 4000000
namespace W8
open PySem PySem.Spec PyProof.Rows L2
open Wp (OwnEqual Answ)
/-- what was drawn and made -/
structure Drw (CP CM : Addr) (a3 a4 o6 o7 : Addr) (ms ns : List Cd) (H : Hp) : Prop where
  p1 : Pf CP CM H o6 (tel ms)
  p2 : Pf CP CM H o7 (tel ns)
  l1 : Ls rT H a3 ms
  l2 : Ls rT H a4 ns
  n1 : ms.length ≤ 10
  n2 : ns.length ≤ 10
theorem Drw.same {CP CM a3 a4 o6 o7 : Addr} {ms ns : List Cd} {H H' : Hp} (h : Drw CP CM a3 a4 o6 o7 ms ns H) (s : Same H H') : Drw CP CM a3 a4 o6 o7 ms ns H' := ⟨h.p1.same s, h.p2.same s, h.l1.same mT s, h.l2.same mT s, h.n1, h.n2⟩
section
variable {P : Program} {w : World} {K : PySem.W.Frag} {mg : Str → Option Value} {base : Heap} {CM CP : Addr} {f : Addr} {cdv : Value} {A : Around} {outer : List Env} {s : Shared} {H0 : Hp} {E : XK}
theorem mkP0 {σ : L2.St} {H1 : Hp} {Q : VK} {T0 : Addr} (hT : ∀ H, SqT K H T0 []) (k : ∀ x H2, H1 x = none → Same H1 H2 → Pf CP CM H2 x 0 → Q (.ref x) H2) : tMake CP (spPI K CP CM) [.ref T0] E0 tNil σ H1 Q :=
  made_P (ms := []) (.inr (hT _)) Ev.nil (by decide) k
theorem lw7 (Z : AllC P w K mg base CM CP) (hr : Room 9 (A.deeper (envOfC "law" (defScope sLw) s.heap.objs.size f cdv))) :
    ∃ t, PSs (cxLw P w K mg base f cdv A outer s H0 E) (bLw.drop 7) t ∧
      ∀ (D : Ends) (y0 y1 y2 y5 : Option V) (a3 a4 o6 o7 : Addr) (ms ns : List Cd) (y8 y9 y10 : Option V) (H : Hp), Drw CP CM a3 a4 o6 o7 ms ns H →
        (∀ H' z8 z9, Same H H' → D.nx [y0, y1, y2, some (.ref a3), some (.ref a4), y5, some (.ref o6), some (.ref o7), z8, z9, y10] H') →
        t D [y0, y1, y2, some (.ref a3), some (.ref a4), y5, some (.ref o6), some (.ref o7), y8, y9, y10] H := by
  obtain ⟨tL, hL, qL⟩ := lw9 (w := w) (mg := mg) (base := base) (outer := outer) (H0 := H0) (E := E) Z hr
  obtain ⟨fKP, fdKP, KP⟩ := Z.KP
  obtain ⟨fT, fdT, TE⟩ := Z.TE
  obtain ⟨fF, fdF, FI⟩ := Z.FI
  obtain ⟨T0, ds0, vD, bD, hT0⟩ := KP.dft
  have B := Z.B
  have N := Z.N
  refine ⟨_, 
      (pss_cons (ps_asg (pe_tup (pa_cons (pe_call TE.ok (hr.mono (by decide)) rfl TE.mg TE.kp TE.bi .nil pass0 (pa_cons (pv 3) pa_nil)) (pa_cons (pe_call TE.ok (hr.mono (by decide)) rfl TE.mg TE.kp TE.bi .nil pass0 (pa_cons (pv 4) pa_nil)) pa_nil))) (pg_tup rfl (pgs_cons (pg_name (i := 8) scLw.nd rfl (Or.inr rfl)) (pgs_cons (pg_name (i := 9) scLw.nd rfl (Or.inr rfl)) pgs_nil))))
      (pss_cons (ps_if (PW.pt (pw_or (pt_not (pt_val (pe_call FI.ok (hr.mono (by decide)) rfl FI.mg FI.kp FI.bi .nil pass0 (pa_cons (pv 6) (pa_cons (pv 8) pa_nil))))) (pw_or (pt_not (pt_val (pe_call FI.ok (hr.mono (by decide)) rfl FI.mg FI.kp FI.bi .nil pass0 (pa_cons (pv 7) (pa_cons (pv 9) pa_nil))))) (pw_or1 (pt_not (pt_val (pe_call FI.ok (hr.mono (by decide)) rfl FI.mg FI.kp FI.bi .nil pass0 (pa_cons (pe_make0 KP.mkr KP.ok (hr.mono (by decide)) (by rfl) N.mg bD vD pass0) (pa_cons (pe_lst pa_nil) pa_nil))))))))) 
        (pss_one (ps_ret pe_bl)) pss_nil) hL)), ?_⟩
  intro D y0 y1 y2 y5 a3 a4 o6 o7 ms ns y8 y9 y10 H S k
  refine ⟨_, rfl, a3, ms, rfl, S.l1, by have := S.n1; omega, fun d8 H1 h8 s1 hl8 => ?_⟩
  refine ⟨_, rfl, a4, ns, rfl, (S.same s1).l2, by have := S.n2; omega, fun d9 H2 h9 s2 hl9 => ?_⟩
  refine ⟨by show 2 ≤ sizeLine; decide, fun T hT => ?_⟩
  have s3 := same_new (o := .tup [.ref d8, .ref d9]) hT
  refine ⟨T, [.ref d8, .ref d9], rfl, SqT.of upd_same, rfl, _, _, rfl, _, _, rfl, rfl, ?_⟩
  have s03 := (s1.trans s2).trans s3
  have S3 : Std CP CM o6 o7 d8 d9 (tel ms) (tel ns) _ := ⟨S.p1.same s03, S.p2.same s03, (hl8.same mT s2).same mT s3, hl9.same mT s3⟩
  generalize upd H2 T (.tup [.ref d8, .ref d9]) = H3 at s3 s03 S3
  refine ⟨_, rfl, _, rfl, o6, d8, _, rfl, S3.p1, S3.l1, fun H4 s4 => ⟨_, rfl, iteF ?_⟩⟩
  have S4 := S3.same s4
  refine ⟨_, rfl, _, rfl, o7, d9, _, rfl, S4.p2, S4.l2, fun H5 s5 => ⟨_, rfl, iteF ?_⟩⟩
  have S5 := S4.same s5
  dsimp only [tNot, tB, tCall, tCons]
  refine mkP0 hT0 fun x H6 hx s6 px => ?_
  refine ⟨Nat.zero_le _, fun q hq => ?_⟩
  have s7 := same_new (o := .lst []) hq
  refine ⟨x, q, 0, rfl, px.same s7, ⟨[], upd_same, Ev.nil⟩, fun H8 s8 => ⟨_, rfl, iteF ?_⟩⟩
  have S8 := ((S5.same s6).same s7).same s8
  exact qL D y0 y1 y2 _ _ y5 o6 o7 d8 d9 _ _ y10 H8 S8 fun H' s' => k H' _ _ (((((s03.trans s4).trans s5).trans s6).trans s7).trans (s8.trans s'))
end
end W8
set_option Elab.async false
set_option linter.all false
set_option maxRecDepth 100000
set_option maxHeartbeats 4000000
namespace W8
open PySem PySem.Spec PyProof.Rows L2
open Wp (OwnEqual Answ)
theorem Pf.kp {CP CM : Addr} {H H' : Hp} {a : Addr} {t : Nat} (h : Pf CP CM H a t) (s : Kp H H') : Pf CP CM H' a t :=
  let ⟨u, dx, tp, h1, h2⟩ := h
  ⟨u, dx, tp, s _ _ (fun _ z => by cases z) h1, h2.kp (mM CM) s⟩
theorem Ls.ne {α : Type} {R : Rp α} {H : Hp} {l g : Addr} {cs : List α} {gs ys : List V} (m : Mono R) (h : Ls R H l cs) (hg : H g = some (.lst gs)) (n : l ≠ g) : Ls R (upd H g (.lst ys)) l cs :=
  let ⟨xs, e, v⟩ := h
  ⟨xs, by rw [upd_ne n]; exact e, v.kp m (.lst hg)⟩
section
variable {P : Program} {w : World} {K : PySem.W.Frag} {mg : Str → Option Value} {base : Heap} {CM CP : Addr} {f : Addr} {cdv : Value} {A : Around} {outer : List Env} {s : Shared} {H0 : Hp} {E : XK}
theorem lw4 (Z : AllC P w K mg base CM CP) (hr : Room 9 (A.deeper (envOfC "law" (defScope sLw) s.heap.objs.size f cdv))) :
    ∃ t, PSs (cxLw P w K mg base f cdv A outer s H0 E) (bLw.drop 4) t ∧
      ∀ (D : Ends) (H00 : Hp) (y0 y1 y2 : Option V) (a3 a4 g o6 : Addr) (ms ns : List Cd) (y7 y8 y9 y10 : Option V) (H : Hp), Ls rT H a3 ms → Ls rT H a4 ns → Ls (rM CM) H g ms → Pf CP CM H o6 (tel ms) → ms.length ≤ 10 → ns.length ≤ 10 → a3 ≠ g → a4 ≠ g → H00 g = none → Same H00 H →
        (∀ H' z3 z4 z5 z6 z7 z8 z9, Same H00 H' → D.nx [y0, y1, y2, z3, z4, z5, z6, z7, z8, z9, y10] H') →
        t D [y0, y1, y2, some (.ref a3), some (.ref a4), some (.ref g), some (.ref o6), y7, y8, y9, y10] H := by
  obtain ⟨tL, hL, qL⟩ := lw7 (w := w) (mg := mg) (base := base) (outer := outer) (H0 := H0) (E := E) Z hr
  obtain ⟨fKP, fdKP, KP⟩ := Z.KP
  obtain ⟨fKM, KM⟩ := Z.KM
  obtain ⟨fM, fdM, MS⟩ := Z.MS
  have B := Z.B
  have N := Z.N
  have M := Z.M
  have hu : (A.deeper (envOfC "law" (defScope sLw) s.heap.objs.size f cdv)).units + 64 < cLine := by
    have := hr.un
    omega
  refine ⟨_, 
      (pss_cons (ps_set (i := 7) scLw.nd rfl (.inl rfl) (pe_make KP.mkr KP.ok (hr.mono (by decide)) (by rfl) N.mg KP.bi .nil pass0 (pa_cons (pe_lc (own := [("_law_each", 10)]) (g := gName 10) (tt := tYes) (te := tCall (spMs CM) [] E0 (tCons (tVar 10) tNil)) rfl scLw.nd (pi_list (pv 4)) (blkOk_by (N := nLw) (sc := defScope sLw) (by decide +kernel)) (fun _ _ _ _ _ => pg_name (i := 10) scLw.nd rfl (Or.inl rfl)) (fun _ _ _ _ _ => pts_nil) (fun _ _ _ _ _ => (pe_call MS.ok (hr.mono (by decide)) rfl MS.mg MS.kp MS.bi .nil pass0 (pa_cons (pv 10) pa_nil)))) pa_nil)))
      (pss_cons (ps_if (pt_cmpR (op_neD hu) (pe_lc (own := [("_law_each", 10)]) (g := gName 10) (tt := tYes) (te := tFld K (tVar 10) "names") rfl scLw.nd (pi_list (pv 5)) (blkOk_by (N := nLw) (sc := defScope sLw) (by decide +kernel)) (fun _ _ _ _ _ => pg_name (i := 10) scLw.nd rfl (Or.inl rfl)) (fun _ _ _ _ _ => pts_nil) (fun _ _ _ _ _ => (pe_fld (pv 10) rfl))) (pv 3) (nomark _)) 
        (pss_one (ps_ret pe_bl)) pss_nil)
      (pss_cons (ps_expr (pe_bm PySem.F.plainAttrs_list PySem.F.slot_list_append PySem.F.type_list_append mt_append (pv 5) (pa_cons (Wp.pe_makeR0 KM.mkr KM.ok (hr.mono (by decide)) (by rfl) M.mg pass0) pa_nil))) hL))), ?_⟩
  intro D H00 y0 y1 y2 a3 a4 g o6 ms ns y7 y8 y9 y10 H l3 l4 lg p6 n3 n4 e3 e4 hg0 s0 k
  obtain ⟨xs4, hx4, ev4⟩ := l4
  refine ⟨_, rfl, a4, rfl, ⟨xs4, SqL.of hx4⟩, fun DL hDL => ?_⟩
  refine lc_sieve mT (mM CM) (fun _ => true) id walk_list (by omega) (fun H' s => SqL.of (s _ _ hx4)) hDL ev4 (fun v c H2 Rq _ _ _ kk => kk _ (Same.refl _)) ?_ ?_
  · rintro v c H2 Rq _ _ s2 ⟨b, rfl, hb⟩ kk
    exact ⟨_, rfl, b, c, rfl, hb, fun x H3 hx s3 mx => kk _ _ s3 ⟨x, rfl, mx⟩⟩
  intro H1 us s1 eD evu
  rw [List.map_id, List.filter_eq_self.mpr fun _ _ => rfl] at evu
  refine made_P (Q := fun y H2 => gName 7 y _ H2 _) (.inl (SqL.of eD)) evu (by omega) fun o7 H2 h7 s2 p7 => ?_
  have s02 := s1.trans s2
  obtain ⟨gs, hgs, evg⟩ := lg.same (mM CM) s02
  refine ⟨_, rfl, g, rfl, ⟨gs, SqL.of hgs⟩, fun DN hDN => ?_⟩
  refine lc_sieve (mM CM) mT (fun _ => true) id walk_list (by omega) (fun H' s => SqL.of (s _ _ hgs)) hDN evg (fun v c H2 Rq _ _ _ kk => kk _ (Same.refl _)) ?_ ?_
  · rintro v c H3 Rq _ _ s3 ⟨b, rfl, dx, t, h1, h2⟩ kk
    exact ⟨_, rfl, b, CM, dx, _, _, rfl, h1, M.own.cl, M.no, lk1, kk _ _ (Same.refl _) ⟨t, rfl, h2⟩⟩
  intro H3 ys3 s3 eD3 ev3
  rw [List.map_id, List.filter_eq_self.mpr fun _ _ => rfl] at ev3
  have s03 := s02.trans s3
  refine ⟨_, rfl, ne_L ⟨ys3, eD3, ev3⟩ (l3.same mT s03) ⟨_, rfl, iteF ?_⟩⟩
  have hg3 := s3 _ _ hgs
  refine ⟨_, rfl, .inl ⟨rfl, _, SqL.of hg3⟩, ?_⟩
  dsimp only [tCons]
  refine mk_ws [] (by simp) (by simp) (by simp) (fun R h => h) fun x H6 hx s6 mx => ?_
  have hg6 := s6 _ _ hg3
  refine ⟨g, _, _, rfl, rfl, hg6, ?_, ?_⟩
  · rw [sizeLine_eq, evg.1]
    omega
  have s06 := s03.trans s6
  have S : Drw CP CM a3 a4 o6 o7 ms ns (upd H6 g (.lst (gs ++ [.ref x]))) := ⟨(p6.same s06).kp (.lst hg6), ((p7.same s3).same s6).kp (.lst hg6), Ls.ne mT (l3.same mT s06) hg6 e3, Ls.ne mT (Ls.same mT ⟨xs4, hx4, ev4⟩ s06) hg6 e4, n3, n4⟩
  exact qL D y0 y1 y2 _ a3 a4 o6 o7 ms ns y8 y9 y10 _ S fun H' z8 z9 s' => k H' _ _ _ _ _ _ _ (((s0.trans s06).over hg0).trans s')
end
end W8
set_option Elab.async false
set_option linter.all false
set_option maxRecDepth 100000
set_option maxHeartbeats 4000000
namespace W8
open PySem PySem.Spec PyProof.Rows L2
open Wp (OwnEqual Answ)
theorem same_but {p : Addr} {H00 H1 H2 : Hp} (a : Same H00 H1) (hp : H00 p = none) (b : But p H1 H2) : Same H00 H2 := fun c o e => b c o (ne_of_none e hp) (a c o e)
theorem Ls.but {α : Type} {R : Rp α} {p : Addr} {H H' : Hp} {l : Addr} {cs : List α} (m : Mono R) (h : Ls R H l cs) (S : Bg p H) (b : But p H H') (n : l ≠ p) : Ls R H' l cs :=
  let ⟨xs, e, v⟩ := h
  ⟨xs, b _ _ n e, v.kp m (S.kp b)⟩
section
variable {P : Program} {w : World} {K : PySem.W.Frag} {mg : Str → Option Value} {base : Heap} {CM CP : Addr} {f : Addr} {cdv : Value} {A : Around} {outer : List Env} {s : Shared} {H0 : Hp} {E : XK}
theorem lw0 (Z : AllC P w K mg base CM CP) (hr : Room 9 (A.deeper (envOfC "law" (defScope sLw) s.heap.objs.size f cdv))) :
    ∃ t, PSs (cxLw P w K mg base f cdv A outer s H0 E) bLw t ∧
      ∀ (D : Ends) (a : Addr) (ns : List Int) (i : Nat) (y2 y3 y4 y5 y6 y7 y8 y9 y10 : Option V) (H00 : Hp), SqL K H00 a (ns.map V.int) → ns.length ≤ 63 → i ≤ 1000 →
        (∀ H' z2 z3 z4 z5 z6 z7 z8 z9 z10, Same H00 H' → D.nx [some (.ref a), some (.int (i : Nat)), z2, z3, z4, z5, z6, z7, z8, z9, z10] H') →
        t D [some (.ref a), some (.int (i : Nat)), y2, y3, y4, y5, y6, y7, y8, y9, y10] H00 := by
  obtain ⟨tL, hL, qL⟩ := lw4 (w := w) (mg := mg) (base := base) (outer := outer) (H0 := H0) (E := E) Z hr
  obtain ⟨fKP, fdKP, KP⟩ := Z.KP
  obtain ⟨fM, fdM, MS⟩ := Z.MS
  obtain ⟨fB, fdB, BG⟩ := Z.BG
  obtain ⟨fS, fdS, SS⟩ := Z.SS
  obtain ⟨fT, fdT, TK⟩ := Z.TK
  have B := Z.B
  have N := Z.N
  refine ⟨_, 
      (pss_cons (ps_set (i := 2) scLw.nd rfl (.inl rfl) (pe_call BG.ok (hr.mono (by decide)) rfl BG.mg BG.kp BG.bi .nil pass0 (pa_cons (pv 0) (pa_cons (pv 1) pa_nil))))
      (pss_cons (ps_par (i := 3) (j := 4) (by rfl) scLw.nd rfl rfl (by decide) rfl rfl (pa_cons (pe_call SS.ok (hr.mono (by decide)) rfl SS.mg SS.kp SS.bi .nil pass0 (pa_cons (pv 2) pa_nil)) (pa_cons (pe_call SS.ok (hr.mono (by decide)) rfl SS.mg SS.kp SS.bi .nil pass0 (pa_cons (pv 2) pa_nil)) pa_nil)) (by rfl))
      (pss_cons (ps_setLc (i := 5) (own := [("_law_one", 6)]) (g := gName 6) (tt := tYes) (te := tCall (spMs CM) [] E0 (tCons (tVar 6) tNil)) rfl scLw.nd rfl rfl (sw_true rfl rfl rfl (by decide +kernel)) (pi_list (pv 3)) (blkOk_by (N := nLw) (sc := defScope sLw) (by decide +kernel)) (fun _ _ _ _ _ => pg_name (i := 6) scLw.nd rfl (Or.inl rfl)) (fun _ _ _ _ _ => pts_nil) (fun _ _ _ _ _ => (pe_call MS.ok (hr.mono (by decide)) rfl MS.mg MS.kp MS.bi .nil pass0 (pa_cons (pv 6) pa_nil))))
      (pss_cons (ps_set (i := 6) scLw.nd rfl (.inl rfl) (pe_ifExp (pt_cmpR op_eq (pe_call TK.ok (hr.mono (by decide)) rfl TK.mg TK.kp TK.bi .nil pass0 (pa_cons (pv 2) (pa_cons pe_int pa_nil))) pe_int (nomark _)) (pe_make KP.mkr KP.ok (hr.mono (by decide)) (by rfl) N.mg KP.bi .nil pass0 (pa_cons (pe_callTy call_tuple_of (by rfl) B.tuple boot_ttuple (pa_cons (pv 5) pa_nil)) pa_nil)) (pe_make KP.mkr KP.ok (hr.mono (by decide)) (by rfl) N.mg KP.bi .nil pass0 (pa_cons (pv 5) pa_nil)))) hL)))), ?_⟩
  intro D a ns i y2 y3 y4 y5 y6 y7 y8 y9 y10 H00 hS few hi k
  refine ⟨_, rfl, _, rfl, a, ns, i, rfl, hS, few, hi, fun p H1 hp s1 S1 => ?_⟩
  refine ⟨_, rfl, p, rfl, S1, fun D3 ms H2 h3 b2 S2 l3 n3 => ⟨_, rfl, p, rfl, S2, fun D4 ns4 H3 h4 b3 S3 l4 n4 => ⟨_, _, rfl, ?_⟩⟩⟩
  have nD3 := S1.ne h3
  have nD4 := S2.ne h4
  have l33 := Ls.but mT l3 S2 b3 nD3
  have s02 := same_but s1 hp b2
  have s03 := same_but s02 hp b3
  obtain ⟨xs, hx, ev⟩ := l33
  refine ⟨_, rfl, D3, rfl, ⟨xs, SqL.of hx⟩, fun g hg => ?_⟩
  refine lc_sieve mT (mM CM) (fun _ => true) id walk_list (by omega) (fun H' s => SqL.of (s _ _ hx)) hg ev (fun v c H2 Rq _ _ _ kk => kk _ (Same.refl _)) ?_ ?_
  · rintro v c H4 Rq _ _ s4 ⟨b, rfl, hb⟩ kk
    exact ⟨_, rfl, b, c, rfl, hb, fun x H5 hx s5 mx => kk _ _ s5 ⟨x, rfl, mx⟩⟩
  intro H4 gs s4 eg evg
  rw [List.map_id, List.filter_eq_self.mpr fun _ _ => rfl] at evg
  have S4 := S3.same s4
  have ng := S3.ne hg
  have l34 : Ls rT H4 D3 ms := Ls.same mT ⟨xs, hx, ev⟩ s4
  have l44 : Ls rT H4 D4 ns4 := l4.same mT s4
  refine ⟨_, rfl, p, 2, rfl, S4, by decide, by decide, fun v H5 v0 v1 b5 S5 => ?_⟩
  have l35 := Ls.but mT l34 S4 b5 nD3
  have l45 := Ls.but mT l44 S4 b5 nD4
  obtain ⟨gs5, hg5, ev5⟩ : Ls (rM CM) H5 g ms := Ls.but (mM CM) ⟨gs, eg, evg⟩ S4 b5 ng
  have s05 := same_but (s03.trans s4) hp b5
  have e3 : D3 ≠ g := ne_of_none hx hg
  have e4 : D4 ≠ g := by
    obtain ⟨ws, hw, _⟩ := l4
    exact ne_of_none hw hg
  have hg0 : H00 g = none := Same.free s03 hg
  have fin : ∀ x H6, Same H5 H6 → Pf CP CM H6 x (tel ms) → tL D [some (.ref a), some (.int (i : Nat)), some (.ref p), some (.ref D3), some (.ref D4), some (.ref g), some (.ref x), y7, y8, y9, y10] H6 := fun x H6 s6 p6 =>
    qL D H00 _ _ _ D3 D4 g x ms ns4 y7 y8 y9 y10 H6 (l35.same mT s6) (l45.same mT s6) (Ls.same (mM CM) ⟨gs5, hg5, ev5⟩ s6) p6 n3 n4 e3 e4 hg0 (s05.trans s6) fun H' z3 z4 z5 z6 z7 z8 z9 s' => k H' _ _ _ _ _ _ _ _ _ s'
  refine ⟨rfl, _, rfl, ?_⟩
  refine ite2 (fun _ => ?_) (fun _ => ?_)
  · refine ⟨_, rfl, g, gs5, rfl, .inl ⟨SqL.of hg5, fun t ht => ?_⟩⟩
    have st := same_new (o := .tup gs5) ht
    exact made_P (Q := fun y H2 => gName 6 y _ H2 _) (.inr (SqT.of upd_same)) (ev5.same (mM CM) st) (by omega) fun x H6 hx s6 p6 => fin x H6 (st.trans s6) p6
  · refine ⟨_, rfl, ?_⟩
    exact made_P (Q := fun y H2 => gName 6 y _ H2 _) (.inl (SqL.of hg5)) ev5 (by omega) fun x H6 hx s6 p6 => fin x H6 s6 p6
end
end W8
set_option Elab.async false
set_option linter.all false
set_option maxRecDepth 100000
set_option maxHeartbeats 4000000
namespace W8
open PySem PySem.Spec PyProof.Rows L2
theorem len11 {σ : L2.St} (h : σ.length = 11) : ∃ y0 y1 y2 y3 y4 y5 y6 y7 y8 y9 y10, σ = [y0, y1, y2, y3, y4, y5, y6, y7, y8, y9, y10] :=
  match σ, h with
  | [y0, y1, y2, y3, y4, y5, y6, y7, y8, y9, y10], _ => ⟨y0, y1, y2, y3, y4, y5, y6, y7, y8, y9, y10, rfl⟩
theorem ok_Lw {P : Program} {w : World} {K : PySem.W.Frag} {mg : Str → Option Value} {base : Heap} {CM CP f : Addr} {fd : FuncData} (F : Fun K "law" "law" sLw f fd) (Z : AllC P w K mg base CM CP) : FnOk P w K mg base CX0 10 f fd ["_law_script"] (spLw K) := by
  have B := Z.B
  refine F.ok scLw (fun vs H Q E h => ?_) (fun cdv A outer s H vs Q E hr h => ?_)
  · obtain ⟨a, ns, rfl, _⟩ := h
    rfl
  · obtain ⟨a, ns, rfl, hS, few, k⟩ := h
    obtain ⟨tT, hT, qT⟩ := lw0 (P := P) (w := w) (K := K) (base := base) (f := f) (cdv := cdv) (A := A) (outer := outer) (s := s) (H0 := H) (E := E) Z hr
    refine ⟨_, pss_cons (ps_for PassesOwn.never rfl (pi_range1 (by rfl) B.range (pa_cons (pe_callB (call_max2 rfl) (by rfl) B.max (by decide +kernel) (pa_cons pe_int (pa_cons (pe_callB (call_min2 rfl) (by rfl) B.min (by decide +kernel) (pa_cons pe_int (pa_cons (pe_callB call_len_seq (by rfl) B.len PySem.boot_len (pa_cons (pv 0) pa_nil)) pa_nil))) pa_nil))) pa_nil)) (pg_name (i := 1) scLw.nd rfl (.inl rfl)) hT)
      (pss_one (ps_ret pe_bl)), ?_⟩
    refine ⟨_, rfl, a, _, rfl, .inl hS, _, _, rfl, _, _, rfl, _, rfl, ?_, ?_, ?_⟩
    · split <;> (try split) <;> omega
    · split <;> (try split) <;> omega
    refine for_range (fun i σ H' => σ.length = 11 ∧ σ[0]? = some (some (.ref a)) ∧ SqL K H' a (ns.map V.int)) ⟨rfl, rfl, hS⟩ ?_ ?_
    · rintro i σ H1 hi ⟨l11, e0, sq⟩
      obtain ⟨y0, y1, y2, y3, y4, y5, y6, y7, y8, y9, y10, rfl⟩ := len11 l11
      cases e0
      have i4 : i ≤ 1000 := by
        revert hi
        split <;> (try split) <;> (intro hi; omega)
      have e : (0 : Int) + (i : Nat) = (i : Nat) := by omega
      show tT _ [some (.ref a), some (.int (0 + (i : Nat))), y2, y3, y4, y5, y6, y7, y8, y9, y10] H1
      rw [e]
      exact qT _ a ns i _ _ _ _ _ _ _ _ _ H1 sq few i4 fun H' z2 z3 z4 z5 z6 z7 z8 z9 z10 s' => ⟨rfl, rfl, s'.seq sq⟩
    · rintro σ H1 ⟨l11, e0, sq⟩
      exact k _
end W8
set_option Elab.async false
set_option linter.all false
set_option maxRecDepth 100000
set_option maxHeartbeats 4000000
namespace Hb8
open PySem PySem.Spec PyProof.Rows L2
/-! ## facts of the written part as Bools -/
variable {K : PySem.W.Frag} {C : Addr}
/-- an own class that isinstance asks of -/
def ownB (K : PySem.W.Frag) (C : Addr) : Bool := He.eqO (PySem.W.findIn K (.ref C) "__class__") (some (some (.builtin "object.__class__"))) && (He.eqO (PySem.W.specialIn K (.builtin "object.__class__") "__get__") (some (some (.builtin "getset_descriptor.__get__"))) &&
  (decide (PySem.W.takesIn K (.builtin "object.__class__") = some true) && (decide (PySem.W.mroIn K C (.type "object") = some true) && (decide (PySem.W.kitOne K (.ref C) (.ref C) = some true) &&
  (["list", "tuple"].all fun t => decide (PySem.W.kitOne K (.type t) (.ref C) = some false))))))
theorem ownB_ok (cl : Cls K C) (h : ownB K C = true) : W8.OwnC K C := by
  obtain ⟨h1, h⟩ := He.ba h
  obtain ⟨h2, h⟩ := He.ba h
  obtain ⟨h3, h⟩ := He.ba h
  obtain ⟨h4, h⟩ := He.ba h
  obtain ⟨h5, h6⟩ := He.ba h
  exact ⟨cl, He.eqO_ok h1, He.eqO_ok h2, of_decide_eq_true h3, of_decide_eq_true h4, of_decide_eq_true h5, fun t ht => of_decide_eq_true (List.all_eq_true.mp h6 t ht)⟩
def eqB (K : PySem.W.Frag) (C : Addr) : Bool := decide (PySem.W.mroIn K C (.type "object") = some true) && (He.eqO (PySem.W.findIn K (.ref C) "__ne__") (some (some (.builtin "object.__ne__"))) && (He.eqO (PySem.W.findIn K (.ref C) "__eq__") (some (some (.ref (He.ma K C "__eq__")))) && PySem.W.isFn K (.ref (He.ma K C "__eq__"))))
theorem eqB_ok (h : eqB K C = true) : Wp.OwnEqual K C (He.ma K C "__eq__") := by
  obtain ⟨h1, h⟩ := He.ba h
  obtain ⟨h2, h⟩ := He.ba h
  obtain ⟨h3, h4⟩ := He.ba h
  exact ⟨of_decide_eq_true h1, He.eqO_ok h2, He.eqO_ok h3, h4⟩
/-- a tuple of the written part -/
def tupB (K : PySem.W.Frag) (t : Addr) (vs : List V) : Bool := match K.lookup t with
  | some ⟨.type c, _, .seq its _, _⟩ => decide (c = "tuple") && (He.relAll vs its.toList && decide (its.size ≤ 1000))
  | _ => false
theorem tupB_ok {t : Addr} {vs : List V} (h : tupB K t vs = true) (H : Hp) : SqT K H t vs := by
  unfold tupB at h
  cases q : K.lookup t with
  | none =>
    rw [q] at h
    cases h
  | some o =>
    obtain ⟨oc, od, dt, sl⟩ := o
    rw [q] at h
    cases oc with
    | type c =>
      cases dt with
      | seq its n =>
        obtain ⟨h1, h⟩ := He.ba (show (decide (c = "tuple") && (He.relAll vs its.toList && decide (its.size ≤ 1000))) = true from h)
        obtain ⟨h2, h3⟩ := He.ba h
        have h1 := of_decide_eq_true h1
        have h3 := of_decide_eq_true h3
        subst h1
        exact .inr ⟨_, its, n, q, rfl, rfl, by rw [sizeLine_eq]; omega, He.relAll_ok h2⟩
      | _ => cases h
    | _ => cases h
/-- a constant of a class, read off the class -/
def conB (K : PySem.W.Frag) (C : Addr) (f : Str) (v : V) : Bool := PySem.W.readsIn K C (.type "type") && (He.eqO (PySem.W.specialIn K (.ref C) "__getattribute__") (some (some (.builtin "type.__getattribute__"))) && (match PySem.W.findCls K (.ref C) (.type "type") f with
  | some (.val u) => He.relB v u
  | _ => false))
theorem conB_ok {f : Str} {v : V} (h : conB K C f v = true) : ClX.CRead K C (.type "type") ∧ ∃ u, ClX.CVal K C (.type "type") f v u := by
  obtain ⟨h1, h⟩ := He.ba h
  obtain ⟨h2, h3⟩ := He.ba h
  refine ⟨⟨h1, He.eqO_ok h2⟩, ?_⟩
  split at h3
  · rename_i u e
    exact ⟨u, e, He.relB_ok h3⟩
  · cases h3
/-- a property of a class -/
def propB (K : PySem.W.Frag) (C : Addr) (m : Str) : Bool := He.eqO (PySem.W.findIn K (.ref C) m) (some (some (.ref (He.ma K C m)))) && (He.eqO (PySem.W.specialIn K (.ref (He.ma K C m)) "__get__") (some (some (.builtin "property.__get__"))) && (decide (PySem.W.takesIn K (.ref (He.ma K C m)) = some true) &&
  (match PySem.W.recIn K (He.ma K C m) "property" with
    | some (.ref _ :: _) => true
    | _ => false)))
theorem propB_ok {m : Str} (h : propB K C m = true) : PropOf K C m (He.ma K C m) (He5.wf K C "property" m) := by
  obtain ⟨h1, h⟩ := He.ba h
  obtain ⟨h2, h⟩ := He.ba h
  obtain ⟨h3, h4⟩ := He.ba h
  refine ⟨He.eqO_ok h1, He.eqO_ok h2, of_decide_eq_true h3, ?_⟩
  unfold He5.wf
  split at h4
  · rename_i f r e
    exact ⟨r, by rw [e]⟩
  · cases h4
/-- an own operator of a class -/
def binB (K : PySem.W.Frag) (C : Addr) (m : Str) : Bool := PySem.W.selfFirst K C && (He.eqO (PySem.W.findIn K (.ref C) m) (some (some (.ref (He.ma K C m)))) && PySem.W.isFn K (.ref (He.ma K C m)))
theorem binB_ok {m : Str} (h : binB K C m = true) : PySem.W.selfFirst K C = true ∧ PySem.W.findIn K (.ref C) m = some (some (.ref (He.ma K C m))) ∧ PySem.W.isFn K (.ref (He.ma K C m)) = true := by
  obtain ⟨h1, h⟩ := He.ba h
  obtain ⟨h2, h3⟩ := He.ba h
  exact ⟨h1, He.eqO_ok h2, h3⟩
end Hb8
set_option Elab.async false
set_option linter.all false
set_option maxRecDepth 100000
set_option maxHeartbeats 0
namespace W8
open PySem PySem.Spec PyProof.Rows L2
/-! ## the head: facts by names -/
def dd (x : Str) (i : Nat) : He5.DefA := ⟨fun K => He.ga K x, x, x, defArgs (top i), defBody (top i), defScope (top i), [], []⟩
def dm (C x : Str) (i j : Nat) (dfl : List He.Dv) : He5.DefA := ⟨fun K => He.ma K (He.ga K C) x, x, C ++ "." ++ x, defArgs (meth i j), defBody (meth i j), defScope (meth i j), dfl, []⟩
def aMY (K : PySem.W.Frag) : Addr := He5.wf K (He.ga K "Manners") "staticmethod" "every"
def aPQ (K : PySem.W.Frag) : Addr := He5.wf K (He.ga K "Profile") "property" "is_quiet"
def aT0 : PySem.W.Frag → Addr := He.dflAt ("Profile", some "__init__") 0
def fn : List He5.DefA := [dm "Manners" "__init__" 4 1 [], dm "Manners" "__eq__" 4 2 [], dm "Manners" "__or__" 4 5 [], dm "Manners" "within" 4 6 [], ⟨aMY, "every", "Manners.every", defArgs (meth 4 7), defBody (meth 4 7), defScope (meth 4 7), [], []⟩, dd "_least" 6, dm "Profile" "__init__" 7 0 [.adr aT0], dm "Profile" "__eq__" 7 1 [], dm "Profile" "__len__" 7 2 [], dm "Profile" "__iter__" 7 3 [], dm "Profile" "__contains__" 7 4 [], dm "Profile" "__or__" 7 5 [], dm "Profile" "__and__" 7 6 [], dm "Profile" "greatest" 7 9 [], dm "Profile" "within" 7 10 [], dm "Profile" "_tells" 7 11 [], ⟨aPQ, "is_quiet", "Profile.is_quiet", defArgs (meth 7 8), defBody (meth 7 8), defScope (meth 7 8), [], []⟩, dd "_law_bag" 9, dd "_law_take" 10, dd "_law_of" 11, dd "_law_eight" 12, dd "_law_manners" 13, dd "_law_is" 14, dd "_law_part" 15, dd "_law_telling" 16, dd "_law_least" 17, dd "_law_greatest" 18, dd "_law_fits" 19, dd "_law_sets" 20, dd "law" 21]
def fa : List He.Fa := [.glo "Manners", .glo "Profile", .glo "_least", .glo "_law_bag", .glo "_law_take", .glo "_law_of", .glo "_law_eight", .glo "_law_manners", .glo "_law_is", .glo "_law_part", .glo "_law_telling", .glo "_law_least", .glo "_law_greatest", .glo "_law_fits", .glo "_law_sets", .glo "law", .free "isinstance", .free "tuple", .free "list", .free "all", .free "any", .free "iter", .free "len", .free "range", .free "abs", .free "int", .free "enumerate", .free "max", .free "min", .free "bool", .cls "Manners", .cls "Profile", .noat "Manners" "names", .noat "Profile" "least_sets", .mkr "Manners", .mkr "Profile", .meth "Manners" "within", .meth "Profile" "__len__", .meth "Profile" "__contains__", .meth "Profile" "greatest", .meth "Profile" "within", .meth "Profile" "_tells", .meth "Profile" "__iter__"]
def exs (K : PySem.W.Frag) : List Bool := [Hb8.ownB K (He.ga K "Manners"), Hb8.ownB K (He.ga K "Profile"), Hb8.eqB K (He.ga K "Manners"), Hb8.eqB K (He.ga K "Profile"), PySem.W.notFirst K (He.ga K "Manners") (.ref (He.ga K "Manners")), PySem.W.notFirst K (He.ga K "Profile") (.ref (He.ga K "Profile")), PySem.W.notFirst K (He.ga K "Profile") (.type "tuple"), PySem.W.notFirst K (He.ga K "Profile") (.type "list"), Hb8.conB K (He.ga K "Manners") "WORDS" (.ref (He.ma K (He.ga K "Manners") "WORDS")), Hb8.tupB K (He.ma K (He.ga K "Manners") "WORDS") [.str "ask", .str "old", .str "set"], Hb8.tupB K (aT0 K) [], He5.wrapB K (He.ga K "Manners") "staticmethod" "staticmethod.__get__" "every", Hb8.propB K (He.ga K "Profile") "is_quiet", Hb8.binB K (He.ga K "Manners") "__or__", Hb8.binB K (He.ga K "Profile") "__or__", Hb8.binB K (He.ga K "Profile") "__and__"]
abbrev AlX : Type := Bool × He.AlD
def obsX (K : PySem.W.Frag) : AlX := ((exs K).all fun b => b, He5.obsA fa fn K)
def valX : AlX := (true, He5.valA fn)
def obsXG (n : Nat) (g : Addr → Option Obj) : AlX := obsX (He.frG g (He5.asA g n))
def hk : PySem.W.Hook where
  α := AlX
  obs := fun s => obsXG 6 s.heap.get?
  val := fun _ => valX
  says := fun _ h => ∃ K : PySem.W.Frag, K.In h ∧ obsX K = valX
  of := fun _ _ e => ⟨_, He.frG_in, e⟩
  keeps := fun _ _ _ ⟨K, hK, c⟩ k => ⟨K, PySem.W.Frag.In.keeps hK k, c⟩
abbrev R : PySem.W.OpenRow := PySem.W.OpenLaw.row PySem.Challenge.rw_waypairs_k82_profiles_of_sets
def ob (s : PySem.W.SharedT) : AlX := obsXG 6 (HandSHeadRun.getT s)
theorem ob_eq (s : PySem.W.SharedT) : ob s = hk.obs s.abs := by
  have e : HandSHeadRun.getT s = s.abs.heap.get? := funext (HandSHeadRun.getT_eq s)
  show obsXG 6 (HandSHeadRun.getT s) = obsXG 6 s.abs.heap.get?
  rw [e]
theorem run (w : World) : HandSHeadRun.RunEq R (PySem.W.view R.prog [21]) hk ob 4000 (["Manners", "Profile", "_least", "_law_bag", "_law_take", "_law_of", "_law_eight", "_law_manners", "_law_is", "_law_part", "_law_telling", "_law_least", "_law_greatest", "_law_fits", "_law_sets", "WayError", "BadManner"] : List PySem.Str) w := by
  intro os
  kernel_rfl
theorem facts {P : Program} {w : World} {K : PySem.W.Frag} {h : Heap} {mg : Str → Option Value} {f : Addr} (X : K.In h) (G : h.Ns mainGlobals mg) (hfa : mg ("law" : Str) = some (.ref f)) (cx : obsX K = valX) :
    ∃ fd : FuncData, (∀ (s : Shared) (v : Value), BindsTo s fd ⟨[v], []⟩ [("_law_script", v)]) ∧ ∀ base : Heap, K.In base → base.Ns mainGlobals mg → FnOk P w K mg base CX0 10 f fd ["_law_script"] (spLw K) := by
  have cb : ∀ b ∈ exs K, b = true := fun b hb => List.all_eq_true.mp (congrArg (fun z : AlX => z.1) cx) b hb
  have ex := fun (i : Nat) (b : Bool) (e : (exs K)[i]? = some b) => cb b (List.mem_of_getElem? e)
  have c : He5.SaysA fa fn K := congrArg (fun z : AlX => z.2) cx
  have g := fun (i : Nat) (x : Str) (e : fa[i]? = some (.glo x)) => He.glo_ok (x := x) X G (c.fact i (f := .glo x) e)
  have fr := fun (i : Nat) (x : Str) (e : fa[i]? = some (.free x)) => He.free_ok (x := x) X G (c.fact i (f := .free x) e)
  have mt := fun (i : Nat) (C m : Str) (e : fa[i]? = some (.meth C m)) => He.meth_ok (x := C) (m := m) (c.fact i (f := .meth C m) e)
  obtain ⟨fd_MI, F_MI⟩ := c.def_ 0 (d := dm "Manners" "__init__" 4 1 []) rfl
  obtain ⟨fd_ME, F_ME⟩ := c.def_ 1 (d := dm "Manners" "__eq__" 4 2 []) rfl
  have b_ME := FunD.bindsN (ps := ["self", "other"]) F_ME fun _ _ _ _ _ _ us hl => match us, hl with | [_, _], _ => rfl
  obtain ⟨fd_MO, F_MO⟩ := c.def_ 2 (d := dm "Manners" "__or__" 4 5 []) rfl
  have b_MO := FunD.bindsN (ps := ["self", "other"]) F_MO fun _ _ _ _ _ _ us hl => match us, hl with | [_, _], _ => rfl
  obtain ⟨fd_MW, F_MW⟩ := c.def_ 3 (d := dm "Manners" "within" 4 6 []) rfl
  have b_MW := FunD.bindsN (ps := ["self", "other"]) F_MW fun _ _ _ _ _ _ us hl => match us, hl with | [_, _], _ => rfl
  obtain ⟨fd_MY, F_MY⟩ := c.def_ 4 (d := ⟨aMY, "every", "Manners.every", defArgs (meth 4 7), defBody (meth 4 7), defScope (meth 4 7), [], []⟩) rfl
  have b_MY := FunD.bindsN (ps := []) F_MY fun _ _ _ _ _ _ us hl => match us, hl with | [], _ => rfl
  obtain ⟨fd_ls, F_ls⟩ := c.def_ 5 (d := dd "_least" 6) rfl
  have b_ls := FunD.bindsN (ps := ["sets"]) F_ls fun _ _ _ _ _ _ us hl => match us, hl with | [_], _ => rfl
  obtain ⟨fd_PI, F_PI⟩ := c.def_ 6 (d := dm "Profile" "__init__" 7 0 [.adr aT0]) rfl
  obtain ⟨fd_PE, F_PE⟩ := c.def_ 7 (d := dm "Profile" "__eq__" 7 1 []) rfl
  have b_PE := FunD.bindsN (ps := ["self", "other"]) F_PE fun _ _ _ _ _ _ us hl => match us, hl with | [_, _], _ => rfl
  obtain ⟨fd_PL, F_PL⟩ := c.def_ 8 (d := dm "Profile" "__len__" 7 2 []) rfl
  have b_PL := FunD.bindsN (ps := ["self"]) F_PL fun _ _ _ _ _ _ us hl => match us, hl with | [_], _ => rfl
  obtain ⟨fd_PT, F_PT⟩ := c.def_ 9 (d := dm "Profile" "__iter__" 7 3 []) rfl
  have b_PT := FunD.bindsN (ps := ["self"]) F_PT fun _ _ _ _ _ _ us hl => match us, hl with | [_], _ => rfl
  obtain ⟨fd_PC, F_PC⟩ := c.def_ 10 (d := dm "Profile" "__contains__" 7 4 []) rfl
  have b_PC := FunD.bindsN (ps := ["self", "x"]) F_PC fun _ _ _ _ _ _ us hl => match us, hl with | [_, _], _ => rfl
  obtain ⟨fd_PO, F_PO⟩ := c.def_ 11 (d := dm "Profile" "__or__" 7 5 []) rfl
  have b_PO := FunD.bindsN (ps := ["self", "other"]) F_PO fun _ _ _ _ _ _ us hl => match us, hl with | [_, _], _ => rfl
  obtain ⟨fd_PA, F_PA⟩ := c.def_ 12 (d := dm "Profile" "__and__" 7 6 []) rfl
  have b_PA := FunD.bindsN (ps := ["self", "other"]) F_PA fun _ _ _ _ _ _ us hl => match us, hl with | [_, _], _ => rfl
  obtain ⟨fd_PG, F_PG⟩ := c.def_ 13 (d := dm "Profile" "greatest" 7 9 []) rfl
  have b_PG := FunD.bindsN (ps := ["self"]) F_PG fun _ _ _ _ _ _ us hl => match us, hl with | [_], _ => rfl
  obtain ⟨fd_PW, F_PW⟩ := c.def_ 14 (d := dm "Profile" "within" 7 10 []) rfl
  have b_PW := FunD.bindsN (ps := ["self", "other"]) F_PW fun _ _ _ _ _ _ us hl => match us, hl with | [_, _], _ => rfl
  obtain ⟨fd_PS, F_PS⟩ := c.def_ 15 (d := dm "Profile" "_tells" 7 11 []) rfl
  have b_PS := FunD.bindsN (ps := ["self", "manners"]) F_PS fun _ _ _ _ _ _ us hl => match us, hl with | [_, _], _ => rfl
  obtain ⟨fd_PQ, F_PQ⟩ := c.def_ 16 (d := ⟨aPQ, "is_quiet", "Profile.is_quiet", defArgs (meth 7 8), defBody (meth 7 8), defScope (meth 7 8), [], []⟩) rfl
  have b_PQ := FunD.bindsN (ps := ["self"]) F_PQ fun _ _ _ _ _ _ us hl => match us, hl with | [_], _ => rfl
  obtain ⟨fd_bg, F_bg⟩ := c.def_ 17 (d := dd "_law_bag" 9) rfl
  have b_bg := FunD.bindsN (ps := ["_law_script", "_law_at"]) F_bg fun _ _ _ _ _ _ us hl => match us, hl with | [_, _], _ => rfl
  obtain ⟨fd_tk, F_tk⟩ := c.def_ 18 (d := dd "_law_take" 10) rfl
  have b_tk := FunD.bindsN (ps := ["_law_bag_here", "_law_many"]) F_tk fun _ _ _ _ _ _ us hl => match us, hl with | [_, _], _ => rfl
  obtain ⟨fd_of, F_of⟩ := c.def_ 19 (d := dd "_law_of" 11) rfl
  have b_of := FunD.bindsN (ps := ["_law_bag_here", "_law_some"]) F_of fun _ _ _ _ _ _ us hl => match us, hl with | [_, _], _ => rfl
  obtain ⟨fd_ei, F_ei⟩ := c.def_ 20 (d := dd "_law_eight" 12) rfl
  have b_ei := FunD.bindsN (ps := []) F_ei fun _ _ _ _ _ _ us hl => match us, hl with | [], _ => rfl
  obtain ⟨fd_ms, F_ms⟩ := c.def_ 21 (d := dd "_law_manners" 13) rfl
  have b_ms := FunD.bindsN (ps := ["_law_names"]) F_ms fun _ _ _ _ _ _ us hl => match us, hl with | [_], _ => rfl
  obtain ⟨fd_is, F_is⟩ := c.def_ 22 (d := dd "_law_is" 14) rfl
  have b_is := FunD.bindsN (ps := ["_law_actual", "_law_expected"]) F_is fun _ _ _ _ _ _ us hl => match us, hl with | [_, _], _ => rfl
  obtain ⟨fd_pt, F_pt⟩ := c.def_ 23 (d := dd "_law_part" 15) rfl
  have b_pt := FunD.bindsN (ps := ["_law_less", "_law_more"]) F_pt fun _ _ _ _ _ _ us hl => match us, hl with | [_, _], _ => rfl
  obtain ⟨fd_te, F_te⟩ := c.def_ 24 (d := dd "_law_telling" 16) rfl
  have b_te := FunD.bindsN (ps := ["_law_sets_here"]) F_te fun _ _ _ _ _ _ us hl => match us, hl with | [_], _ => rfl
  obtain ⟨fd_le, F_le⟩ := c.def_ 25 (d := dd "_law_least" 17) rfl
  have b_le := FunD.bindsN (ps := ["_law_telling_here"]) F_le fun _ _ _ _ _ _ us hl => match us, hl with | [_], _ => rfl
  obtain ⟨fd_ge, F_ge⟩ := c.def_ 26 (d := dd "_law_greatest" 18) rfl
  have b_ge := FunD.bindsN (ps := ["_law_telling_here"]) F_ge fun _ _ _ _ _ _ us hl => match us, hl with | [_], _ => rfl
  obtain ⟨fd_fi, F_fi⟩ := c.def_ 27 (d := dd "_law_fits" 19) rfl
  have b_fi := FunD.bindsN (ps := ["_law_profile", "_law_telling_here"]) F_fi fun _ _ _ _ _ _ us hl => match us, hl with | [_, _], _ => rfl
  obtain ⟨fd_ss, F_ss⟩ := c.def_ 28 (d := dd "_law_sets" 20) rfl
  have b_ss := FunD.bindsN (ps := ["_law_bag_here"]) F_ss fun _ _ _ _ _ _ us hl => match us, hl with | [_], _ => rfl
  obtain ⟨fd_law, F_law⟩ := c.def_ 29 (d := dd "law" 21) rfl
  have b_law := FunD.bindsA (ps := ["_law_script"]) F_law fun _ _ _ _ _ _ us hl => match us, hl with | [_], _ => rfl
  have eL := hfa.symm.trans (g 15 "law" rfl)
  cases eL
  refine ⟨fd_law, fun s v => b_law s [v] rfl, fun base _ _ => ?_⟩
  have B : Bn mg := ⟨fr 16 "isinstance" rfl, fr 17 "tuple" rfl, fr 18 "list" rfl, fr 19 "all" rfl, fr 20 "any" rfl, fr 21 "iter" rfl, fr 22 "len" rfl, fr 23 "range" rfl, fr 24 "abs" rfl, fr 25 "int" rfl, fr 26 "enumerate" rfl, fr 27 "max" rfl, fr 28 "min" rfl, fr 29 "bool" rfl⟩
  obtain ⟨crd, uw, cvl⟩ := Hb8.conB_ok (ex 8 _ rfl)
  have M : MfC K mg (He.ga K "Manners") := ⟨Hb8.ownB_ok (He.cls_ok (c.fact 30 (f := .cls "Manners") rfl)) (ex 0 _ rfl), He.noat_ok (c.fact 32 (f := .noat "Manners" "names") rfl), g 0 "Manners" rfl, crd, _, uw, cvl, fun H => Hb8.tupB_ok (ex 9 _ rfl) H⟩
  have N : PfC K mg (He.ga K "Profile") := ⟨Hb8.ownB_ok (He.cls_ok (c.fact 31 (f := .cls "Profile") rfl)) (ex 1 _ rfl), He.noat_ok (c.fact 33 (f := .noat "Profile" "least_sets") rfl), g 1 "Profile" rfl⟩
  have KM : MkM P w K mg base (He.ga K "Manners") _ := ⟨ok_MI (He5.fun_of (st := meth 4 1) F_MI) B M, He.mkr_ok (c.fact 34 (f := .mkr "Manners") rfl)⟩
  have EQ : EqM P w K mg base (He.ga K "Manners") _ fd_ME := ⟨ok_ME (He5.fun_of (st := meth 4 2) F_ME) B M, b_ME, Hb8.eqB_ok (ex 2 _ rfl), (ex 4 _ rfl)⟩
  obtain ⟨sf1, at1, fn1⟩ := Hb8.binB_ok (ex 13 _ rfl)
  have OR : OwnB P w K mg base (He.ga K "Manners") 4 .BitOr (spMO (He.ga K "Manners")) _ fd_MO := ⟨ok_MO (He5.fun_of (st := meth 4 5) F_MO) B M KM, b_MO, sf1, at1, fn1⟩
  have WI : KMth P w K mg base (He.ga K "Manners") 1 "within" ["self", "other"] (spMW (He.ga K "Manners")) _ fd_MW := ⟨ok_MW (He5.fun_of (st := meth 4 6) F_MW) B M, mt 36 "Manners" "within" rfl, b_MW⟩
  obtain ⟨sm1, sm2⟩ := He5.wrapB_ok (ex 11 _ rfl)
  have YS : EvM P w K mg base (He.ga K "Manners") _ (aMY K) fd_MY := ⟨ok_MY (He5.fun_of (st := meth 4 7) F_MY) B M KM, b_MY, ⟨sm1, sm2, F_MY.kp⟩⟩
  have KL : Known P w K mg base CX0 5 "_least" ["sets"] (spLst (He.ga K "Manners")) _ fd_ls := ⟨ok_lst (He5.fun_of (st := top 6) F_ls) B M EQ WI YS, g 2 "_least" rfl, F_ls.kp, b_ls⟩
  have k_PS : KMth P w K mg base (He.ga K "Profile") 2 "_tells" ["self", "manners"] (spTl (He.ga K "Profile") (He.ga K "Manners")) _ fd_PS := ⟨ok_Tl (He5.fun_of (st := meth 7 11) F_PS) B M N WI, mt 41 "Profile" "_tells" rfl, b_PS⟩
  have k_PL : KMth P w K mg base (He.ga K "Profile") 5 "__len__" ["self"] (spLn (He.ga K "Profile") (He.ga K "Manners")) _ fd_PL := ⟨ok_Ln (He5.fun_of (st := meth 7 2) F_PL) B M N YS k_PS, mt 37 "Profile" "__len__" rfl, b_PL⟩
  have k_PC : KMth P w K mg base (He.ga K "Profile") 3 "__contains__" ["self", "x"] (spCt (He.ga K "Profile") (He.ga K "Manners")) _ fd_PC := ⟨ok_Ct (He5.fun_of (st := meth 7 4) F_PC) B M N k_PS, mt 38 "Profile" "__contains__" rfl, b_PC⟩
  have k_PG : KMth P w K mg base (He.ga K "Profile") 5 "greatest" ["self"] (spGr (He.ga K "Profile") (He.ga K "Manners")) _ fd_PG := ⟨ok_Gr (He5.fun_of (st := meth 7 9) F_PG) B M N EQ WI YS k_PS, mt 39 "Profile" "greatest" rfl, b_PG⟩
  have k_PW : KMth P w K mg base (He.ga K "Profile") 4 "within" ["self", "other"] (spPW (He.ga K "Profile") (He.ga K "Manners")) _ fd_PW := ⟨ok_PW (He5.fun_of (st := meth 7 10) F_PW) B N k_PC, mt 40 "Profile" "within" rfl, b_PW⟩
  have mIt := mt 42 "Profile" "__iter__" rfl
  have R : PrC P w K mg base (He.ga K "Profile") (He.ga K "Manners") := ⟨⟨_, fd_PT, ok_It (He5.fun_of (st := meth 7 3) F_PT) B N, b_PT, mIt.at_, mIt.fn⟩, ⟨_, fd_PL, k_PL⟩, ⟨_, fd_PC, k_PC⟩, ⟨_, fd_PG, k_PG⟩, ⟨_, _, fd_PQ, Hb8.propB_ok (ex 12 _ rfl), ok_Qu (He5.fun_of (st := meth 7 8) F_PQ) B N, b_PQ⟩⟩
  have PQ : EqP P w K mg base (He.ga K "Profile") (He.ga K "Manners") _ fd_PE := ⟨ok_PE (He5.fun_of (st := meth 7 1) F_PE) B N EQ, b_PE, Hb8.eqB_ok (ex 3 _ rfl), (ex 5 _ rfl), (ex 6 _ rfl), (ex 7 _ rfl)⟩
  obtain ⟨ds0, vd0, bd0⟩ := FunD.binds1 (ps := ["self", "sets"]) F_PI 1 0 (by intro z; cases z) (by rfl) fun T kV doc pm an cdv ct us its h1 h2 => match us, h1, its, h2 with | [_], _, [_], _ => ⟨_, rfl, rfl⟩
  obtain ⟨ds1, vd1, bd1⟩ := FunD.binds1 (ps := ["self", "sets"]) F_PI 2 1 (by intro z; cases z) (by rfl) fun T kV doc pm an cdv ct us its h1 h2 => match us, h1, its, h2 with | [_, _], _, [_], _ => ⟨_, rfl, rfl⟩
  have e1 : ds1 = [] := by
    cases vd1
    rfl
  subst e1
  have KP : MkP P w K mg base (He.ga K "Profile") (He.ga K "Manners") _ fd_PI := ⟨ok_PI F_PI B N KL, He.mkr_ok (c.fact 35 (f := .mkr "Profile") rfl), bd1, aT0 K, ds0, vd0, bd0, fun H => Hb8.tupB_ok (ex 10 _ rfl) H⟩
  obtain ⟨sf2, at2, fn2⟩ := Hb8.binB_ok (ex 14 _ rfl)
  obtain ⟨sf3, at3, fn3⟩ := Hb8.binB_ok (ex 15 _ rfl)
  have PO : OwnB P w K mg base (He.ga K "Profile") 8 .BitOr (spPO Nat.lor (He.ga K "Profile") (He.ga K "Manners")) _ fd_PO := ⟨ok_PO (He5.fun_of (st := meth 7 5) F_PO) B N KP, b_PO, sf2, at2, fn2⟩
  have PA : OwnB P w K mg base (He.ga K "Profile") 8 .BitAnd (spPO Nat.land (He.ga K "Profile") (He.ga K "Manners")) _ fd_PA := ⟨ok_PA (He5.fun_of (st := meth 7 6) F_PA) B N KP OR, b_PA, sf3, at3, fn3⟩
  have k_bg : Known P w K mg base CX0 1 "_law_bag" ["_law_script", "_law_at"] (spBg K) _ fd_bg := ⟨ok_Bg (He5.fun_of (st := top 9) F_bg) B, g 3 "_law_bag" rfl, F_bg.kp, b_bg⟩
  have k_tk : Known P w K mg base CX0 1 "_law_take" ["_law_bag_here", "_law_many"] (spTk) _ fd_tk := ⟨ok_Tk (He5.fun_of (st := top 10) F_tk) B, g 4 "_law_take" rfl, F_tk.kp, b_tk⟩
  have k_of : Known P w K mg base CX0 2 "_law_of" ["_law_bag_here", "_law_some"] (spOf K) _ fd_of := ⟨ok_Of (He5.fun_of (st := top 11) F_of) B k_tk, g 5 "_law_of" rfl, F_of.kp, b_of⟩
  have k_ei : Known P w K mg base CX0 1 "_law_eight" [] (spEi) _ fd_ei := ⟨ok_Ei (He5.fun_of (st := top 12) F_ei), g 6 "_law_eight" rfl, F_ei.kp, b_ei⟩
  have k_ms : Known P w K mg base CX0 5 "_law_manners" ["_law_names"] (spMs (He.ga K "Manners")) _ fd_ms := ⟨ok_Ms (He5.fun_of (st := top 13) F_ms) B M KM OR, g 7 "_law_manners" rfl, F_ms.kp, b_ms⟩
  have k_is : Known P w K mg base CX0 1 "_law_is" ["_law_actual", "_law_expected"] (spIs) _ fd_is := ⟨ok_Is (He5.fun_of (st := top 14) F_is) B, g 8 "_law_is" rfl, F_is.kp, b_is⟩
  have k_pt : Known P w K mg base CX0 1 "_law_part" ["_law_less", "_law_more"] (spPt K) _ fd_pt := ⟨ok_Pt (He5.fun_of (st := top 15) F_pt), g 9 "_law_part" rfl, F_pt.kp, b_pt⟩
  have k_te : Known P w K mg base CX0 2 "_law_telling" ["_law_sets_here"] (spTe) _ fd_te := ⟨ok_Te (He5.fun_of (st := top 16) F_te) B k_pt k_ei, g 10 "_law_telling" rfl, F_te.kp, b_te⟩
  have k_le : Known P w K mg base CX0 2 "_law_least" ["_law_telling_here"] (spLe) _ fd_le := ⟨ok_Le (He5.fun_of (st := top 17) F_le) B k_pt, g 11 "_law_least" rfl, F_le.kp, b_le⟩
  have k_ge : Known P w K mg base CX0 2 "_law_greatest" ["_law_telling_here"] (spGe) _ fd_ge := ⟨ok_Ge (He5.fun_of (st := top 18) F_ge) B k_pt k_ei, g 12 "_law_greatest" rfl, F_ge.kp, b_ge⟩
  have k_fi : Known P w K mg base CX0 8 "_law_fits" ["_law_profile", "_law_telling_here"] (spFi (He.ga K "Profile") (He.ga K "Manners")) _ fd_fi := ⟨ok_Fi (He5.fun_of (st := top 19) F_fi) B M N KM R k_le k_ge k_ei k_ms k_is, g 13 "_law_fits" rfl, F_fi.kp, b_fi⟩
  have k_ss : Known P w K mg base CX0 3 "_law_sets" ["_law_bag_here"] (spSs) _ fd_ss := ⟨ok_Ss (He5.fun_of (st := top 20) F_ss) B k_tk k_of k_ei, g 14 "_law_sets" rfl, F_ss.kp, b_ss⟩
  exact ok_Lw (He5.fun_of (st := top 21) F_law) ⟨B, M, N, ⟨_, KM⟩, ⟨_, _, KP⟩, R, ⟨_, _, PQ⟩, ⟨_, _, PO⟩, ⟨_, _, PA⟩, ⟨_, _, k_PW⟩, ⟨_, _, k_bg⟩, ⟨_, _, k_ss⟩, ⟨_, _, k_ms⟩, ⟨_, _, k_tk⟩, ⟨_, _, k_te⟩, ⟨_, _, k_fi⟩, ⟨_, _, k_ei⟩, ⟨_, _, k_is⟩⟩
end W8
open PySem PySem.W PySem.Calls PyProof.Rows
theorem PySem.Challenge.cw_waypairs_k82_profiles_of_sets_holds : PySem.Challenge.rw_waypairs_k82_profiles_of_sets.Holds := by
  w_on; o_law
  refine HandSHeadRun.head_any (r := OpenLaw.row PySem.Challenge.rw_waypairs_k82_profiles_of_sets) (q := view (OpenLaw.row PySem.Challenge.rw_waypairs_k82_profiles_of_sets).prog [21]) (H := W8.hk) (ob := W8.ob) (M := 4000) (loose := (["Manners", "Profile", "_least", "_law_bag", "_law_take", "_law_of", "_law_eight", "_law_manners", "_law_is", "_law_part", "_law_telling", "_law_least", "_law_greatest", "_law_fits", "_law_sets", "WayError", "BadManner"] : List PySem.Str)) (d := HandSHeadRun.topDef (OpenLaw.row PySem.Challenge.rw_waypairs_k82_profiles_of_sets).prog 21) (kwd := []) W8.ob_eq
    (by kernel_rfl) (fun s => by kernel_rfl) W8.run (by kernel_rfl) (by kernel_rfl) (by kernel_rfl) (by rfl) (by first | assumption | decide +kernel) (by decide +kernel) ⟨rfl, rfl, rfl, rfl, rfl, by decide +kernel⟩ ?hw ?hc
  case hw => w_witness2
  case hc =>
    refine L2.walk_ofE (l := PySem.Challenge.rw_waypairs_k82_profiles_of_sets) (n := 63) (k := 10) (x := "_law_script") (CX := L2.CX0) rfl (by decide) (by kernel_rfl) ⟨rfl, by decide, by decide⟩ ?F (fun _ _ _ _ z => z)
    intro w mg fa h Y G hmg0
    obtain ⟨K, KX, c⟩ := Y
    have hmg : mg ("law" : PySem.Str) = some (.ref fa) := by
      have e : (HandSHeadRun.topDef (OpenLaw.row PySem.Challenge.rw_waypairs_k82_profiles_of_sets).prog 21).name = ("law" : PySem.Str) := by kernel_rfl
      rw [← e]
      exact hmg0
    obtain ⟨fd, hb, hF⟩ := W8.facts (P := (PySem.Challenge.rw_waypairs_k82_profiles_of_sets).prog) (w := w) KX G hmg c
    exact ⟨K, fd, W8.spLw K, KX, hb, fun H a ns hl _ hS => ⟨a, ns, rfl, hS, hl, fun _ => rfl⟩, hF⟩
