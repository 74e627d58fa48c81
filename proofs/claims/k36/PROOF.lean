import PyProof.Rows.All
import Wide.All
import OpenK.AllK
import Wide.FinOn
import HandS.ForMost
import HandS.Wide
import HandS.Strs
import HandS.OwnEq
import HandS.More
import HandS.IsInst
import HandS.Walk
import HandS.ForExc
import KE.KExcIs
import HandS.ExcInit
import HandS.ExcIs
import HandS.ExcValue
import HandS.ExcField
import HandS.MakeKwOnly
import HandS.ClsMeth
import PyProof.NeKinds
import HandS.ExcCtx
import HandS.Head0
import HandS.Head1
import HandS.Head2
import HandS.HeadEnd
import HandS.HeadHook1
import HandS.HeadHook2
import HandS.HeadHook3
import HandS.HeadNt
import HandS.Words
import HandS.WordsExc
import HandS.Comp
import HandS.Deep
import HandS.DictComp
import HandS.Dict
import HandS.TupAny
import HandS.Flow
import HandS.DictSub
import OpenK.KMeth
import HandS.Star
import HandS.Codes
import HandS.MakeKw
import HandS.Iter
import HandS.NamedTupGet
import HandS.SetFor
import KE.GoesZip
import KE.GoesEnum
import KE.GoesMore
import HandS.DictTup
import HandS.TupLen
import KE.KDictKeyed
import KE.KDictLaw
import KE.KDictItemsList
import HandS.ReCall
import HandS.DeepEq
import HandS.Style
import PySem.Challenge.RW_waypairs_k36_webs_led
set_option Elab.async false
set_option linter.all false
set_option maxRecDepth 100000
set_option maxHeartbeats 4000000
namespace Wp
open PySem L2
def top (i : Nat) : Stmt := PySem.Challenge.pw_waypairs_k36_webs_led.main.body.getD i (.Pass ⟨0, 0, 0, 0⟩)
end Wp
set_option Elab.async false
set_option linter.all false
set_option maxRecDepth 100000
set_option maxHeartbeats 4000000
/-! A set made of any number of texts: how many there are. -/
namespace Wp.TS
open PySem PySem.Spec PyProof.Rows
/-- one text more -/
def one (σ : List Str) (x : Str) : List Str := if x ∈ σ then σ else σ ++ [x]
/-- each text once -/
def once (xs : List Str) : List Str := xs.foldl one []
theorem once_snoc (xs : List Str) (x : Str) : once (xs ++ [x]) = one (once xs) x := by simp [once, List.foldl_append]
theorem one_mem {σ : List Str} {x y : Str} : y ∈ one σ x ↔ y ∈ σ ∨ y = x := by
  unfold one
  split
  · next h => exact ⟨.inl, fun z => z.elim id fun e => e ▸ h⟩
  · simp
theorem once_from (xs : List Str) : ∀ σ, (xs.foldl one σ).length ≤ σ.length + xs.length := by
  induction xs with
  | nil => intro σ; simp
  | cons x xs ih =>
    intro σ
    have a := ih (one σ x)
    have b : (one σ x).length ≤ σ.length + 1 := by unfold one; split <;> simp
    simp only [List.foldl_cons, List.length_cons]
    omega
theorem once_le (xs : List Str) : (once xs).length ≤ xs.length := by
  have := once_from xs []
  simpa [once] using this
theorem once_mem (xs : List Str) (y : Str) : y ∈ once xs ↔ y ∈ xs := by
  have key : ∀ (xs σ : List Str), y ∈ xs.foldl one σ ↔ y ∈ σ ∨ y ∈ xs := by
    intro xs
    induction xs with
    | nil => intro σ; simp
    | cons x xs ih =>
      intro σ
      rw [List.foldl_cons, ih, one_mem, List.mem_cons, or_assoc]
  have := key xs []
  simpa [once] using this
/-- as many as before, exactly if no text stands twice -/
theorem once_len (xs : List Str) : (once xs).length = xs.length ↔ xs.Nodup := by
  have key : ∀ (xs σ : List Str), σ.Nodup → ((xs.foldl one σ).length = σ.length + xs.length ↔ (σ ++ xs).Nodup) := by
    intro xs
    induction xs with
    | nil => intro σ h; simp [h]
    | cons x xs ih =>
      intro σ h
      rw [List.foldl_cons]
      by_cases e : x ∈ σ
      · have o : one σ x = σ := if_pos e
        rw [o]
        have b := once_from xs σ
        constructor
        · intro q
          simp only [List.length_cons] at q
          omega
        · intro q
          rw [List.nodup_append] at q
          exact absurd rfl (q.2.2 x e x List.mem_cons_self)
      · have o : one σ x = σ ++ [x] := if_neg e
        rw [o]
        have n : (σ ++ [x]).Nodup := by
          rw [List.nodup_append]
          refine ⟨h, by simp, fun a ha b hb z => ?_⟩
          rw [List.mem_singleton] at hb
          exact e (hb ▸ z ▸ ha)
        have q := ih (σ ++ [x]) n
        rw [List.append_assoc] at q
        simp only [List.length_append, List.length_cons, List.length_nil] at q ⊢
        rw [← List.singleton_append (l := xs)]
        rw [← q]
        omega
  have := key xs [] List.nodup_nil
  simpa [once] using this
section
variable {prog : Program} {w : World} {A : Around} {R : Result → Shared → Prop} {I S : Addr} {fp wr : List Addr} {G : Array GenState → Array GenState → Prop} {n : Nat} {P : Nat → Value → Prop} {St : Nat → Shared → Prop}
/-- the set at S holds these texts, each once -/
abbrev Holds (prog : Program) (w : World) (h : Heap) (S : Addr) (xs : List Str) : Prop := h.SetOf (PySem.strKind prog w) S (fun y => decide (y ∈ once xs)) (once xs).length
theorem Holds.at {h h' : Heap} {xs : List Str} (q : Holds prog w h S xs) (k : ∀ o, h.get? S = some o → h'.get? S = some o) : Holds prog w h' S xs := by
  obtain ⟨o, es, ep, t, ho, q⟩ := q
  exact ⟨o, es, ep, t, k o ho, q⟩
theorem upd_loop (W : WalksS prog w A.in1 I fp wr G n P St) (off : S ∉ fp) (xs : List Str) (few : xs.length + 1 < scanBound) (len : xs.length = n) (txt : ∀ i v, P i v → ∃ x t, xs[i]? = some x ∧ v = .str x t) :
    ∀ (m i : Nat) (s : Shared), i + m = n → St i s → Holds prog w s.heap S (xs.take i) →
      (∀ s', Moved (S :: wr) G s s' → Holds prog w s'.heap S xs → R (.ok (.ret .none)) s') → codeAny (model prog w) A (.builtin "set.update.loop" ⟨[.ref S, .ref I], []⟩) R s
  | 0, i, s, hm, st, hS, end_ => by
    obtain rfl : i = n := hm
    have out : S ∉ wr := fun z => off (W.sub _ z)
    apply codeAny_builtin F.entry_set_update_loop
    rw [Around.under_plainId F.plain_set_update_loop]
    apply wpAny_bind (m := pyNext (.ref I))
    refine W.done s _ _ st fun s' mv => ?_
    have q := hS.at fun o e => mv.heap S o out e
    rw [List.take_of_length_le (Nat.le_of_eq len)] at q
    exact wpAny_pure (end_ s' (mv.mono fun b hb => .tail _ hb) q)
  | m + 1, i, s, hm, st, hS, end_ => by
    have out : S ∉ wr := fun z => off (W.sub _ z)
    apply codeAny_builtin F.entry_set_update_loop
    rw [Around.under_plainId F.plain_set_update_loop]
    apply wpAny_bind (m := pyNext (.ref I))
    refine W.item i s _ _ (by omega) st fun v s' pv st' mv => ?_
    obtain ⟨x, t, hx, rfl⟩ := txt i v pv
    have at_ := hS.at fun o e => mv.heap S o out e
    have tk : xs.take (i + 1) = xs.take i ++ [x] := by rw [List.take_add_one, hx]; rfl
    have lt : (once (xs.take i)).length + 1 < scanBound := by
      have a := once_le (xs.take i)
      have b : (xs.take i).length ≤ xs.length := List.length_take_le' _ _
      omega
    apply wpAny_bind (m := holding [Value.str x t] (setAdd S (.str x t)))
    apply wpAny_holding
    unfold setAdd
    apply wpAny_holding
    apply wpAny_bind
    apply (PySem.strKind prog w).pyHash (k := x) (strKind_is _ _ _ _)
    refine wpAny_setAddHashed_of (knd := PySem.strKind prog w) (k := x) (s := { s' with toks := s'.toks + 1 }) (strKind_is _ _ _ _) rfl at_ lt fun h2 but set2 => ?_
    have next : Holds prog w h2 S (xs.take (i + 1)) := by
      unfold Holds
      rw [tk, once_snoc]
      refine SetOf_congr set2 (fun y => ?_) ?_
      · rw [Bool.eq_iff_iff]
        simp only [Bool.or_eq_true, decide_eq_true_eq]
        exact one_mem.symm
      · unfold one
        by_cases e : x ∈ once (xs.take i) <;> simp [e]
    refine wpAny_pure ⟨plainId_quiet F.plain_set_update_loop _, upd_loop W off xs few len txt m (i + 1) _ (by omega) ?_ next fun s3 mv3 q3 => end_ s3 ?_ q3⟩
    · exact W.frame _ s' _ _ st' (Nat.le_succ _) fun b hb o e => (but.2 b fun z => off (z ▸ hb)).trans e
    · exact ((mv.mono fun b hb => List.mem_cons_of_mem S hb).then_heap (Nat.le_succ _) fun b o hb e => (but.2 b fun z => hb (z ▸ List.mem_cons_self)).trans e).trans W.gtrans mv3
end
end Wp.TS
set_option Elab.async false
set_option linter.all false
set_option maxRecDepth 100000
set_option maxHeartbeats 4000000
namespace Wp.TS
open PySem PySem.Spec PyProof.Rows
/-- a list or tuple of texts, as the object at l -/
structure Row (h : Heap) (ty : String) (l : Addr) (us : Array Value) : Prop where
  kind : ty = "list" ∨ ty = "tuple"
  obj : ∃ o n, h.get? l = some o ∧ o.cls = .type ty ∧ o.data = .seq us n
section
variable {prog : Program} {w : World} {A : Around} {E : Value → Shared → Prop} {s : Shared}
def setObj (led : Bool) : Obj := { cls := .type "set", dict := none, data := .set #[] 0 (.fresh 0 0 led) }
theorem Row.push {h : Heap} {ty : String} {l : Addr} {us : Array Value} (r : Row h ty l us) (o : Obj) : Row (h.push o) ty l us := by
  obtain ⟨k, u, n, a, b, c⟩ := r
  exact ⟨k, u, n, Heap.get?_push_of_some _ a, b, c⟩
theorem Row.lt {h : Heap} {ty : String} {l : Addr} {us : Array Value} (r : Row h ty l us) : l < h.objs.size := by
  obtain ⟨k, u, n, a, b, c⟩ := r
  exact Heap.lt_size a
/-- what its iterator does -/
theorem Row.iter {B : Around} {ty : String} {l : Addr} {us : Array Value} (r : Row s.heap ty l us) (hh : B.handled = none) {Q : Value → Shared → Prop}
    (k : ∀ (it : Obj) (St : Nat → Heap → Prop), St 0 (s.heap.push it) → Walks prog w B s.heap.objs.size [s.heap.objs.size, l] [s.heap.objs.size] us.size (fun i v => us[i]? = some v) St →
      Q (.ref s.heap.objs.size) { s with heap := s.heap.push it }) : wpAny (model prog w) A (pyIter (.ref l)) Q E s := by
  have ne : l ≠ s.heap.objs.size := Nat.ne_of_lt r.lt
  obtain ⟨kd, o, n, a, b, c⟩ := r
  rcases kd with rfl | rfl
  · have q : s.heap.IsList l us := ⟨o, a, b, n, c⟩
    exact wpAny_pyIter_list q (k _ _ ⟨⟨_, Heap.get?_push_size _ rfl, rfl, rfl⟩, q.push _⟩ (Walks.list hh _ l ne us))
  · have q : s.heap.IsTuple l us := ⟨o, a, b, n, c⟩
    exact wpAny_pyIter_tuple q (k _ _ ⟨⟨_, Heap.get?_push_size _ rfl, rfl, rfl⟩, q.push _⟩ (Walks.tuple hh _ l ne us))
/-- the new set, filled -/
theorem set_fill {ty : String} {l S : Addr} {us : Array Value} {xs : List Str} (hh : A.handled = none) (r : Row s.heap ty l us) (ht : StrsAre us.toList xs) (few : xs.length + 1 < scanBound) {led : Bool}
    (ho : s.heap.get? S = some (setObj led)) (ne : S ≠ l) {Q : Value → Shared → Prop}
    (k : ∀ (h' : Heap) (tk : Nat), Holds prog w h' S xs → (∀ b o, b ≠ S → s.heap.get? b = some o → h'.get? b = some o) → Q .none { s with heap := h', toks := tk }) :
    wpAny (model prog w) A (pyIter (.ref l)) (fun it s1 => wpAny (model prog w) A (runValue (.builtin "set.update.loop" ⟨[.ref S, it], []⟩)) (fun _ s2 => Q .none s2) E s1) E s := by
  refine r.iter (B := A.in1) hh fun it St st wk => ?_
  refine wpAny_runValue ?_
  have lt : S < s.heap.objs.size := Heap.lt_size ho
  have off : S ∉ [s.heap.objs.size, l] := by
    simp only [List.mem_cons, List.not_mem_nil, or_false, not_or]
    exact ⟨Nat.ne_of_lt lt, ne⟩
  have sz : xs.length = us.size := by rw [← StrsAre.len_eq ht, Array.length_toList]
  refine upd_loop wk.toS off xs few sz (fun i v e => ?_) us.size 0 _ (Nat.zero_add _) st ?_ ?_
  · have hi : i < us.size := (Array.getElem?_eq_some_iff.mp e).1
    obtain ⟨t, q⟩ := SS.strs_at ht i v (by rw [Array.getElem?_toList]; exact e)
    have hx : i < xs.length := by omega
    exact ⟨xs[i], t, List.getElem?_eq_getElem hx, by rw [q, List.getD_eq_getElem?_getD, List.getElem?_eq_getElem hx]; rfl⟩
  · exact SetOf_congr ((setObjOf_fresh (knd := PySem.strKind prog w) led).setOf (Heap.get?_push_of_some it ho) (by unfold scanBound; omega)) (fun _ => rfl) rfl
  · rintro ⟨h1, g1, d1, t1, o1⟩ mv q
    obtain rfl : g1 = s.gens := mv.gens
    obtain rfl : d1 = s.drawn := mv.drawn
    obtain rfl : o1 = s.os := mv.os
    refine k h1 t1 q fun b o nb e => mv.heap b o ?_ (Heap.get?_push_of_some it e)
    simp only [List.mem_cons, List.not_mem_nil, or_false, not_or]
    exact ⟨nb, Nat.ne_of_lt (Heap.lt_size e)⟩
end
end Wp.TS
set_option Elab.async false
set_option linter.all false
set_option maxRecDepth 100000
set_option maxHeartbeats 4000000
namespace Wp.TS
open PySem PySem.Spec PyProof.Rows
section
variable {prog : Program} {w : World} {A : Around} {E : Value → Shared → Prop} {s : Shared}
theorem no_set {ty : String} (k : ty = "list" ∨ ty = "tuple") : isSubtype (.type ty) (.type "set") = pure false := by
  rcases k with rfl | rfl
  · exact PySem.F.sub_list_set
  · exact PySem.F.sub_tuple_set
theorem no_frozen {ty : String} (k : ty = "list" ∨ ty = "tuple") : isSubtype (.type ty) (.type "frozenset") = pure false := by
  rcases k with rfl | rfl
  · exact PySem.F.sub_list_frozenset
  · exact PySem.F.sub_tuple_frozenset
theorem no_dict {ty : String} (k : ty = "list" ∨ ty = "tuple") : (Value.type ty == Value.type "dict") = false := by
  rcases k with rfl | rfl <;> decide
theorem set_init {ty : String} {l S : Addr} {us : Array Value} {xs : List Str} (hh : A.handled = none) (r : Row s.heap ty l us) (ht : StrsAre us.toList xs) (few : xs.length + 1 < scanBound) {led : Bool}
    (ho : s.heap.get? S = some (setObj led)) (ne : S ≠ l) {Q : Value → Shared → Prop}
    (k : ∀ (h' : Heap) (tk : Nat), Holds prog w h' S xs → (∀ b o, b ≠ S → s.heap.get? b = some o → h'.get? b = some o) → Q .none { s with heap := h', toks := tk }) :
    wpAny (model prog w) A (Builtin.«set.__init__» ⟨[.ref S, .ref l], []⟩) (fun f s' => ∃ v, f = .done (.ret v) ∧ Q v s') E s := by
  have n1 := no_set r.kind
  have n2 := no_frozen r.kind
  have n3 := no_dict r.kind
  have hT : Shared.TypeIs s (.ref S) "set" := ⟨_, ho, rfl⟩
  obtain ⟨o, n, hl, cl, dt⟩ := r.obj
  obtain ⟨c, dd, da, sl⟩ := o
  simp only at cl dt
  subst cl
  subst dt
  have fill := set_fill (E := E) hh r ht few ho ne k
  unfold setObj at ho
  unfold Builtin.«set.__init__» noKeywords Builtin.Frozenset.updateFrom
  generalize hp : pyIter = PI at fill ⊢
  wp_walk
  refine wpAny_mono fill (fun it s1 q => ?_) fun _ _ e => e
  refine wpAny_bind (wpAny_mono q (fun _ s2 q2 => ?_) fun _ _ e => e)
  exact wpAny_pure (wpAny_pure ⟨_, rfl, q2⟩)
/-- set(xs), xs a list or tuple of texts -/
theorem set_call {ty : String} {l : Addr} {us : Array Value} {xs : List Str} (hh : A.handled = none) (r : Row s.heap ty l us) (ht : StrsAre us.toList xs) (few : xs.length + 1 < scanBound) {Q : Value → Shared → Prop}
    (k : ∀ (h' : Heap) (tk : Nat), Holds prog w h' s.heap.objs.size xs → (∀ b o, s.heap.get? b = some o → h'.get? b = some o) → Q (.ref s.heap.objs.size) { s with heap := h', toks := tk }) :
    wpAny (model prog w) A (call (.type "set") [.ref l]) Q E s := by
  have C := PySem.F.called_set
  obtain ⟨c, tl, c1⟩ := C.mro
  have c2 := C.made
  have c3 := C.sub
  have c4 := C.notType
  have c5 := C.canCreate
  have c6 := PySem.F.typeCall_set_1 (.ref l)
  have c7 := C.init.lookup
  apply wpAny_call
  apply codeAny_of_tree
  show wpAny _ _ (callAny (.type "set") _) _ _ _
  refine wpAny_pure ⟨Code.quiet_builtin _ (by decide +kernel), ?_⟩
  apply codeAny_builtin PySem.F.entry_type_call
  rw [Around.under_plain (weight_type_call_type "set" [.ref l] []) rfl]
  repeat (any_goals (first | assumption | wp_step))
  refine codeAny_mono (code_set_new_1 (.ref l) (Q₁ := fun v s1 => ∃ led, v = .ref s.heap.objs.size ∧ s1 = { s with heap := s.heap.push (setObj led) }) (E := E) fun led => ⟨led, rfl, rfl⟩) fun res s1 got => ?_
  rcases res with e | (_ | _ | _ | v) <;> first | exact got | exact got.elim | skip
  obtain ⟨led, rfl, rfl⟩ := got
  have ho : (s.heap.push (setObj led)).get? s.heap.objs.size = some (setObj led) := Heap.get?_push_size _ rfl
  have hT : Shared.TypeIs { s with heap := s.heap.push (setObj led) } (.ref s.heap.objs.size) "set" := ⟨_, ho, rfl⟩
  have c8 := C.init.bind (.ref s.heap.objs.size)
  repeat (any_goals (first | assumption | wp_step))
  refine codeAny_mono (codeAny_call_builtin (R := wants (fun v s2 => v = .none ∧ ∃ h' tk, s2 = { s with heap := h', toks := tk } ∧ Holds prog w h' s.heap.objs.size xs ∧ ∀ b o, s.heap.get? b = some o → h'.get? b = some o) E)
    C.init.plain PySem.F.entry_set_init (check_set_init_1 hT ?_)) fun res s2 got => ?_
  · refine wpAny_mono (set_init (s := { s with heap := s.heap.push (setObj led) }) (E := E) (Q := fun v s2 => v = .none ∧ ∃ h' tk, s2 = { s with heap := h', toks := tk } ∧ Holds prog w h' s.heap.objs.size xs ∧ ∀ b o, s.heap.get? b = some o → h'.get? b = some o)
      (by simp [hh]) (r.push _) ht few ho (Nat.ne_of_gt r.lt) fun h' tk q old => ⟨rfl, h', tk, rfl, q, fun b o e => old b o (Nat.ne_of_lt (Heap.lt_size e)) (Heap.get?_push_of_some _ e)⟩) (fun f s2 ⟨v, e, q⟩ => ?_) fun _ _ e => e
    rw [e]
    exact q
  · rcases res with e | (_ | _ | _ | v) <;> first | exact got | exact got.elim | skip
    obtain ⟨rfl, h', tk, rfl, q, old⟩ := got
    repeat (any_goals (first | assumption | wp_step))
    exact k h' tk q old
end
end Wp.TS
set_option Elab.async false
set_option linter.all false
set_option maxRecDepth 100000
set_option maxHeartbeats 4000000
namespace Wp
open PySem PySem.Spec PyProof.Rows L2
def tLenTxt (K : PySem.W.Frag) (ta : TE) : TE := fun σ H Q => ta σ H fun x H1 => ∃ (l : Addr) (xs : List Str), x = .ref l ∧ (SqL K H1 l (xs.map V.str) ∨ SqT K H1 l (xs.map V.str)) ∧ xs.length ≤ 4000 ∧ Q (.int ((TS.once xs).length : Nat)) H1
theorem pe_lenTxt {X : Cx} {a : Expr} {ta : TE} {p p2 q pos : Pos} (g1 : Gl X "len") (m1 : X.mg "len" = none) (g2 : Gl X "set") (m2 : X.mg "set" = none) (ha : PE X a ta) (hc : X.calm = true := by rfl)
    (na : starEach [a] X.env = (false, eval a X.env) :: starEach [] X.env := by rfl) : PE X (.Call (.Name "len" p) [.Call (.Name "set" p2) [a] [] q] [] pos) (tLenTxt X.K ta) where
  run := by
    intro pins s σ H Q I h
    apply Call_ (ld_blt I g1 m1 boot_len _)
    apply PyProof.Rows.callWith_builtin1 (PyProof.Rows.args_cons _ rfl) rfl rfl
    apply Call_ (ld_blt I g2 m2 boot_set _)
    refine PyProof.Rows.callWith_type1 (PyProof.Rows.args_cons (thn (ha.run pins s σ H _ I h) ?_) na) na rfl
    rintro v s1 ⟨x, H1, J, rv, l, xs, rfl, sq, few, k⟩
    obtain rfl := rv
    apply PyProof.Rows.args_nil
    have fin : ∀ ty (us : List Value), Vals (xs.map V.str) us → TS.Row s1.heap ty l us.toArray → wpAny (model X.prog X.w) X.A (call (.type "set") [.ref l])
        (fun r s2 => wpAny (model X.prog X.w) X.A (spliced (backTo pos (starEach [] X.env))) (fun vs s3 => wpAny (model X.prog X.w) X.A (call (.builtin "len") (r :: vs)) (EP X pins σ Q) X.xe s3) X.xe s2) X.xe s1 := by
      intro ty us rel row
      refine TS.set_call (J.ok.hd hc) row (by simpa using strsAre_of rel) (by unfold scanBound; omega) fun h' tk holds old => ?_
      apply PyProof.Rows.args_nil
      obtain ⟨o, es, ep, t, o1, o2, o3, _, _, _, o4, o5⟩ := holds
      have few2 : (TS.once xs).length ≤ 4000 := Nat.le_trans (TS.once_le xs) few
      have J2 : Inv X pins σ H1 { s1 with heap := h', toks := tk } := J.kept old
      refine call_len_set o1 o2 o3 o4 (by omega) ⟨.int ((TS.once xs).length : Nat), H1, J2.tok _, ⟨_, by rw [o5]⟩, k⟩
    rcases sq with sq | sq
    · obtain ⟨us, rel, pl, _⟩ := J.list sq
      obtain ⟨o, ho, hc1, n, hd⟩ := pl.isList
      exact fin "list" us rel ⟨.inl rfl, o, n, ho, hc1, hd⟩
    · obtain ⟨us, rel, pl, _⟩ := J.tuple sq
      obtain ⟨o, ho, hc1, n, hd⟩ := pl
      exact fin "tuple" us rel ⟨.inr rfl, o, n, ho, hc1, hd⟩
end Wp
set_option Elab.async false
set_option linter.all false
set_option maxRecDepth 100000
set_option maxHeartbeats 4000000
/-! == and != of a thing whose class has its own ==, with either answer. -/
namespace Wp
open PySem PySem.Spec PyProof.Rows L2
open PySem.W (InstAt Looks findIn isFn mroIn notFirst)
section
variable {prog : Program} {w : World} {A : Around} {E : Value → Shared → Prop} {s : Shared} {K : PySem.W.Frag} {x C L f : Addr} {h₀ : Heap} {m : Str → Option Value} {ox : Obj} {od : Option Obj} {b tb : Value}
/-- the answer turned round -/
def Turned (Q : Value → Shared → Prop) (v : Value) (s : Shared) : Prop := ∃ k, v = .bool k ∧ Q (.bool (!k)) s
theorem bound_blt {id : String} {name : Str} {T : String} {args : List Value} {Q : Option Value → Shared → Prop} (X : K.In s.heap) (I : InstAt s.heap x ox C od) (S : Slot T name id) (hs : findIn K (.ref C) name = some (some (.builtin id)))
    (h : wpAny (model prog w) A (call (.builtin id) (.ref x :: args)) (fun v => Q (some v)) E s) : wpAny (model prog w) A (callSpecialIfBound? (.ref x) name args) Q E s := by
  unfold callSpecialIfBound? bindSpecialIfBound?
  apply wpAny_holding
  apply wpAny_bind
  apply wpAny_bind
  apply wpAny_bind
  apply I.type.here
  apply (PySem.W.looks_findIn X hs).here
  apply wpAny_bind
  refine wpAny_askSetting (wpAny_ite ?_)
  have run : wpAny (model prog w) A (call (.builtin id) ([.ref x] ++ args) >>= fun v => pure (some v)) Q E s := wpAny_bind (wpAny_mono h (fun _ _ q => wpAny_pure q) fun _ _ e => e)
  split
  · exact wpAny_bind (wpAny_of_eq (S.bind _) (wpAny_pure run))
  · exact wpAny_tryCatch (wpAny_bind (wpAny_of_eq (S.bind _) (wpAny_pure run)))
theorem ne_entry {Q : Fin → Shared → Prop} (hu : A.units < cLine) (X : K.In s.heap) (I : InstAt s.heap x ox C od) (he : findIn K (.ref C) "__eq__" = some (some (.ref f))) (hf : isFn K (.ref f) = true)
    (h : wpAny (model prog w) A (call (.ref f) [.ref x, b]) (Turned fun v => Q (.done (.ret v))) E s) : wpAny (model prog w) A (Builtin.«object.__ne__» ⟨[.ref x, b], []⟩) Q E s := by
  unfold Builtin.«object.__ne__»
  have one : wpAny (model prog w) A (callSpecialIfBound? (.ref x) "__eq__" [b]) (fun r s' => ∃ k, r = some (.bool k) ∧ Q (.done (.ret (.bool (!k)))) s') E s :=
    PySem.W.ifBound_K X I he hf (wpAny_mono h (fun v s' ⟨k, e, q⟩ => ⟨k, congrArg some e, q⟩) fun _ _ e => e)
  generalize callSpecialIfBound? = CS at one ⊢
  repeat (first | with_reducible refine wpAny_cRoomFor hu ?_ | with_reducible refine wpAny_mono one (fun r s1 got => ?_) (fun _ _ e => e) | wp_step)
  obtain ⟨k, rfl, q⟩ := got
  exact wpAny_bind (wpAny_truthy_bool (wpAny_pure q))
theorem ne_call {Q : Value → Shared → Prop} (hu : A.in1.units < cLine) (X : K.In s.heap) (I : InstAt s.heap x ox C od) (top : mroIn K C (.type "object") = some true) (he : findIn K (.ref C) "__eq__" = some (some (.ref f))) (hf : isFn K (.ref f) = true)
    (h : wpAny (model prog w) A.in1 (call (.ref f) [.ref x, b]) (Turned Q) E s) : wpAny (model prog w) A (call (.builtin "object.__ne__") [.ref x, b]) Q E s := by
  apply wpAny_call
  apply codeAny_call_builtin F.cmp_object.ne.plain F.cmpEntry_ne
  exact PySem.W.check_slot F.cmpKind_ne F.cmpSplit_ne (I.type.andThen (PySem.W.looks_mroIn X top)) (F.cmpArgs_ne _ _) (ne_entry hu X I he hf h)
theorem ne_own {Q : Value → Shared → Prop} (hu : A.units + 1 < cLine) (X : K.In s.heap) (I : InstAt s.heap x ox C od) (hb : Looks (model prog w) s.heap (typeOf b) tb) (nf : notFirst K C tb = true) (top : mroIn K C (.type "object") = some true)
    (hn : findIn K (.ref C) "__ne__" = some (some (.builtin "object.__ne__"))) (he : findIn K (.ref C) "__eq__" = some (some (.ref f))) (hf : isFn K (.ref f) = true)
    (h : wpAny (model prog w) A.in1 (call (.ref f) [.ref x, b]) (Turned Q) E s) : wpAny (model prog w) A (richCompare .NotEq (.ref x) b) Q E s := by
  have try_ : wpAny (model prog w) A (tryCompare (.ref x) "__ne__" b) (fun r s' => ∃ k, r = some (.bool k) ∧ Q (.bool k) s') E s := by
    unfold tryCompare
    apply wpAny_bind
    refine bound_blt X I F.cmp_object.ne hn (ne_call (show A.units + 1 < cLine from hu) X I top he hf (wpAny_mono h ?_ fun _ _ e => e))
    rintro v s1 ⟨k, rfl, q⟩
    exact ⟨k, rfl, wpAny_pure ⟨_, rfl, q⟩⟩
  unfold richCompare
  simp only [oneThing_ref, cmpInfo_NotEq]
  apply wpAny_holding
  apply wpAny_bind
  apply wpAny_cRoomFor (by omega)
  apply wpAny_bind
  apply I.type.here
  apply wpAny_bind
  apply hb.here
  have rest : ∀ s', s' = s → wpAny (model prog w) A (tryCompare (.ref x) "__ne__" b) (fun r s' => ∃ k, r = some (.bool k) ∧ Q (.bool k) s') E s' := fun s' e => e ▸ try_
  split
  · next ne =>
    have no : PySem.W.subIn K tb (.ref C) = some false := by
      rcases Bool.or_eq_true_iff.mp nf with z | z
      · rw [beq_iff_eq.mp z] at ne
        simp at ne
      · exact beq_iff_eq.mp z
    apply wpAny_bind
    apply (PySem.W.looks_subIn X no).here
    simp only [Bool.false_eq_true, if_false]
    refine wpAny_bind (wpAny_mono try_ ?_ fun _ _ e => e)
    rintro r s1 ⟨k, rfl, q⟩
    exact wpAny_pure q
  · apply wpAny_bind
    apply wpAny_pure
    simp only [Bool.false_eq_true, if_false]
    refine wpAny_bind (wpAny_mono try_ ?_ fun _ _ e => e)
    rintro r s1 ⟨k, rfl, q⟩
    exact wpAny_pure q
end
end Wp
set_option Elab.async false
set_option linter.all false
set_option maxRecDepth 100000
set_option maxHeartbeats 4000000
namespace Wp
open PySem PySem.Spec PyProof.Rows L2
open PySem.W (InstAt Looks findIn isFn mroIn notFirst)
/-- the right side's type is none that goes first -/
inductive Second (K : PySem.W.Frag) (H : Hp) (C : Addr) : V → Prop
  | str (z : Str) : notFirst K C (.type "str") = true → Second K H C (.str z)
  | tup (q : Addr) (ys : List V) : SqT K H q ys → notFirst K C (.type "tuple") = true → Second K H C (.ref q)
  | ins (b D : Addr) (dy : Addr) (gs : List (Str × V)) : H b = some (.ins D dy gs) → notFirst K C (.ref D) = true → Second K H C (.ref b)
section
variable {X : Cx}
theorem Second.type {C : Addr} {y : V} {u : Value} {pins : List (Addr × Obj)} {σ : L2.St} {H : Hp} {s : Shared} (h : Second X.K H C y) (I : Inv X pins σ H s) (r : RelV y u) :
    ∃ tb, Looks (model X.prog X.w) s.heap (typeOf u) tb ∧ notFirst X.K C tb = true := by
  cases h with
  | str z nf =>
    obtain ⟨t, rfl⟩ := r
    exact ⟨_, Looks.of_pure rfl, nf⟩
  | tup q ys sq nf =>
    cases r
    obtain ⟨its, _, ⟨o, ho, hc, _⟩, _⟩ := I.tuple sq
    exact ⟨_, hc ▸ (Looks.ld ho).andThen .now, nf⟩
  | ins b D dy gs hb nf =>
    cases r
    obtain ⟨mA, O, _⟩ := ins_get I.hok hb
    obtain ⟨od, J, _⟩ := O.look
    exact ⟨_, J.type, nf⟩
end
/-- what `x == y` or `x != y` promises: the class's own == answers -/
def rOwn (neg : Bool) (K : PySem.W.Frag) (C : Addr) (sp : Sp) (E : XK) : R2 := fun x y H Q => ∃ (a dx : Addr) (fs : List (Str × V)), x = .ref a ∧ H a = some (.ins C dx fs) ∧ Second K H C y ∧
  sp [x, y] H (fun v H' => ∃ k, v = .bl k ∧ Q (.bl (if neg then !k else k)) H') E
/-- the class's own ==, and what it is called by -/
structure OwnEqual (K : PySem.W.Frag) (C f : Addr) : Prop where
  top : mroIn K C (.type "object") = some true
  ne : findIn K (.ref C) "__ne__" = some (some (.builtin "object.__ne__"))
  eq : findIn K (.ref C) "__eq__" = some (some (.ref f))
  fn : isFn K (.ref f) = true
section
variable {X : Cx} {CX : CXT} {n : Nat} {C f : Addr} {fd : FuncData} {ps : List Str} {sp : Sp} {E : XK}
theorem run_own {A : Around} {pins : List (Addr × Obj)} {σ : L2.St} {H : Hp} {s : Shared} {Q : VK} {us : List Value} {ys : List V} (F : FnOk X.prog X.w X.K X.mg X.base CX n f fd ps sp) (hb : Binds X.K fd ps []) (hx : Passes CX X E)
    (room : Room n A) (fr : A.frames = X.A.frames) (I : Inv X pins σ H s) (r : Vals ys us) (h : sp ys H Q E) : wpAny (model X.prog X.w) A (call (.ref f) us) (EP X pins σ Q) X.xe s := by
  have lenY : ys.length = ps.length := F.len _ _ _ _ h
  have lenU : us.length = ps.length := by rw [← r.length, lenY]
  have b0 := hb s us I.kIn (by simpa using lenU)
  rw [List.append_nil] at b0
  have e0 : Env0 X.prog X.w X.K X.mg X.base A X.stack s H := { I.env0 with frames := fr.trans I.env0.frames }
  apply wpAny_call
  refine codeAny_mono (F.run A X.stack s H ⟨us, []⟩ us ys Q E room e0 b0 r h) ?_
  intro res s2 got
  rcases res with e | (_ | _ | _ | u)
  · exact hx pins σ H s e s2 I got
  · exact got.elim
  · exact got.elim
  · exact got.elim
  · exact I.after got
theorem op_ownEq (F : FnOk X.prog X.w X.K X.mg X.base CX n f fd ps sp) (hb : Binds X.K fd ps []) (hx : Passes CX X E) (O : OwnEqual X.K C f) (room : Room n X.A) : OpR X (compareOp .Eq) (rOwn false X.K C sp E) := by
  rintro pins s σ H x y v u Q I rx ry ⟨a, dx, fs, rfl, ha, sec, p⟩
  obtain ⟨tb, lk, nf⟩ := sec.type I ry
  cases rx
  obtain ⟨mA, J, _⟩ := ins_get I.hok ha
  obtain ⟨od, J, _⟩ := J.look
  obtain ⟨m, fr⟩ := I.fr
  show wpAny _ _ (richCompare .Eq _ _) _ _ _
  refine PySem.W.cmp_K (op := .Eq) room.units0 fr I.ok.mod.kin J lk nf O.eq O.fn ?_
  refine wpAny_mono (run_own F hb hx room rfl I (ys := [.ref a, y]) (.cons (show L2.RelV (.ref a) (.ref a) from rfl) (.cons ry .nil)) p) ?_ fun _ _ e => e
  rintro r s2 ⟨z, σ2, J2, rz, k, rfl, q⟩
  obtain rfl := rz
  exact ⟨.bl k, _, J2, (show L2.RelV (.bl k) (.bool k) from rfl), q⟩
theorem op_ownNe (F : FnOk X.prog X.w X.K X.mg X.base CX n f fd ps sp) (hb : Binds X.K fd ps []) (hx : Passes CX X E) (O : OwnEqual X.K C f) (room : Room (n + 1) X.A) : OpR X (compareOp .NotEq) (rOwn true X.K C sp E) := by
  rintro pins s σ H x y v u Q I rx ry ⟨a, dx, fs, rfl, ha, sec, p⟩
  obtain ⟨tb, lk, nf⟩ := sec.type I ry
  cases rx
  obtain ⟨mA, J, _⟩ := ins_get I.hok ha
  obtain ⟨od, J, _⟩ := J.look
  show wpAny _ _ (richCompare .NotEq _ _) _ _ _
  refine ne_own (f := f) (by have := room.un; omega) I.kIn J lk nf O.top O.ne O.eq O.fn ?_
  refine wpAny_mono (run_own F hb hx room.in1 rfl I (ys := [.ref a, y]) (.cons (show L2.RelV (.ref a) (.ref a) from rfl) (.cons ry .nil)) p) ?_ fun _ _ e => e
  rintro r s2 ⟨z, σ2, J2, rz, k, rfl, q⟩
  obtain rfl := rz
  exact ⟨k, rfl, .bl (!k), _, J2, (show L2.RelV (.bl (!k)) (.bool (!k)) from rfl), q⟩
end
end Wp
set_option Elab.async false
set_option linter.all false
set_option maxRecDepth 100000
set_option maxHeartbeats 4000000
/-! A dict beside a text; tuples that hold the same things. -/
namespace Wp
open PySem PySem.Spec PyProof.Rows L2
open PySem.SeqAt AutoSeq1 MeetsSeq MeetsSeq2 MeetsSeq3 SeqRoads2
section
variable {prog : Program} {w : World} {A : Around} {s : Shared} {d : Addr} {o : Obj}
theorem subSD : isSubtype (.type "str") (.type "dict") = pure false := by rw [isSubtype_type]; kernel_rfl
theorem subDS : isSubtype (.type "dict") (.type "str") = pure false := by rw [isSubtype_type]; kernel_rfl
theorem dict_no {z : Str} {t : Tok} {E : Value → Shared → Prop} {Q : Value → Shared → Prop} (ho : s.heap.get? d = some o) (hc : o.cls = .type "dict") (q : Q .notImplemented s) :
    wpAny (model prog w) A (call (.builtin "dict.__eq__") [.ref d, .str z t]) Q E s := by
  have ty : s.TypeIs (.ref d) "dict" := ⟨o, ho, hc⟩
  refine wpAny_call_entry PySem.F.slot_dict_eq ty PySem.F.entry_dict_eq ?_ (PySem.F.args_dict_eq_2 _ _)
  show wpAny _ _ (Builtin.Dict.dictSlotArgs "__eq__" ⟨[.ref d, .str z t], []⟩ >>= _) _ _ s
  apply wpAny_bind
  unfold Builtin.Dict.dictSlotArgs
  apply wpAny_bind
  apply wpAny_notOrdered_dict ty
  show wpAny _ _ (pure (Value.ref d, Value.str z t)) _ _ s
  apply wpAny_pure
  apply wpAny_bind
  refine wpAny_isInstance (T := "str") (typeIs_str s z t) subSD ?_
  simp only [Bool.not_false, if_true]
  exact wpAny_bind (wpAny_rule (wpAny_pure ⟨_, rfl, q⟩))
theorem str_no {z : Str} {t : Tok} {E : Value → Shared → Prop} {Q : Value → Shared → Prop} {es : Array DictEntry} {ep : Nat} (ho : s.heap.get? d = some o) (hd : o.data = .dict es ep) (q : Q .notImplemented s) :
    wpAny (model prog w) A (call (.builtin "str.__eq__") [.str z t, .ref d]) Q E s := by
  refine wpAny_call_entry PySem.F.slot_str_eq (typeIs_str s z t) PySem.F.entry_str_eq ?_ (PySem.F.args_str_eq_2 _ _)
  obtain ⟨hp, g, dr, tk, os⟩ := s
  wp_walk using wpAny_load ho
  rw [hd]
  wp_walk
  exact ⟨_, rfl, q⟩
theorem rc_dictTxt {es : Array DictEntry} {ep : Nat} (z : Str) (t : Tok) (ho : s.heap.get? d = some o) (hc : o.cls = .type "dict") (hd : o.data = .dict es ep) (hu : A.units < cLine) : RcAt A s (.ref d) (.str z t) false := fun prog w E Q h =>
  rc_eq_decline_or (k := false) ⟨o, ho, hc⟩ (typeIs_str s z t) (by decide) subSD PySem.F.slot_dict_eq PySem.F.slot_str_eq_refl (fun _ q => dict_no ho hc q) (fun _ q => str_no ho hd q) (fun _ q => wpAny_of_eq (rfl : isSame (.ref d) (.str z t) = pure false) q) (.inr hu) h
theorem rc_txtDict {es : Array DictEntry} {ep : Nat} (z : Str) (t : Tok) (ho : s.heap.get? d = some o) (hc : o.cls = .type "dict") (hd : o.data = .dict es ep) (hu : A.units < cLine) : RcAt A s (.str z t) (.ref d) false := fun prog w E Q h =>
  rc_eq_decline_or (k := false) (typeIs_str s z t) ⟨o, ho, hc⟩ (by decide) subDS PySem.F.slot_str_eq PySem.F.slot_dict_eq_refl (fun _ q => str_no ho hd q) (fun _ q => dict_no ho hc q) (fun _ q => wpAny_of_eq (rfl : isSame (.str z t) (.ref d) = pure false) q) (.inr hu) h
theorem eq_txtDict {es : Array DictEntry} {ep : Nat} (z : Str) (t : Tok) (ho : s.heap.get? d = some o) (hc : o.cls = .type "dict") (hd : o.data = .dict es ep) (hu : A.units < cLine) : EqAt A s (.str z t) (.ref d) false := fun prog w E Q h => by
  unfold eqBool
  apply wpAny_holding
  refine wpAny_ite_split (fun e => absurd (eq_of_beq e) nofun) fun _ => ?_
  exact wpAny_bind (rc_txtDict z t ho hc hd hu prog w E _ (wpAny_truthy_bool h))
end
/-- small data, or the empty dict -/
inductive Dq (K : PySem.W.Frag) (H : Hp) : V → PyData → Prop
  | dat {v : V} {d : PyData} : Dp K H v d → SeqAt.shaped d = true → Dq K H v d
  | dct {a : Addr} : H a = some (.dK []) → Dq K H (.ref a) (.dict [])
/-- the data is this text -/
def isTxt : PyData → Str → Bool
  | .str x, z => decide (x = z)
  | _, _ => false
theorem isTxt_iff {d : PyData} {z : Str} : isTxt d z = true ↔ d = .str z := by
  cases d <;> simp [isTxt]
theorem str_beq_decide (x z : Str) : (x == z) = decide (x = z) := by
  by_cases e : x = z
  · simp [e]
  · rw [decide_eq_false e]
    exact beq_eq_false_iff_ne.mpr e
theorem eqv_txt (d : PyData) (z : Str) : PyData.eqv d (.str z) = isTxt d z := by
  cases d <;> simp [PyData.eqv, isTxt, str_beq_decide]
theorem txt_eqv (d : PyData) (z : Str) : PyData.eqv (.str z) d = isTxt d z := by
  cases d with
  | str x =>
    show (z == x) = decide (x = z)
    rw [str_beq_decide]
    by_cases e : x = z
    · simp [e]
    · rw [decide_eq_false e, decide_eq_false fun q => e q.symm]
  | _ => simp [PyData.eqv, isTxt]
section
variable {X : Cx}
/-- x == 'text' -/
def rEqTxt (neg : Bool) (K : PySem.W.Frag) : R2 := fun x y H Q => ∃ (d : PyData) (z : Str), y = .str z ∧ SeqAt.shaped (.str z) = true ∧ Dq K H x d ∧ Q (.bl (if neg then !isTxt d z else isTxt d z)) H
theorem dict_obj {pins : List (Addr × Obj)} {σ : L2.St} {H : Hp} {s : Shared} {a : Addr} (I : Inv X pins σ H s) (h : H a = some (.dK [])) : ∃ o es ep, s.heap.get? a = some o ∧ o.cls = .type "dict" ∧ o.data = .dict es ep ∧ (a == sysModules) = false := by
  obtain ⟨_, no, vs, _, o, es, ep, ho, ex, hd, _⟩ := I.hok a _ h
  exact ⟨o, es, ep, ho, ex.1, hd, no⟩
theorem op_eqTxt (hu : X.A.units + 64 < cLine) : OpR X (compareOp .Eq) (rEqTxt false X.K) := by
  rintro pins s σ H x y v u Q I rx ry ⟨d, z, rfl, hz, q, k⟩
  cases q with
  | dat q sh =>
    refine op_eqD hu pins s σ H x (.str z) v u Q I rx ry ⟨d, .str z, q, .str z, sh, hz, ?_⟩
    rw [eqv_txt]
    exact k
  | dct h =>
    cases rx
    obtain ⟨t, rfl⟩ := ry
    obtain ⟨o, es, ep, ho, hc, hd, _⟩ := dict_obj I h
    show wpAny _ _ (richCompare .Eq _ _) _ _ _
    exact rc_dictTxt z t ho hc hd (by omega) _ _ _ _ ⟨.bl false, H, I, rfl, k⟩
/-- x in a tuple of texts -/
def rInTxt (neg : Bool) (K : PySem.W.Frag) : R2 := fun x y H Q => ∃ (d : PyData) (p : Addr) (zs : List Str), y = .ref p ∧ SqT K H p (zs.map V.str) ∧ (∀ z ∈ zs, SeqAt.shaped (.str z) = true) ∧ Dq K H x d ∧ Q (.bl (if neg then !zs.any (fun z => isTxt d z) else zs.any fun z => isTxt d z)) H
def eTxt (d : PyData) : Value → Bool
  | .str z _ => isTxt d z
  | _ => false
theorem any_txt (d : PyData) : ∀ (zs : List Str) (us : List Value), Vals (zs.map V.str) us → us.any (eTxt d) = zs.any fun z => isTxt d z
  | [], _, .nil => rfl
  | z :: zs, _, .cons r t => by
    obtain ⟨k, rfl⟩ := r
    rw [List.any_cons, List.any_cons, any_txt d zs _ t]
    rfl
theorem in_at {A : Around} {pins : List (Addr × Obj)} {σ : L2.St} {H : Hp} {s : Shared} {x : V} {v : Value} {d : PyData} (I : Inv X pins σ H s) (rx : RelV x v) (q : Dq X.K H x d) (hu : A.units + 64 < cLine) :
    ∀ (zs : List Str) (us : List Value), (∀ z ∈ zs, SeqAt.shaped (.str z) = true) → Vals (zs.map V.str) us → ∀ u ∈ us, EqAt A s u v (eTxt d u)
  | [], _, _, .nil => fun u hu => (by cases hu)
  | z :: zs, _, hz, .cons r t => fun u hm => by
    rcases List.mem_cons.mp hm with rfl | hm
    · obtain ⟨k, rfl⟩ := r
      cases q with
      | dat q sh =>
        obtain ⟨as, rd⟩ := Dp.reads I d x v q rx
        have e := SeqAt.eqAt_reads (.str z) d A s (.str z k) v _ _ (Reads.str z k) rd (SeqAt.canLay_of_shaped (hz z List.mem_cons_self)) (SeqAt.canLay_of_shaped sh) (SeqAt.room_of_shaped (hz z List.mem_cons_self) hu)
        rw [txt_eqv] at e
        exact e
      | dct h =>
        cases rx
        obtain ⟨o, es, ep, ho, hc, hd, _⟩ := dict_obj I h
        exact eq_txtDict z k ho hc hd (by omega)
    · exact in_at I rx q hu zs _ (fun y hy => hz y (List.mem_cons_of_mem _ hy)) t u hm
theorem op_inTxt (hu : X.A.units + 65 < cLine) : OpR X (compareOp .In) (rInTxt false X.K) := by
  rintro pins s σ H x y v u Q I rx ry ⟨d, p, zs, rfl, sq, hz, q, k⟩
  cases ry
  obtain ⟨us, rel, tup, _⟩ := I.tuple sq
  refine SeqAt.in_tupleAt (eTxt d) tup (fun w hw => in_at (A := X.A.in1) I rx q (show X.A.units + 1 + 64 < cLine by omega) zs us hz rel w (by simpa using hw)) ⟨.bl _, H, I, rfl, ?_⟩
  rw [show us.toArray.any (eTxt d) = us.any (eTxt d) by simp, any_txt d zs us rel]
  exact k
theorem op_notInTxt (hu : X.A.units + 65 < cLine) : OpR X (compareOp .NotIn) (rInTxt true X.K) := by
  rintro pins s σ H x y v u Q I rx ry ⟨d, p, zs, rfl, sq, hz, q, k⟩
  cases ry
  obtain ⟨us, rel, tup, _⟩ := I.tuple sq
  refine SeqAt.notIn_tupleAt (eTxt d) tup (fun w hw => in_at (A := X.A.in1) I rx q (show X.A.units + 1 + 64 < cLine by omega) zs us hz rel w (by simpa using hw)) ⟨.bl _, H, I, rfl, ?_⟩
  rw [show us.toArray.any (eTxt d) = us.any (eTxt d) by simp, any_txt d zs us rel]
  exact k
/-- two tuples that hold the same things as far as both reach -/
def rEqSame (K : PySem.W.Frag) : R2 := fun x y H Q => ∃ (a b : Addr) (xs ys : List Addr), x = .ref a ∧ y = .ref b ∧ SqT K H a (xs.map V.ref) ∧ SqT K H b (ys.map V.ref) ∧ (∀ (i : Nat) (h1 : i < xs.length) (h2 : i < ys.length), xs[i] = ys[i]) ∧ Q (.bl (decide (xs.length = ys.length))) H
theorem refs_are : ∀ {xs : List Addr} {us : List Value}, Vals (xs.map V.ref) us → us = xs.map Value.ref
  | [], _, .nil => rfl
  | x :: xs, _, .cons r t => by
    cases r
    rw [refs_are t]
    rfl
theorem op_eqSame (hu : X.A.units < cLine) : OpR X (compareOp .Eq) (rEqSame X.K) := by
  rintro pins s σ H x y v u Q I rx ry ⟨a, b, xs, ys, rfl, rfl, sa, sb, same, k⟩
  cases rx
  cases ry
  obtain ⟨us, r1, t1, _⟩ := I.tuple sa
  obtain ⟨ws, r2, t2, _⟩ := I.tuple sb
  obtain rfl := refs_are r1
  obtain rfl := refs_are r2
  refine SeqAt.eq_tupleAt (e := fun _ => true) t1 t2 hu (fun j h1 h2 => ?_) ⟨.bl _, H, I, rfl, ?_⟩
  · simp at h1 h2
    have e := same j h1 h2
    simp [e]
    exact EqAt.same _
  · have e : (((List.range (min (xs.map Value.ref).toArray.size (ys.map Value.ref).toArray.size)).all fun _ => true) && (xs.map Value.ref).toArray.size == (ys.map Value.ref).toArray.size) = decide (xs.length = ys.length) := by
      by_cases z : xs.length = ys.length <;> simp [z]
    rw [e]
    exact k
end
end Wp
set_option Elab.async false
set_option linter.all false
set_option maxRecDepth 100000
set_option maxHeartbeats 4000000
namespace Wp
open PySem L2
/-! ## data's types -/
def tyN : PyData → String
  | .none => "NoneType"
  | .bool _ => "bool"
  | .int _ => "int"
  | .str _ => "str"
  | .list _ => "list"
  | .tuple _ => "tuple"
  | .dict _ => "dict"
theorem SqL.ty {K : PySem.W.Frag} {H : Hp} {a : Addr} {xs : List V} (h : SqL K H a xs) : TyX K H (.ref a) (.type "list") := by
  rcases h with (h | ⟨o, h⟩) | ⟨o, us, n, h, hc, _⟩
  · exact .base (.lst h)
  · exact .base (.frz h)
  · exact .kList h hc
theorem SqT.ty {K : PySem.W.Frag} {H : Hp} {a : Addr} {xs : List V} (h : SqT K H a xs) : TyX K H (.ref a) (.type "tuple") := by
  rcases h with (h | ⟨o, h⟩) | ⟨o, us, n, h, hc, _⟩
  · exact .base (.tup h)
  · exact .fTuple h
  · exact .kTuple h hc
theorem Dq.ty {K : PySem.W.Frag} {H : Hp} {v : V} {d : PyData} (h : Dq K H v d) : TyX K H v (.type (tyN d)) := by
  cases h with
  | dat q sh =>
    cases q with
    | non => exact .base .non
    | bl b => exact .base (.bl b)
    | int i => exact .base (.int i)
    | str x => exact .base (.str x)
    | lst s _ => exact SqL.ty s
    | tup s _ => exact SqT.ty s
  | dct e => exact .base (.dK e)
def isInt : PyData → Bool
  | .int _ => true
  | _ => false
def isBool : PyData → Bool
  | .bool _ => true
  | _ => false
def isStr : PyData → Bool
  | .str _ => true
  | _ => false
def isLst : PyData → Bool
  | .list _ => true
  | _ => false
def isTup : PyData → Bool
  | .tuple _ => true
  | _ => false
theorem kit_int {K : PySem.W.Frag} (d : PyData) : PySem.W.kitOne K (.type (tyN d)) (.type "int") = some (isInt d || isBool d) := by
  cases d with
  | none => exact kit_ty (a := "NoneType") (b := "int") (r := false) (by decide +kernel)
  | bool b => exact kit_ty (a := "bool") (b := "int") (r := true) (by decide +kernel)
  | int i => exact kit_ty (a := "int") (b := "int") (r := true) (by decide +kernel)
  | str x => exact kit_ty (a := "str") (b := "int") (r := false) (by decide +kernel)
  | list l => exact kit_ty (a := "list") (b := "int") (r := false) (by decide +kernel)
  | tuple l => exact kit_ty (a := "tuple") (b := "int") (r := false) (by decide +kernel)
  | dict l => exact kit_ty (a := "dict") (b := "int") (r := false) (by decide +kernel)
theorem kit_bool {K : PySem.W.Frag} (d : PyData) : PySem.W.kitOne K (.type (tyN d)) (.type "bool") = some (isBool d) := by
  cases d with
  | none => exact kit_ty (a := "NoneType") (b := "bool") (r := false) (by decide +kernel)
  | bool b => exact kit_ty (a := "bool") (b := "bool") (r := true) (by decide +kernel)
  | int i => exact kit_ty (a := "int") (b := "bool") (r := false) (by decide +kernel)
  | str x => exact kit_ty (a := "str") (b := "bool") (r := false) (by decide +kernel)
  | list l => exact kit_ty (a := "list") (b := "bool") (r := false) (by decide +kernel)
  | tuple l => exact kit_ty (a := "tuple") (b := "bool") (r := false) (by decide +kernel)
  | dict l => exact kit_ty (a := "dict") (b := "bool") (r := false) (by decide +kernel)
theorem kit_str {K : PySem.W.Frag} (d : PyData) : PySem.W.kitOne K (.type (tyN d)) (.type "str") = some (isStr d) := by
  cases d with
  | none => exact kit_ty (a := "NoneType") (b := "str") (r := false) (by decide +kernel)
  | bool b => exact kit_ty (a := "bool") (b := "str") (r := false) (by decide +kernel)
  | int i => exact kit_ty (a := "int") (b := "str") (r := false) (by decide +kernel)
  | str x => exact kit_ty (a := "str") (b := "str") (r := true) (by decide +kernel)
  | list l => exact kit_ty (a := "list") (b := "str") (r := false) (by decide +kernel)
  | tuple l => exact kit_ty (a := "tuple") (b := "str") (r := false) (by decide +kernel)
  | dict l => exact kit_ty (a := "dict") (b := "str") (r := false) (by decide +kernel)
theorem kit_list {K : PySem.W.Frag} (d : PyData) : PySem.W.kitOne K (.type (tyN d)) (.type "list") = some (isLst d) := by
  cases d with
  | none => exact kit_ty (a := "NoneType") (b := "list") (r := false) (by decide +kernel)
  | bool b => exact kit_ty (a := "bool") (b := "list") (r := false) (by decide +kernel)
  | int i => exact kit_ty (a := "int") (b := "list") (r := false) (by decide +kernel)
  | str x => exact kit_ty (a := "str") (b := "list") (r := false) (by decide +kernel)
  | list l => exact kit_ty (a := "list") (b := "list") (r := true) (by decide +kernel)
  | tuple l => exact kit_ty (a := "tuple") (b := "list") (r := false) (by decide +kernel)
  | dict l => exact kit_ty (a := "dict") (b := "list") (r := false) (by decide +kernel)
theorem kit_tuple {K : PySem.W.Frag} (d : PyData) : PySem.W.kitOne K (.type (tyN d)) (.type "tuple") = some (isTup d) := by
  cases d with
  | none => exact kit_ty (a := "NoneType") (b := "tuple") (r := false) (by decide +kernel)
  | bool b => exact kit_ty (a := "bool") (b := "tuple") (r := false) (by decide +kernel)
  | int i => exact kit_ty (a := "int") (b := "tuple") (r := false) (by decide +kernel)
  | str x => exact kit_ty (a := "str") (b := "tuple") (r := false) (by decide +kernel)
  | list l => exact kit_ty (a := "list") (b := "tuple") (r := false) (by decide +kernel)
  | tuple l => exact kit_ty (a := "tuple") (b := "tuple") (r := true) (by decide +kernel)
  | dict l => exact kit_ty (a := "dict") (b := "tuple") (r := false) (by decide +kernel)
theorem boot_isi : bootBuiltins "isinstance" = some (.builtin "isinstance") := by decide +kernel
theorem boot_tint : bootBuiltins "int" = some (.type "int") := by decide +kernel
theorem boot_tbool : bootBuiltins "bool" = some (.type "bool") := by decide +kernel
theorem boot_tstr : bootBuiltins "str" = some (.type "str") := by decide +kernel
/-- the built-in names are not hidden -/
structure Bn (mg : Str → Option Value) : Prop where
  isi : mg "isinstance" = none
  int : mg "int" = none
  bool : mg "bool" = none
  str : mg "str" = none
  len : mg "len" = none
  list : mg "list" = none
  tuple : mg "tuple" = none
  all : mg "all" = none
  set : mg "set" = none
  repr : mg "repr" = none
  range : mg "range" = none
section
variable {P : Program} {w : World} {K : PySem.W.Frag} {mg : Str → Option Value} {base : Heap}
abbrev sIsInt : Stmt := top 16
def spIsInt (K : PySem.W.Frag) : Sp := fun vs H Q _ => ∃ (v : V) (d : PyData), vs = [v] ∧ Dq K H v d ∧ Q (.bl (isInt d)) H
theorem scIsInt : FnScope ["value"] ["value"] (defScope sIsInt) := ⟨rfl, rfl, rfl, by decide +kernel, rfl, by decide +kernel, by decide +kernel⟩
theorem ok_isInt {f : Addr} {fd : FuncData} (F : Fun K "is_integer" "is_integer" sIsInt f fd) (B : Bn mg) : FnOk P w K mg base CX0 1 f fd ["value"] (spIsInt K) := by
  refine F.ok scIsInt (fun vs H Q E h => ?_) (fun cdv A outer s H vs Q E hr h => ?_)
  · obtain ⟨v, d, rfl, _⟩ := h
    rfl
  · obtain ⟨v, d, rfl, q, k⟩ := h
    refine ⟨_, pss_one (ps_ret (pe_and (pe_callB call_isi (by rfl) B.isi boot_isi (pa_cons (pv 0) (pa_cons (pe_bltn (v := .ty "int") (by rfl) B.int boot_tint rfl) pa_nil)))
      (pe_one (pe_not (pe_callB call_isi (by rfl) B.isi boot_isi (pa_cons (pv 0) (pa_cons (pe_bltn (v := .ty "bool") (by rfl) B.bool boot_tbool rfl) pa_nil))))))), ?_⟩
    refine ⟨_, rfl, _, _, _, _, _, rfl, .ty "int", q.ty, kit_int d, _, rfl, ?_⟩
    cases d <;> first | exact k | skip
    all_goals
      refine ⟨_, rfl, _, _, _, _, _, rfl, .ty "bool", q.ty, kit_bool _, _, rfl, ?_⟩
      exact k
end
end Wp
set_option Elab.async false
set_option linter.all false
set_option maxRecDepth 100000
set_option maxHeartbeats 4000000
namespace Wp
open PySem L2
/-! ## words -/
def smallS : Str := "abcdefghijklmnopqrstuvwxyz"
def largeS : Str := "ABCDEFGHIJKLMNOPQRSTUVWXYZ"
/-- the written constants -/
structure Cn (mg : Str → Option Value) : Prop where
  small : ∃ u, mg "SMALL" = some u ∧ RelV (.str smallS) u
  large : ∃ u, mg "LARGE" = some u ∧ RelV (.str largeS) u
  most : ∃ u, mg "NAME_LETTERS" = some u ∧ RelV (.int 8) u
  bound : ∃ u, mg "DEFAULT_BOUND" = some u ∧ RelV (.int 1000000000000) u
  any : ∃ u, mg "ANY" = some u ∧ RelV (.str "any") u
  old : ∃ u, mg "OLD_NAMES" = some u ∧ RelV (.int 2) u
def lettersIn (z x : Str) : Bool := x.cps.toList.all fun c => decide (c ∈ z.cps.toList)
def isWordN (m : Int) : PyData → Bool
  | .str x => decide (1 ≤ x.length) && decide ((x.length : Int) ≤ m) && lettersIn smallS x
  | _ => false
/-- no text in it is long at its top -/
def Shrt : PyData → Prop
  | .str x => x.length ≤ 1000
  | _ => True
theorem boot_all : bootBuiltins "all" = some (.builtin "all") := by decide +kernel
theorem same_new {H : Hp} {D : Addr} {o : HO} (h : H D = none) : Same H (upd H D o) := fun b u e => by
  rw [upd_ne (ne_of_none e h)]
  exact e
theorem pe_cn {X : Cx} {x : Str} {v : V} {pos : Pos} (hg : Gl X x) (h : ∃ u, X.mg x = some u ∧ RelV v u) (hd : (x == ("__debug__" : Str)) = false := by decide) : PE X (.Name x pos) (tC v) :=
  h.elim fun _ q => pe_glob hg q.1 q.2 hd
section
variable {P : Program} {w : World} {K : PySem.W.Frag} {mg : Str → Option Value} {base : Heap}
abbrev sIsWord : Stmt := top 18
def spIsWord (K : PySem.W.Frag) : Sp := fun vs H Q _ => ∃ (v : V) (d : PyData) (m : Int), vs = [v, .int m] ∧ Dq K H v d ∧ Shrt d ∧ ∀ H', Same H H' → Q (.bl (isWordN m d)) H'
theorem scIsWord : FnScope ["value", "most", "letter"] ["value", "most"] (defScope sIsWord) := ⟨rfl, rfl, rfl, by decide +kernel, rfl, by decide +kernel, by decide +kernel⟩
theorem ok_isWord {f : Addr} {fd : FuncData} (F : Fun K "is_word" "is_word" sIsWord f fd) (B : Bn mg) (C : Cn mg) : FnOk P w K mg base CX0 1 f fd ["value", "most"] (spIsWord K) := by
  refine F.ok scIsWord (fun vs H Q E h => ?_) (fun cdv A outer s H vs Q E hr h => ?_)
  · obtain ⟨v, d, m, rfl, _⟩ := h
    rfl
  · obtain ⟨v, d, m, rfl, q, sh, k⟩ := h
    refine ⟨_, pss_one (ps_ret (pe_and (pe_callB call_isi (by rfl) B.isi boot_isi (pa_cons (pv 0) (pa_cons (pe_bltn (v := .ty "str") (by rfl) B.str boot_tstr rfl) pa_nil)))
      (pe_and (pe_chain op_le op_le pe_int (pe_callB call_len_str (by rfl) B.len PySem.boot_len (pa_cons (pv 0) pa_nil)) (pv 1))
      (pe_one (pe_callB (cr_all rfl) (by rfl) B.all boot_all (pa_cons (pe_lc (own := [("letter", 2)]) (g := gName 2) (tt := tYes) rfl scIsWord.nd (pi_str (pv 0))
        (blkOk_by (N := ["value", "most", "letter"]) (sc := defScope sIsWord) (by decide +kernel)) (fun _ _ _ _ _ => pg_name (i := 2) scIsWord.nd rfl (Or.inl rfl)) (fun _ _ _ _ _ => pts_nil)
        (fun _ _ _ _ _ => pe_cmpR op_in_sign (pv 2) (pe_cn (by rfl) C.small) (by rfl))) pa_nil)))))), ?_⟩
    refine ⟨_, rfl, _, _, _, _, _, rfl, .ty "str", q.ty, kit_str d, _, rfl, ?_⟩
    cases d with
    | str x =>
      have ev : v = .str x := by
        cases q with
        | dat q _ => cases q; rfl
      subst ev
      refine ⟨_, rfl, x, rfl, ?_, ?_⟩
      · have : x.length ≤ 1000 := sh
        rw [sizeLine_eq]
        omega
      refine ⟨_, _, rfl, rfl, _, rfl, ?_⟩
      refine ite2 (fun h1 => ?_) (fun h1 => ?_)
      · refine ⟨_, rfl, _, _, rfl, rfl, _, rfl, ?_⟩
        refine ite2 (fun h2 => ?_) (fun h2 => ?_)
        · refine ⟨_, rfl, x, rfl, fun D hD => ?_⟩
          refine lc_it walk_str (fun i H' => H' = upd H D (.lst ((x.cps.toList.take i).map fun c => V.bl (decide (c ∈ smallS.cps.toList))))) rfl (fun _ _ _ _ => trivial) ?_ ?_
          · rintro i y H1 H2 hi rfl ⟨rfl, c, hc, rfl⟩
            refine ⟨rfl, ⟨_, rfl, c, _, rfl, rfl, _, upd_same, ?_, ?_⟩⟩
            · have e1 : x.cps.size ≤ 1000 := sh
              rw [sizeLine_eq, List.length_map, List.length_take]
              omega
            · rw [upd_upd, List.take_add_one, Array.getElem?_toList, hc]
              simp
          · rintro H1 rfl
            refine ⟨D, x.cps.toList.map fun c => decide (c ∈ smallS.cps.toList), rfl, ?_, ?_⟩
            · have e1 : x.cps.toList.take x.cps.size = x.cps.toList := List.take_of_length_le (by simp)
              rw [e1, List.map_map]
              exact SqL.of upd_same
            · have e2 : (x.cps.toList.map fun c => decide (c ∈ smallS.cps.toList)).all id = isWordN m (.str x) := by
                simp only [isWordN, lettersIn]
                rw [show decide (1 ≤ x.length) = true from decide_eq_true (by have := of_decide_eq_true h1; omega), show decide ((x.length : Int) ≤ m) = true from h2]
                simp [List.all_map, Function.comp_def]
              rw [e2]
              exact k _ (same_new hD)
        · have e : isWordN m (.str x) = false := by
            simp only [isWordN]
            rw [decide_eq_false (p := (x.length : Int) ≤ m) fun z => h2 (decide_eq_true z)]
            simp
          have r := k H fun b o z => z
          rw [e] at r
          exact r
      · refine ⟨_, rfl, ?_⟩
        have e : isWordN m (.str x) = false := by
          simp only [isWordN]
          rw [decide_eq_false fun z => h1 (decide_eq_true (by omega))]
          simp
        have r := k H fun b o z => z
        rw [e] at r
        rw [if_neg (by decide)]
        exact r
    | _ => exact k H fun b o e => e
end
end Wp
set_option Elab.async false
set_option linter.all false
set_option maxRecDepth 100000
set_option maxHeartbeats 4000000
namespace Wp
open PySem L2
/-! ## names, defaults, different texts -/
def isFieldName (d : PyData) : Bool := isWordN 8 d
def isKindName : PyData → Bool
  | .str x => match x.cps.toList with
    | [] => false
    | c :: r => decide (x.length ≤ 8) && decide (c ∈ largeS.cps.toList) && r.all fun c => decide (c ∈ smallS.cps.toList)
  | _ => false
def isDefault : PyData → Bool
  | .int i => decide (-1000000000000 < i) && decide (i < 1000000000000)
  | _ => false
/-- [letter in Z for letter in z] -/
def tInSign (Z : Str) (i : Nat) : TE := tOp (fun x y H Q => ∃ (c : Nat) (z : Str), x = .str ⟨#[c]⟩ ∧ y = .str z ∧ Q (.bl (decide (c ∈ z.cps.toList))) H) (tVar i) (tC (.str Z))
theorem lc_signs {z Z : Str} {i : Nat} {σ : L2.St} {H : Hp} {D : Addr} {Q : Hp → Prop} (hi : i < σ.length) (few : z.length ≤ 1000) (k : Q (upd H D (.lst ((z.cps.toList.map fun c => decide (c ∈ Z.cps.toList)).map V.bl)))) :
    ∃ W : Nat → Nat → Hp → Prop, (∃ m, W 0 m (upd H D (.lst []))) ∧ ∀ j m H, W j m H →
      ((Its z).stop j H ∧ Q H) ∨ ((Its z).go j H ∧ ∃ Nx : Hp → Prop, (∀ H', Nx H' → ∃ m', m' < m ∧ W (j + 1) m' H') ∧ ∀ x H', (Its z).yld j H x H' → gName i x (wipe σ [i]) H' fun σ2 H2 => wipe σ2 [i] = wipe σ [i] ∧ tYes σ2 H2 fun b H3 =>
        if b = true then tInSign Z i σ2 H3 fun y H4 => ∃ acc, H4 D = some (.lst acc) ∧ acc.length < sizeLine ∧ Nx (upd H4 D (.lst (acc ++ [y]))) else Nx H3) := by
  refine lc_it walk_str (fun j H' => H' = upd H D (.lst (((z.cps.toList.take j).map fun c => decide (c ∈ Z.cps.toList)).map V.bl))) rfl (fun _ _ _ _ => trivial) ?_ ?_
  · rintro j y H1 H2 hj rfl ⟨rfl, c, hc, rfl⟩
    refine ⟨by simp [wipe, List.set_set], ⟨.str ⟨#[c]⟩, ?_, c, Z, rfl, rfl, _, upd_same, ?_, ?_⟩⟩
    · simp [wipe, hi]
    · have e1 : z.cps.size ≤ 1000 := few
      rw [sizeLine_eq, List.length_map, List.length_map, List.length_take]
      omega
    · rw [upd_upd, List.take_add_one, Array.getElem?_toList, hc]
      simp
  · rintro H1 rfl
    rw [List.take_of_length_le (by simp)]
    exact k
/-- the def, and by which name it is found -/
structure Known (P : Program) (w : World) (K : PySem.W.Frag) (mg : Str → Option Value) (base : Heap) (CX : CXT) (k : Nat) (x : Str) (ps : List Str) (sp : Sp) (f : Addr) (fd : FuncData) : Prop where
  ok : FnOk P w K mg base CX k f fd ps sp
  mg : mg x = some (.ref f)
  kp : PySem.W.keepIn K (.ref f) = true
  bi : Binds K fd ps []
section
variable {P : Program} {w : World} {K : PySem.W.Frag} {mg : Str → Option Value} {base : Heap}
abbrev sIsField : Stmt := top 19
def spIsField (K : PySem.W.Frag) : Sp := fun vs H Q _ => ∃ (v : V) (d : PyData), vs = [v] ∧ Dq K H v d ∧ Shrt d ∧ ∀ H', Same H H' → Q (.bl (isFieldName d)) H'
theorem scIsField : FnScope ["value"] ["value"] (defScope sIsField) := ⟨rfl, rfl, rfl, by decide +kernel, rfl, by decide +kernel, by decide +kernel⟩
theorem ok_isField {f fW : Addr} {fd fdW : FuncData} (F : Fun K "is_field_name" "is_field_name" sIsField f fd) (C : Cn mg) (W : Known P w K mg base CX0 1 "is_word" ["value", "most"] (spIsWord K) fW fdW) : FnOk P w K mg base CX0 2 f fd ["value"] (spIsField K) := by
  refine F.ok scIsField (fun vs H Q E h => ?_) (fun cdv A outer s H vs Q E hr h => ?_)
  · obtain ⟨v, d, rfl, _⟩ := h
    rfl
  · obtain ⟨v, d, rfl, q, sh, k⟩ := h
    refine ⟨_, pss_one (ps_ret (pe_call W.ok hr rfl W.mg W.kp W.bi .nil pass0 (pa_cons (pv 0) (pa_cons (pe_cn (by rfl) C.most) pa_nil)))), ?_⟩
    exact ⟨_, rfl, v, d, 8, rfl, q, sh, k⟩
abbrev sIsKind : Stmt := top 20
def spIsKind (K : PySem.W.Frag) : Sp := fun vs H Q _ => ∃ (v : V) (d : PyData), vs = [v] ∧ Dq K H v d ∧ Shrt d ∧ ∀ H', Same H H' → Q (.bl (isKindName d)) H'
theorem scIsKind : FnScope ["value", "letter"] ["value"] (defScope sIsKind) := ⟨rfl, rfl, rfl, by decide +kernel, rfl, by decide +kernel, by decide +kernel⟩
theorem ok_isKind {f : Addr} {fd : FuncData} (F : Fun K "is_kind_name" "is_kind_name" sIsKind f fd) (B : Bn mg) (C : Cn mg) : FnOk P w K mg base CX0 1 f fd ["value"] (spIsKind K) := by
  refine F.ok scIsKind (fun vs H Q E h => ?_) (fun cdv A outer s H vs Q E hr h => ?_)
  · obtain ⟨v, d, rfl, _⟩ := h
    rfl
  · obtain ⟨v, d, rfl, q, sh, k⟩ := h
    refine ⟨_, pss_cons (ps_if (PW.pt (pw_or (pt_not (pt_val (pe_callB call_isi (by rfl) B.isi boot_isi (pa_cons (pv 0) (pa_cons (pe_bltn (v := .ty "str") (by rfl) B.str boot_tstr rfl) pa_nil)))))
        (pw_or1 (pt_not (pt_chain op_le op_le pe_int (pe_callB call_len_str (by rfl) B.len PySem.boot_len (pa_cons (pv 0) pa_nil)) (pe_cn (by rfl) C.most))))))
        (pss_one (ps_ret pe_bl)) pss_nil)
      (pss_one (ps_ret (pe_and (pe_cmpR op_in_sign (pe_ix ix_str (pv 0) pe_int (fun _ _ => rfl)) (pe_cn (by rfl) C.large) (by rfl))
        (pe_one (pe_callB (cr_all rfl) (by rfl) B.all boot_all (pa_cons (pe_lc (own := [("letter", 1)]) (g := gName 1) (tt := tYes) rfl scIsKind.nd (pi_str (pe_slice sl_str (pv 0) (po_some pe_int) po_none))
        (blkOk_by (N := ["value", "letter"]) (sc := defScope sIsKind) (by decide +kernel)) (fun _ _ _ _ _ => pg_name (i := 1) scIsKind.nd rfl (Or.inl rfl)) (fun _ _ _ _ _ => pts_nil)
        (fun _ _ _ _ _ => pe_cmpR op_in_sign (pv 1) (pe_cn (by rfl) C.small) (by rfl))) pa_nil)))))), ?_⟩
    refine ⟨_, rfl, _, _, _, _, _, rfl, .ty "str", q.ty, kit_str d, _, rfl, ?_⟩
    cases d with
    | str x =>
      have ev : v = .str x := by
        cases q with
        | dat q _ => cases q; rfl
      subst ev
      have few : x.length ≤ 1000 := sh
      have line : x.length ≤ sizeLine := by
        rw [sizeLine_eq]
        omega
      refine ⟨_, rfl, x, rfl, line, ?_⟩
      refine ⟨_, _, rfl, rfl, _, rfl, ?_⟩
      refine ite2 (fun h1 => ?_) (fun h1 => ?_)
      · refine ⟨_, _, rfl, rfl, _, rfl, ?_⟩
        cases h2 : decide ((x.length : Int) ≤ 8) with
        | true =>
          have g1 : 1 ≤ x.length := by
            have := of_decide_eq_true h1
            omega
          have g2 : x.length ≤ 8 := by
            have := of_decide_eq_true h2
            omega
          obtain ⟨c, r, ex⟩ : ∃ c r, x.cps.toList = c :: r := by
            cases e : x.cps.toList with
            | nil =>
              have : x.cps.toList.length = 0 := by rw [e]; rfl
              rw [Array.length_toList] at this
              have e2 : x.length = x.cps.size := rfl
              omega
            | cons c r => exact ⟨c, r, rfl⟩
          refine ⟨_, rfl, x, 0, c, rfl, rfl, line, by rw [ex]; exact atI_nat (j := 0) rfl, c, _, rfl, rfl, _, rfl, ?_⟩
          have ek : isKindName (.str x) = (decide (c ∈ largeS.cps.toList) && r.all fun c => decide (c ∈ smallS.cps.toList)) := by
            simp only [isKindName, ex]
            simp [g2]
          refine ite2 (fun h3 => ?_) (fun h3 => ?_)
          · refine ⟨_, rfl, 1, rfl, x, rfl, line, cutS x (some 1) none, rfl, fun D hD => ?_⟩
            have ec : (cutS x (some 1) none).cps.toList = r := by
              have e1 : HT.sIx x.length 0 (some 1) = 1 := by
                rw [show ((1 : Int)) = ((1 : Nat) : Int) from rfl, HT.sIx_nat]
                omega
              have e2 : HT.sIx x.length x.length none = x.length := rfl
              have e3 : x.length = r.length + 1 := by
                have : x.cps.toList.length = (c :: r).length := by rw [ex]
                rw [Array.length_toList] at this
                exact this
              show (((x.cps.toList.drop (HT.sIx x.length 0 (some 1))).take (HT.sIx x.length x.length none - HT.sIx x.length 0 (some 1))).toArray).toList = r
              rw [e1, e2, ex, e3]
              simp
            refine lc_signs (Z := smallS) (Nat.lt_of_lt_of_eq (by decide : 1 < 2) rfl) (Nat.le_trans (cutS_length _ _ _) few) ?_
            refine ⟨D, _, rfl, SqL.of upd_same, ?_⟩
            have r1 := k _ (same_new (o := .lst (((cutS x (some 1) none).cps.toList.map fun c => decide (c ∈ smallS.cps.toList)).map V.bl)) hD)
            rw [ek, h3, ← ec] at r1
            rw [List.all_map]
            exact r1
          · have r1 := k H fun b o e => e
            rw [ek] at r1
            have h4 : decide (c ∈ largeS.cps.toList) = false := by simpa using h3
            rw [h4] at r1
            exact r1
        | false =>
          have ek : isKindName (.str x) = false := by
            simp only [isKindName]
            cases x.cps.toList with
            | nil => rfl
            | cons c r =>
              rw [decide_eq_false (p := x.length ≤ 8) (by have := of_decide_eq_false h2; omega)]
              rfl
          have r1 := k H fun b o e => e
          rw [ek] at r1
          exact r1
      · have e0 : x.length = 0 := by
          have := h1
          simp at this
          omega
        have ek : isKindName (.str x) = false := by
          have e1 : x.cps.toList = [] := by
            apply List.eq_nil_of_length_eq_zero
            rw [Array.length_toList]
            exact e0
          simp only [isKindName, e1]
        have r1 := k H fun b o e => e
        rw [ek] at r1
        exact ⟨_, rfl, r1⟩
    | _ => exact k H fun b o e => e
end
end Wp
set_option Elab.async false
set_option linter.all false
set_option maxRecDepth 100000
set_option maxHeartbeats 4000000
namespace Wp
open PySem L2
section
variable {P : Program} {w : World} {K : PySem.W.Frag} {mg : Str → Option Value} {base : Heap}
theorem Dq.int_of {H : Hp} {v : V} {d : PyData} (q : Dq K H v d) (e : isInt d = true) : ∃ i, v = .int i ∧ d = .int i := by
  cases d <;> cases e
  cases q with
  | dat q _ =>
    cases q
    exact ⟨_, rfl, rfl⟩
theorem Dq.str_of {H : Hp} {v : V} {x : Str} (q : Dq K H v (.str x)) : v = .str x := by
  cases q with
  | dat q _ =>
    cases q
    rfl
abbrev sIsDef : Stmt := top 22
def spIsDef (K : PySem.W.Frag) : Sp := fun vs H Q _ => ∃ (v : V) (d : PyData), vs = [v] ∧ Dq K H v d ∧ Q (.bl (isDefault d)) H
theorem scIsDef : FnScope ["value"] ["value"] (defScope sIsDef) := ⟨rfl, rfl, rfl, by decide +kernel, rfl, by decide +kernel, by decide +kernel⟩
theorem ok_isDef {f fW : Addr} {fd fdW : FuncData} (F : Fun K "is_default" "is_default" sIsDef f fd) (C : Cn mg) (W : Known P w K mg base CX0 1 "is_integer" ["value"] (spIsInt K) fW fdW) : FnOk P w K mg base CX0 2 f fd ["value"] (spIsDef K) := by
  refine F.ok scIsDef (fun vs H Q E h => ?_) (fun cdv A outer s H vs Q E hr h => ?_)
  · obtain ⟨v, d, rfl, _⟩ := h
    rfl
  · obtain ⟨v, d, rfl, q, k⟩ := h
    refine ⟨_, pss_one (ps_ret (pe_and (pe_call W.ok hr rfl W.mg W.kp W.bi .nil pass0 (pa_cons (pv 0) pa_nil)) (pe_one (pe_chain op_lt op_lt (pe_un un_neg (pe_cn (by rfl) C.bound)) (pv 0) (pe_cn (by rfl) C.bound))))), ?_⟩
    refine ⟨_, rfl, v, d, rfl, q, _, rfl, ?_⟩
    cases e : isInt d with
    | true =>
      obtain ⟨i, rfl, rfl⟩ := q.int_of e
      refine ⟨_, rfl, _, rfl, _, _, rfl, rfl, _, rfl, ?_⟩
      cases e2 : decide (-1000000000000 < i) with
      | true =>
        refine ⟨_, _, rfl, rfl, ?_⟩
        have r := k
        simp only [isDefault, e2, Bool.true_and] at r
        exact r
      | false =>
        have r := k
        simp only [isDefault, e2, Bool.false_and] at r
        exact r
    | false =>
      have e2 : isDefault d = false := by cases d <;> first | rfl | cases e
      rw [e2] at k
      exact k
abbrev sDiff : Stmt := top 23
/-- a list or tuple of texts -/
def Txs (K : PySem.W.Frag) (H : Hp) (a : Addr) (xs : List Str) : Prop := (SqL K H a (xs.map V.str) ∨ SqT K H a (xs.map V.str)) ∧ xs.length ≤ 1000
def spDiff (K : PySem.W.Frag) : Sp := fun vs H Q _ => ∃ (a : Addr) (xs : List Str), vs = [.ref a] ∧ Txs K H a xs ∧ Q (.bl (decide xs.Nodup)) H
theorem scDiff : FnScope ["names"] ["names"] (defScope sDiff) := ⟨rfl, rfl, rfl, by decide +kernel, rfl, by decide +kernel, by decide +kernel⟩
theorem ok_diff {f : Addr} {fd : FuncData} (F : Fun K "are_different" "are_different" sDiff f fd) (B : Bn mg) : FnOk P w K mg base CX0 1 f fd ["names"] (spDiff K) := by
  refine F.ok scDiff (fun vs H Q E h => ?_) (fun cdv A outer s H vs Q E hr h => ?_)
  · obtain ⟨a, xs, rfl, _⟩ := h
    rfl
  · obtain ⟨a, xs, rfl, ⟨sq, few⟩, k⟩ := h
    refine ⟨_, pss_one (ps_ret (pe_cmpR op_eq (pe_lenTxt (by rfl) B.len (by rfl) B.set (pv 0)) (pe_callB call_len_seq (by rfl) B.len PySem.boot_len (pa_cons (pv 0) pa_nil)) (nomark _))), ?_⟩
    refine ⟨_, rfl, a, xs, rfl, sq, by omega, _, rfl, a, xs.map V.str, rfl, sq, rfl, ?_⟩
    have e : decide (V.int ((TS.once xs).length : Nat) = V.int (xs.map V.str).length) = decide xs.Nodup := by
      by_cases n : xs.Nodup
      · rw [decide_eq_true n, (TS.once_len xs).mpr n]
        simp
      · rw [decide_eq_false n]
        refine decide_eq_false fun z => n ((TS.once_len xs).mp ?_)
        injection z with z
        simp at z
        omega
    rw [e]
    exact k
end
end Wp
set_option Elab.async false
set_option linter.all false
set_option maxRecDepth 100000
set_option maxHeartbeats 4000000
namespace Wp
open PySem L2
def isNon : PyData → Bool
  | .none => true
  | _ => false
def isZero : PyData → Bool
  | .int i => decide (i = 0)
  | _ => false
def fitsMode (m t d : PyData) : Bool :=
  if isTxt m "mark" then isNon t && isDefault d
  else (isTxt m "link" || isTxt m "list") && isZero d && (isTxt t "any" || isKindName t)
theorem Dq.non {K : PySem.W.Frag} {H : Hp} {v : V} {d : PyData} (q : Dq K H v d) : decide (v = .non) = isNon d := by
  cases q with
  | dat q _ => cases q <;> simp [isNon]
  | dct _ => simp [isNon]
section
variable {K : PySem.W.Frag} {H H' : Hp}
theorem sqL_same (e : Same H H') {a : Addr} {xs : List V} (h : SqL K H a xs) : SqL K H' a xs := SqL.ext h e
theorem sqT_same (e : Same H H') {a : Addr} {xs : List V} (h : SqT K H a xs) : SqT K H' a xs := SqT.ext h e
mutual
theorem dp_same (e : Same H H') : ∀ {v : V} {d : PyData}, Dp K H v d → Dp K H' v d
  | _, _, .non => .non
  | _, _, .bl b => .bl b
  | _, _, .int i => .int i
  | _, _, .str x => .str x
  | _, _, .lst s a => .lst (sqL_same e s) (dpAll_same e a)
  | _, _, .tup s a => .tup (sqT_same e s) (dpAll_same e a)
theorem dpAll_same (e : Same H H') : ∀ {vs : List V} {ds : List PyData}, DpAll K H vs ds → DpAll K H' vs ds
  | _, _, .nil => .nil
  | _, _, .cons a b => .cons (dp_same e a) (dpAll_same e b)
end
theorem Dq.same (e : Same H H') {v : V} {d : PyData} (q : Dq K H v d) : Dq K H' v d := by
  cases q with
  | dat q sh => exact .dat (dp_same e q) sh
  | dct h => exact .dct (e _ _ h)
end
structure Mo (K : PySem.W.Frag) (mg : Str → Option Value) : Prop where
  modes : ∃ (t : Addr) (o : Obj) (us : List Value) (n : Nat), mg "SLOT_MODES" = some (.ref t) ∧ ∀ H : Hp, SqT K H t [.str "link", .str "list"]
theorem sh_mark : SeqAt.shaped (.str "mark") = true := by decide +kernel
theorem sh_any : SeqAt.shaped (.str "any") = true := by decide +kernel
theorem sh_modes : ∀ z ∈ (["link", "list"] : List Str), SeqAt.shaped (.str z) = true := by decide +kernel
section
variable {P : Program} {w : World} {K : PySem.W.Frag} {mg : Str → Option Value} {base : Heap}
abbrev sFits : Stmt := top 43
def spFits (K : PySem.W.Frag) : Sp := fun vs H Q _ => ∃ (u v x : V) (m t d : PyData), vs = [u, v, x] ∧ Dq K H u m ∧ Dq K H v t ∧ Dq K H x d ∧ Shrt t ∧ ∀ H', Same H H' → Q (.bl (fitsMode m t d)) H'
theorem scFits : FnScope ["mode", "target", "default"] ["mode", "target", "default"] (defScope sFits) := ⟨rfl, rfl, rfl, by decide +kernel, rfl, by decide +kernel, by decide +kernel⟩
theorem ok_fits {f f1 f2 f3 : Addr} {fd fd1 fd2 fd3 : FuncData} (F : Fun K "_fits_mode" "_fits_mode" sFits f fd) (C : Cn mg) (M : Mo K mg) (I : Known P w K mg base CX0 1 "is_integer" ["value"] (spIsInt K) f1 fd1)
    (D : Known P w K mg base CX0 2 "is_default" ["value"] (spIsDef K) f2 fd2) (N : Known P w K mg base CX0 1 "is_kind_name" ["value"] (spIsKind K) f3 fd3) : FnOk P w K mg base CX0 3 f fd ["mode", "target", "default"] (spFits K) := by
  obtain ⟨tm, _, _, _, mt, sq⟩ := M.modes
  refine F.ok scFits (fun vs H Q E h => ?_) (fun cdv A outer s H vs Q E hr h => ?_)
  · obtain ⟨u, v, x, m, t, d, rfl, _⟩ := h
    rfl
  · obtain ⟨u, v, x, m, t, d, rfl, qm, qt, qd, sh, k⟩ := h
    have hu1 : (A.deeper (PyProof.Rows.envOfC "_fits_mode" (defScope sFits) s.heap.objs.size f cdv)).units + 65 < cLine := by
      have := hr.un
      omega
    refine ⟨_, pss_cons (ps_if (pt_cmpR (op_eqTxt hr.units) (pv 0) pe_str (nomark _))
        (pss_one (ps_ret (pe_and (pe_cmpR op_isN (pv 1) pe_non (nomark _)) (pe_one (pe_call D.ok hr rfl D.mg D.kp D.bi .nil pass0 (pa_cons (pv 2) pa_nil)))))) pss_nil)
      (pss_cons (ps_if (PW.pt (pw_or (pt_cmpR (op_notInTxt hu1) (pv 0) (pe_glob (v := .ref tm) (by rfl) mt rfl) (by rfl))
          (pw_or (pt_not (pt_val (pe_call I.ok (hr.mono (by decide)) rfl I.mg I.kp I.bi .nil pass0 (pa_cons (pv 2) pa_nil)))) (pw_or1 (pt_cmpR op_ne (pv 2) pe_int (nomark _))))))
        (pss_one (ps_ret pe_bl)) pss_nil)
      (pss_one (ps_ret (pe_or (pe_cmpR (op_eqTxt hr.units) (pv 1) (pe_cn (by rfl) C.any) (nomark _)) (pe_one (pe_call N.ok (hr.mono (by decide)) rfl N.mg N.kp N.bi .nil pass0 (pa_cons (pv 1) pa_nil))))))), ?_⟩
    refine ⟨_, rfl, m, "mark", rfl, sh_mark, qm, _, rfl, ?_⟩
    cases e1 : isTxt m "mark" with
    | true =>
      refine ⟨_, rfl, rfl, _, rfl, ?_⟩
      rw [qt.non]
      have r := k H fun b o z => z
      simp only [fitsMode, e1, if_true] at r
      cases e2 : isNon t with
      | true =>
        refine ⟨_, rfl, x, d, rfl, qd, ?_⟩
        rw [e2, Bool.true_and] at r
        exact r
      | false =>
        rw [e2, Bool.false_and] at r
        exact r
    | false =>
      have ef : fitsMode m t d = ((isTxt m "link" || isTxt m "list") && isZero d && (isTxt t "any" || isKindName t)) := by
        simp only [fitsMode, e1]
        simp
      refine ⟨_, rfl, m, tm, ["link", "list"], rfl, sq H, sh_modes, qm, _, rfl, ?_⟩
      have ea : (["link", "list"] : List Str).any (fun z => isTxt m z) = (isTxt m "link" || isTxt m "list") := by simp
      rw [ea]
      cases e3 : (isTxt m "link" || isTxt m "list") with
      | false =>
        have r := k H fun b o z => z
        rw [ef, e3, Bool.false_and, Bool.false_and] at r
        exact r
      | true =>
        refine ⟨_, rfl, x, d, rfl, qd, _, rfl, ?_⟩
        cases e4 : isInt d with
        | false =>
          have r := k H fun b o z => z
          have e5 : isZero d = false := by cases d <;> first | rfl | cases e4
          rw [ef, e3, e5, Bool.true_and, Bool.false_and] at r
          exact r
        | true =>
          obtain ⟨i, rfl, rfl⟩ := qd.int_of e4
          refine ⟨_, rfl, rfl, _, rfl, ?_⟩
          cases e5 : decide (i = 0) with
          | false =>
            have r := k H fun b o z => z
            have e6 : isZero (.int i) = false := e5
            rw [ef, e3, e6, Bool.true_and, Bool.false_and] at r
            have e7 : decide (V.int i = V.int 0) = false := by
              refine decide_eq_false fun z => ?_
              injection z with z
              exact of_decide_eq_false e5 z
            rw [e7]
            exact r
          | true =>
            have e7 : i = 0 := of_decide_eq_true e5
            subst e7
            rw [decide_eq_true rfl]
            refine ⟨_, rfl, t, "any", rfl, sh_any, qt, _, rfl, ?_⟩
            have e8 : fitsMode m t (.int 0) = (isTxt t "any" || isKindName t) := by
              rw [ef, e3]
              rfl
            cases e9 : isTxt t "any" with
            | true =>
              have r := k H fun b o z => z
              rw [e8, e9, Bool.true_or] at r
              exact r
            | false =>
              refine ⟨_, rfl, v, t, rfl, qt, sh, fun H' sm => ?_⟩
              have r := k H' sm
              rw [e8, e9, Bool.false_or] at r
              exact r
end
end Wp
set_option Elab.async false
set_option linter.all false
set_option maxRecDepth 100000
set_option maxHeartbeats 4000000
namespace Wp
open PySem L2
theorem PI.or {X : Cx} {tg l : Expr} {a b : TI} (h : PI X tg l a) (h' : PI X tg l b) : PI X tg l (fun σ H R => a σ H R ∨ b σ H R) :=
  ⟨fun pins s σ H R I q => q.elim (h.run pins s σ H R I) (h'.run pins s σ H R I)⟩
theorem Same.refl (H : Hp) : Same H H := fun _ _ e => e
theorem Same.trans {H H1 H2 : Hp} (a : Same H H1) (b : Same H1 H2) : Same H H2 := fun c o e => b c o (a c o e)
/-- [f(x) for x in xs], what is called only makes things -/
theorem lc_grow {J : It} {G : Hp → Prop} {xs : List V} {f : Nat → V} {te : TE} {i : Nat} {σ : L2.St} {H : Hp} {D : Addr} {Q : Hp → Prop} (w : Walk J xs.length G (YAt xs)) (few : xs.length ≤ 1000) (hG : ∀ H', Same H H' → G H') (new : H D = none)
    (turn : ∀ (j : Nat) (x : V) (H1 : Hp) (R : VK), xs[j]? = some x → Same H H1 → (∀ H2, Same H1 H2 → R (f j) H2) → te ((σ.set i none).set i (some x)) H1 R)
    (k : ∀ H', Same H H' → H' D = some (.lst ((List.range xs.length).map f)) → Q H') :
    ∃ W : Nat → Nat → Hp → Prop, (∃ m, W 0 m (upd H D (.lst []))) ∧ ∀ j m H, W j m H →
      (J.stop j H ∧ Q H) ∨ (J.go j H ∧ ∃ Nx : Hp → Prop, (∀ H', Nx H' → ∃ m', m' < m ∧ W (j + 1) m' H') ∧ ∀ x H', J.yld j H x H' → gName i x (wipe σ [i]) H' fun σ2 H2 => wipe σ2 [i] = wipe σ [i] ∧ tYes σ2 H2 fun b H3 =>
        if b = true then te σ2 H3 fun y H4 => ∃ acc, H4 D = some (.lst acc) ∧ acc.length < sizeLine ∧ Nx (upd H4 D (.lst (acc ++ [y]))) else Nx H3) := by
  refine lc_it w (fun j H' => Same H H' ∧ H' D = some (.lst ((List.range j).map f))) ⟨same_new new, upd_same⟩ (fun j H' _ q => hG H' q.1) ?_ fun H' q => k H' q.1 q.2
  rintro j x H1 H2 hj ⟨sm, hD⟩ ⟨rfl, hx⟩
  refine ⟨by simp [wipe, List.set_set], turn j x H2 _ hx sm fun H3 s3 => ⟨_, s3 _ _ hD, ?_, ?_, ?_⟩⟩
  · rw [List.length_map, List.length_range, sizeLine_eq]
    omega
  · intro b o e
    by_cases z : b = D
    · rw [z, new] at e
      cases e
    · rw [upd_ne z]
      exact s3 _ _ (sm _ _ e)
  · rw [upd_same, List.range_succ, List.map_append]
    rfl
/-- the thing at a is as it was -/
def Stays (a : Addr) (H H' : Hp) : Prop := ∀ o, H a = some o → H' a = some o
theorem Stays.of {a : Addr} {H H' : Hp} (e : Same H H') : Stays a H H' := fun o q => e a o q
theorem Stays.sqL {K : PySem.W.Frag} {a : Addr} {H H' : Hp} {xs : List V} (e : Stays a H H') (h : SqL K H a xs) : SqL K H' a xs :=
  h.elim (fun h => .inl (h.elim (fun h => .inl (e _ h)) fun ⟨o, h⟩ => .inr ⟨o, e _ h⟩)) fun h => .inr h
theorem Stays.sqT {K : PySem.W.Frag} {a : Addr} {H H' : Hp} {xs : List V} (e : Stays a H H') (h : SqT K H a xs) : SqT K H' a xs :=
  h.elim (fun h => .inl (h.elim (fun h => .inl (e _ h)) fun ⟨o, h⟩ => .inr ⟨o, e _ h⟩)) fun h => .inr h
/-- over what slot i holds, a list or a tuple -/
def iSeqV (K : PySem.W.Frag) (i : Nat) : TI := fun σ H R => ∃ (a : Addr) (xs : List V), σ[i]? = some (some (.ref a)) ∧ (SqL K H a xs ∨ SqT K H a xs) ∧ ∀ (J : It) (G : Hp → Prop), Walk J xs.length G (YAt xs) → (∀ H', Stays a H H' → G H') → R J H
theorem pi_seqV {X : Cx} {tg l : Expr} {i : Nat} (h : PE X l (tVar i)) : PI X tg l (iSeqV X.K i) := by
  constructor
  rintro pins s σ H R I ⟨a, xs, e, sq, k⟩
  refine (PI.or (pi_list h) (pi_tup h)).run pins s σ H R I ?_
  rcases sq with sq | sq
  · exact .inl ⟨_, e, a, rfl, ⟨xs, sq⟩, k _ _ walk_list fun H' z => z.sqL sq⟩
  · exact .inr ⟨_, e, a, rfl, ⟨xs, sq⟩, k _ _ walk_tup fun H' z => z.sqT sq⟩
def seqOf : PyData → Option (List PyData)
  | .list ds => some ds
  | .tuple ds => some ds
  | _ => none
def txts : List PyData → List Str
  | [] => []
  | .str x :: r => x :: txts r
  | _ :: r => txts r
def wasRight (n : Str) (d : PyData) : Bool := match seqOf d with
  | some ds => decide (ds.length ≤ 2) && ds.all isFieldName && !(txts ds).contains n && decide (txts ds).Nodup
  | none => false
/-- no long text in it either -/
def ShrtS (d : PyData) : Prop := ∀ ds, seqOf d = some ds → ∀ x ∈ ds, Shrt x
theorem shaped_item {ds : List PyData} (h : SeqAt.shaped (.list ds) = true) : ∀ d ∈ ds, SeqAt.shaped d = true := by
  have key : ∀ ds : List PyData, PyData.canLayAll0 ds = true → ∀ n, PyData.depthAll ds ≤ n → ∀ d ∈ ds, d.canLay0 = true ∧ d.depth ≤ n := by
    intro ds
    induction ds with
    | nil => intro _ n _ d m; cases m
    | cons x r ih =>
      intro a n b d m
      simp only [PyData.canLayAll0, Bool.and_eq_true] at a
      simp only [PyData.depthAll] at b
      rcases List.mem_cons.mp m with rfl | m
      · exact ⟨a.1, by omega⟩
      · exact ih a.2 n (by omega) d m
  have h1 := SeqAt.canLay_of_shaped h
  have h2 : PyData.depthAll ds + 1 ≤ 64 := by
    have := SeqAt.depth_of_shaped h
    simpa only [PyData.depth] using this
  intro d m
  have q := key ds (by simpa only [PyData.canLay0] using h1) 63 (by omega) d m
  simp only [SeqAt.shaped, Bool.and_eq_true, decide_eq_true_eq]
  exact ⟨q.1, by omega⟩
theorem shaped_tup (ds : List PyData) : SeqAt.shaped (.tuple ds) = SeqAt.shaped (.list ds) := rfl
section
variable {K : PySem.W.Frag} {H : Hp}
theorem dpAll_get : ∀ {vs : List V} {ds : List PyData}, DpAll K H vs ds → vs.length = ds.length ∧ ∀ (j : Nat) (v : V), vs[j]? = some v → ∃ d, ds[j]? = some d ∧ Dp K H v d
  | _, _, .nil => ⟨rfl, fun j v e => by simp at e⟩
  | _, _, .cons (v := v) (d := d) a b => by
    obtain ⟨l, g⟩ := dpAll_get b
    refine ⟨by simp [l], fun j u e => ?_⟩
    cases j with
    | zero =>
      simp at e
      subst e
      exact ⟨d, rfl, a⟩
    | succ j => exact g j u (by simpa using e)
theorem dpAll_txts : ∀ {vs : List V} {ds : List PyData}, DpAll K H vs ds → ds.all isFieldName = true → vs = (txts ds).map V.str ∧ (txts ds).length = ds.length
  | _, _, .nil, _ => ⟨rfl, rfl⟩
  | _, _, .cons (d := d) a b, h => by
    rw [List.all_cons, Bool.and_eq_true] at h
    obtain ⟨e, l⟩ := dpAll_txts b h.2
    cases d with
    | str x =>
      cases a
      rw [e]
      exact ⟨rfl, by simp [txts, l]⟩
    | _ => exact absurd h.1 (by simp [isFieldName, isWordN])
/-- a list or tuple as data: its things -/
theorem Dq.seq {v : V} {d : PyData} {ds : List PyData} (q : Dq K H v d) (e : seqOf d = some ds) :
    ∃ (a : Addr) (vs : List V), v = .ref a ∧ ((SqL K H a vs ∧ d = .list ds) ∨ (SqT K H a vs ∧ d = .tuple ds)) ∧ DpAll K H vs ds ∧ ∀ x ∈ ds, SeqAt.shaped x = true := by
  cases d <;> cases e
  · cases q with
    | dat q sh =>
      cases q with
      | lst s a => exact ⟨_, _, rfl, .inl ⟨s, rfl⟩, a, shaped_item sh⟩
  · cases q with
    | dat q sh =>
      cases q with
      | tup s a => exact ⟨_, _, rfl, .inr ⟨s, rfl⟩, a, shaped_item (by rw [← shaped_tup]; exact sh)⟩
end
end Wp
set_option Elab.async false
set_option linter.all false
set_option maxRecDepth 100000
set_option maxHeartbeats 4000000
namespace Wp
open PySem L2
theorem boot_ttuple : bootBuiltins "tuple" = some (.type "tuple") := by decide +kernel
theorem range_map {α β : Type} (g : α → β) (d : α) (xs : List α) : (List.range xs.length).map (fun j => g (xs.getD j d)) = xs.map g := by
  apply List.ext_getElem
  · simp
  · intro j h1 h2
    simp at h1
    simp [h1]
theorem kit_seq {K : PySem.W.Frag} (d : PyData) : PySem.W.kitAny K (.type (tyN d)) [.type "list", .type "tuple"] = some (isLst d || isTup d) := by
  refine kitAny_cons (kit_list d) (fun h => ?_) (fun h => by rw [h]; rfl)
  rw [h, Bool.false_or]
  refine kitAny_cons (kit_tuple d) (fun h => ?_) (fun h => h)
  rw [h]
  rfl
theorem inV_txt (n : Str) (xs : List Str) : inV (.str n) (xs.map V.str) = xs.contains n := by
  induction xs with
  | nil => rfl
  | cons x xs ih =>
    have e : inV (.str n) (V.str x :: xs.map V.str) = (eqV (.str x) (.str n) || inV (.str n) (xs.map V.str)) := rfl
    rw [List.map_cons, e, ih, List.contains_cons]
    show ((x == n) || _) = ((n == x) || _)
    rw [str_beq_decide, str_beq_decide]
    congr 1
    by_cases z : x = n
    · simp [z]
    · rw [decide_eq_false z, decide_eq_false fun q => z q.symm]
section
variable {P : Program} {w : World} {K : PySem.W.Frag} {mg : Str → Option Value} {base : Heap}
abbrev sWas : Stmt := top 44
def spWas (K : PySem.W.Frag) : Sp := fun vs H Q _ => ∃ (n : Str) (v : V) (d : PyData), vs = [.str n, v] ∧ Dq K H v d ∧ ShrtS d ∧ ∀ H', Same H H' → Q (.bl (wasRight n d)) H'
theorem scWas : FnScope ["name", "was", "former"] ["name", "was"] (defScope sWas) := ⟨rfl, rfl, rfl, by decide +kernel, rfl, by decide +kernel, by decide +kernel⟩
theorem ok_was {f f1 f2 : Addr} {fd fd1 fd2 : FuncData} (F : Fun K "_is_was" "_is_was" sWas f fd) (B : Bn mg) (C : Cn mg) (N : Known P w K mg base CX0 2 "is_field_name" ["value"] (spIsField K) f1 fd1)
    (D : Known P w K mg base CX0 1 "are_different" ["names"] (spDiff K) f2 fd2) : FnOk P w K mg base CX0 3 f fd ["name", "was"] (spWas K) := by
  refine F.ok scWas (fun vs H Q E h => ?_) (fun cdv A outer s H vs Q E hr h => ?_)
  · obtain ⟨n, v, d, rfl, _⟩ := h
    rfl
  · obtain ⟨n, v, d, rfl, q, sh, k⟩ := h
    refine ⟨_, pss_cons (ps_if (PW.pt (pw_or (pt_not (pt_val (pe_callB call_isiT (by rfl) B.isi boot_isi (pa_cons (pv 1) (pa_cons (pe_tup (pa_cons (pe_bltn (v := .ty "list") (by rfl) B.list PyProof.Rows.boot_list rfl) (pa_cons (pe_bltn (v := .ty "tuple") (by rfl) B.tuple boot_ttuple rfl) pa_nil))) pa_nil)))))
          (pw_or1 (pt_cmpR op_gt (pe_callB call_len_seq (by rfl) B.len PySem.boot_len (pa_cons (pv 1) pa_nil)) (pe_cn (by rfl) C.old) (nomark _)))))
        (pss_one (ps_ret pe_bl)) pss_nil)
      (pss_cons (ps_if (pt_not (pt_val (pe_callB (cr_all rfl) (by rfl) B.all boot_all (pa_cons (pe_lc (own := [("former", 2)]) (g := gName 2) (tt := tYes) rfl scWas.nd (pi_seqV (i := 1) (pv 1))
          (blkOk_by (N := ["name", "was", "former"]) (sc := defScope sWas) (by decide +kernel)) (fun _ _ _ _ _ => pg_name (i := 2) scWas.nd rfl (Or.inl rfl)) (fun _ _ _ _ _ => pts_nil)
          (fun _ _ _ _ _ => pe_call N.ok hr rfl N.mg N.kp N.bi .nil pass0 (pa_cons (pv 2) pa_nil))) pa_nil))))
        (pss_one (ps_ret pe_bl)) pss_nil)
      (pss_one (ps_ret (pe_and (pe_cmpR op_notIn_seq (pv 0) (pv 1) (by rfl)) (pe_one (pe_call D.ok (hr.mono (by decide)) rfl D.mg D.kp D.bi .nil pass0 (pa_cons (pv 1) pa_nil))))))), ?_⟩
    refine ⟨_, rfl, by show 2 ≤ sizeLine; decide, fun T hT => ?_⟩
    have s1 : Same H (upd H T (.tup [.ty "list", .ty "tuple"])) := same_new hT
    have q1 := q.same s1
    refine ⟨v, T, [.ty "list", .ty "tuple"], _, [.type "list", .type "tuple"], _, rfl, upd_same, .cons (.ty _) (.cons (.ty _) .nil), q1.ty, kit_seq d, _, rfl, ?_⟩
    cases e : seqOf d with
    | none =>
      have e1 : (isLst d || isTup d) = false := by cases d <;> first | rfl | cases e
      have e2 : wasRight n d = false := by
        simp only [wasRight, e]
      rw [e1]
      have r := k _ s1
      rw [e2] at r
      exact r
    | some ds =>
      have e1 : (isLst d || isTup d) = true := by cases d <;> first | rfl | cases e
      rw [e1]
      obtain ⟨a, vs, rfl, sq, da, shp⟩ := q1.seq e
      have eW : wasRight n d = (decide (ds.length ≤ 2) && ds.all isFieldName && !(txts ds).contains n && decide (txts ds).Nodup) := by
        simp only [wasRight, e]
      obtain ⟨len, get⟩ := dpAll_get da
      have sq2 : SqL K (upd H T (.tup [.ty "list", .ty "tuple"])) a vs ∨ SqT K (upd H T (.tup [.ty "list", .ty "tuple"])) a vs := sq.imp And.left And.left
      refine ⟨_, rfl, a, vs, rfl, sq2, _, _, rfl, rfl, _, rfl, ?_⟩
      cases e2 : decide (2 < (vs.length : Int)) with
      | true =>
        have r := k _ s1
        have e3 : ¬ ds.length ≤ 2 := by
          have := of_decide_eq_true e2
          omega
        rw [eW, decide_eq_false e3, Bool.false_and, Bool.false_and, Bool.false_and] at r
        exact r
      | false =>
        have e3 : ds.length ≤ 2 := by
          have := of_decide_eq_false e2
          omega
        refine ⟨a, vs, rfl, sq2, fun J G w hG D0 hD0 => ?_⟩
        refine lc_grow (f := fun j => V.bl (isFieldName (ds.getD j .none))) w (by omega) (fun H' z => hG H' (.of z)) hD0 ?_ ?_
        · intro j x H1 R hx sm k1
          obtain ⟨d1, g1, g2⟩ := get j x hx
          have m1 : d1 ∈ ds := List.mem_of_getElem? g1
          refine ⟨_, rfl, x, d1, rfl, .dat (dp_same sm g2) (shp _ m1), sh ds e _ m1, fun H2 s2 => ?_⟩
          have r := k1 H2 s2
          rw [List.getD_eq_getElem?_getD, g1] at r
          exact r
        · intro H' s2 hL
          have s3 : Same H H' := s1.trans s2
          rw [show (List.range vs.length).map (fun j => V.bl (isFieldName (ds.getD j .none))) = (ds.map isFieldName).map V.bl by rw [len, List.map_map, ← range_map (V.bl ∘ isFieldName) .none ds]; rfl] at hL
          refine ⟨D0, ds.map isFieldName, rfl, SqL.of hL, _, rfl, ?_⟩
          have e4 : (ds.map isFieldName).all id = ds.all isFieldName := by simp [List.all_map, Function.comp_def]
          rw [e4]
          cases e5 : ds.all isFieldName with
          | false =>
            have r := k _ s3
            rw [eW, e5, Bool.and_false, Bool.false_and, Bool.false_and] at r
            exact r
          | true =>
            obtain ⟨e6, e7⟩ := dpAll_txts da e5
            subst e6
            have sq3 : SqL K H' a ((txts ds).map V.str) ∨ SqT K H' a ((txts ds).map V.str) := sq2.imp (sqL_same s2) (sqT_same s2)
            refine ⟨_, rfl, _, rfl, a, _, rfl, sq3, rfl, by simp [flatV], ?_⟩
            refine ⟨_, rfl, ?_⟩
            rw [if_pos rfl, inV_txt]
            cases e8 : (txts ds).contains n with
            | true =>
              have r := k _ s3
              rw [eW, e8, Bool.not_true, Bool.and_false, Bool.false_and] at r
              exact r
            | false =>
              refine ⟨_, rfl, a, txts ds, rfl, ⟨sq3, by omega⟩, ?_⟩
              have r := k _ s3
              rw [eW, e5, e8, decide_eq_true e3] at r
              exact r
end
end Wp
set_option Elab.async false
set_option linter.all false
set_option maxRecDepth 100000
set_option maxHeartbeats 4000000
namespace Wp
open PySem L2 PySem.Spec PyProof.Rows
/-! ## defs that are called where no repr is on its way: the promise of a def may then lean on it -/
structure GOk (P : Program) (w : World) (K : PySem.W.Frag) (mg : Str → Option Value) (bs : Heap)
    (CX : CXT) (k : Nat) (f : Addr) (fd : FuncData) (ps : List Str) (sp : Sp) : Prop where
  len : ∀ ys H Q E, sp ys H Q E → ys.length = ps.length
  run : ∀ (A : Around) (out : List Env) (s : Shared) (H : Hp) (ar : Args) (us : List Value) (ys : List V) (Q : VK) (E : XK),
    A.guards = some [] → Room k A → Env0 P w K mg bs A out s H → BindsTo s fd ar (ps.zip us) →
    Vals ys us → sp ys H Q E → codeAny (model P w) A (.call (.ref f) ar) (CR CX out P w H s Q E) s
theorem gok_of {CX : CXT} {P : Program} {w : World} {K : PySem.W.Frag} {mg : Str → Option Value} {bs : Heap} {k : Nat} {f : Addr} {fd : FuncData} {x qual : Str} {st : Stmt} {N ps : List Str} {sp : Sp}
    (F : Fun K x qual st f fd) (S : FnScope N ps (defScope st)) (len : ∀ ys H Q E, sp ys H Q E → ys.length = ps.length)
    (body : ∀ (cd : Value) (A : Around) (out : List Env) (s : Shared) (H : Hp) (ys : List V) (Q : VK) (E : XK),
      (A.deeper (envOfC qual (defScope st) s.heap.objs.size f cd)).guards = some [] → Room k (A.deeper (envOfC qual (defScope st) s.heap.objs.size f cd)) → sp ys H Q E →
      ∃ t, PSs (cxOf CX P w K mg bs N qual (defScope st) f cd A out s H E) (defBody st) t ∧
        t { nx := fun _ H' => Q .non H', rt := Q } (start N ys) H) : GOk P w K mg bs CX (k + 1) f fd ps sp := by
  obtain ⟨oc, od, kV, doc, pm, an, cd, ct, osl, rfl, lk, hcd⟩ := F.ex
  constructor
  · exact len
  · intro A out s H ar us ys Q E hG hR e0 hB hV hP
    have hLen := len _ _ _ _ hP
    have inK : K.In s.heap := e0.mod.kin.keeps fun b o e => (e0.bs b o e).1
    have noL : s.heap.NoLimit := e0.mod.nolimit.keeps fun b o e => (e0.bs b o e).1
    have kinds : ∀ y ∈ ps.zip us, (defScope st).names.lookup y.1 = some .local ∨
        ((defScope st).names.lookup y.1 = some .cell ∧ ((cellsFrom (s.heap.objs.size + 1) (defScope st).names []).lookup y.1).isSome = true) := by
      intro y hy
      obtain ⟨n, v⟩ := y
      cases S.par n (List.of_mem_zip hy).1 with
      | inl z => exact Or.inl z
      | inr z => exact Or.inr ⟨z, PySem.W.cellsFrom_some _ _ _ (Or.inl z)⟩
    apply codeAny_call_function hR.depth (inK _ _ lk) rfl S.co S.gen rfl (PySem.W.codeRec_of inK hcd)
    apply hB
    refine wpAny_newFunctionEnv_cells S.kind kinds ?_
    intro env ee s1 hin
    subst ee
    refine ⟨noL.keeps hin.toInCall.keep, ?_⟩
    apply codeAny_func
    obtain ⟨t, ht, hq⟩ := body cd A out s H ys Q E hG (hR.deeper _) hP
    have J : Inv (cxOf CX P w K mg bs N qual (defScope st) f cd A out s H E) [] (start N ys) H s1 := inv_start S hR.hd e0 hLen hV hin
    refine wpAny_mono (ht.run [] s1 (start N ys) H _ J hq) ?_ (fun _ _ z => z)
    intro fl s2 hs
    cases fl with
    | ret u =>
      obtain ⟨v, σ2, H2, J2, rv, q⟩ := hs
      exact ⟨v, H2, J2.os, J2.bare, J2.base, J2.hok, rv, q⟩
    | next =>
      obtain ⟨σ2, H2, J2, q⟩ := hs
      exact ⟨V.non, H2, J2.os, J2.bare, J2.base, J2.hok, rfl, q⟩
    | brk =>
      obtain ⟨_, _, _, q⟩ := hs
      exact q.elim
    | cont =>
      obtain ⟨_, _, _, q⟩ := hs
      exact q.elim
section
variable {X : Cx} {CX : CXT} {k : Nat} {f : Addr} {fd : FuncData} {ps : List Str} {sp : Sp} {E : XK} {x : Str} {p pos : Pos} {e : Expr} {es : List Expr} {t : TA}
/-- f(e, ..) of such a def -/
theorem pe_callG (hG : X.A.guards = some []) (F : GOk X.prog X.w X.K X.mg X.base CX k f fd ps sp) (hr : Room k X.A) (hg : Gl X x) (hm : X.mg x = some (.ref f)) (hk : PySem.W.keepIn X.K (.ref f) = true)
    (hb : Binds X.K fd ps []) (hx : Passes CX X E) (ha : PA X (e :: es) t) (hdb : (x == ("__debug__" : Str)) = false := by decide)
    (he : starEach (e :: es) X.env = (false, eval e X.env) :: starEach es X.env := by rfl) (hpl : (backTo pos (starEach es X.env)).any (·.1) = false := by rfl) :
    PE X (.Call (.Name x p) (e :: es) [] pos) (tCall sp [] E t) := by
  constructor
  intro pins s σ H Q I h
  apply wpAny_Call_Name_kw
  refine ld_glob I hg hm ?_ hdb
  refine PySem.W.callWith_K (h₀ := X.base) I.ok.mod.kin hk ?_ he hpl
  refine thn (ha.run pos pins s σ H _ I h) ?_
  intro us s1 hh
  obtain ⟨ys, H1, I1, rv, q⟩ := hh
  refine ⟨I1.kIn, ?_⟩
  rw [List.append_nil] at q
  have hl : us.length = ps.length := by
    rw [← rv.length]
    exact F.len _ _ _ _ q
  have hb1 := hb s1 us I1.kIn (by simpa using hl)
  rw [List.append_nil] at hb1
  apply wpAny_call
  refine codeAny_mono (F.run X.A X.stack s1 H1 ⟨us, []⟩ us ys Q E hG hr I1.env0 hb1 rv q) ?_
  intro r s2 hq
  cases r with
  | error z => exact hx pins σ H1 s1 z s2 I1 hq
  | ok fl =>
    cases fl with
    | ret u => exact I1.after hq
    | next => exact hq.elim
    | brk => exact hq.elim
    | cont => exact hq.elim
/-- repr(x) of data -/
def rRepr (K : PySem.W.Frag) : List V → Hp → VK → Prop := fun xs H Q => ∃ (a : Addr) (d : PyData), xs = [.ref a] ∧ Dp K H (.ref a) d ∧ d.showable = true ∧ d.hasDict = false ∧ d.depth ≤ 10 ∧ d.shown.length ≤ sizeLine ∧ Q (.str d.shown) H
theorem call_repr (hG : X.A.guards = some []) (hu : X.A.units + 20 < cLine) : CallR X (.builtin "repr") (rRepr X.K) := by
  intro pins s σ H xs us Q I r h
  obtain ⟨a, d, rfl, hd, h1, h2, h3, h4, q⟩ := h
  obtain ⟨u, rfl, rx⟩ := vals1 r
  cases (show u = Value.ref a from rx)
  obtain ⟨as, rd⟩ := Dp.reads I d _ _ hd rfl
  refine PySem.repr_of_reads' rd h1 (PyData.noDict_hsm h2) hG (by omega) (fun _ _ e => e) ?_ h4
  intro h' u tk hk
  exact ⟨.str d.shown, H, I.kept hk, ⟨_, rfl⟩, q⟩
end
/-! ## the law's own call, for a promise that leans on the empty list of guards -/
theorem law_start {P : Program} {w : World} {K : PySem.W.Frag} {mg mb : Str → Option Value} {CX : CXT} {k : Nat} {fa a : Addr} {fd : FuncData} {x : Str} {sp : Sp} {s0 : Shared} {vs : List Value} {ns : List Int}
    (hK : K.In s0.heap) (hN : s0.heap.Ns mainGlobals mg) (hB : s0.heap.Ns builtinsNs mb) (hBB : ∀ y : Str, y ≠ "__name__" → mb y = bootBuiltins y) (hL : s0.heap.NoLimit) (hg : s0.gens = #[])
    (hA : s0.heap.get? a = some { cls := .type "list", data := .seq vs.toArray }) (hI : IntsAre vs ns) (hz : ns.length ≤ sizeLine) (hR : Room k callerA)
    (F : ∀ bs : Heap, K.In bs → bs.Ns mainGlobals mg → GOk P w K mg bs CX k fa fd [x] sp) (hbind : ∀ (s : Shared) (u : Value), BindsTo s fd ⟨[u], []⟩ [(x, u)])
    (hsp : ∀ H : Hp, Only H → SqL K H a (ns.map V.int) → sp [.ref a] H (fun v _ => v = .bl true) fun _ _ _ => False)
    (hCX : ∀ H e s', CX [] H s0 (fun _ _ _ => False) e s' → False) :
    codeAny (model P w) callerA (.call (.ref fa) ⟨[.ref a], []⟩) (fun r s' => r = .ok (.ret (.bool true)) ∧ OldK s0.heap s'.heap ∧ s'.os = s0.os ∧ AllBare s'.gens) s0 := by
  have vI := vals_ints hI
  have lI := hI.length
  have main : ∀ H : Hp, Only H → SqL K H a (ns.map V.int) → HOk P w H s0.heap → (∀ b, H b ≠ none → b = a) → (H a ≠ none → K.lookup a = none) →
      codeAny (model P w) callerA (.call (.ref fa) ⟨[.ref a], []⟩)
        (fun r s' => r = .ok (.ret (.bool true)) ∧ OldK s0.heap s'.heap ∧ s'.os = s0.os ∧ AllBare s'.gens) s0 := by
    intro H oH sH okH onA outK
    have low : ∀ {b : Addr} {o : Obj}, s0.heap.get? b = some o → H b = none → (hidT s0.heap H).get? b = some o := fun e n => hidT_get e n
    have free : ∀ {b : Addr} {o : Obj} {es : Array DictEntry} {ep : Nat}, s0.heap.get? b = some o → o.data = .dict es ep → H b = none := by
      intro b o es ep e d
      cases q : H b with
      | none => rfl
      | some u =>
        have eb : b = a := onA b (by rw [q]; simp)
        rw [eb, hA] at e
        cases e
        cases (show Data.seq vs.toArray _ = Data.dict es ep from d)
    have nsOf : ∀ {b : Addr} {m : Str → Option Value}, s0.heap.Ns b m → (hidT s0.heap H).Ns b m := by
      intro b m hn
      obtain ⟨o, es, ep, e, d, r⟩ := hn
      exact ⟨o, es, ep, low e (free e d), d, r⟩
    have inB : K.In (hidT s0.heap H) := by
      intro b o e
      refine low (hK b o e) ?_
      cases q : H b with
      | none => rfl
      | some u =>
        have eb : b = a := onA b (by rw [q]; simp)
        rw [eb, outK (by rw [← eb, q]; simp)] at e
        cases e
    have hLim : (hidT s0.heap H).NoLimit := by
      obtain ⟨mc, z1, z2⟩ := hL
      exact ⟨mc, nsOf z1, z2⟩
    have md : Mod K mg (hidT s0.heap H) := ⟨inB, nsOf hN, ⟨mb, nsOf hB, hBB⟩, hLim⟩
    have e0 : Env0 P w K mg (hidT s0.heap H) callerA [] s0 H := {
      frames := rfl
      mod := md
      bs := fun b o e => of_hidT e
      bsz := Nat.le_of_eq (hidT_size _ _)
      funs := trivial
      frf := fun b hb => by cases (show b ∈ ([] : List Addr) from hb)
      hok := okH
      bare := .of_eq hg }
    have run := (F _ inB (nsOf hN)).run callerA [] s0 H ⟨[.ref a], []⟩ [.ref a] [.ref a] _ _ rfl hR e0 (hbind s0 (.ref a)) (.cons rfl .nil) (hsp H oH sH)
    refine codeAny_mono run ?_
    intro r s' h
    cases r with
    | error e => exact (hCX H e s' h).elim
    | ok fl =>
      cases fl with
      | ret u =>
        obtain ⟨v, H', os, bare, un, okH', rv, q⟩ := h
        have ev : v = .bl true := q
        rw [ev] at rv
        have eu : u = Value.bool true := rv
        rw [eu]
        refine ⟨rfl, OldK.of_keep ?_, os, bare⟩
        intro b o e
        cases q : H b with
        | none => exact un.keep b o e q (fun z => by cases (show b ∈ ([] : List Addr) from z)) (fun z => by cases z)
        | some z =>
          cases oH b with
          | inl y =>
            rw [q] at y
            cases y
          | inr y =>
            obtain ⟨ob, xs, y⟩ := y
            have y2 := (okH' b _ (un.frzs b ob _ y)).1
            have y1 := (okH b _ y).1
            rw [e] at y1
            cases y1
            exact y2
      | next => exact h.elim
      | brk => exact h.elim
      | cont => exact h.elim
  cases hk : K.lookup a with
  | some o =>
    have e := hK a o hk
    rw [hA] at e
    cases e
    refine main (fun _ => none) (fun _ => .inl rfl) (.inr ⟨_, vs.toArray, _, hk, rfl, rfl, rfl, ?_, by simpa using vI⟩) ?_ (fun b z => absurd rfl z) fun z => absurd rfl z
    · rw [List.size_toArray, lI]
      exact hz
    · intro b u z
      cases (show (none : Option HO) = some u from z)
  | none =>
    let ob : Obj := { cls := .type "list", data := .seq vs.toArray }
    refine main (fun b => if b = a then some (.frz ob (.lst (ns.map V.int))) else none) ?_ (.inl (.inr ⟨ob, if_pos rfl⟩)) ?_ ?_ fun _ => hk
    · intro b
      by_cases hb : b = a
      · exact .inr ⟨ob, _, if_pos hb⟩
      · exact .inl (if_neg hb)
    · intro b u z
      by_cases hb : b = a
      · have z2 := (if_pos hb).symm.trans z
        cases z2
        subst hb
        refine ⟨hA, ?_, vs, _, vI, hA⟩
        rw [List.length_map]
        exact hz
      · have z2 := (if_neg hb).symm.trans z
        cases z2
    · intro b z
      by_cases hb : b = a
      · exact hb
      · exact absurd (if_neg hb) z
theorem walkG {l : PySem.W.OpenLaw} {n k : Nat} {q : Program} {loose : List Str} {XP : (Str → Option Value) → Heap → Prop} {YP : World → Heap → Prop} {d : DefRec} {K : Params → PySem.W.Frag} {sp : PySem.W.Frag → Sp} {x : Str}
    (hn : l.most = some n) (hn2 : n ≤ sizeLine) (hdf : d.params.defaults = []) (hr : Room k callerA) (hY : ∀ (w : World) (h : Heap), YP w h → (K w.params).In h)
    (F : ∀ (w : World) (mg : Str → Option Value) (fa : Addr) (h : Heap), (K w.params).In h → h.Ns mainGlobals mg → mg d.name = some (.ref fa) →
      ∃ fd : FuncData, (∀ (s : Shared) (u : Value), BindsTo s fd ⟨[u], []⟩ [(x, u)]) ∧
        ∀ bs : Heap, (K w.params).In bs → bs.Ns mainGlobals mg → GOk l.prog w (K w.params) mg bs CX0 k fa fd [x] (sp (K w.params)))
    (hsp : ∀ (K : PySem.W.Frag) (H : Hp) (a : Addr) (ns : List Int), ns.length ≤ n → Only H → SqL K H a (ns.map V.int) → sp K [.ref a] H (fun v _ => v = .bl true) fun _ _ _ => False) :
    PySem.W.WalkO q loose XP YP l.row.toRowW d [] (fun f vs => PySem.call f vs) := by
  apply Att.attach_call hn hdf
  intro w s₀ s₁ mg mb fa o pm cd doc a vs ns G Y ho hd hcd hmg hobj hints hlen hg
  have inK := hY w _ Y
  obtain ⟨fd, hb, hF⟩ := F w mg fa _ inK G.T.g hmg
  exact law_start inK G.T.g G.T.b G.T.builtins G.T.nolimit hg hobj hints (Nat.le_trans hlen hn2) hr hF hb (fun H hO hS => hsp _ H a ns hlen hO hS) fun H e s' z => z.elim
/-! ## exceptions as values -/
/-- C(e, ..) as a value, by the promise of C's own __init__ -/
def tMkx (C : Addr) (sp : Sp) (ta : TA) : TE := fun σ H Q => ta σ H fun vs H1 => vs.length ≤ 1000 ∧ ∀ a, H1 a = none →
  sp (.ref a :: vs) (upd H1 a (exo a C none)) (fun v H2 => v = .non ∧ Q (.ref a) H2) (fun _ _ _ => False)
section
variable {X : Cx} {CX : CXT} {x : Str} {C fI : Addr} {k : Nat} {fd : FuncData} {ps : List Str} {sp : Sp} {e : Expr} {es : List Expr} {ta : TA} {p pos : Pos}
theorem run_mkx {pins : List (Addr × Obj)} {σ : L2.St} {H : Hp} {s : Shared} {Q : VK} {us : List Value} {vs : List V} (T : OexC X.K C) (iC : PySem.W.findIn X.K (.ref C) "__init__" = some (some (.ref fI)))
    (tI : PySem.W.typeIn X.K (.ref fI) = some (.type "function")) (FI : FnOk X.prog X.w X.K X.mg X.base CX k fI fd ps sp) (hr : Room (k + 1) X.A) (hb : Binds X.K fd ps []) (hx : Passes CX X (fun _ _ _ => False))
    (I : Inv X pins σ H s) (r : Vals vs us) (hz : vs.length ≤ 1000)
    (h : ∀ a, H a = none → sp (.ref a :: vs) (upd H a (exo a C none)) (fun v H2 => v = .non ∧ Q (.ref a) H2) (fun _ _ _ => False)) :
    wpAny (model X.prog X.w) X.A (call (.ref C) us) (EP X pins σ Q) X.xe s := by
  obtain ⟨nm, q, N, bs, bm, sn, sub, ab, col, dd, k0, k1, k2, k3, k5, hC, hbm⟩ := T.cls
  obtain ⟨hp, g, dr, tk, os⟩ := s
  have hsz : hp.objs.size ≤ hp.objs.size + 1 := Nat.le_succ _
  have hq := h (hp.objs.size + 1) (I.hok.fresh hsz)
  have keep : ∀ b o, hp.get? b = some o → ((hp.push (PySem.W.kdv_tup us)).push (PySem.HandSPX.excO C hp.objs.size)).get? b = some o :=
    fun b o z => Heap.get?_push_of_some _ (Heap.get?_push_of_some _ z)
  have there : ((hp.push (PySem.W.kdv_tup us)).push (PySem.HandSPX.excO C hp.objs.size)).get? (hp.objs.size + 1) = some (PySem.HandSPX.excO C hp.objs.size) := by heap_get
  have I2 := I.laid (t' := tk) (a := hp.objs.size + 1) (o := exo (hp.objs.size + 1) C none) keep hsz (exo_ok there)
  have r2 : Vals (V.ref (hp.objs.size + 1) :: vs) (Value.ref (hp.objs.size + 1) :: us) := .cons rfl r
  have hl : (Value.ref (hp.objs.size + 1) :: us).length = ps.length := by
    rw [← r2.length]
    exact FI.len _ _ _ _ hq
  have hus : us.length ≤ sizeLine := by
    rw [← r.length, sizeLine_eq]
    omega
  have b2 := hb ⟨(hp.push (PySem.W.kdv_tup us)).push (PySem.HandSPX.excO C hp.objs.size), g, dr, tk, os⟩ (Value.ref (hp.objs.size + 1) :: us) I2.kIn (by simpa using hl)
  rw [List.append_nil] at b2
  apply wpAny_call
  refine PySem.HandSPX.call_own F.excBase_ValueError (fun Y => PySem.HandSPX.refsVE_contains Y bm hbm) (I.kIn _ _ hC) (PySem.W.looks_findIn I.kIn iC) (fun self => PySem.W.bind_fn I.kIn self tI) hus ?_
  refine codeAny_mono (FI.run _ X.stack _ _ ⟨Value.ref (hp.objs.size + 1) :: us, []⟩ (Value.ref (hp.objs.size + 1) :: us) _ _ (fun _ _ _ => False) (hr.make C us []) (I2.env0.make C us []) b2 r2 hq) ?_
  intro y s2 hy
  cases y with
  | error er => exact hx pins σ _ _ er s2 I2 hy
  | ok fl =>
    cases fl with
    | ret u =>
      obtain ⟨v, H2, os2, bare2, un2, hok2, rv, ev, q2⟩ := hy
      rw [ev] at rv
      exact ⟨rv, I2.after ⟨.ref (hp.objs.size + 1), H2, os2, bare2, un2, hok2, rfl, q2⟩⟩
    | next => exact hy.elim
    | brk => exact hy.elim
    | cont => exact hy.elim
theorem pe_mkx (T : OexC X.K C) (iC : PySem.W.findIn X.K (.ref C) "__init__" = some (some (.ref fI))) (tI : PySem.W.typeIn X.K (.ref fI) = some (.type "function")) (FI : FnOk X.prog X.w X.K X.mg X.base CX k fI fd ps sp)
    (hr : Room (k + 1) X.A) (hb : Binds X.K fd ps []) (hx : Passes CX X (fun _ _ _ => False)) (hg : Gl X x) (hm : X.mg x = some (.ref C)) (ha : PA X (e :: es) ta)
    (hdb : (x == ("__debug__" : Str)) = false := by decide) (he : starEach (e :: es) X.env = (false, eval e X.env) :: starEach es X.env := by rfl) (hpl : (backTo pos (starEach es X.env)).any (·.1) = false := by rfl) :
    PE X (.Call (.Name x p) (e :: es) [] pos) (tMkx C sp ta) := by
  constructor
  intro pins s σ H Q I h
  apply wpAny_Call_Name_kw
  refine ld_glob I hg hm ?_ hdb
  refine PySem.W.callWith_K (h₀ := X.base) I.ok.mod.kin T.kC ?_ he hpl
  refine thn (ha.run pos pins s σ H _ I h) ?_
  intro us s1 hh
  obtain ⟨vs, H1, I1, rv, hz, q⟩ := hh
  exact ⟨I1.kIn, run_mkx T iC tI FI hr hb hx I1 rv hz q⟩
/-- C() of a class without an own __init__ -/
theorem pe_mkx0 {bmB : List Value} {B newId initId : String} (FB : ExcBaseFacts B newId initId bmB) (q : PySem.W.excIn X.K C bmB newId = true) (gC : X.mg x = some (.ref C)) (kC : PySem.W.keepIn X.K (.ref C) = true) (hg : Gl X x)
    (hdb : (x == ("__debug__" : Str)) = false := by decide) : PE X (.Call (.Name x p) [] [] pos) (fun _ H Q => ∀ a, H a = none → Q (.ref a) (upd H a (exo a C none))) := by
  constructor
  intro pins s σ H Q I h
  apply wpAny_Call_Name_kw
  refine ld_glob I hg gC ?_ hdb
  refine PySem.W.callWith_K0 I.kIn kC ?_
  obtain ⟨bm, N, nm, qn, bs, hdct, sn, sub, ab, col, dd, k0, k1, k2, k3, k5, mN, hC, hN, hni, T⟩ := exc_obj I.kIn q
  refine wpAny_call_exc_subT FB T hC hN hni (fun h' a hm => ?_) (by show 0 ≤ sizeLine; exact Nat.zero_le _)
  have hn := I.hok.gone hm.new
  obtain ⟨t, ht, _, _⟩ := hm.there
  exact ⟨.ref a, _, I.laidN hm.keeps hm.new hn (exo_ok ht), rfl, h a hn⟩
/-- e.f of an exception that is held as a value -/
def tXv (K : PySem.W.Frag) (f : Str) (te : TE) : TE := fun σ H Q => te σ H fun x H1 => ∃ (a C d : Addr) (fs : List (Str × V)) (v : V), x = .ref a ∧ ExcC K C ∧ PySem.W.findIn K (.ref C) f = some none ∧
  H1 a = some (exo a C (some d)) ∧ H1 d = some (exd d fs) ∧ fs.lookup f = some v ∧ Q v H1
theorem pe_xv {te : TE} {n : Str} (he : PE X e te) (hb : attributeBase e n X.env (eval e X.env) = eval e X.env := by rfl) : PE X (.Attribute e n pos) (tXv X.K n te) := by
  constructor
  intro pins s σ H Q I h
  refine attr_of hb (thn (he.run pins s σ H _ I h) ?_)
  intro u s1 hh
  obtain ⟨x, H1, I1, rx, a, C, d, fs, v, ex, T, hno, ea, ed, l, q⟩ := hh
  subst ex
  obtain rfl : u = Value.ref a := rx
  obtain ⟨t1, ho⟩ := exo_at I1.hok ea
  obtain ⟨mA, hns, hr⟩ := exd_at I1.hok ed
  obtain ⟨od, hod, hl⟩ := lookIn_ns hns
  obtain ⟨w', hw, rw'⟩ := RelO.some_of (v := v) (o := mA n) (by rw [← l]; exact hr n)
  have J : PySem.W.InstAt s1.heap a _ C (some od) := ⟨ho, rfl, rfl, hod⟩
  exact HandSPX.exc_get I1.kIn J T.hg T.hk T.hs (PySem.W.findObj_own T.hd hno rfl (by rw [hl, hw])) (handed_of rw') ⟨v, H1, I1.tok _, rw', q⟩
/-- isinstance(x, c), x such an exception (with its dict or without) -/
def rIsx (K : PySem.W.Frag) : List V → Hp → VK → Prop := fun xs H Q => ∃ (a C : Addr) (d : Option Addr) (c : V) (cv : Value) (b : Bool), xs = [.ref a, c] ∧ ClsV c cv ∧ ExcC K C ∧
  H a = some (exo a C d) ∧ (∀ dx, d = some dx → ∃ fs, H dx = some (exd dx fs)) ∧ PySem.W.kitOne K (.ref C) cv = some b ∧ Q (.bl b) H
theorem call_isx : CallR X (.builtin "isinstance") (rIsx X.K) := by
  intro pins s σ H xs us Q I r h
  obtain ⟨a, C, d, c, cv, b, rfl, kc, T, ea, ed, e, q⟩ := h
  obtain ⟨u1, u2, rfl, r1, r2⟩ := vals2 r
  cases (show u1 = Value.ref a from r1)
  have e2 := kc.eq r2
  subst e2
  obtain ⟨t1, ho⟩ := exo_at I.hok ea
  obtain ⟨cd, hcd, _⟩ := PySem.W.any_some T.hd
  have hcl : (PySem.W.clsIn X.K C).isSome = true := by rw [hcd]; rfl
  have fin : ∀ od, PySem.W.InstAt s.heap a { cls := .ref C, dict := d, data := .fields #[.ref t1, .none, .none, .none, .bool false, .none] } C od → wpAny (model X.prog X.w) X.A (call (.builtin "isinstance") [.ref a, u2]) (EP X pins σ Q) X.xe s :=
    fun od J => PySem.W.kia_one (PySem.W.kitx_exc hcl T.hg T.hk T.hs T.ha T.hn T.ht T.hm) I.kIn J e (fun z => nomatch z) fun tk => ⟨.bl b, H, I.tok tk, rfl, q⟩
  cases d with
  | none => exact fin none ⟨ho, rfl, rfl, trivial⟩
  | some dx =>
    obtain ⟨fs, hd⟩ := ed dx rfl
    obtain ⟨mA, hns, _⟩ := exd_at I.hok hd
    obtain ⟨od, hod, _⟩ := lookIn_ns hns
    exact fin (some od) ⟨ho, rfl, rfl, hod⟩
end
/-! ## the errors' own __init__, and what they leave -/
/-- behind C(v, ..): the error at a, its dict at d -/
def exH (H : Hp) (a C d : Addr) (fs : List (Str × V)) : Hp := upd (upd H d (exd d fs)) a (exo a C (some d))
theorem exH_a {H : Hp} {a C d : Addr} {fs : List (Str × V)} : exH H a C d fs a = some (exo a C (some d)) := upd_same
theorem exH_d {H : Hp} {a C d : Addr} {fs : List (Str × V)} (h : d ≠ a) : exH H a C d fs d = some (exd d fs) := by
  unfold exH
  rw [upd_ne h, upd_same]
theorem exH_ne {H : Hp} {a C d b : Addr} {fs : List (Str × V)} (h1 : b ≠ a) (h2 : b ≠ d) : exH H a C d fs b = H b := by
  unfold exH
  rw [upd_ne h1, upd_ne h2]
theorem exH_same {H : Hp} {a C d : Addr} {fs : List (Str × V)} (h1 : H a = none) (h2 : H d = none) : Same H (exH H a C d fs) := fun b o e => by
  rw [exH_ne (ne_of_none e h1) (ne_of_none e h2)]
  exact e
theorem exH_over {H : Hp} {a C d : Addr} {fs : List (Str × V)} {o : HO} : upd (upd (upd H a o) d (exd d fs)) a (exo a C (some d)) = exH H a C d fs := by
  funext b
  unfold exH
  by_cases h1 : b = a
  · rw [h1, upd_same, upd_same]
  · rw [upd_ne h1, upd_ne h1]
    by_cases h2 : b = d
    · rw [h2, upd_same, upd_same]
    · rw [upd_ne h2, upd_ne h2, upd_ne h1]
def spI1 (C : Addr) (f : Str) : Sp := fun vs H Q _ => ∃ (a : Addr) (v : V), vs = [.ref a, v] ∧ H a = some (exo a C none) ∧ ∀ dx, H dx = none → dx ≠ a → Q .non (upd (upd H dx (exd dx [(f, v)])) a (exo a C (some dx)))
def spI2 (C : Addr) (f g : Str) : Sp := fun vs H Q _ => ∃ (a : Addr) (v y : V), vs = [.ref a, v, y] ∧ H a = some (exo a C none) ∧ ∀ dx, H dx = none → dx ≠ a → Q .non (upd (upd H dx (exd dx [(g, y), (f, v)])) a (exo a C (some dx)))
section
variable {P : Program} {w : World} {K : PySem.W.Frag} {mg : Str → Option Value} {base : Heap}
theorem ok_init1 {st : Stmt} {q f : Str} {C fa : Addr} {fd : FuncData} {p1 p2 p3 p4 : Pos} (F : Fun K "__init__" q st fa fd) (hb : defBody st = [.Assign [.Attribute (.Name "self" p1) f p2] (.Name f p3) p4])
    (S : FnScope ["self", f] ["self", f] (defScope st)) (hs : (defScope st).names.lookup ("self" : Str) = some NameKind.local) (hl : (defScope st).names.lookup f = some NameKind.local) (hd : (f == ("__debug__" : Str)) = false) (hc : (f == ("__classdict__" : Str)) = false)
    (T : OexC K C) (hno : PySem.W.findIn K (.ref C) f = some none) : FnOk P w K mg base CX0 1 fa fd ["self", f] (spI1 C f) := by
  refine F.ok S (fun vs H Q E h => ?_) (fun cdv A outer s H vs Q E hr h => ?_)
  · obtain ⟨a, v, rfl, _⟩ := h
    rfl
  · obtain ⟨a, v, rfl, ea, k⟩ := h
    rw [hb]
    refine ⟨_, pss_one (ps_ost (pv 0 rfl (.inl hs)) (pv 1 rfl (.inl hl) hd hc)), ?_⟩
    exact ⟨_, rfl, _, rfl, a, C, rfl, T, hno, .inl ⟨ea, fun dx n ne => k dx n ne⟩⟩
theorem ok_init2 {st : Stmt} {q f g : Str} {C fa : Addr} {fd : FuncData} {p1 p2 p3 p4 q1 q2 q3 q4 : Pos} (F : Fun K "__init__" q st fa fd)
    (hb : defBody st = [.Assign [.Attribute (.Name "self" p1) f p2] (.Name f p3) p4, .Assign [.Attribute (.Name "self" q1) g q2] (.Name g q3) q4])
    (S : FnScope ["self", f, g] ["self", f, g] (defScope st)) (hs : (defScope st).names.lookup ("self" : Str) = some NameKind.local) (hl : (defScope st).names.lookup f = some NameKind.local) (hl2 : (defScope st).names.lookup g = some NameKind.local)
    (hd : (f == ("__debug__" : Str)) = false) (hc : (f == ("__classdict__" : Str)) = false) (hd2 : (g == ("__debug__" : Str)) = false) (hc2 : (g == ("__classdict__" : Str)) = false)
    (T : OexC K C) (hno : PySem.W.findIn K (.ref C) f = some none) (hno2 : PySem.W.findIn K (.ref C) g = some none) : FnOk P w K mg base CX0 1 fa fd ["self", f, g] (spI2 C f g) := by
  refine F.ok S (fun vs H Q E h => ?_) (fun cdv A outer s H vs Q E hr h => ?_)
  · obtain ⟨a, v, y, rfl, _⟩ := h
    rfl
  · obtain ⟨a, v, y, rfl, ea, k⟩ := h
    rw [hb]
    refine ⟨_, pss_cons (ps_ost (pv 0 rfl (.inl hs)) (pv 1 rfl (.inl hl) hd hc)) (pss_one (ps_ost (pv 0 rfl (.inl hs)) (pv 2 rfl (.inl hl2) hd2 hc2))), ?_⟩
    refine ⟨_, rfl, _, rfl, a, C, rfl, T, hno, .inl ⟨ea, fun dx n ne => ?_⟩⟩
    refine ⟨_, rfl, _, rfl, a, C, rfl, T, hno2, .inr ⟨dx, [(f, v)], upd_same, ?_, (by show 1 ≤ 900; decide), ?_⟩⟩
    · rw [upd_ne ne, upd_same]
    · have e : upd (upd (upd H dx (exd dx [(f, v)])) a (exo a C (some dx))) dx (exd dx [(g, y), (f, v)]) = upd (upd H dx (exd dx [(g, y), (f, v)])) a (exo a C (some dx)) := by
        funext b
        by_cases h2 : b = dx
        · rw [h2, upd_same, upd_ne ne, upd_same]
        · rw [upd_ne h2]
          by_cases h1 : b = a
          · rw [h1, upd_same, upd_same]
          · rw [upd_ne h1, upd_ne h1, upd_ne h2, upd_ne h2]
      rw [e]
      exact k dx n ne
/-- a class of one field; of two; of none -/
structure Mk1 (P : Program) (w : World) (K : PySem.W.Frag) (mg : Str → Option Value) (base : Heap) (x f : Str) (C fI : Addr) (fd : FuncData) : Prop where
  T : OexC K C
  X : ExcC K C
  no : PySem.W.findIn K (.ref C) f = some none
  gC : mg x = some (.ref C)
  iC : PySem.W.findIn K (.ref C) "__init__" = some (some (.ref fI))
  tI : PySem.W.typeIn K (.ref fI) = some (.type "function")
  FI : FnOk P w K mg base CX0 1 fI fd ["self", f] (spI1 C f)
  bI : Binds K fd ["self", f] []
structure Mk2 (P : Program) (w : World) (K : PySem.W.Frag) (mg : Str → Option Value) (base : Heap) (x f g : Str) (C fI : Addr) (fd : FuncData) : Prop where
  T : OexC K C
  X : ExcC K C
  no : PySem.W.findIn K (.ref C) f = some none
  no2 : PySem.W.findIn K (.ref C) g = some none
  gC : mg x = some (.ref C)
  iC : PySem.W.findIn K (.ref C) "__init__" = some (some (.ref fI))
  tI : PySem.W.typeIn K (.ref fI) = some (.type "function")
  FI : FnOk P w K mg base CX0 1 fI fd ["self", f, g] (spI2 C f g)
  bI : Binds K fd ["self", f, g] []
structure Mk0 (K : PySem.W.Frag) (mg : Str → Option Value) (x : Str) (C : Addr) : Prop where
  X : ExcC K C
  q : PySem.W.excIn K C [.type "ValueError", .type "Exception", .type "BaseException", .type "object"] "ValueError.__new__" = true
  gC : mg x = some (.ref C)
  kC : PySem.W.keepIn K (.ref C) = true
end
theorem mkx1 {H : Hp} {C : Addr} {f : Str} {v : V} {Q : VK} (k : ∀ a d, H a = none → H d = none → d ≠ a → Q (.ref a) (exH H a C d [(f, v)])) :
    [v].length ≤ 1000 ∧ ∀ a, H a = none → spI1 C f (.ref a :: [v]) (upd H a (exo a C none)) (fun u H2 => u = .non ∧ Q (.ref a) H2) (fun _ _ _ => False) :=
  ⟨by simp, fun a na => ⟨a, v, rfl, upd_same, fun d nd ne => ⟨rfl, by
    rw [exH_over]
    refine k a d na ?_ ne
    rw [upd_ne ne] at nd
    exact nd⟩⟩⟩
theorem mkx2 {H : Hp} {C : Addr} {f g : Str} {v y : V} {Q : VK} (k : ∀ a d, H a = none → H d = none → d ≠ a → Q (.ref a) (exH H a C d [(g, y), (f, v)])) :
    [v, y].length ≤ 1000 ∧ ∀ a, H a = none → spI2 C f g (.ref a :: [v, y]) (upd H a (exo a C none)) (fun u H2 => u = .non ∧ Q (.ref a) H2) (fun _ _ _ => False) :=
  ⟨by simp, fun a na => ⟨a, v, y, rfl, upd_same, fun d nd ne => ⟨rfl, by
    rw [exH_over]
    refine k a d na ?_ ne
    rw [upd_ne ne] at nd
    exact nd⟩⟩⟩
section
variable {X : Cx} {x f g : Str} {C fI : Addr} {fd : FuncData} {e : Expr} {es : List Expr} {ta : TA} {p pos : Pos}
theorem pe_m1 (M : Mk1 X.prog X.w X.K X.mg X.base x f C fI fd) (hr : Room 2 X.A) (hg : Gl X x) (ha : PA X (e :: es) ta)
    (hdb : (x == ("__debug__" : Str)) = false := by decide) (he : starEach (e :: es) X.env = (false, eval e X.env) :: starEach es X.env := by rfl) (hpl : (backTo pos (starEach es X.env)).any (·.1) = false := by rfl) :
    PE X (.Call (.Name x p) (e :: es) [] pos) (tMkx C (spI1 C f) ta) := pe_mkx M.T M.iC M.tI M.FI hr M.bI pass0 hg M.gC ha hdb he hpl
theorem pe_m2 (M : Mk2 X.prog X.w X.K X.mg X.base x f g C fI fd) (hr : Room 2 X.A) (hg : Gl X x) (ha : PA X (e :: es) ta)
    (hdb : (x == ("__debug__" : Str)) = false := by decide) (he : starEach (e :: es) X.env = (false, eval e X.env) :: starEach es X.env := by rfl) (hpl : (backTo pos (starEach es X.env)).any (·.1) = false := by rfl) :
    PE X (.Call (.Name x p) (e :: es) [] pos) (tMkx C (spI2 C f g) ta) := pe_mkx M.T M.iC M.tI M.FI hr M.bI pass0 hg M.gC ha hdb he hpl
theorem pe_m0 (M : Mk0 X.K X.mg x C) (hg : Gl X x) (hdb : (x == ("__debug__" : Str)) = false := by decide) :
    PE X (.Call (.Name x p) [] [] pos) (fun _ H Q => ∀ a, H a = none → Q (.ref a) (upd H a (exo a C none))) := pe_mkx0 PySem.F.excBase_ValueError M.q M.gC M.kC hg hdb
end
/-- X() for a raise, X without an own __init__ -/
theorem pmk_ex0 {X : Cx} {x : Str} {C : Addr} {p pos : Pos} {bmB : List Value} {B newId initId : String} (FB : ExcBaseFacts B newId initId bmB) (q : PySem.W.excIn X.K C bmB newId = true) (gC : X.mg x = some (.ref C)) (kC : PySem.W.keepIn X.K (.ref C) = true)
    (r : Raises X (.ref C)) (hg : Gl X x) (hdb : (x == ("__debug__" : Str)) = false := by decide) : PMk X (.Call (.Name x p) [] [] pos) (fun _ H Q => Q (.ref C) none H) := by
  intro pins s σ H Q I h
  apply wpAny_Call_Name_kw
  refine ld_glob I hg gC ?_ hdb
  refine PySem.W.callWith_K0 I.kIn kC ?_
  obtain ⟨bm, N, nm, qn, bs, hdct, sn, sub, ab, col, dd, k0, k1, k2, k3, k5, mN, hC, hN, hni, T⟩ := exc_obj I.kIn q
  refine wpAny_call_exc_subT FB T hC hN hni (fun h' a hm => ?_) (by show 0 ≤ sizeLine; exact Nat.zero_le _)
  exact mk_of I hm r h (I.hok.gone hm.new)
/-- the heap behind a raised C(v, ..): its dict alone -/
def rsH (H : Hp) (d : Addr) (fs : List (Str × V)) : Hp := upd H d (.xd fs)
theorem rs_eq {H : Hp} {a C d : Addr} {fs : List (Str × V)} (na : H a = none) (ne : d ≠ a) : upd (L2.del (exH H a C d fs) a) d (.xd fs) = rsH H d fs := by
  funext b
  unfold rsH
  by_cases h : b = d
  · rw [h, upd_same, upd_same]
  · rw [upd_ne h, upd_ne h]
    by_cases h2 : b = a
    · rw [h2, L2.del_same, na]
    · rw [L2.del_ne h2, exH_ne h2 h]
theorem rs1 {H : Hp} {C : Addr} {f : Str} {v : V} {Q : XK} (k : ∀ d, H d = none → Q (.ref C) (some d) (rsH H d [(f, v)])) : [v].length ≤ 1000 ∧ ∀ a, H a = none → spI1 C f (.ref a :: ([v] ++ [])) (upd H a (exo a C none))
    (fun u H2 => u = .non ∧ ∃ (d : Addr) (fs : List (Str × V)), H2 a = some (exo a C (some d)) ∧ H2 d = some (exd d fs) ∧ H d = none ∧ Q (.ref C) (some d) (upd (L2.del H2 a) d (.xd fs))) (fun _ _ _ => False) :=
  ⟨by simp, fun a na => ⟨a, v, rfl, upd_same, fun d nd ne => ⟨rfl, by
    rw [upd_ne ne] at nd
    rw [exH_over]
    refine ⟨d, _, exH_a, exH_d ne, nd, ?_⟩
    rw [rs_eq na ne]
    exact k d nd⟩⟩⟩
theorem rs2 {H : Hp} {C : Addr} {f g : Str} {v y : V} {Q : XK} (k : ∀ d, H d = none → Q (.ref C) (some d) (rsH H d [(g, y), (f, v)])) : [v, y].length ≤ 1000 ∧ ∀ a, H a = none → spI2 C f g (.ref a :: ([v, y] ++ [])) (upd H a (exo a C none))
    (fun u H2 => u = .non ∧ ∃ (d : Addr) (fs : List (Str × V)), H2 a = some (exo a C (some d)) ∧ H2 d = some (exd d fs) ∧ H d = none ∧ Q (.ref C) (some d) (upd (L2.del H2 a) d (.xd fs))) (fun _ _ _ => False) :=
  ⟨by simp, fun a na => ⟨a, v, y, rfl, upd_same, fun d nd ne => ⟨rfl, by
    rw [upd_ne ne] at nd
    rw [exH_over]
    refine ⟨d, _, exH_a, exH_d ne, nd, ?_⟩
    rw [rs_eq na ne]
    exact k d nd⟩⟩⟩
end Wp
set_option Elab.async false
set_option linter.all false
set_option maxRecDepth 100000
set_option maxHeartbeats 4000000
namespace Wp
open PySem L2
/-! ## a field is made -/
def meth (i j : Nat) : Stmt := match top i with
  | .ClassDef _ _ _ body _ _ _ _ _ _ _ => body.getD j (.Pass ⟨0, 0, 0, 0⟩)
  | s => s
abbrev sFI : Stmt := meth 45 0
abbrev sFE : Stmt := meth 45 1
def fieldRight (n m t d w : PyData) : Bool := isFieldName n && fitsMode m t d && (match n with
  | .str x => wasRight x w
  | _ => false)
def txtsOf (w : PyData) : List Str := txts ((seqOf w).getD [])
def fsF (n m t d : V) (tw : Addr) : List (Str × V) := [("name", n), ("mode", m), ("target", t), ("default", d), ("was", .ref tw)]
/-- all but x is as it was -/
def But (x : Addr) (H H' : Hp) : Prop := ∀ b o, b ≠ x → H b = some o → H' b = some o
def spFI (K : PySem.W.Frag) (CF CB : Addr) : Sp := fun vs H Q E => ∃ (x dx : Addr) (un um ut ud uw : V) (n m t d w : PyData), vs = [.ref x, un, um, ut, ud, uw] ∧ H x = some (.ins CF dx []) ∧
  Dq K H un n ∧ Dq K H um m ∧ Dq K H ut t ∧ Dq K H ud d ∧ Dq K H uw w ∧ Shrt n ∧ Shrt t ∧ ShrtS w ∧
  (fieldRight n m t d w = true → ∀ (H' : Hp) (tw : Addr), But x H H' → H' x = some (.ins CF dx (fsF un um ut ud tw)) → SqT K H' tw ((txtsOf w).map V.str) → Q .non H') ∧
  (fieldRight n m t d w = false → ∀ (H' : Hp) (e : Addr), Same H H' → H e = none → H' e = some (.xd [("name", un)]) → E (.ref CB) (some e) H')
theorem none_of {H H' : Hp} {d : Addr} (s : Same H H') (h : H' d = none) : H d = none := by
  cases e : H d with
  | none => rfl
  | some o =>
    rw [s _ _ e] at h
    cases h
theorem sqL_off {K : PySem.W.Frag} {H : Hp} {a x C dx : Addr} {xs : List V} {fs : List (Str × V)} {o : HO} (h : SqL K H a xs) (hx : H x = some (.ins C dx fs)) : SqL K (upd H x o) a xs := by
  rcases h with (h | ⟨ob, h⟩) | h
  · exact .inl (.inl (by rw [upd_ne (ne_of h hx (by intro z; cases z))]; exact h))
  · exact .inl (.inr ⟨ob, by rw [upd_ne (ne_of h hx (by intro z; cases z))]; exact h⟩)
  · exact .inr h
theorem sqT_off {K : PySem.W.Frag} {H : Hp} {a x C dx : Addr} {xs : List V} {fs : List (Str × V)} {o : HO} (h : SqT K H a xs) (hx : H x = some (.ins C dx fs)) : SqT K (upd H x o) a xs := by
  rcases h with (h | ⟨ob, h⟩) | h
  · exact .inl (.inl (by rw [upd_ne (ne_of h hx (by intro z; cases z))]; exact h))
  · exact .inl (.inr ⟨ob, by rw [upd_ne (ne_of h hx (by intro z; cases z))]; exact h⟩)
  · exact .inr h
/-- the class whose things are plain, with these attributes -/
structure PlainC (K : PySem.W.Frag) (C : Addr) (fs : List Str) : Prop where
  cl : Cls K C
  no : ∀ f ∈ fs, NoAttr K C f
section
variable {P : Program} {w : World} {K : PySem.W.Frag} {mg : Str → Option Value} {base : Heap}
theorem scFI : FnScope ["self", "name", "mode", "target", "default", "was"] ["self", "name", "mode", "target", "default", "was"] (defScope sFI) := ⟨rfl, rfl, rfl, by decide +kernel, rfl, by decide +kernel, by decide +kernel⟩
theorem ok_FI {params : Arguments} {f f1 f2 f3 CF CB fB : Addr} {fd fd1 fd2 fd3 fdB : FuncData} {kws : List (Str × V)} (F : FunD K "__init__" "Field.__init__" params (defBody sFI) (defScope sFI) [] kws f fd) (B : Bn mg)
    (N : Known P w K mg base CX0 2 "is_field_name" ["value"] (spIsField K) f1 fd1) (T : Known P w K mg base CX0 3 "_fits_mode" ["mode", "target", "default"] (spFits K) f2 fd2) (W : Known P w K mg base CX0 3 "_is_was" ["name", "was"] (spWas K) f3 fd3)
    (M : Mk1 P w K mg base "BadField" "name" CB fB fdB) (C : PlainC K CF ["name", "mode", "target", "default", "was"]) : FnOk P w K mg base (L2.CX P w) 4 f fd ["self", "name", "mode", "target", "default", "was"] (spFI K CF CB) := by
  refine F.ok scFI (fun vs H Q E h => ?_) (fun cdv A outer s H vs Q E hr h => ?_)
  · obtain ⟨x, dx, un, um, ut, ud, uw, n, m, t, d, w, rfl, _⟩ := h
    rfl
  · obtain ⟨x, dx, un, um, ut, ud, uw, n, m, t, d, wd, rfl, hx, qn, qm, qt, qd, qw, sn, st, sw, k1, k2⟩ := h
    refine ⟨_, pss_cons (ps_if (PW.pt (pw_or (pt_not (pt_val (pe_call N.ok (hr.mono (by decide)) rfl N.mg N.kp N.bi .nil pass0 (pa_cons (pv 1) pa_nil))))
          (pw_or (pt_not (pt_val (pe_call T.ok hr rfl T.mg T.kp T.bi .nil pass0 (pa_cons (pv 2) (pa_cons (pv 3) (pa_cons (pv 4) pa_nil))))))
          (pw_or1 (pt_not (pt_val (pe_call W.ok hr rfl W.mg W.kp W.bi .nil pass0 (pa_cons (pv 1) (pa_cons (pv 5) pa_nil)))))))))
        (pss_one (ps_raise rfl (takes_of rfl rfl rfl rfl) (pmk_oex (dvs := []) M.T M.iC M.tI M.FI (hr.mono (by decide)) M.bI .nil pass0 (by rfl) M.gC (pa_cons (pv 1) pa_nil)))) pss_nil)
      (pss_cons (ps_fld (pv 0) (pv 1) rfl)
      (pss_cons (ps_fld (pv 0) (pv 2) rfl)
      (pss_cons (ps_fld (pv 0) (pv 3) rfl)
      (pss_cons (ps_fld (pv 0) (pv 4) rfl)
      (pss_one (ps_fld (pv 0) (pe_callTy call_tuple_of (by rfl) B.tuple boot_ttuple (pa_cons (pv 5) pa_nil)) rfl)))))), ?_⟩
    have r0 : ∀ H1, Same H H1 → fieldRight n m t d wd = false → [un].length ≤ 1000 ∧ ∀ a, H1 a = none → spI1 CB "name" (.ref a :: ([un] ++ [])) (upd H1 a (exo a CB none))
        (fun u H2 => u = .non ∧ ∃ (d : Addr) (fs : List (Str × V)), H2 a = some (exo a CB (some d)) ∧ H2 d = some (exd d fs) ∧ H1 d = none ∧ E (.ref CB) (some d) (upd (L2.del H2 a) d (.xd fs))) (fun _ _ _ => False) :=
      fun H1 s1 bad => rs1 (Q := E) fun d0 nd => k2 bad _ d0 (s1.trans (same_new nd)) (none_of s1 nd) upd_same
    refine ⟨_, rfl, un, n, rfl, qn, sn, fun H1 s1 => ⟨_, rfl, ?_⟩⟩
    cases e1 : isFieldName n with
    | false => exact ⟨un, rfl, r0 H1 s1 (by simp only [fieldRight, e1]; rfl)⟩
    | true =>
      refine ⟨_, rfl, _, rfl, _, rfl, um, ut, ud, m, t, d, rfl, qm.same s1, qt.same s1, qd.same s1, st, fun H2 s2 => ⟨_, rfl, ?_⟩⟩
      have s12 := s1.trans s2
      cases e2 : fitsMode m t d with
      | false => exact ⟨un, rfl, r0 H2 s12 (by simp only [fieldRight, e1, e2]; rfl)⟩
      | true =>
        obtain ⟨nx, rfl⟩ : ∃ nx, n = .str nx := by
          cases n <;> first | exact ⟨_, rfl⟩ | exact absurd e1 (by simp [isFieldName, isWordN])
        obtain rfl := qn.str_of
        refine ⟨_, rfl, _, rfl, nx, uw, wd, rfl, qw.same s12, sw, fun H3 s3 => ⟨_, rfl, ?_⟩⟩
        have s123 := s12.trans s3
        cases e3 : wasRight nx wd with
        | false => exact ⟨_, rfl, r0 H3 s123 (by simp only [fieldRight, e1, e2, e3]; rfl)⟩
        | true =>
          have right : fieldRight (.str nx) m t d wd = true := by
            simp only [fieldRight, e1, e2, e3]
            rfl
          have hx3 := s123 _ _ hx
          obtain ⟨ds, e4⟩ : ∃ ds, seqOf wd = some ds := by
            cases e : seqOf wd with
            | none =>
              simp only [wasRight, e] at e3
              cases e3
            | some ds => exact ⟨ds, rfl⟩
          have e5 : ds.all isFieldName = true := by
            simp only [wasRight, e4, Bool.and_eq_true] at e3
            exact e3.1.1.2
          obtain ⟨a, vs, rfl, sq, da, shp⟩ := (qw.same s123).seq e4
          obtain ⟨e6, e7⟩ := dpAll_txts da e5
          subst e6
          have e8 : txtsOf wd = txts ds := by simp only [txtsOf, e4, Option.getD_some]
          refine ⟨_, rfl, _, rfl, x, CF, dx, _, rfl, hx3, C.cl, C.no _ (by simp), (by decide), ?_⟩
          refine ⟨_, rfl, _, rfl, x, CF, dx, _, rfl, upd_same, C.cl, C.no _ (by simp), (by show 1 < 1000; decide), ?_⟩
          refine ⟨_, rfl, _, rfl, x, CF, dx, _, rfl, upd_same, C.cl, C.no _ (by simp), (by show 2 < 1000; decide), ?_⟩
          refine ⟨_, rfl, _, rfl, x, CF, dx, _, rfl, upd_same, C.cl, C.no _ (by simp), (by show 3 < 1000; decide), ?_⟩
          rw [upd_upd, upd_upd, upd_upd]
          refine ⟨_, rfl, a, (txts ds).map V.str, rfl, ?_⟩
          have fin : ∀ (tw : Addr) (H4 : Hp), H4 x = some (.ins CF dx [("name", .str nx), ("mode", um), ("target", ut), ("default", ud)]) → But x H H4 → SqT K H4 tw ((txts ds).map V.str) →
              Q .non (upd H4 x (.ins CF dx (fsF (.str nx) um ut ud tw))) := by
            intro tw H4 e9 b4 sT
            refine k1 right _ tw (fun b o ne e => ?_) upd_same ?_
            · rw [upd_ne ne]
              exact b4 b o ne e
            · rw [e8]
              exact sqT_off sT e9
          rcases sq with ⟨sq, _⟩ | ⟨sq, _⟩
          · refine .inl ⟨sqL_off sq hx3, fun l hl => ?_⟩
            have nl : l ≠ x := fun z => by rw [z, upd_same] at hl; cases hl
            have hl3 : H3 l = none := by rw [upd_ne nl] at hl; exact hl
            refine ⟨_, rfl, x, CF, dx, _, rfl, (upd_ne (Ne.symm nl)).trans upd_same, C.cl, C.no _ (by simp), (by show 4 < 1000; decide), ?_⟩
            refine fin l _ ((upd_ne (Ne.symm nl)).trans upd_same) (fun b o ne e => ?_) (SqT.of upd_same)
            have e1 := s123 b o e
            rw [upd_ne (ne_of_none e1 hl3), upd_ne ne]
            exact e1
          · refine .inr ⟨sqT_off sq hx3, ?_⟩
            refine ⟨_, rfl, x, CF, dx, _, rfl, upd_same, C.cl, C.no _ (by simp), (by show 4 < 1000; decide), ?_⟩
            refine fin a _ upd_same (fun b o ne e => ?_) (sqT_off sq hx3)
            rw [upd_ne ne]
            exact s123 b o e
end
end Wp
set_option Elab.async false
set_option linter.all false
set_option maxRecDepth 100000
set_option maxHeartbeats 4000000
namespace Wp
open PySem L2
/-! ## two fields are compared -/
/-- what isinstance and == ask of an own class -/
structure OwnC (K : PySem.W.Frag) (C : Addr) : Prop where
  cl : Cls K C
  ha : PySem.W.findIn K (.ref C) "__class__" = some (some (.builtin "object.__class__"))
  hn : PySem.W.specialIn K (.builtin "object.__class__") "__get__" = some (some (.builtin "getset_descriptor.__get__"))
  htk : PySem.W.takesIn K (.builtin "object.__class__") = some true
  hm : PySem.W.mroIn K C (.type "object") = some true
  self : PySem.W.kitOne K (.ref C) (.ref C) = some true
  other : ∀ d : PyData, PySem.W.kitOne K (.type (tyN d)) (.ref C) = some false
theorem OwnC.ty {K : PySem.W.Frag} {C : Addr} (O : OwnC K C) {H : Hp} {a dx : Addr} {fs : List (Str × V)} (h : H a = some (.ins C dx fs)) : TyX K H (.ref a) (.ref C) := .base (.ins h O.cl O.ha O.hn O.htk O.hm)
/-- a field's parts -/
structure FV where
  n : Str
  m : Str
  t : Option Str
  d : Int
  w : List Str
deriving DecidableEq
theorem fv_dec {v u : FV} (e1 : v.n = u.n) (e2 : v.m = u.m) (e3 : v.t = u.t) (e4 : v.d = u.d) : decide (v.w = u.w) = decide (v = u) := by
  cases v
  cases u
  simp only at e1 e2 e3 e4
  subst e1 e2 e3 e4
  simp
def tv : Option Str → V
  | none => .non
  | some x => .str x
theorem tv_inj {a b : Option Str} (h : tv a = tv b) : a = b := by
  cases a <;> cases b <;> simp [tv] at h <;> simp [h]
theorem scal_tv (a b : Option Str) : scal (tv a) (tv b) = true := by
  cases a <;> cases b <;> rfl
structure FieldAt (K : PySem.W.Frag) (CF : Addr) (H : Hp) (a : Addr) (v : FV) : Prop where
  ex : ∃ dx tw, H a = some (.ins CF dx (fsF (.str v.n) (.str v.m) (tv v.t) (.int v.d) tw)) ∧ SqT K H tw (v.w.map V.str)
  sh : SeqAt.shaped (.tuple (v.w.map PyData.str)) = true
theorem eqv_txts : ∀ w u : List Str, PyData.eqvAll (w.map PyData.str) (u.map PyData.str) = decide (w = u)
  | [], [] => rfl
  | [], _ :: _ => rfl
  | _ :: _, [] => rfl
  | x :: w, y :: u => by
    show (PyData.eqv (.str x) (.str y) && PyData.eqvAll _ _) = _
    rw [eqv_txts w u, eqv_txt]
    by_cases e : x = y
    · by_cases z : w = u <;> simp [isTxt, e, z]
    · simp [isTxt, e]
theorem dpAll_strs {K : PySem.W.Frag} {H : Hp} : ∀ w : List Str, DpAll K H (w.map V.str) (w.map PyData.str)
  | [] => .nil
  | x :: w => .cons (.str x) (dpAll_strs w)
theorem ne_mode_name : (("mode" : Str) == "name") = false := by decide +kernel
theorem ne_target_name : (("target" : Str) == "name") = false := by decide +kernel
theorem ne_target_mode : (("target" : Str) == "mode") = false := by decide +kernel
theorem ne_default_name : (("default" : Str) == "name") = false := by decide +kernel
theorem ne_default_mode : (("default" : Str) == "mode") = false := by decide +kernel
theorem ne_default_target : (("default" : Str) == "target") = false := by decide +kernel
theorem ne_was_name : (("was" : Str) == "name") = false := by decide +kernel
theorem ne_was_mode : (("was" : Str) == "mode") = false := by decide +kernel
theorem ne_was_target : (("was" : Str) == "target") = false := by decide +kernel
theorem ne_was_default : (("was" : Str) == "default") = false := by decide +kernel
theorem lk_fs (x y z u : V) (tw : Addr) : List.lookup ("was" : Str) (fsF x y z u tw) = some (V.ref tw) ∧ List.lookup ("default" : Str) (fsF x y z u tw) = some u ∧ List.lookup ("target" : Str) (fsF x y z u tw) = some z ∧ List.lookup ("mode" : Str) (fsF x y z u tw) = some y ∧ List.lookup ("name" : Str) (fsF x y z u tw) = some x := by
  simp [fsF, List.lookup, ne_mode_name, ne_target_name, ne_target_mode, ne_default_name, ne_default_mode, ne_default_target, ne_was_name, ne_was_mode, ne_was_target, ne_was_default]
/-- a field beside a field, or beside a tuple -/
def spFE (K : PySem.W.Frag) (CF : Addr) : Sp := fun vs H Q _ => ∃ (a : Addr) (y : V) (v : FV), vs = [.ref a, y] ∧ FieldAt K CF H a v ∧
  ((∃ (b : Addr) (u : FV), y = .ref b ∧ FieldAt K CF H b u ∧ Q (.bl (decide (v = u))) H) ∨ (∃ (q : Addr) (ys : List V), y = .ref q ∧ SqT K H q ys ∧ Q (.bl false) H))
section
variable {P : Program} {w : World} {K : PySem.W.Frag} {mg : Str → Option Value} {base : Heap}
theorem scFE : FnScope ["self", "other"] ["self", "other"] (defScope sFE) := ⟨rfl, rfl, rfl, by decide +kernel, rfl, by decide +kernel, by decide +kernel⟩
theorem ok_FE {f CF : Addr} {fd : FuncData} (F : Fun K "__eq__" "Field.__eq__" sFE f fd) (B : Bn mg) (O : OwnC K CF) (C : PlainC K CF ["name", "mode", "target", "default", "was"]) (g : mg "Field" = some (.ref CF)) :
    FnOk P w K mg base CX0 1 f fd ["self", "other"] (spFE K CF) := by
  refine F.ok scFE (fun vs H Q E h => ?_) (fun cdv A outer s H vs Q E hr h => ?_)
  · obtain ⟨a, y, v, rfl, _⟩ := h
    rfl
  · obtain ⟨a, y, v, rfl, fa, h⟩ := h
    refine ⟨_, pss_one (ps_ret (pe_and (pe_callB call_isi (by rfl) B.isi boot_isi (pa_cons (pv 1) (pa_cons (pe_glob (v := .ref CF) (by rfl) g rfl) pa_nil)))
      (pe_and (pe_cmpR op_eq (pe_fld (pv 0) rfl) (pe_fld (pv 1) rfl) (nomark _))
      (pe_and (pe_cmpR op_eq (pe_fld (pv 0) rfl) (pe_fld (pv 1) rfl) (nomark _))
      (pe_and (pe_cmpR op_eq (pe_fld (pv 0) rfl) (pe_fld (pv 1) rfl) (nomark _))
      (pe_and (pe_cmpR op_eq (pe_fld (pv 0) rfl) (pe_fld (pv 1) rfl) (nomark _))
      (pe_one (pe_cmpR (op_eqD hr.units) (pe_fld (pv 0) rfl) (pe_fld (pv 1) rfl) (nomark _)))))))) ), ?_⟩
    rcases h with ⟨b, u, rfl, fb, k⟩ | ⟨q, ys, rfl, sq, k⟩
    · obtain ⟨dx, tw, ha, sa⟩ := fa.ex
      obtain ⟨dy, uw, hb, sb⟩ := fb.ex
      refine ⟨_, rfl, .ref b, .ref CF, .ref CF, .ref CF, true, rfl, .own CF, O.ty hb, O.self, _, rfl, ?_⟩
      have no : v ≠ u → Q (.bl false) H := fun ne => by
        rw [decide_eq_false ne] at k
        exact k
      have lk := lk_fs
      -- name
      refine ⟨_, rfl, a, CF, dx, _, _, rfl, ha, C.cl, C.no _ (by simp), (lk _ _ _ _ _).2.2.2.2, _, rfl, b, CF, dy, _, _, rfl, hb, C.cl, C.no _ (by simp), (lk _ _ _ _ _).2.2.2.2, rfl, _, rfl, ?_⟩
      by_cases e1 : ¬ v.n = u.n
      · rw [decide_eq_false (p := V.str v.n = V.str u.n) fun z => e1 (by injection z)]
        exact no fun z => e1 (z ▸ rfl)
      have e1 := Decidable.of_not_not e1
      rw [decide_eq_true (p := V.str v.n = V.str u.n) (by rw [e1])]
      -- mode
      refine ⟨_, rfl, a, CF, dx, _, _, rfl, ha, C.cl, C.no _ (by simp), (lk _ _ _ _ _).2.2.2.1, _, rfl, b, CF, dy, _, _, rfl, hb, C.cl, C.no _ (by simp), (lk _ _ _ _ _).2.2.2.1, rfl, _, rfl, ?_⟩
      by_cases e2 : ¬ v.m = u.m
      · rw [decide_eq_false (p := V.str v.m = V.str u.m) fun z => e2 (by injection z)]
        exact no fun z => e2 (z ▸ rfl)
      have e2 := Decidable.of_not_not e2
      rw [decide_eq_true (p := V.str v.m = V.str u.m) (by rw [e2])]
      -- target
      refine ⟨_, rfl, a, CF, dx, _, _, rfl, ha, C.cl, C.no _ (by simp), (lk _ _ _ _ _).2.2.1, _, rfl, b, CF, dy, _, _, rfl, hb, C.cl, C.no _ (by simp), (lk _ _ _ _ _).2.2.1, scal_tv _ _, _, rfl, ?_⟩
      by_cases e3 : ¬ v.t = u.t
      · rw [decide_eq_false (p := tv v.t = tv u.t) fun z => e3 (tv_inj z)]
        exact no fun z => e3 (z ▸ rfl)
      have e3 := Decidable.of_not_not e3
      rw [decide_eq_true (p := tv v.t = tv u.t) (by rw [e3])]
      -- default
      refine ⟨_, rfl, a, CF, dx, _, _, rfl, ha, C.cl, C.no _ (by simp), (lk _ _ _ _ _).2.1, _, rfl, b, CF, dy, _, _, rfl, hb, C.cl, C.no _ (by simp), (lk _ _ _ _ _).2.1, rfl, _, rfl, ?_⟩
      by_cases e4 : ¬ v.d = u.d
      · rw [decide_eq_false (p := V.int v.d = V.int u.d) fun z => e4 (by injection z)]
        exact no fun z => e4 (z ▸ rfl)
      have e4 := Decidable.of_not_not e4
      rw [decide_eq_true (p := V.int v.d = V.int u.d) (by rw [e4])]
      -- was
      refine ⟨_, rfl, a, CF, dx, _, _, rfl, ha, C.cl, C.no _ (by simp), (lk _ _ _ _ _).1, _, rfl, b, CF, dy, _, _, rfl, hb, C.cl, C.no _ (by simp), (lk _ _ _ _ _).1, .tuple (v.w.map .str), .tuple (u.w.map .str),
        .tup sa (dpAll_strs _), .tup sb (dpAll_strs _), fa.sh, fb.sh, ?_⟩
      have e5 : PyData.eqv (.tuple (v.w.map .str)) (.tuple (u.w.map .str)) = decide (v = u) := by
        show PyData.eqvAll _ _ = _
        rw [eqv_txts]
        exact fv_dec e1 e2 e3 e4
      rw [e5]
      exact k
    · exact ⟨_, rfl, .ref q, .ref CF, .type "tuple", .ref CF, false, rfl, .own CF, SqT.ty sq, O.other (.tuple []), _, rfl, k⟩
end
end Wp
set_option Elab.async false
set_option linter.all false
set_option maxRecDepth 100000
set_option maxHeartbeats 4000000
namespace Wp
open PySem L2
/-! ## fields of a kind -/
inductive Item
  | f (v : FV)
  | d (x : PyData)
def ItAt (K : PySem.W.Frag) (CF : Addr) (H : Hp) (u : V) : Item → Prop
  | .f v => ∃ a, u = .ref a ∧ FieldAt K CF H a v
  | .d x => Dq K H u x
def isF : Item → Bool
  | .f _ => true
  | .d _ => false
def nameOf : Item → Str
  | .f v => v.n
  | .d _ => Str.empty
def areFields (its : List Item) : Bool := decide (its.length ≤ 10) && its.all isF && decide (its.map nameOf).Nodup
theorem FieldAt.same {K : PySem.W.Frag} {CF : Addr} {H H' : Hp} {a : Addr} {v : FV} (h : FieldAt K CF H a v) (s : Same H H') : FieldAt K CF H' a v := by
  obtain ⟨⟨dx, tw, e, sq⟩, sh⟩ := h
  exact ⟨⟨dx, tw, s _ _ e, sqT_same s sq⟩, sh⟩
theorem ItAt.same {K : PySem.W.Frag} {CF : Addr} {H H' : Hp} {u : V} {i : Item} (h : ItAt K CF H u i) (s : Same H H') : ItAt K CF H' u i := by
  cases i with
  | f v =>
    obtain ⟨a, e, q⟩ := h
    exact ⟨a, e, q.same s⟩
  | d x => exact Dq.same s h
theorem paired_get {α β : Type} {F : α → β → Prop} : ∀ {xs : List α} {ys : List β}, Paired F xs ys → ∀ {j : Nat} {x : α}, xs[j]? = some x → ∃ y, ys[j]? = some y ∧ F x y
  | _, _, .nil, j, x, e => by simp at e
  | _, _, .cons (a := a) (b := b) r t, j, x, e => by
    cases j with
    | zero =>
      simp at e
      subst e
      exact ⟨b, rfl, r⟩
    | succ j => exact paired_get t (by simpa using e)
def spAF (K : PySem.W.Frag) (CF : Addr) : Sp := fun vs H Q _ => ∃ v : V, vs = [v] ∧
  ((∃ (a : Addr) (us : List V) (its : List Item), v = .ref a ∧ (SqL K H a us ∨ SqT K H a us) ∧ Paired (ItAt K CF H) us its ∧ its.length ≤ 1000 ∧ ∀ H', Same H H' → Q (.bl (areFields its)) H') ∨
   (∃ d : PyData, Dq K H v d ∧ (isLst d || isTup d) = false ∧ ∀ H', Same H H' → Q (.bl false) H'))
section
variable {P : Program} {w : World} {K : PySem.W.Frag} {mg : Str → Option Value} {base : Heap}
abbrev sAF : Stmt := top 46
theorem scAF : FnScope ["fields", "field"] ["fields"] (defScope sAF) := ⟨rfl, rfl, rfl, by decide +kernel, rfl, by decide +kernel, by decide +kernel⟩
theorem ok_AF {f f2 CF CH : Addr} {mc u10 : Value} {fd fd2 : FuncData} (F : Fun K "_are_fields" "_are_fields" sAF f fd) (B : Bn mg) (O : OwnC K CF) (C : PlainC K CF ["name", "mode", "target", "default", "was"]) (g : mg "Field" = some (.ref CF))
    (gH : mg "House" = some (.ref CH)) (cr : ClX.CRead K CH mc) (cv : ClX.CVal K CH mc "FIELDS" (.int 10) u10) (D : Known P w K mg base CX0 1 "are_different" ["names"] (spDiff K) f2 fd2) : FnOk P w K mg base CX0 2 f fd ["fields"] (spAF K CF) := by
  refine F.ok scAF (fun vs H Q E h => ?_) (fun cdv A outer s H vs Q E hr h => ?_)
  · obtain ⟨v, rfl, _⟩ := h
    rfl
  · obtain ⟨v, rfl, h⟩ := h
    refine ⟨_, pss_cons (ps_if (PW.pt (pw_or (pt_not (pt_val (pe_callB call_isiT (by rfl) B.isi boot_isi (pa_cons (pv 0) (pa_cons (pe_tup (pa_cons (pe_bltn (v := .ty "list") (by rfl) B.list PyProof.Rows.boot_list rfl) (pa_cons (pe_bltn (v := .ty "tuple") (by rfl) B.tuple boot_ttuple rfl) pa_nil))) pa_nil)))))
          (pw_or1 (pt_cmpR op_gt (pe_callB call_len_seq (by rfl) B.len PySem.boot_len (pa_cons (pv 0) pa_nil)) (ClX.pe_cval (pe_glob (v := .ref CH) (by rfl) gH rfl)) (nomark _)))))
        (pss_one (ps_ret pe_bl)) pss_nil)
      (pss_cons (ps_if (pt_not (pt_val (pe_callB (cr_all rfl) (by rfl) B.all boot_all (pa_cons (pe_lc (own := [("field", 1)]) (g := gName 1) (tt := tYes) (te := tCB (rIsi K) (tCons (tVar 1) (tCons (tC (.ref CF)) tNil))) rfl scAF.nd (pi_seqV (i := 0) (pv 0))
          (blkOk_by (N := ["fields", "field"]) (sc := defScope sAF) (by decide +kernel)) (fun _ _ _ _ _ => pg_name (i := 1) scAF.nd rfl (Or.inl rfl)) (fun _ _ _ _ _ => pts_nil)
          (fun _ _ _ _ _ => pe_callB call_isi (by rfl) B.isi boot_isi (pa_cons (pv 1) (pa_cons (pe_glob (v := .ref CF) (by rfl) g rfl) pa_nil)))) pa_nil))))
        (pss_one (ps_ret pe_bl)) pss_nil)
      (pss_one (ps_ret (pe_call D.ok hr rfl D.mg D.kp D.bi .nil pass0 (pa_cons (pe_lc (own := [("field", 1)]) (g := gName 1) (tt := tYes) (te := tFld K (tVar 1) "name") rfl scAF.nd (pi_seqV (i := 0) (pv 0))
          (blkOk_by (N := ["fields", "field"]) (sc := defScope sAF) (by decide +kernel)) (fun _ _ _ _ _ => pg_name (i := 1) scAF.nd rfl (Or.inl rfl)) (fun _ _ _ _ _ => pts_nil)
          (fun _ _ _ _ _ => pe_fld (pv 1) rfl)) pa_nil))))), ?_⟩
    refine ⟨_, rfl, by show 2 ≤ sizeLine; decide, fun T hT => ?_⟩
    have s1 : Same H (upd H T (.tup [.ty "list", .ty "tuple"])) := same_new hT
    rcases h with ⟨a, us, its, rfl, sq, pr, few, k⟩ | ⟨d, q, no, k⟩
    · have sq1 : SqL K (upd H T (.tup [.ty "list", .ty "tuple"])) a us ∨ SqT K (upd H T (.tup [.ty "list", .ty "tuple"])) a us := sq.imp (sqL_same s1) (sqT_same s1)
      have pr1 : Paired (ItAt K CF (upd H T (.tup [.ty "list", .ty "tuple"]))) us its := L2.Paired.mapP pr fun _ _ z => z.same s1
      obtain ⟨dd, ty, yes⟩ : ∃ dd : PyData, TyX K (upd H T (.tup [.ty "list", .ty "tuple"])) (.ref a) (.type (tyN dd)) ∧ (isLst dd || isTup dd) = true :=
        sq1.elim (fun z => ⟨.list [], SqL.ty z, rfl⟩) fun z => ⟨.tuple [], SqT.ty z, rfl⟩
      have ln : us.length = its.length := pr.length
      refine ⟨.ref a, T, [.ty "list", .ty "tuple"], _, [.type "list", .type "tuple"], _, rfl, upd_same, .cons (.ty _) (.cons (.ty _) .nil), ty, kit_seq dd, _, rfl, ?_⟩
      rw [yes]
      refine ⟨_, rfl, a, us, rfl, sq1, CH, mc, .int 10, u10, rfl, cr, cv, _, _, rfl, rfl, _, rfl, ?_⟩
      have no : ∀ H', Same H H' → areFields its = false → Q (.bl false) H' := fun H' s e => by
        have r := k H' s
        rw [e] at r
        exact r
      cases e2 : decide ((10 : Int) < us.length) with
      | true =>
        refine no _ s1 ?_
        have e3 : ¬ its.length ≤ 10 := by
          have := of_decide_eq_true e2
          omega
        simp only [areFields, decide_eq_false e3, Bool.false_and]
      | false =>
        have e3 : its.length ≤ 10 := by
          have := of_decide_eq_false e2
          omega
        refine ⟨a, us, rfl, sq1, fun J G w hG D0 hD0 => ?_⟩
        refine lc_grow (f := fun j => V.bl (isF (its.getD j (.d .none)))) w (by omega) (fun H' z => hG H' (.of z)) hD0 ?_ ?_
        · intro j x H1 R hx sm k1
          obtain ⟨i0, g1, g2⟩ := paired_get pr1 hx
          have r := k1 H1 (Same.refl _)
          rw [List.getD_eq_getElem?_getD, g1] at r
          cases i0 with
          | f v =>
            obtain ⟨b, rfl, fb⟩ := g2
            obtain ⟨dx, tw, e, _⟩ := (fb.same sm).ex
            exact ⟨_, rfl, .ref b, .ref CF, .ref CF, .ref CF, true, rfl, .own CF, O.ty e, O.self, r⟩
          | d dt => exact ⟨_, rfl, x, .ref CF, _, .ref CF, false, rfl, .own CF, (Dq.same sm g2).ty, O.other dt, r⟩
        · intro H' s2 hL
          have s3 : Same H H' := s1.trans s2
          rw [show (List.range us.length).map (fun j => V.bl (isF (its.getD j (.d .none)))) = (its.map isF).map V.bl by rw [ln, List.map_map, ← range_map (V.bl ∘ isF) (.d .none) its]; rfl] at hL
          refine ⟨D0, its.map isF, rfl, SqL.of hL, _, rfl, ?_⟩
          have e4 : (its.map isF).all id = its.all isF := by simp [List.all_map, Function.comp_def]
          rw [e4]
          cases e5 : its.all isF with
          | false =>
            refine no _ s3 ?_
            simp only [areFields, e5, Bool.and_false, Bool.false_and]
          | true =>
            have sq2 : SqL K H' a us ∨ SqT K H' a us := sq1.imp (sqL_same s2) (sqT_same s2)
            refine ⟨a, us, rfl, sq2, fun J2 G2 w2 hG2 D1 hD1 => ?_⟩
            refine lc_grow (f := fun j => V.str (nameOf (its.getD j (.d .none)))) w2 (by omega) (fun H' z => hG2 H' (.of z)) hD1 ?_ ?_
            · intro j x H1 R hx sm k1
              obtain ⟨i0, g1, g2⟩ := paired_get pr1 hx
              have r := k1 H1 (Same.refl _)
              rw [List.getD_eq_getElem?_getD, g1] at r
              cases i0 with
              | f v =>
                obtain ⟨b, rfl, fb⟩ := g2
                obtain ⟨dx, tw, e, _⟩ := (fb.same (s2.trans sm)).ex
                exact ⟨_, rfl, b, CF, dx, _, _, rfl, e, C.cl, C.no _ (by simp), (lk_fs _ _ _ _ _).2.2.2.2, r⟩
              | d dt =>
                have := List.all_eq_true.mp e5 _ (List.mem_of_getElem? g1)
                cases this
            · intro H2 s4 hL2
              rw [show (List.range us.length).map (fun j => V.str (nameOf (its.getD j (.d .none)))) = (its.map nameOf).map V.str by rw [ln, List.map_map, ← range_map (V.str ∘ nameOf) (.d .none) its]; rfl] at hL2
              refine ⟨D1, its.map nameOf, rfl, ⟨.inl (SqL.of hL2), by rw [List.length_map]; omega⟩, ?_⟩
              have r := k H2 (s3.trans s4)
              simp only [areFields, e5, decide_eq_true e3, Bool.true_and] at r
              exact r
    · refine ⟨v, T, [.ty "list", .ty "tuple"], _, [.type "list", .type "tuple"], _, rfl, upd_same, .cons (.ty _) (.cons (.ty _) .nil), (q.same s1).ty, kit_seq d, _, rfl, ?_⟩
      rw [no]
      exact k _ s1
end
end Wp
set_option Elab.async false
set_option linter.all false
set_option maxRecDepth 100000
set_option maxHeartbeats 4000000
namespace Wp
open PySem L2
/-! ## what goes together -/
def tru : PyData → Bool
  | .bool b => b
  | _ => false
def canBe (b f h k r : PyData) : Bool := isBool f && isBool h && isBool r && !(!isNon b && (tru f || tru h)) && !(tru h && (tru f || !isNon k)) && (!isNon k || !tru r)
/-- an if whose test changes nothing -/
theorem if_pure {tA : TT} {ta tb t2 : TS} {D : Ends} {σ : L2.St} {H : Hp} {c : Bool} (h : ∀ R : Bool → Hp → Prop, R c H → tA σ H R) (k : if c = true then ta { D with nx := t2 D } σ H else tb { D with nx := t2 D } σ H) : tSeq (tIfS tA ta tb) t2 D σ H := h _ k
theorem next_if {tA : TT} {ta tb t2 : TS} {D D0 : Ends} {σ : L2.St} {H : Hp} {c : Bool} (e : D0.nx = tSeq (tIfS tA ta tb) t2 D) (h : ∀ R : Bool → Hp → Prop, R c H → tA σ H R) (k : if c = true then ta { D with nx := t2 D } σ H else tb { D with nx := t2 D } σ H) : tNext D0 σ H := by
  show D0.nx σ H
  rw [e]
  exact h _ k
def spCB (K : PySem.W.Frag) : Sp := fun vs H Q _ => ∃ (ub uf uh uk ur : V) (b f h k r : PyData), vs = [ub, uf, uh, uk, ur] ∧ Dq K H ub b ∧ Dq K H uf f ∧ Dq K H uh h ∧ Dq K H uk k ∧ Dq K H ur r ∧ ∀ H', Same H H' → Q (.bl (canBe b f h k r)) H'
theorem Dq.bool_of {K : PySem.W.Frag} {H : Hp} {v : V} {d : PyData} (q : Dq K H v d) (e : isBool d = true) : ∃ b, v = .bl b ∧ d = .bool b := by
  cases d <;> cases e
  cases q with
  | dat q _ =>
    cases q
    exact ⟨_, rfl, rfl⟩
section
variable {P : Program} {w : World} {K : PySem.W.Frag} {mg : Str → Option Value} {base : Heap}
abbrev sCB : Stmt := top 47
theorem scCB : FnScope ["base", "frozen", "heirs", "key", "registered", "part"] ["base", "frozen", "heirs", "key", "registered"] (defScope sCB) := ⟨rfl, rfl, rfl, by decide +kernel, rfl, by decide +kernel, by decide +kernel⟩
theorem ok_CB {f : Addr} {fd : FuncData} (F : Fun K "_can_be" "_can_be" sCB f fd) (B : Bn mg) : FnOk P w K mg base CX0 1 f fd ["base", "frozen", "heirs", "key", "registered"] (spCB K) := by
  refine F.ok scCB (fun vs H Q E h => ?_) (fun cdv A outer s H vs Q E hr h => ?_)
  · obtain ⟨ub, uf, uh, uk, ur, b, f, h, k, r, rfl, _⟩ := h
    rfl
  · obtain ⟨ub, uf, uh, uk, ur, b, f, h, k, r, rfl, qb, qf, qh, qk, qr, k1⟩ := h
    refine ⟨_, pss_cons (ps_if (pt_not (pt_val (pe_callB (cr_all rfl) (by rfl) B.all boot_all (pa_cons (pe_lc (own := [("part", 5)]) (g := gName 5) (tt := tYes) (te := tCB (rIsi K) (tCons (tVar 5) (tCons (tC (.ty "bool")) tNil))) rfl scCB.nd
          (pi_tup (pe_tup (pa_cons (pv 1) (pa_cons (pv 2) (pa_cons (pv 4) pa_nil)))))
          (blkOk_by (N := ["base", "frozen", "heirs", "key", "registered", "part"]) (sc := defScope sCB) (by decide +kernel)) (fun _ _ _ _ _ => pg_name (i := 5) scCB.nd rfl (Or.inl rfl)) (fun _ _ _ _ _ => pts_nil)
          (fun _ _ _ _ _ => pe_callB call_isi (by rfl) B.isi boot_isi (pa_cons (pv 5) (pa_cons (pe_bltn (v := .ty "bool") (by rfl) B.bool boot_tbool rfl) pa_nil)))) pa_nil))))
        (pss_one (ps_ret pe_bl)) pss_nil)
      (pss_cons (ps_if (PW.pt (pw_and (pt_cmpR op_notN (pv 0) pe_non (nomark _)) (pw_and1 (PW.pt (pw_or (pt_val (pv 1)) (pw_or1 (pt_val (pv 2))))))))
        (pss_one (ps_ret pe_bl)) pss_nil)
      (pss_cons (ps_if (PW.pt (pw_and (pt_val (pv 2)) (pw_and1 (PW.pt (pw_or (pt_val (pv 1)) (pw_or1 (pt_cmpR op_notN (pv 3) pe_non (nomark _))))))))
        (pss_one (ps_ret pe_bl)) pss_nil)
      (pss_one (ps_ret (pe_or (pe_cmpR op_notN (pv 3) pe_non (nomark _)) (pe_one (pe_not (pv 4)))))))), ?_⟩
    refine ⟨_, rfl, _, rfl, _, rfl, by show 3 ≤ sizeLine; decide, fun T hT => ?_⟩
    have s1 : Same H (upd H T (.tup [uf, uh, ur])) := same_new hT
    refine ⟨T, rfl, ⟨_, SqT.of upd_same⟩, fun D0 hD0 => ?_⟩
    refine lc_grow (xs := [uf, uh, ur]) (f := fun j => V.bl (isBool ([f, h, r].getD j .none))) walk_tup (by show 3 ≤ 1000; decide) (fun H' z => sqT_same z (SqT.of upd_same)) hD0 ?_ ?_
    · intro j x H1 R hx sm k2
      have s2 := s1.trans sm
      have r1 := k2 H1 (Same.refl _)
      have key : ∀ (x : V) (d : PyData), Dq K H x d → R (.bl (isBool d)) H1 → tCB (rIsi K) (tCons (tVar 5) (tCons (tC (.ty "bool")) tNil)) ((List.set (L2.start ["base", "frozen", "heirs", "key", "registered", "part"] [ub, uf, uh, uk, ur]) 5 none).set 5 (some x)) H1 R :=
        fun x d q r2 => ⟨_, rfl, x, .ty "bool", _, .type "bool", _, rfl, .ty _, (q.same s2).ty, kit_bool d, r2⟩
      match j, hx with
      | 0, hx => cases hx; exact key _ _ qf r1
      | 1, hx => cases hx; exact key _ _ qh r1
      | 2, hx => cases hx; exact key _ _ qr r1
    · intro H' s2 hL
      have s3 := s1.trans s2
      refine ⟨D0, [isBool f, isBool h, isBool r], rfl, SqL.of hL, _, rfl, ?_⟩
      have fin : ∀ c, canBe b f h k r = c → Q (.bl c) H' := fun c e => e ▸ k1 H' s3
      have bad : (isBool f && isBool h && isBool r) = false → Q (.bl false) H' := fun e => fin false (by simp only [canBe, e, Bool.false_and])
      have ea : [isBool f, isBool h, isBool r].all id = (isBool f && isBool h && isBool r) := by
        simp [Bool.and_assoc]
      rw [ea]
      cases e0 : (isBool f && isBool h && isBool r) with
      | false => exact bad e0
      | true =>
        have e1 := e0
        simp only [Bool.and_eq_true] at e1
        obtain ⟨x, rfl, rfl⟩ := qf.bool_of e1.1.1
        obtain ⟨y, rfl, rfl⟩ := qh.bool_of e1.1.2
        obtain ⟨z, rfl, rfl⟩ := qr.bool_of e1.2
        have nb := qb.non
        have nk := qk.non
        have ec : canBe b (.bool x) (.bool y) k (.bool z) = (!(!isNon b && (x || y)) && !(y && (x || !isNon k)) && (!isNon k || !z)) := by
          simp only [canBe, isBool, tru, Bool.true_and]
        refine iteF ?_
        unfold tNext
        dsimp only
        refine if_pure (c := !isNon b && (x || y)) (fun R hR => ?_) ?_
        · refine ⟨_, rfl, rfl, _, rfl, ?_⟩
          rw [nb]
          revert hR
          cases isNon b with
          | true => exact fun hR => hR
          | false =>
            intro hR
            refine ⟨_, rfl, x, rfl, ?_⟩
            cases x with
            | true => exact hR
            | false => exact ⟨_, rfl, y, rfl, hR⟩
        cases c1 : (!isNon b && (x || y)) with
        | true => exact fin false (by rw [ec, c1]; simp)
        | false =>
          refine iteF ?_
          dsimp only
          refine if_pure (c := y && (x || !isNon k)) (fun R hR => ?_) ?_
          · refine ⟨_, rfl, y, rfl, ?_⟩
            cases y with
            | false => exact hR
            | true =>
              refine ⟨_, rfl, x, rfl, ?_⟩
              cases x with
              | true => exact hR
              | false =>
                refine ⟨_, rfl, rfl, _, rfl, ?_⟩
                rw [nk]
                exact hR
          cases c2 : (y && (x || !isNon k)) with
          | true => exact fin false (by rw [ec, c1, c2]; simp)
          | false =>
            have f2 := fin _ ec
            rw [c1, c2] at f2
            refine ⟨_, rfl, rfl, _, rfl, ?_⟩
            rw [nk]
            cases c3 : isNon k with
            | false =>
              rw [c3] at f2
              exact f2
            | true =>
              rw [c3] at f2
              exact ⟨_, rfl, z, rfl, f2⟩
end
end Wp
set_option Elab.async false
set_option linter.all false
set_option maxRecDepth 100000
set_option maxHeartbeats 4000000
namespace Wp
open PySem PySem.Spec PyProof.Rows L2
section
variable {prog : Program} {w : World} {A : Around} {s : Shared} {d : Addr} {o : Obj}
theorem dict_noN {z : Str} {t : Tok} {E : Value → Shared → Prop} {Q : Value → Shared → Prop} (ho : s.heap.get? d = some o) (hc : o.cls = .type "dict") (q : Q .notImplemented s) :
    wpAny (model prog w) A (call (.builtin "dict.__ne__") [.ref d, .str z t]) Q E s := by
  have ty : s.TypeIs (.ref d) "dict" := ⟨o, ho, hc⟩
  refine wpAny_call_entry PySem.F.slot_dict_ne ty PySem.F.entry_dict_ne ?_ (PySem.F.args_dict_ne_2 _ _)
  show wpAny _ _ (Builtin.Dict.dictSlotArgs "__ne__" ⟨[.ref d, .str z t], []⟩ >>= _) _ _ s
  apply wpAny_bind
  unfold Builtin.Dict.dictSlotArgs
  apply wpAny_bind
  apply wpAny_notOrdered_dict ty
  show wpAny _ _ (pure (Value.ref d, Value.str z t)) _ _ s
  apply wpAny_pure
  apply wpAny_bind
  refine wpAny_isInstance (T := "str") (typeIs_str s z t) subSD ?_
  simp only [Bool.not_false, if_true]
  exact wpAny_bind (wpAny_rule (wpAny_pure ⟨_, rfl, q⟩))
theorem str_noN {z : Str} {t : Tok} {es : Array DictEntry} {ep : Nat} {E : Value → Shared → Prop} {Q : Value → Shared → Prop} (ho : s.heap.get? d = some o) (hd : o.data = .dict es ep) (q : Q .notImplemented s) :
    wpAny (model prog w) A (call (.builtin "str.__ne__") [.str z t, .ref d]) Q E s := by
  refine wpAny_call_entry PySem.F.slot_str_ne (typeIs_str s z t) PySem.F.entry_str_ne ?_ (PySem.F.args_str_ne_2 _ _)
  obtain ⟨hp, g, dr, tk, os⟩ := s
  wp_walk using wpAny_load ho
  rw [hd]
  wp_walk
  exact ⟨_, rfl, q⟩
theorem rc_txtDictN {es : Array DictEntry} {ep : Nat} {Q E : Value → Shared → Prop} (z : Str) (t : Tok) (ho : s.heap.get? d = some o) (hc : o.cls = .type "dict") (hd : o.data = .dict es ep) (hu : A.units < cLine) (q : Q (.bool true) s) :
    wpAny (model prog w) A (richCompare .NotEq (.str z t) (.ref d)) Q E s :=
  SeqAt.rc_ne_decline_or (k := false) (typeIs_str s z t) ⟨o, ho, hc⟩ (by decide) subDS PySem.F.slot_str_ne PySem.F.slot_dict_ne_refl (fun _ q => str_noN ho hd q) (fun _ q => dict_noN ho hc q) (fun _ q => wpAny_of_eq (rfl : isSame (.str z t) (.ref d) = pure false) q) (.inr hu) q
end
section
variable {X : Cx}
/-- 'text' != x -/
def rTxtNe (K : PySem.W.Frag) : R2 := fun x y H Q => ∃ (z : Str) (d : PyData), x = .str z ∧ SeqAt.shaped (.str z) = true ∧ Dq K H y d ∧ Q (.bl (!isTxt d z)) H
theorem op_txtNe (hu : X.A.units + 64 < cLine) : OpR X (compareOp .NotEq) (rTxtNe X.K) := by
  rintro pins s σ H x y v u Q I rx ry ⟨z, d, rfl, hz, q, k⟩
  cases q with
  | dat q sh =>
    refine op_neD hu pins s σ H (.str z) y v u Q I rx ry ⟨.str z, d, .str z, q, hz, sh, ?_⟩
    rw [txt_eqv]
    exact k
  | dct h =>
    cases ry
    obtain ⟨t, rfl⟩ := rx
    obtain ⟨o, es, ep, ho, hc, hd, _⟩ := dict_obj I h
    show wpAny _ _ (richCompare .NotEq _ _) _ _ _
    exact rc_txtDictN z t ho hc hd (by omega) ⟨.bl true, H, I, rfl, k⟩
end
/-! ## a kind is made -/
abbrev sKI : Stmt := meth 48 0
abbrev sKE : Stmt := meth 48 1
def namedOk (n k : PyData) : Bool := isKindName n && (isNon k || isFieldName k)
def basedOk (n b : PyData) : Bool := isNon b || (isKindName b && (match b with
  | .str z => !isTxt n z
  | _ => false))
/-- fields: the items, or none for what is no list or tuple -/
def fieldsOk : Option (List Item) → Bool
  | some its => areFields its
  | none => false
def kindRight (n : PyData) (fs : Option (List Item)) (b f h k r : PyData) : Bool := namedOk n k && basedOk n b && fieldsOk fs && canBe b f h k r
def fsK (n fs b f h k r : V) : List (Str × V) := [("name", n), ("fields", fs), ("base", b), ("frozen", f), ("heirs", h), ("key", k), ("registered", r)]
/-- an argument in the place of the fields -/
def FsAt (K : PySem.W.Frag) (CF : Addr) (H : Hp) (v : V) : Option (List Item) → Prop
  | some its => ∃ (a : Addr) (us : List V), v = .ref a ∧ (SqL K H a us ∨ SqT K H a us) ∧ Paired (ItAt K CF H) us its ∧ its.length ≤ 1000
  | none => ∃ d : PyData, Dq K H v d ∧ (isLst d || isTup d) = false
theorem FsAt.same {K : PySem.W.Frag} {CF : Addr} {H H' : Hp} {v : V} {o : Option (List Item)} (h : FsAt K CF H v o) (s : Same H H') : FsAt K CF H' v o := by
  cases o with
  | some its =>
    obtain ⟨a, us, e, sq, pr, few⟩ := h
    exact ⟨a, us, e, sq.imp (sqL_same s) (sqT_same s), L2.Paired.mapP pr fun _ _ z => z.same s, few⟩
  | none =>
    obtain ⟨d, q, no⟩ := h
    exact ⟨d, q.same s, no⟩
/-- the same, by the things that stand in it -/
def FsU (K : PySem.W.Frag) (CF : Addr) (H : Hp) (v : V) (us : List V) : Option (List Item) → Prop
  | some its => ∃ a : Addr, v = .ref a ∧ (SqL K H a us ∨ SqT K H a us) ∧ Paired (ItAt K CF H) us its ∧ its.length ≤ 1000
  | none => ∃ d : PyData, Dq K H v d ∧ (isLst d || isTup d) = false
theorem FsU.at_ {K : PySem.W.Frag} {CF : Addr} {H : Hp} {v : V} {us : List V} {o : Option (List Item)} (h : FsU K CF H v us o) : FsAt K CF H v o := by
  cases o with
  | none => exact h
  | some its =>
    obtain ⟨a, e, q⟩ := h
    exact ⟨a, us, e, q⟩
theorem FsAt.u {K : PySem.W.Frag} {CF : Addr} {H : Hp} {v : V} {o : Option (List Item)} (h : FsAt K CF H v o) : ∃ us, FsU K CF H v us o := by
  cases o with
  | none => exact ⟨[], h⟩
  | some its =>
    obtain ⟨a, us, e, q⟩ := h
    exact ⟨us, a, e, q⟩
theorem FsU.same {K : PySem.W.Frag} {CF : Addr} {H H' : Hp} {v : V} {us : List V} {o : Option (List Item)} (h : FsU K CF H v us o) (s : Same H H') : FsU K CF H' v us o := by
  cases o with
  | some its =>
    obtain ⟨a, e, sq, pr, few⟩ := h
    refine ⟨a, e, ?_, L2.Paired.mapP pr fun _ _ z => z.same s, few⟩
    rcases sq with sq | sq
    · exact .inl (sqL_same s sq)
    · exact .inr (sqT_same s sq)
  | none =>
    obtain ⟨d, q, no⟩ := h
    exact ⟨d, q.same s, no⟩
def spKI (K : PySem.W.Frag) (CF CK CB : Addr) : Sp := fun vs H Q E => ∃ (x dx : Addr) (un ufs ub uf uh uk ur : V) (n b f h k r : PyData) (o : Option (List Item)) (us : List V), vs = [.ref x, un, ufs, ub, uf, uh, uk, ur] ∧ H x = some (.ins CK dx []) ∧
  Dq K H un n ∧ FsU K CF H ufs us o ∧ Dq K H ub b ∧ Dq K H uf f ∧ Dq K H uh h ∧ Dq K H uk k ∧ Dq K H ur r ∧ Shrt n ∧ Shrt b ∧ Shrt k ∧
  (kindRight n o b f h k r = true → ∀ (H' : Hp) (tf : Addr), But x H H' → H' x = some (.ins CK dx (fsK un (.ref tf) ub uf uh uk ur)) → SqT K H' tf us → Q .non H') ∧
  (kindRight n o b f h k r = false → ∀ (H' : Hp) (e : Addr), Same H H' → H e = none → H' e = some (.xd [("name", un)]) → E (.ref CB) (some e) H')
section
variable {P : Program} {w : World} {K : PySem.W.Frag} {mg : Str → Option Value} {base : Heap}
theorem scKI : FnScope ["self", "name", "fields", "base", "frozen", "heirs", "key", "registered", "named", "based"] ["self", "name", "fields", "base", "frozen", "heirs", "key", "registered"] (defScope sKI) := ⟨rfl, rfl, rfl, by decide +kernel, rfl, by decide +kernel, by decide +kernel⟩
end
end Wp
set_option Elab.async false
set_option linter.all false
set_option maxRecDepth 100000
set_option maxHeartbeats 4000000
namespace Wp
open PySem PySem.Spec PyProof.Rows L2
/-! ## an own exception made where its context is None -/
section
variable {X : Cx} {e : Expr} {es : List Expr} {ta : TA} {p pos : Pos}
theorem pmk_oexN {CX : CXT} {x : Str} {C fI : Addr} {k : Nat} {fd : FuncData} {ps : List Str} {sp : Sp} (T : OexC X.K C) (iC : PySem.W.findIn X.K (.ref C) "__init__" = some (some (.ref fI))) (tI : PySem.W.typeIn X.K (.ref fI) = some (.type "function"))
    (F1 : FnOk X.prog X.w X.K X.mg X.base CX k fI fd ps sp) (hr : Room (k + 1) X.A) (hb : Binds X.K fd ps []) (hx : Passes CX X (fun _ _ _ => False)) (hg : Gl X x) (hm : X.mg x = some (.ref C)) (ha : PA X (e :: es) ta)
    (hdb : (x == ("__debug__" : Str)) = false := by decide) (he : starEach (e :: es) X.env = (false, eval e X.env) :: starEach es X.env := by rfl) (hpl : (backTo pos (starEach es X.env)).any (·.1) = false := by rfl) :
    L2N.PMk X (.Call (.Name x p) (e :: es) [] pos) (tMkO C sp [] ta) := by
  intro pins s σ H Q I h
  obtain ⟨nm, q, N, bs, bm, sn, sub, ab, col, dd, k0, k1, k2, k3, k5, hC, hbm⟩ := T.cls
  refine wpAny_Call_Name_kw (ld_glob I hg hm ?_ hdb)
  refine PySem.W.callWith_K (h₀ := X.base) I.ok.mod.kin T.kC (thn (ha.run pos pins s σ H _ I h) fun us s1 ⟨vs, H1, I1, r1, hz, q1⟩ => ⟨I1.kIn, ?_⟩) he hpl
  show wpAny _ _ (call (.ref C) us) _ _ _
  obtain ⟨hp, g, dr, tk, os⟩ := s1
  have hsz : hp.objs.size ≤ hp.objs.size + 1 := Nat.le_succ _
  have hn : H1 (hp.objs.size + 1) = none := I1.hok.fresh hsz
  have hq := q1 (hp.objs.size + 1) hn
  have kk : ∀ b o, hp.get? b = some o → ((hp.push (PySem.W.kdv_tup us)).push (PySem.HandSPX.excO C hp.objs.size)).get? b = some o := fun b o e => Heap.get?_push_of_some _ (Heap.get?_push_of_some _ e)
  have hget : ((hp.push (PySem.W.kdv_tup us)).push (PySem.HandSPX.excO C hp.objs.size)).get? (hp.objs.size + 1) = some (PySem.HandSPX.excO C hp.objs.size) := by heap_get
  have I2 : Inv X pins σ (upd H1 (hp.objs.size + 1) (exo (hp.objs.size + 1) C none)) ⟨(hp.push (PySem.W.kdv_tup us)).push (PySem.HandSPX.excO C hp.objs.size), g, dr, tk, os⟩ :=
    I1.laid (t' := tk) (a := hp.objs.size + 1) (o := exo (hp.objs.size + 1) C none) (h' := (hp.push (PySem.W.kdv_tup us)).push (PySem.HandSPX.excO C hp.objs.size)) kk hsz (exo_ok hget)
  have r2 : Vals (V.ref (hp.objs.size + 1) :: (vs ++ [])) (Value.ref (hp.objs.size + 1) :: (us ++ [])) := .cons rfl (r1.append .nil)
  have hl : (Value.ref (hp.objs.size + 1) :: us ++ ([] : List Value)).length = ps.length := by
    have e := r2.length
    rw [F1.len _ _ _ _ hq] at e
    exact e.symm
  have hus : us.length ≤ sizeLine := by
    rw [← Paired.length r1, sizeLine_eq]
    omega
  refine wpAny_call (PySem.HandSPX.call_own F.excBase_ValueError (fun Y => PySem.HandSPX.refsVE_contains Y bm hbm) (I1.kIn _ _ hC) (PySem.W.looks_findIn I1.kIn iC) (fun self => PySem.W.bind_fn I1.kIn self tI) hus
    (codeAny_mono (F1.run _ X.stack _ _ ⟨Value.ref (hp.objs.size + 1) :: us, []⟩ (Value.ref (hp.objs.size + 1) :: (us ++ [])) _ _ (fun _ _ _ => False) (hr.make C us []) (I2.env0.make C us []) (by simpa using hb _ (Value.ref (hp.objs.size + 1) :: us) I2.kIn hl) r2 hq) fun r s' hq' => ?_))
  cases r with
  | error er => exact hx pins σ _ _ er s' I2 hq'
  | ok fl =>
    cases fl with
    | ret u =>
      obtain ⟨v, H2, os2, bare2, un2, hok2, rv, ev, d, fs, ea, ed, hd1, q2⟩ := hq'
      subst ev
      obtain ⟨h2, g2, d2, t2, os'⟩ := s'
      obtain ⟨t0, G, J, kG, ge, hoe, na⟩ := mk_end0 (d2 := d2) (t2 := t2) I1 hsz kk un2 hok2 os2 bare2 ea ed hd1
      exact ⟨rv, ⟨_, _, _, ⟨G, g2, d2, t2, os'⟩, _, .ref C, some d, rfl, J, kG, ge, hoe, ⟨rfl, rfl, fun vs e => by cases e; rfl⟩, rfl, rfl, na, rfl, bare2, raises_own T.exC T.tyC, q2⟩⟩
    | next => exact False.elim hq'
    | brk => exact False.elim hq'
    | cont => exact False.elim hq'
end
theorem passN {P : Program} {w : World} {X : Cx} : Passes (L2N.CX P w) X E0 := fun _ _ _ _ _ _ _ ⟨_, _, _, _, _, _, _, _, _, _, _, _, h⟩ => h.elim
end Wp
set_option Elab.async false
set_option linter.all false
set_option maxRecDepth 100000
set_option maxHeartbeats 4000000
namespace Wp
open PySem L2
section
variable {K : PySem.W.Frag} {t2 : TS} {D : Ends} {σ : L2.St} {H : Hp} {un ub uk : V} {n b k : PyData}
abbrev tIsN (i : Nat) : TE := tOp (fun x y H Q => y = .non ∧ Q (.bl (decide (x = .non))) H) (tVar i) (tC .non)
theorem sq_named (e1 : σ[1]? = some (some un)) (e6 : σ[6]? = some (some uk)) (qn : Dq K H un n) (sn : Shrt n) (qk : Dq K H uk k) (sk : Shrt k) (c : ∀ H1, Same H H1 → t2 D (σ.set 8 (some (.bl (namedOk n k)))) H1) :
    tSeq (tAsg (tAndV (tCall (spIsKind K) [] E0 (tCons (tVar 1) tNil)) (tOrV (tIsN 6) (tCall (spIsField K) [] E0 (tCons (tVar 6) tNil)))) (gName 8)) t2 D σ H := by
  refine ⟨_, e1, un, n, rfl, qn, sn, fun H1 s1 => ⟨_, rfl, ?_⟩⟩
  cases h1 : isKindName n with
  | false =>
    have r := c H1 s1
    simp only [namedOk, h1, Bool.false_and] at r
    exact r
  | true =>
    refine ⟨_, e6, rfl, _, rfl, ?_⟩
    rw [qk.non]
    cases h2 : isNon k with
    | true =>
      have r := c H1 s1
      simp only [namedOk, h1, h2, Bool.true_or, Bool.true_and] at r
      exact r
    | false =>
      refine ⟨_, e6, uk, k, rfl, qk.same s1, sk, fun H2 s2 => ?_⟩
      have r := c H2 (s1.trans s2)
      simp only [namedOk, h1, h2, Bool.false_or, Bool.true_and] at r
      exact r
theorem sq_based (e1 : σ[1]? = some (some un)) (e3 : σ[3]? = some (some ub)) (qn : Dq K H un n) (qb : Dq K H ub b) (sb : Shrt b) (c : ∀ H1, Same H H1 → t2 D (σ.set 9 (some (.bl (basedOk n b)))) H1) :
    tSeq (tAsg (tOrV (tIsN 3) (tAndV (tCall (spIsKind K) [] E0 (tCons (tVar 3) tNil)) (tOp (rTxtNe K) (tVar 3) (tVar 1)))) (gName 9)) t2 D σ H := by
  refine ⟨_, e3, rfl, _, rfl, ?_⟩
  rw [qb.non]
  cases h1 : isNon b with
  | true =>
    have r := c H (Same.refl _)
    simp only [basedOk, h1, Bool.true_or] at r
    exact r
  | false =>
    refine ⟨_, e3, ub, b, rfl, qb, sb, fun H1 s1 => ⟨_, rfl, ?_⟩⟩
    cases h2 : isKindName b with
    | false =>
      have r := c H1 s1
      simp only [basedOk, h1, h2, Bool.false_or, Bool.false_and] at r
      exact r
    | true =>
      obtain ⟨z, rfl⟩ : ∃ z, b = .str z := by
        cases b <;> first | exact ⟨_, rfl⟩ | exact absurd h2 (by simp [isKindName])
      obtain rfl := qb.str_of
      have sz : SeqAt.shaped (.str z) = true := by
        cases qb with
        | dat _ sh => exact sh
      refine ⟨_, e3, _, e1, z, n, rfl, sz, qn.same s1, ?_⟩
      have r := c H1 s1
      simp only [basedOk, h1, h2, Bool.false_or, Bool.true_and] at r
      exact r
end
section
variable {P : Program} {w : World} {K : PySem.W.Frag} {mg : Str → Option Value} {base : Heap}
theorem ok_KI {params : Arguments} {f f1 f2 f3 f4 CF CK CB fB : Addr} {fd fd1 fd2 fd3 fd4 fdB : FuncData} {kws : List (Str × V)} (F : FunD K "__init__" "Kind.__init__" params (defBody sKI) (defScope sKI) [] kws f fd) (B : Bn mg)
    (NK : Known P w K mg base CX0 1 "is_kind_name" ["value"] (spIsKind K) f1 fd1) (NF : Known P w K mg base CX0 2 "is_field_name" ["value"] (spIsField K) f2 fd2) (AF : Known P w K mg base CX0 2 "_are_fields" ["fields"] (spAF K CF) f3 fd3)
    (CC : Known P w K mg base CX0 1 "_can_be" ["base", "frozen", "heirs", "key", "registered"] (spCB K) f4 fd4) (M : Mk1 P w K mg base "BadKind" "name" CB fB fdB) (C : PlainC K CK ["name", "fields", "base", "frozen", "heirs", "key", "registered"]) :
    FnOk P w K mg base (L2N.CX P w) 3 f fd ["self", "name", "fields", "base", "frozen", "heirs", "key", "registered"] (spKI K CF CK CB) := by
  refine F.ok scKI (fun vs H Q E h => ?_) (fun cdv A outer s H vs Q E hr h => ?_)
  · obtain ⟨x, dx, un, ufs, ub, uf, uh, uk, ur, n, b, f, h, k, r, o, us, rfl, _⟩ := h
    rfl
  · obtain ⟨x, dx, un, ufs, ub, uf, uh, uk, ur, n, b, f, hh, k, r, o, us, rfl, hx, qn, qo, qb, qf, qh, qk, qr, sn, sb, sk, k1, k2⟩ := h
    refine ⟨_, pss_cons (ps_set (i := 8) scKI.nd rfl (.inl rfl) (pe_and (pe_call NK.ok (hr.mono (by decide)) rfl NK.mg NK.kp NK.bi .nil pass0 (pa_cons (pv 1) pa_nil))
          (pe_one (pe_or (pe_cmpR op_isN (pv 6) pe_non (nomark _)) (pe_one (pe_call NF.ok hr rfl NF.mg NF.kp NF.bi .nil pass0 (pa_cons (pv 6) pa_nil)))))))
      (pss_cons (ps_set (i := 9) scKI.nd rfl (.inl rfl) (pe_or (pe_cmpR op_isN (pv 3) pe_non (nomark _)) (pe_one (pe_and (pe_call NK.ok (hr.mono (by decide)) rfl NK.mg NK.kp NK.bi .nil pass0 (pa_cons (pv 3) pa_nil))
          (pe_one (pe_cmpR (op_txtNe hr.units) (pv 3) (pv 1) (nomark _)))))))
      (pss_cons (ps_if (PW.pt (pw_or (pt_not (pt_val (pv 8))) (pw_or (pt_not (pt_val (pv 9))) (pw_or (pt_not (pt_val (pe_call AF.ok hr rfl AF.mg AF.kp AF.bi .nil pass0 (pa_cons (pv 2) pa_nil))))
          (pw_or1 (pt_not (pt_val (pe_call CC.ok (hr.mono (by decide)) rfl CC.mg CC.kp CC.bi .nil pass0 (pa_cons (pv 3) (pa_cons (pv 4) (pa_cons (pv 5) (pa_cons (pv 6) (pa_cons (pv 7) pa_nil))))))))))))) 
        (pss_one (L2N.ps_raise rfl (L2N.takes_of rfl rfl rfl rfl) (pmk_oexN M.T M.iC M.tI M.FI (hr.mono (by decide)) M.bI pass0 (by rfl) M.gC (pa_cons (pv 1) pa_nil)))) pss_nil)
      (pss_cons (ps_fld (pv 0) (pv 1) rfl)
      (pss_cons (ps_fld (pv 0) (pe_callTy call_tuple_of (by rfl) B.tuple boot_ttuple (pa_cons (pv 2) pa_nil)) rfl)
      (pss_cons (ps_fld (pv 0) (pv 3) rfl)
      (pss_cons (ps_fld (pv 0) (pv 4) rfl)
      (pss_cons (ps_fld (pv 0) (pv 5) rfl)
      (pss_cons (ps_fld (pv 0) (pv 6) rfl)
      (pss_one (ps_fld (pv 0) (pv 7) rfl)))))))))), ?_⟩
    have r0 : ∀ H1, Same H H1 → kindRight n o b f hh k r = false → [un].length ≤ 1000 ∧ ∀ a, H1 a = none → spI1 CB "name" (.ref a :: ([un] ++ [])) (upd H1 a (exo a CB none))
        (fun u H2 => u = .non ∧ ∃ (d : Addr) (fs : List (Str × V)), H2 a = some (exo a CB (some d)) ∧ H2 d = some (exd d fs) ∧ H1 d = none ∧ E (.ref CB) (some d) (upd (L2.del H2 a) d (.xd fs))) (fun _ _ _ => False) :=
      fun H1 s1 bad => rs1 (Q := E) fun d0 nd => k2 bad _ d0 (s1.trans (same_new nd)) (none_of s1 nd) upd_same
    refine sq_named (by rfl) (by rfl) qn sn qk sk fun H1 s1 => ?_
    refine sq_based (by rfl) (by rfl) (qn.same s1) (qb.same s1) sb fun H2 s2 => ?_
    have s12 := s1.trans s2
    refine ⟨_, rfl, _, rfl, ?_⟩
    cases hN : namedOk n k with
    | false => exact ⟨un, rfl, r0 H2 s12 (by simp only [kindRight, hN, Bool.false_and])⟩
    | true =>
      refine ⟨_, rfl, _, rfl, ?_⟩
      cases hB : basedOk n b with
      | false => exact ⟨un, rfl, r0 H2 s12 (by simp only [kindRight, hN, hB, Bool.false_and, Bool.and_false])⟩
      | true =>
        have hAF : ∀ (Q' : VK) (E' : XK), (∀ H3, Same H2 H3 → Q' (.bl (fieldsOk o)) H3) → spAF K CF [ufs] H2 Q' E' := by
          intro Q' E' c
          have q := (qo.same s12).at_
          cases o with
          | some its =>
            obtain ⟨a, us, e, sq, pr, few⟩ := q
            exact ⟨ufs, rfl, .inl ⟨a, us, its, e, sq, pr, few, c⟩⟩
          | none =>
            obtain ⟨d, q, no⟩ := q
            exact ⟨ufs, rfl, .inr ⟨d, q, no, c⟩⟩
        refine ⟨_, rfl, ?_⟩
        dsimp only [tNil, List.append_nil]
        refine hAF _ _ fun H3 s3 => ⟨_, rfl, ?_⟩
        have s123 := s12.trans s3
        cases hF : fieldsOk o with
        | false => exact ⟨un, rfl, r0 H3 s123 (by simp only [kindRight, hN, hB, hF, Bool.false_and, Bool.and_false])⟩
        | true =>
          refine ⟨_, rfl, _, rfl, _, rfl, _, rfl, _, rfl, ub, uf, uh, uk, ur, b, f, hh, k, r, rfl, qb.same s123, qf.same s123, qh.same s123, qk.same s123, qr.same s123, fun H4 s4 => ⟨_, rfl, ?_⟩⟩
          have s14 := s123.trans s4
          cases hC : canBe b f hh k r with
          | false => exact ⟨un, rfl, r0 H4 s14 (by simp only [kindRight, hC, Bool.and_false])⟩
          | true =>
            have right : kindRight n o b f hh k r = true := by simp only [kindRight, hN, hB, hF, hC, Bool.and_true]
            have hx4 := s14 _ _ hx
            obtain ⟨its, rfl⟩ : ∃ its, o = some its := by
              cases o with
              | none => cases hF
              | some its => exact ⟨its, rfl⟩
            obtain ⟨a, rfl, sq0, pr, few⟩ := qo
            refine ⟨_, rfl, _, rfl, x, CK, dx, _, rfl, hx4, C.cl, C.no _ (by simp), (by decide), ?_⟩
            refine ⟨_, rfl, a, us, rfl, ?_⟩
            have fin : ∀ (tf : Addr) (H5 : Hp), (∃ fs, H5 x = some (.ins CK dx fs)) → But x H H5 → SqT K H5 tf us → Q .non (upd H5 x (.ins CK dx (fsK un (.ref tf) ub uf uh uk ur))) := by
              rintro tf H5 ⟨fs, e9⟩ b5 sT
              refine k1 right _ tf (fun b o ne e => ?_) upd_same (sqT_off sT e9)
              rw [upd_ne ne]
              exact b5 b o ne e
            rcases sq0 with sq0 | sq0
            · have sq := sqL_same s14 sq0
              refine .inl ⟨sqL_off sq hx4, fun l hl => ?_⟩
              have nl : l ≠ x := fun z => by rw [z, upd_same] at hl; cases hl
              have hl4 : H4 l = none := by rw [upd_ne nl] at hl; exact hl
              refine ⟨_, rfl, x, CK, dx, _, rfl, (upd_ne (Ne.symm nl)).trans upd_same, C.cl, C.no _ (by simp), (by show 1 < 1000; decide), ?_⟩
              refine ⟨_, rfl, _, rfl, x, CK, dx, _, rfl, upd_same, C.cl, C.no _ (by simp), (by show 2 < 1000; decide), ?_⟩
              refine ⟨_, rfl, _, rfl, x, CK, dx, _, rfl, upd_same, C.cl, C.no _ (by simp), (by show 3 < 1000; decide), ?_⟩
              refine ⟨_, rfl, _, rfl, x, CK, dx, _, rfl, upd_same, C.cl, C.no _ (by simp), (by show 4 < 1000; decide), ?_⟩
              refine ⟨_, rfl, _, rfl, x, CK, dx, _, rfl, upd_same, C.cl, C.no _ (by simp), (by show 5 < 1000; decide), ?_⟩
              refine ⟨_, rfl, _, rfl, x, CK, dx, _, rfl, upd_same, C.cl, C.no _ (by simp), (by show 6 < 1000; decide), ?_⟩
              rw [upd_upd, upd_upd, upd_upd, upd_upd, upd_upd]
              refine fin l _ ⟨_, (upd_ne (Ne.symm nl)).trans upd_same⟩ (fun b o ne e => ?_) (SqT.of upd_same)
              have e1 := s14 b o e
              rw [upd_ne (ne_of_none e1 hl4), upd_ne ne]
              exact e1
            · have sq := sqT_same s14 sq0
              refine .inr ⟨sqT_off sq hx4, ?_⟩
              refine ⟨_, rfl, x, CK, dx, _, rfl, upd_same, C.cl, C.no _ (by simp), (by show 1 < 1000; decide), ?_⟩
              refine ⟨_, rfl, _, rfl, x, CK, dx, _, rfl, upd_same, C.cl, C.no _ (by simp), (by show 2 < 1000; decide), ?_⟩
              refine ⟨_, rfl, _, rfl, x, CK, dx, _, rfl, upd_same, C.cl, C.no _ (by simp), (by show 3 < 1000; decide), ?_⟩
              refine ⟨_, rfl, _, rfl, x, CK, dx, _, rfl, upd_same, C.cl, C.no _ (by simp), (by show 4 < 1000; decide), ?_⟩
              refine ⟨_, rfl, _, rfl, x, CK, dx, _, rfl, upd_same, C.cl, C.no _ (by simp), (by show 5 < 1000; decide), ?_⟩
              refine ⟨_, rfl, _, rfl, x, CK, dx, _, rfl, upd_same, C.cl, C.no _ (by simp), (by show 6 < 1000; decide), ?_⟩
              rw [upd_upd, upd_upd, upd_upd, upd_upd, upd_upd]
              rw [upd_upd]
              exact fin a H4 ⟨_, hx4⟩ (fun b o ne e => s14 b o e) sq
end
end Wp
set_option Elab.async false
set_option linter.all false
set_option maxRecDepth 100000
set_option maxHeartbeats 4000000
namespace Wp
open PySem L2
/-! ## two kinds are compared -/
/-- a kind's parts; c: how many fields -/
structure KV where
  n : Str
  c : Nat
  b : Option Str
  f : Bool
  h : Bool
  k : Option Str
  r : Bool
deriving DecidableEq
theorem kv_dec {v u : KV} (e0 : v.n = u.n) (e1 : v.c = u.c) (e2 : v.b = u.b) (e3 : v.f = u.f) (e4 : v.h = u.h) (e5 : v.k = u.k) : decide (V.bl v.r = V.bl u.r) = decide (v = u) := by
  cases v
  cases u
  simp only at e0 e1 e2 e3 e4 e5
  subst e0 e1 e2 e3 e4 e5
  simp
structure KindAt (K : PySem.W.Frag) (CK : Addr) (H : Hp) (a : Addr) (v : KV) (xs : List Addr) : Prop where
  ex : ∃ dx tf, H a = some (.ins CK dx (fsK (.str v.n) (.ref tf) (tv v.b) (.bl v.f) (.bl v.h) (tv v.k) (.bl v.r))) ∧ SqT K H tf (xs.map V.ref)
  len : xs.length = v.c
theorem KindAt.same {K : PySem.W.Frag} {CK : Addr} {H H' : Hp} {a : Addr} {v : KV} {xs : List Addr} (h : KindAt K CK H a v xs) (s : Same H H') : KindAt K CK H' a v xs := by
  obtain ⟨⟨dx, tf, e, sq⟩, l⟩ := h
  exact ⟨⟨dx, tf, s _ _ e, sqT_same s sq⟩, l⟩
theorem nk_fields_name : (("fields" : Str) == "name") = false := by decide +kernel
theorem nk_base_name : (("base" : Str) == "name") = false := by decide +kernel
theorem nk_base_fields : (("base" : Str) == "fields") = false := by decide +kernel
theorem nk_frozen_name : (("frozen" : Str) == "name") = false := by decide +kernel
theorem nk_frozen_fields : (("frozen" : Str) == "fields") = false := by decide +kernel
theorem nk_frozen_base : (("frozen" : Str) == "base") = false := by decide +kernel
theorem nk_heirs_name : (("heirs" : Str) == "name") = false := by decide +kernel
theorem nk_heirs_fields : (("heirs" : Str) == "fields") = false := by decide +kernel
theorem nk_heirs_base : (("heirs" : Str) == "base") = false := by decide +kernel
theorem nk_heirs_frozen : (("heirs" : Str) == "frozen") = false := by decide +kernel
theorem nk_key_name : (("key" : Str) == "name") = false := by decide +kernel
theorem nk_key_fields : (("key" : Str) == "fields") = false := by decide +kernel
theorem nk_key_base : (("key" : Str) == "base") = false := by decide +kernel
theorem nk_key_frozen : (("key" : Str) == "frozen") = false := by decide +kernel
theorem nk_key_heirs : (("key" : Str) == "heirs") = false := by decide +kernel
theorem nk_registered_name : (("registered" : Str) == "name") = false := by decide +kernel
theorem nk_registered_fields : (("registered" : Str) == "fields") = false := by decide +kernel
theorem nk_registered_base : (("registered" : Str) == "base") = false := by decide +kernel
theorem nk_registered_frozen : (("registered" : Str) == "frozen") = false := by decide +kernel
theorem nk_registered_heirs : (("registered" : Str) == "heirs") = false := by decide +kernel
theorem nk_registered_key : (("registered" : Str) == "key") = false := by decide +kernel
theorem lk_ks (n fs b f h k r : V) : List.lookup ("name" : Str) (fsK n fs b f h k r) = some n ∧ List.lookup ("fields" : Str) (fsK n fs b f h k r) = some fs ∧ List.lookup ("base" : Str) (fsK n fs b f h k r) = some b ∧ List.lookup ("frozen" : Str) (fsK n fs b f h k r) = some f ∧ List.lookup ("heirs" : Str) (fsK n fs b f h k r) = some h ∧ List.lookup ("key" : Str) (fsK n fs b f h k r) = some k ∧ List.lookup ("registered" : Str) (fsK n fs b f h k r) = some r := by
  simp [fsK, List.lookup, nk_fields_name, nk_base_name, nk_base_fields, nk_frozen_name, nk_frozen_fields, nk_frozen_base, nk_heirs_name, nk_heirs_fields, nk_heirs_base, nk_heirs_frozen, nk_key_name, nk_key_fields, nk_key_base, nk_key_frozen, nk_key_heirs, nk_registered_name, nk_registered_fields, nk_registered_base, nk_registered_frozen, nk_registered_heirs, nk_registered_key]
/-- a kind beside a kind with the same fields in front, or beside a text -/
def spKE (K : PySem.W.Frag) (CK : Addr) : Sp := fun vs H Q _ => ∃ (a : Addr) (y : V) (v : KV) (xs : List Addr), vs = [.ref a, y] ∧ KindAt K CK H a v xs ∧
  ((∃ (b : Addr) (u : KV) (ys : List Addr), y = .ref b ∧ KindAt K CK H b u ys ∧ (∀ (i : Nat) (h1 : i < xs.length) (h2 : i < ys.length), xs[i] = ys[i]) ∧ Q (.bl (decide (v = u))) H) ∨ (∃ z : Str, y = .str z ∧ Q (.bl false) H))
section
variable {P : Program} {w : World} {K : PySem.W.Frag} {mg : Str → Option Value} {base : Heap}
theorem scKE : FnScope ["self", "other"] ["self", "other"] (defScope sKE) := ⟨rfl, rfl, rfl, by decide +kernel, rfl, by decide +kernel, by decide +kernel⟩
theorem ok_KE {f CK : Addr} {fd : FuncData} (F : Fun K "__eq__" "Kind.__eq__" sKE f fd) (B : Bn mg) (O : OwnC K CK) (C : PlainC K CK ["name", "fields", "base", "frozen", "heirs", "key", "registered"]) (g : mg "Kind" = some (.ref CK)) :
    FnOk P w K mg base CX0 1 f fd ["self", "other"] (spKE K CK) := by
  refine F.ok scKE (fun vs H Q E h => ?_) (fun cdv A outer s H vs Q E hr h => ?_)
  · obtain ⟨a, y, v, xs, rfl, _⟩ := h
    rfl
  · obtain ⟨a, y, v, xs, rfl, fa, h⟩ := h
    refine ⟨_, pss_one (ps_ret (pe_and (pe_callB call_isi (by rfl) B.isi boot_isi (pa_cons (pv 1) (pa_cons (pe_glob (v := .ref CK) (by rfl) g rfl) pa_nil)))
      (pe_and (pe_cmpR op_eq (pe_fld (pv 0) rfl) (pe_fld (pv 1) rfl) (nomark _))
      (pe_and (pe_cmpR (op_eqSame hr.units0) (pe_fld (pv 0) rfl) (pe_fld (pv 1) rfl) (nomark _))
      (pe_and (pe_cmpR op_eq (pe_fld (pv 0) rfl) (pe_fld (pv 1) rfl) (nomark _))
      (pe_and (pe_cmpR op_eq (pe_fld (pv 0) rfl) (pe_fld (pv 1) rfl) (nomark _))
      (pe_and (pe_cmpR op_eq (pe_fld (pv 0) rfl) (pe_fld (pv 1) rfl) (nomark _))
      (pe_and (pe_cmpR op_eq (pe_fld (pv 0) rfl) (pe_fld (pv 1) rfl) (nomark _))
      (pe_one (pe_cmpR op_eq (pe_fld (pv 0) rfl) (pe_fld (pv 1) rfl) (nomark _)))))))))) ), ?_⟩
    rcases h with ⟨b, u, ys, rfl, fb, same, k⟩ | ⟨z, rfl, k⟩
    · obtain ⟨dx, tf, ha, sx⟩ := fa.ex
      obtain ⟨dy, ug, hb, sy⟩ := fb.ex
      have lx := fa.len
      have ly := fb.len
      refine ⟨_, rfl, .ref b, .ref CK, .ref CK, .ref CK, true, rfl, .own CK, O.ty hb, O.self, _, rfl, ?_⟩
      have no : v ≠ u → Q (.bl false) H := fun ne => by
        rw [decide_eq_false ne] at k
        exact k
      refine ⟨_, rfl, a, CK, dx, _, _, rfl, ha, C.cl, C.no _ (by simp), (lk_ks _ _ _ _ _ _ _).1, _, rfl, b, CK, dy, _, _, rfl, hb, C.cl, C.no _ (by simp), (lk_ks _ _ _ _ _ _ _).1, rfl, _, rfl, ?_⟩
      by_cases e0 : ¬ v.n = u.n
      · rw [decide_eq_false (p := V.str v.n = V.str u.n) fun z => e0 (by injection z)]
        exact no fun z => e0 (z ▸ rfl)
      have e0 := Decidable.of_not_not e0
      rw [decide_eq_true (p := V.str v.n = V.str u.n) (by rw [e0])]
      refine ⟨_, rfl, a, CK, dx, _, _, rfl, ha, C.cl, C.no _ (by simp), (lk_ks _ _ _ _ _ _ _).2.1, _, rfl, b, CK, dy, _, _, rfl, hb, C.cl, C.no _ (by simp), (lk_ks _ _ _ _ _ _ _).2.1, tf, ug, xs, ys, rfl, rfl, sx, sy, same, _, rfl, ?_⟩
      by_cases e1 : ¬ v.c = u.c
      · have e1' : ¬ xs.length = ys.length := by omega
        rw [decide_eq_false e1']
        exact no fun z => e1 (z ▸ rfl)
      have e1 := Decidable.of_not_not e1
      rw [decide_eq_true (p := xs.length = ys.length) (by omega)]
      refine ⟨_, rfl, a, CK, dx, _, _, rfl, ha, C.cl, C.no _ (by simp), (lk_ks _ _ _ _ _ _ _).2.2.1, _, rfl, b, CK, dy, _, _, rfl, hb, C.cl, C.no _ (by simp), (lk_ks _ _ _ _ _ _ _).2.2.1, scal_tv _ _, _, rfl, ?_⟩
      by_cases e2 : ¬ v.b = u.b
      · rw [decide_eq_false (p := tv v.b = tv u.b) fun z => e2 (tv_inj z)]
        exact no fun z => e2 (z ▸ rfl)
      have e2 := Decidable.of_not_not e2
      rw [decide_eq_true (p := tv v.b = tv u.b) (by rw [e2])]
      refine ⟨_, rfl, a, CK, dx, _, _, rfl, ha, C.cl, C.no _ (by simp), (lk_ks _ _ _ _ _ _ _).2.2.2.1, _, rfl, b, CK, dy, _, _, rfl, hb, C.cl, C.no _ (by simp), (lk_ks _ _ _ _ _ _ _).2.2.2.1, rfl, _, rfl, ?_⟩
      by_cases e3 : ¬ v.f = u.f
      · rw [decide_eq_false (p := V.bl v.f = V.bl u.f) fun z => e3 (by injection z)]
        exact no fun z => e3 (z ▸ rfl)
      have e3 := Decidable.of_not_not e3
      rw [decide_eq_true (p := V.bl v.f = V.bl u.f) (by rw [e3])]
      refine ⟨_, rfl, a, CK, dx, _, _, rfl, ha, C.cl, C.no _ (by simp), (lk_ks _ _ _ _ _ _ _).2.2.2.2.1, _, rfl, b, CK, dy, _, _, rfl, hb, C.cl, C.no _ (by simp), (lk_ks _ _ _ _ _ _ _).2.2.2.2.1, rfl, _, rfl, ?_⟩
      by_cases e4 : ¬ v.h = u.h
      · rw [decide_eq_false (p := V.bl v.h = V.bl u.h) fun z => e4 (by injection z)]
        exact no fun z => e4 (z ▸ rfl)
      have e4 := Decidable.of_not_not e4
      rw [decide_eq_true (p := V.bl v.h = V.bl u.h) (by rw [e4])]
      refine ⟨_, rfl, a, CK, dx, _, _, rfl, ha, C.cl, C.no _ (by simp), (lk_ks _ _ _ _ _ _ _).2.2.2.2.2.1, _, rfl, b, CK, dy, _, _, rfl, hb, C.cl, C.no _ (by simp), (lk_ks _ _ _ _ _ _ _).2.2.2.2.2.1, scal_tv _ _, _, rfl, ?_⟩
      by_cases e5 : ¬ v.k = u.k
      · rw [decide_eq_false (p := tv v.k = tv u.k) fun z => e5 (tv_inj z)]
        exact no fun z => e5 (z ▸ rfl)
      have e5 := Decidable.of_not_not e5
      rw [decide_eq_true (p := tv v.k = tv u.k) (by rw [e5])]
      refine ⟨_, rfl, a, CK, dx, _, _, rfl, ha, C.cl, C.no _ (by simp), (lk_ks _ _ _ _ _ _ _).2.2.2.2.2.2, _, rfl, b, CK, dy, _, _, rfl, hb, C.cl, C.no _ (by simp), (lk_ks _ _ _ _ _ _ _).2.2.2.2.2.2, rfl, ?_⟩
      rw [show decide (V.bl v.r = V.bl u.r) = decide (v = u) from kv_dec e0 e1 e2 e3 e4 e5]
      exact k
    · exact ⟨_, rfl, .str z, .ref CK, .type "str", .ref CK, false, rfl, .own CK, .base (.str z), O.other (.str z), _, rfl, k⟩
end
end Wp
set_option Elab.async false
set_option linter.all false
set_option maxRecDepth 100000
set_option maxHeartbeats 4000000
namespace Hb
open PySem PySem.Spec PyProof.Rows L2
/-! ## facts of the written part as Bools -/
variable {K : PySem.W.Frag} {C : Addr}
def oexB (K : PySem.W.Frag) (C : Addr) : Bool := (match K.lookup C with
  | some ⟨.type t, _, .cls cd, sl⟩ => decide (t = "type") && (decide (sl.size = 6) && (decide (sl.toList[4]? = some (some (.builtin "ValueError.__new__"))) && (cd.hasDict && (!cd.hasDel && (match cd.mro with
    | .ref c :: bm => decide (c = C) && PySem.HandSPX.refsVE bm
    | _ => false)))))
  | _ => false) && (He.eqO (PySem.W.findIn K (.ref C) "__setattr__") (some (some (.builtin "object.__setattr__"))) && (decide (PySem.W.subIn K (.ref C) (.type "BaseException") = some true) && (decide (PySem.W.typeIn K (.ref C) = some (.type "type")) && PySem.W.keepIn K (.ref C))))
theorem arr6 {α : Type} {a : Array α} (h : a.size = 6) : ∃ x0 x1 x2 x3 x4 x5, a = #[x0, x1, x2, x3, x4, x5] := by
  obtain ⟨l⟩ := a
  match l, h with
  | [x0, x1, x2, x3, x4, x5], _ => exact ⟨x0, x1, x2, x3, x4, x5, rfl⟩
theorem oexB_ok (h : oexB K C = true) : OexC K C := by
  obtain ⟨h1, h⟩ := He.ba h
  obtain ⟨h2, h⟩ := He.ba h
  obtain ⟨h3, h⟩ := He.ba h
  obtain ⟨h4, h5⟩ := He.ba h
  refine ⟨?_, He.eqO_ok h2, of_decide_eq_true h3, of_decide_eq_true h4, h5⟩
  cases q : K.lookup C with
  | none =>
    rw [q] at h1
    cases h1
  | some o =>
    obtain ⟨oc, od, dt, sl⟩ := o
    rw [q] at h1
    cases oc with
    | type t =>
      cases dt with
      | cls cd =>
        obtain ⟨a1, z0⟩ := He.ba (show (decide (t = "type") && (decide (sl.size = 6) && (decide (sl.toList[4]? = some (some (.builtin "ValueError.__new__"))) && (cd.hasDict && (!cd.hasDel && (match cd.mro with
          | .ref c :: bm => decide (c = C) && PySem.HandSPX.refsVE bm
          | _ => false)))))) = true from h1)
        obtain ⟨a2, z2⟩ := He.ba z0
        obtain ⟨a3, z3⟩ := He.ba z2
        obtain ⟨a4, z4⟩ := He.ba z3
        obtain ⟨a5, z1⟩ := He.ba z4
        clear h1 z0 z2 z3 z4
        have a1 := of_decide_eq_true a1
        subst a1
        obtain ⟨x0, x1, x2, x3, x4, x5, rfl⟩ := arr6 (of_decide_eq_true a2)
        have a3 := of_decide_eq_true a3
        have a3 : x4 = some (.builtin "ValueError.__new__") := by simpa using a3
        subst a3
        obtain ⟨n1, n2, n3, n4, n5, n6, n7, n8, n9, n10, n11⟩ := cd
        simp only at a4 a5 z1
        have a5 : n11 = false := by simpa using a5
        subst a4 a5
        cases n3 with
        | nil => cases z1
        | cons m bm =>
          cases m with
          | ref c =>
            obtain ⟨b1, b2⟩ := He.ba z1
            have b3 : c = C := of_decide_eq_true b1
            exact ⟨n1, n5, n4, n2, bm, n7, n8, n9, n10, od, x0, x1, x2, x3, x5, by rw [b3], b2⟩
          | _ => cases z1
      | _ => cases h1
    | _ => cases h1
def excB (K : PySem.W.Frag) (C : Addr) : Bool := He.eqO (PySem.W.findIn K (.ref C) "__getattribute__") (some (some (.builtin "BaseException.__getattribute__"))) && (He.eqO (PySem.W.findIn K (.ref C) "__getattr__") (some none) &&
  (decide (PySem.W.subIn K (.ref C) (.type "BaseException") = some true) && (PySem.W.hasDictIn K C && (He.eqO (PySem.W.findIn K (.ref C) "__class__") (some (some (.builtin "object.__class__"))) &&
  (He.eqO (PySem.W.specialIn K (.builtin "object.__class__") "__get__") (some (some (.builtin "getset_descriptor.__get__"))) && (decide (PySem.W.takesIn K (.builtin "object.__class__") = some true) && decide (PySem.W.mroIn K C (.type "object") = some true)))))))
theorem excB_ok (h : excB K C = true) : ExcC K C := by
  obtain ⟨h1, h⟩ := He.ba h
  obtain ⟨h2, h⟩ := He.ba h
  obtain ⟨h3, h⟩ := He.ba h
  obtain ⟨h4, h⟩ := He.ba h
  obtain ⟨h5, h⟩ := He.ba h
  obtain ⟨h6, h⟩ := He.ba h
  obtain ⟨h7, h8⟩ := He.ba h
  exact ⟨He.eqO_ok h1, He.eqO_ok h2, of_decide_eq_true h3, h4, He.eqO_ok h5, He.eqO_ok h6, of_decide_eq_true h7, of_decide_eq_true h8⟩
/-- an own class beside data -/
def ownB (K : PySem.W.Frag) (C : Addr) : Bool := He.eqO (PySem.W.findIn K (.ref C) "__class__") (some (some (.builtin "object.__class__"))) && (He.eqO (PySem.W.specialIn K (.builtin "object.__class__") "__get__") (some (some (.builtin "getset_descriptor.__get__"))) &&
  (decide (PySem.W.takesIn K (.builtin "object.__class__") = some true) && (decide (PySem.W.mroIn K C (.type "object") = some true) && (decide (PySem.W.kitOne K (.ref C) (.ref C) = some true) &&
  (["NoneType", "bool", "int", "str", "list", "tuple", "dict"].all fun t => decide (PySem.W.kitOne K (.type t) (.ref C) = some false))))))
theorem ownB_ok (cl : Cls K C) (h : ownB K C = true) : Wp.OwnC K C := by
  obtain ⟨h1, h⟩ := He.ba h
  obtain ⟨h2, h⟩ := He.ba h
  obtain ⟨h3, h⟩ := He.ba h
  obtain ⟨h4, h⟩ := He.ba h
  obtain ⟨h5, h6⟩ := He.ba h
  refine ⟨cl, He.eqO_ok h1, He.eqO_ok h2, of_decide_eq_true h3, of_decide_eq_true h4, of_decide_eq_true h5, fun d => ?_⟩
  have q := List.all_eq_true.mp h6
  cases d <;> exact of_decide_eq_true (q _ (by simp [Wp.tyN]))
def eqB (K : PySem.W.Frag) (C : Addr) : Bool := decide (PySem.W.mroIn K C (.type "object") = some true) && (He.eqO (PySem.W.findIn K (.ref C) "__ne__") (some (some (.builtin "object.__ne__"))) && (He.eqO (PySem.W.findIn K (.ref C) "__eq__") (some (some (.ref (He.ma K C "__eq__")))) && PySem.W.isFn K (.ref (He.ma K C "__eq__"))))
theorem eqB_ok (h : eqB K C = true) : Wp.OwnEqual K C (He.ma K C "__eq__") := by
  obtain ⟨h1, h⟩ := He.ba h
  obtain ⟨h2, h⟩ := He.ba h
  obtain ⟨h3, h4⟩ := He.ba h
  exact ⟨of_decide_eq_true h1, He.eqO_ok h2, He.eqO_ok h3, h4⟩
/-- a tuple of the written part -/
def tupB (K : PySem.W.Frag) (t : Addr) (vs : List V) : Bool := match K.lookup t with
  | some ⟨.type c, _, .seq its _, _⟩ => decide (c = "tuple") && (He.relAll vs its.toList && decide (its.size ≤ 1000))
  | _ => false
theorem tupB_ok {t : Addr} {vs : List V} (h : tupB K t vs = true) (H : Hp) : SqT K H t vs := by
  unfold tupB at h
  cases q : K.lookup t with
  | none =>
    rw [q] at h
    cases h
  | some o =>
    obtain ⟨oc, od, dt, sl⟩ := o
    rw [q] at h
    cases oc with
    | type c =>
      cases dt with
      | seq its n =>
        obtain ⟨h1, h⟩ := He.ba (show (decide (c = "tuple") && (He.relAll vs its.toList && decide (its.size ≤ 1000))) = true from h)
        obtain ⟨h2, h3⟩ := He.ba h
        have h1 := of_decide_eq_true h1
        have h3 := of_decide_eq_true h3
        subst h1
        exact .inr ⟨_, its, n, q, rfl, rfl, by rw [sizeLine_eq]; omega, He.relAll_ok h2⟩
      | _ => cases h
    | _ => cases h
/-- a keyword-only default of the def at f, if it is an object -/
def kwdAt (f : Str × Option Str) (x : Str) (K : PySem.W.Frag) : Addr := match K.lookup (He.fAd K f) with
  | some ⟨_, _, .func fd, _⟩ => (match fd.kwdefaults with
    | .ref D => (match PySem.W.nsIn K D x with
      | some (some (.ref a)) => a
      | _ => 0)
    | _ => 0)
  | _ => 0
/-- a constant of a class, read off the class -/
def conB (K : PySem.W.Frag) (C : Addr) (f : Str) (v : V) : Bool := PySem.W.readsIn K C (.type "type") && (He.eqO (PySem.W.specialIn K (.ref C) "__getattribute__") (some (some (.builtin "type.__getattribute__"))) && (match PySem.W.findCls K (.ref C) (.type "type") f with
  | some (.val u) => He.relB v u
  | _ => false))
theorem conB_ok {f : Str} {v : V} (h : conB K C f v = true) : ClX.CRead K C (.type "type") ∧ ∃ u, ClX.CVal K C (.type "type") f v u := by
  obtain ⟨h1, h⟩ := He.ba h
  obtain ⟨h2, h3⟩ := He.ba h
  refine ⟨⟨h1, He.eqO_ok h2⟩, ?_⟩
  split at h3
  · rename_i u e
    exact ⟨u, e, He.relB_ok h3⟩
  · cases h3
end Hb
namespace Wp
open PySem PySem.Spec PyProof.Rows L2
theorem FunD_kbN {K : PySem.W.Frag} {x qual : Str} {params : Arguments} {body : List Stmt} {scope : Scope} {kws : List (Str × V)} {f : Addr} {fd : FuncData} {ps : List Str} (F : FunD K x qual params body scope [] kws f fd) (n : Nat) (ks : List Str)
    (h : ∀ (kV doc pm : Value) (an : Option Addr) (cdv ct : Value) (us ws : List Value), us.length = n → ws.length = ks.length → bindArgs (PySem.W.fnOf x qual params body scope .none kV doc pm an cdv ct) ⟨us, ks.zip ws⟩ = pure (ps.zip (us ++ ws))) :
    KBn K fd ps n ks (fun us ws => us ++ ws) (fun vs zs => vs ++ zs) := by
  obtain ⟨oc, od, dV, kV, doc, pm, an, cdv, ct, osl, rfl, lk, hcd, hD, hK⟩ := F.ex
  rcases hD with ⟨_, rfl⟩ | ⟨e, _⟩
  · exact ⟨fun s us ws _ l1 l2 => .of_eq (h kV doc pm an cdv ct us ws l1 l2), fun a b => a.append b⟩
  · exact absurd rfl e
end Wp
set_option Elab.async false
set_option linter.all false
set_option maxRecDepth 100000
set_option maxHeartbeats 0
namespace Wh
open PySem PySem.Spec PyProof.Rows L2
open Wp hiding Same.refl Same.trans same_new boot_all run_own
/-! ## the head: facts by names -/

def dd (x : Str) (i : Nat) : He.DefD := ⟨(x, none), x, x, defArgs (top i), defBody (top i), defScope (top i), [], []⟩
def dm (C x q : Str) (i j : Nat) (kw : List (Str × He.Dv)) : He.DefD := ⟨(C, some x), x, q, defArgs (meth i j), defBody (meth i j), defScope (meth i j), [], kw⟩
def fn : List He.DefD := [dd "is_integer" 16, dd "is_word" 18, dd "is_field_name" 19, dd "is_kind_name" 20, dd "is_default" 22, dd "are_different" 23, dd "_fits_mode" 43, dd "_is_was" 44, dm "Field" "__init__" "Field.__init__" 45 0 [("target", .non), ("default", .int 0), ("was", .adr (Hb.kwdAt ("Field", some "__init__") "was"))], dm "Field" "__eq__" "Field.__eq__" 45 1 [], dd "_are_fields" 46, dd "_can_be" 47, dm "Kind" "__init__" "Kind.__init__" 48 0 [("base", .non), ("frozen", .bl false), ("heirs", .bl false), ("key", .non), ("registered", .bl false)], dm "Kind" "__eq__" "Kind.__eq__" 48 1 [], dm "BadField" "__init__" "BadField.__init__" 3 0 [], dm "BadKind" "__init__" "BadKind.__init__" 4 0 [], dm "UnknownKind" "__init__" "UnknownKind.__init__" 6 0 [], dm "UnknownField" "__init__" "UnknownField.__init__" 7 0 [], dd "_all_fields" 51, dd "_check_kinds" 49, dd "_holds_alone" 50, dd "_far_from" 52, dm "House" "_lets" "House._lets" 53 7 [], dm "House" "_leads_from" "House._leads_from" 53 6 [], dm "House" "_check_frozen" "House._check_frozen" 53 8 [], dm "House" "__init__" "House.__init__" 53 2 [], dm "House" "__eq__" "House.__eq__" 53 3 [], dm "House" "__contains__" "House.__contains__" 53 5 [], dm "House" "_check" "House._check" 53 9 [], dm "House" "fields_of" "House.fields_of" 53 11 [], dm "House" "field_of" "House.field_of" 53 12 [], dd "_fits" 33, dd "source_field" 34, dd "_law_draw" 56, dd "_law_pot" 55, dd "_law_labels" 57, dd "_law_kind_names" 58, dd "_law_preset" 60, dd "_law_field" 61, dd "_law_row" 64, dd "_law_fields" 65, dd "_law_takes" 67, dd "_law_built" 63, dd "_law_house" 62, dd "_law_changed_fields" 69, dd "_law_edition" 70, dd "is_index" 17, dd "is_mark_value" 21, dd "_entry_kind" 25, dd "_are_admitted" 27, dd "_can_hold" 26, dd "_is_entry" 28, dd "full_values" 29, dd "_is_kept" 35, dd "_takes_twice" 36, dd "reader_fault" 37, dd "led" 38, dd "_law_admits" 66, dd "_law_is_doubled" 68, dd "_law_leads" 71, dd "_law_mark" 59, dd "_law_values" 72, dd "_law_things" 73, dd "_law_same" 77, dd "_law_worth" 78, dd "_law_led_things" 79, dd "_law_web_right" 80, dd "_law_right" 81, dm "House" "kind_named" "House.kind_named" 53 10 [], dm "House" "__len__" "House.__len__" 53 4 [], dm "House" "admitted" "House.admitted" 53 22 [], dm "Web" "__init__" "Web.__init__" 31 2 [("here", .int 0), ("old", .non)], dm "Web" "__eq__" "Web.__eq__" 31 3 [], dm "Web" "__len__" "Web.__len__" 31 4 [], dm "Web" "__contains__" "Web.__contains__" 31 5 [], dm "Web" "_check" "Web._check" 31 8 [], dm "Web" "kind_of" "Web.kind_of" 31 10 [], dm "Web" "_value" "Web._value" 31 9 [], dm "Web" "__getitem__" "Web.__getitem__" 31 6 [], dm "Web" "things" "Web.things" 31 11 [], dd "law" 82]
def fa : List He.Fa := [.glo "is_integer", .glo "is_word", .glo "is_field_name", .glo "is_kind_name", .glo "is_default", .glo "are_different", .glo "_fits_mode", .glo "_is_was", .glo "_are_fields", .glo "_can_be", .glo "_all_fields", .glo "_check_kinds", .glo "_holds_alone", .glo "_far_from", .glo "_fits", .glo "source_field", .glo "_law_draw", .glo "_law_pot", .glo "_law_labels", .glo "_law_kind_names", .glo "_law_preset", .glo "_law_field", .glo "_law_row", .glo "_law_fields", .glo "_law_takes", .glo "_law_built", .glo "_law_house", .glo "_law_changed_fields", .glo "_law_edition", .glo "is_index", .glo "is_mark_value", .glo "_entry_kind", .glo "_are_admitted", .glo "_can_hold", .glo "_is_entry", .glo "full_values", .glo "_is_kept", .glo "_takes_twice", .glo "reader_fault", .glo "led", .glo "_law_admits", .glo "_law_is_doubled", .glo "_law_leads", .glo "_law_mark", .glo "_law_values", .glo "_law_things", .glo "_law_same", .glo "_law_worth", .glo "_law_led_things", .glo "_law_web_right", .glo "_law_right", .glo "law", .glo "Field", .glo "Kind", .glo "House", .glo "Web", .glo "BadField", .glo "BadKind", .glo "UnknownKind", .glo "UnknownField", .glo "WayError", .free "isinstance", .free "int", .free "bool", .free "str", .free "len", .free "list", .free "tuple", .free "all", .free "set", .free "repr", .free "range", .free "any", .free "abs", .free "max", .free "min", .free "enumerate", .free "zip", .free "dict", .int "MARK_BOUND" 1000000000000000000000000000000, .cls "Web", .mkr "Web", .noat "Web" "house", .noat "Web" "here", .noat "Web" "old", .noat "Web" "_kinds", .noat "Web" "_values", .meth "Web" "__len__", .meth "Web" "__contains__", .meth "Web" "_check", .meth "Web" "kind_of", .meth "Web" "_value", .meth "Web" "__getitem__", .meth "Web" "things", .meth "House" "kind_named", .meth "House" "__len__", .meth "House" "admitted", .str "SMALL" smallS, .str "LARGE" largeS, .int "NAME_LETTERS" 8, .int "DEFAULT_BOUND" 1000000000000, .str "ANY" "any", .int "OLD_NAMES" 2, .cls "Field", .cls "Kind", .cls "House", .noat "Field" "name", .noat "Field" "mode", .noat "Field" "target", .noat "Field" "default", .noat "Field" "was", .noat "Kind" "name", .noat "Kind" "fields", .noat "Kind" "base", .noat "Kind" "frozen", .noat "Kind" "heirs", .noat "Kind" "key", .noat "Kind" "registered", .noat "House" "root", .noat "House" "names", .noat "House" "_kinds", .noat "House" "_by_name", .noat "House" "_fields", .noat "House" "_leads", .noat "House" "_far", .mkr "Field", .mkr "Kind", .mkr "House", .noat "BadField" "name", .noat "BadKind" "name", .noat "UnknownKind" "name", .noat "UnknownField" "name", .noat "UnknownField" "kind", .meth "BadField" "__init__", .meth "BadKind" "__init__", .meth "UnknownKind" "__init__", .meth "UnknownField" "__init__", .meth "House" "_lets", .meth "House" "_leads_from", .meth "House" "_check_frozen", .meth "House" "__contains__", .meth "House" "_check", .meth "House" "fields_of", .meth "House" "field_of", .glo "SLOT_MODES"]
def exs (K : PySem.W.Frag) : List Bool := [Hb.tupB K (He.ga K "SLOT_MODES") [.str "link", .str "list"], Hb.ownB K (He.ga K "Field"), Hb.ownB K (He.ga K "Kind"), Hb.ownB K (He.ga K "House"), Hb.conB K (He.ga K "House") "FIELDS" (.int 10), Hb.conB K (He.ga K "House") "KINDS" (.int 12), decide (He.ga K "Field" ≠ He.ga K "House"), decide (He.ga K "Kind" ≠ He.ga K "House"), Hb.ownB K (He.ga K "Web"), Hb.conB K (He.ga K "Web") "THINGS" (.int 4000), Hb.conB K (He.ga K "Web") "PLACES" (.int 200), decide (He.ga K "Field" ≠ He.ga K "Web"), decide (He.ga K "Kind" ≠ He.ga K "Web"), decide (He.ga K "House" ≠ He.ga K "Web"), PySem.W.fnIn K (He.ma K (He.ga K "Web") "__getitem__"), Hb.oexB K (He.ga K "BadField"), Hb.excB K (He.ga K "BadField"), Hb.oexB K (He.ga K "BadKind"), Hb.excB K (He.ga K "BadKind"), Hb.oexB K (He.ga K "UnknownKind"), Hb.excB K (He.ga K "UnknownKind"), Hb.oexB K (He.ga K "UnknownField"), Hb.excB K (He.ga K "UnknownField"), Hb.eqB K (He.ga K "Field"), PySem.W.notFirst K (He.ga K "Field") (.ref (He.ga K "Field")), Hb.eqB K (He.ga K "Kind"), PySem.W.notFirst K (He.ga K "Kind") (.ref (He.ga K "Kind")), Hb.eqB K (He.ga K "House"), PySem.W.notFirst K (He.ga K "House") (.ref (He.ga K "House")), Hb.eqB K (He.ga K "Web"), PySem.W.notFirst K (He.ga K "Web") (.ref (He.ga K "Web"))]
abbrev AlX : Type := Bool × He.AlD
def obsX (K : PySem.W.Frag) : AlX := ((exs K).all fun b => b, He.obsD fa fn K)
def valX : AlX := (true, He.valD fn)
/-- where the facts stand -/
def spots : List Addr := [3, 31, 51, 70, 108, 127, 174, 181, 186, 193, 198, 205, 212, 219, 226, 233, 238, 243, 250, 410, 421, 428, 435, 440, 447, 452, 453, 460, 465, 491, 500, 505, 530, 541, 546, 553, 558, 734, 745, 752, 757, 762, 769, 776, 783, 788, 793, 798, 805, 812, 817, 822, 827, 832, 837, 842, 847, 871, 878, 885, 892, 899, 906, 30, 50, 69, 107, 126, 173, 180, 185, 192, 197, 204, 211, 218, 225, 232, 237, 242, 249, 409, 420, 427, 434, 439, 446, 451, 459, 464, 490, 499, 504, 529, 540, 545, 552, 557, 733, 744, 751, 756, 761, 768, 775, 782, 787, 792, 797, 804, 811, 816, 821, 826, 831, 836, 841, 846, 870, 877, 884, 891, 898, 905, 48, 67, 105, 124, 268, 275, 282, 289, 296, 310, 317, 324, 329, 481, 488, 520, 527, 570, 577, 584, 591, 596, 603, 608, 615, 622, 629, 636, 702, 47, 66, 104, 123, 267, 263, 274, 281, 288, 295, 309, 316, 323, 328, 480, 474, 487, 519, 513, 526, 569, 576, 583, 590, 595, 602, 607, 614, 621, 628, 635, 701, 2]
def obsXG (n : Nat) (g : Addr → Option Obj) : AlX := obsX (He.frG g spots)
def hk : PySem.W.Hook where
  α := AlX
  obs := fun s => obsXG 6 s.heap.get?
  val := fun _ => valX
  says := fun _ h => ∃ K : PySem.W.Frag, K.In h ∧ obsX K = valX
  of := fun _ _ e => ⟨_, He.frG_in, e⟩
  keeps := fun _ _ _ ⟨K, hK, c⟩ k => ⟨K, PySem.W.Frag.In.keeps hK k, c⟩
abbrev R : PySem.W.OpenRow := PySem.W.OpenLaw.row PySem.Challenge.rw_waypairs_k36_webs_led
def ob (s : PySem.W.SharedT) : AlX := obsXG 6 (HandSHeadRun.getT s)
theorem ob_eq (s : PySem.W.SharedT) : ob s = hk.obs s.abs := by
  have e : HandSHeadRun.getT s = s.abs.heap.get? := funext (HandSHeadRun.getT_eq s)
  show obsXG 6 (HandSHeadRun.getT s) = obsXG 6 s.abs.heap.get?
  rw [e]
end Wh
namespace Wr
open PySem PySem.Spec HandSHeadRun PySem.W PySem.Calls PyProof.Rows
open Wh (R ob hk)
theorem map3 {α β γ δ : Type} {a : β} {b : γ} {c : δ} (X : Option α) (A : α → β) (B : α → γ) (C : α → δ) (h1 : X.map A = some a) (h2 : X.map B = some b) (h3 : X.map C = some c) : X.map (fun s => (A s, B s, C s)) = some (a, b, c) := by
  cases X with
  | none => cases h1
  | some s =>
    have e1 : A s = a := Option.some.inj h1
    have e2 : B s = b := Option.some.inj h2
    have e3 : C s = c := Option.some.inj h3
    subst e1 e2 e3
    rfl
def loose : List PySem.Str := ((["_wall", "WayError", "BadField", "BadKind", "BadHouse", "UnknownKind", "UnknownField", "BadWeb", "BadReader", "is_integer", "is_index", "is_word", "is_field_name", "is_kind_name", "is_mark_value", "is_default", "are_different", "_entry_kind", "_can_hold", "_are_admitted", "_is_entry", "full_values", "renumbered", "Web", "_fits"] : List PySem.Str) ++ (["source_field", "_is_kept", "_takes_twice", "reader_fault", "led", "_fits_mode", "_is_was", "Field", "_are_fields", "_can_be", "Kind", "_check_kinds", "_holds_alone", "_all_fields", "_far_from", "House", "_law_pot", "_law_draw", "_law_labels", "_law_kind_names", "_law_mark", "_law_preset", "_law_field", "_law_house", "_law_built"] : List PySem.Str) ++ (["_law_row", "_law_fields", "_law_admits", "_law_takes", "_law_is_doubled", "_law_changed_fields", "_law_edition", "_law_leads", "_law_values", "_law_things", "_law_held", "_law_met", "_law_renumbered", "_law_same", "_law_worth", "_law_led_things", "_law_web_right", "_law_right", "__name__", "__name__", "SMALL", "LARGE", "NAME_LETTERS", "MARK_BOUND", "DEFAULT_BOUND"] : List PySem.Str) ++ (["__name__", "__name__", "__name__", "SLOT_MODES", "ANY", "OLD_NAMES", "__name__"] : List PySem.Str))
theorem runA (w : PySem.World) : ∀ os : PySem.OsState, (endF (stepQ (denQ tabQ) R.prog w) 8000 R.prog w os).map (fun s => looksF R.prog (boot_heap w.params) s.abs) = some true := by
  intro os
  kernel_rfl
theorem runB (w : PySem.World) : ∀ os : PySem.OsState, (endF (stepQ (denQ tabQ) R.prog w) 8000 R.prog w os).map (fun s => seenQ (PySem.W.view R.prog [82]) loose (importedModules R.prog.main.body) (fun s => xlAt (PySem.W.view R.prog [82]) [] s && recOk R.toRowW.records s) s.abs) = some (openGood (PySem.W.view R.prog [82]) loose) := by
  intro os
  kernel_rfl
theorem runC (w : PySem.World) : ∀ os : PySem.OsState, (endF (stepQ (denQ tabQ) R.prog w) 8000 R.prog w os).map (fun s => ob s) = some (hk.val w) := by
  intro os
  kernel_rfl
theorem run (w : PySem.World) : HandSHeadRun.RunEq R (PySem.W.view R.prog [82]) hk ob 8000 loose w := fun os => map3 _ _ _ _ (runA w os) (runB w os) (runC w os)
end Wr
namespace Wh
end Wh
set_option Elab.async false
set_option linter.all false
set_option maxRecDepth 100000
set_option maxHeartbeats 4000000
/-! The eight sets, as numbers; which tell, as masks. -/
namespace W8
open PySem
abbrev Cd : Type := Fin 8
def wAsk : Str := "ask"
def wOld : Str := "old"
def wSet : Str := "set"
def wds : Cd → List Str
  | 0 => [] | 1 => [wAsk] | 2 => [wOld] | 3 => [wSet] | 4 => [wAsk, wOld] | 5 => [wAsk, wSet] | 6 => [wOld, wSet] | 7 => [wAsk, wOld, wSet]
def all3 : List Str := [wAsk, wOld, wSet]
def e8 : List Cd := [0, 1, 2, 3, 4, 5, 6, 7]
def sub (i j : Cd) : Bool := (wds i).all fun w => (wds j).contains w
def codeOf (ws : List Str) : Cd := if ws.contains wAsk then (if ws.contains wOld then (if ws.contains wSet then 7 else 4) else (if ws.contains wSet then 5 else 1)) else (if ws.contains wOld then (if ws.contains wSet then 6 else 2) else (if ws.contains wSet then 3 else 0))
def join (i j : Cd) : Cd := codeOf (wds i ++ wds j)
theorem wds_code (ws : List Str) : all3.filter (fun w => ws.contains w) = wds (codeOf ws) := by
  unfold all3 codeOf
  cases h1 : ws.contains wAsk <;> cases h2 : ws.contains wOld <;> cases h3 : ws.contains wSet <;> (simp only [List.filter_cons, List.filter_nil, h1, h2, h3, if_true, if_false, Bool.false_eq_true] <;> rfl)
theorem code_wds : ∀ m : Cd, codeOf (wds m) = m := by decide +kernel
theorem wds_inj : ∀ i j : Cd, wds i = wds j → i = j := by decide +kernel
theorem wds_join (i j : Cd) : all3.filter (fun w => (wds i).contains w || (wds j).contains w) = wds (join i j) := by
  unfold join
  rw [← wds_code]
  congr 1
  funext w
  simp [List.contains_eq_mem]
theorem wds_in : ∀ m : Cd, ∀ w ∈ wds m, w ∈ all3 := by decide +kernel
theorem wds_nodup : ∀ m : Cd, (wds m).Nodup := by decide +kernel
theorem wds_len : ∀ m : Cd, (wds m).length ≤ 3 := by decide +kernel
theorem sub_law : ∀ i j : Cd, ((wds i).filter fun w => !(wds j).contains w).isEmpty = sub i j := by decide +kernel
/-! ## masks -/
def upm (m : Cd) : Nat := e8.foldl (fun b i => if sub m i then b ||| (1 <<< i.val) else b) 0
def has (t : Nat) (m : Cd) : Bool := t.testBit m.val
def fl (t : Nat) : List Cd := e8.filter (has t)
def ql (t : Nat) : List Cd := e8.filter fun m => !has t m
def tel : List Cd → Nat
  | [] => 0
  | m :: ms => upm m ||| tel ms
def mm : List Cd → Nat
  | [] => 0
  | m :: ms => (1 <<< m.val) ||| mm ms
def upB (t : Nat) : Nat := tel (fl t)
def lst (ms : List Cd) : List Cd := ms.filter fun one => (ms.filter fun less => less != one && sub less one).isEmpty
def grs (ms : List Cd) : List Cd := ms.filter fun one => (ms.filter fun more => more != one && sub one more).isEmpty
theorem upm_has : ∀ m i : Cd, has (upm m) i = sub m i := by decide +kernel
theorem upm_lt : ∀ m : Cd, upm m < 256 := by decide +kernel
theorem or_lt {a b : Nat} (h : a < 256) (k : b < 256) : a ||| b < 256 := Nat.or_lt_two_pow (n := 8) h k
theorem tel_lt : ∀ ms : List Cd, tel ms < 256
  | [] => by decide
  | m :: ms => or_lt (upm_lt m) (tel_lt ms)
theorem mm_lt : ∀ ms : List Cd, mm ms < 256
  | [] => by decide
  | m :: ms => or_lt ((by decide : ∀ m : Cd, 1 <<< m.val < 256) m) (mm_lt ms)
theorem has_or (a b : Nat) (m : Cd) : has (a ||| b) m = (has a m || has b m) := Nat.testBit_or ..
theorem has_and (a b : Nat) (m : Cd) : has (a &&& b) m = (has a m && has b m) := Nat.testBit_and ..
theorem has_zero (m : Cd) : has 0 m = false := Nat.zero_testBit _
theorem tel_has (m : Cd) : ∀ ms : List Cd, has (tel ms) m = ms.any fun i => sub i m
  | [] => has_zero m
  | i :: ms => by
    show has (upm i ||| tel ms) m = _
    rw [has_or, upm_has, tel_has m ms]
    rfl
theorem mm_has (m : Cd) : ∀ ms : List Cd, has (mm ms) m = ms.any fun i => i == m
  | [] => has_zero m
  | i :: ms => by
    show has (1 <<< i.val ||| mm ms) m = _
    rw [has_or, mm_has m ms, (by decide +kernel : ∀ i m : Cd, has (1 <<< i.val) m = (i == m)) i m]
    rfl
theorem tel_append : ∀ a b : List Cd, tel (a ++ b) = tel a ||| tel b
  | [], b => (Nat.zero_or _).symm
  | m :: a, b => by
    show upm m ||| tel (a ++ b) = _
    rw [tel_append a b, ← Nat.or_assoc]
    rfl
theorem fl_eq_of {s t : Nat} (h : ∀ m, has s m = has t m) : fl s = fl t := by
  unfold fl
  rw [funext h]
theorem eq_of_has {s t : Nat} (hs : s < 256) (ht : t < 256) (h : ∀ m, has s m = has t m) : s = t := by
  apply Nat.eq_of_testBit_eq
  intro i
  by_cases k : i < 8
  · exact h ⟨i, k⟩
  · rw [Nat.testBit_lt_two_pow (Nat.lt_of_lt_of_le hs (Nat.pow_le_pow_right (n := 2) (by decide) (by omega) : 2 ^ 8 ≤ 2 ^ i)), Nat.testBit_lt_two_pow (Nat.lt_of_lt_of_le ht (Nat.pow_le_pow_right (n := 2) (by decide) (by omega) : 2 ^ 8 ≤ 2 ^ i))]
theorem upB_mm (ms : List Cd) : upB (mm ms) = tel ms := by
  refine eq_of_has (tel_lt _) (tel_lt _) fun m => ?_
  unfold upB
  rw [tel_has, tel_has]
  rw [Bool.eq_iff_iff, List.any_eq_true, List.any_eq_true]
  constructor
  · rintro ⟨i, hi, s⟩
    have h := (List.mem_filter.mp hi).2
    rw [mm_has, List.any_eq_true] at h
    obtain ⟨j, hj, e⟩ := h
    exact ⟨j, hj, by rw [beq_iff_eq.mp e]; exact s⟩
  · rintro ⟨i, hi, s⟩
    refine ⟨i, List.mem_filter.mpr ⟨(by decide : ∀ i : Cd, i ∈ e8) i, ?_⟩, s⟩
    rw [mm_has, List.any_eq_true]
    exact ⟨i, hi, beq_iff_eq.mpr rfl⟩
/-- what tells together with all that is larger -/
def Uc (t : Nat) : Prop := t < 256 ∧ upB t = t
instance (t : Nat) : Decidable (Uc t) := inferInstanceAs (Decidable (_ ∧ _))
theorem up_up : ∀ t, t < 256 → upB (upB t) = upB t := by decide +kernel
theorem uc_tel (ms : List Cd) : Uc (tel ms) := by
  refine ⟨tel_lt ms, ?_⟩
  rw [← upB_mm]
  exact up_up _ (mm_lt ms)
theorem lst_up : ∀ t, t < 256 → lst (fl t) = lst (fl (upB t)) := by decide +kernel
theorem lst_mm (ms : List Cd) : lst (fl (mm ms)) = lst (fl (tel ms)) := by
  rw [lst_up _ (mm_lt ms), upB_mm]
theorem tel_lst0 : ∀ t, t < 256 → upB t = t → tel (lst (fl t)) = t := by decide +kernel
theorem tel_lst {t : Nat} (h : Uc t) : tel (lst (fl t)) = t := tel_lst0 t h.1 h.2
theorem uc_or {s t : Nat} (h : Uc s) (k : Uc t) : Uc (s ||| t) := by
  rw [← tel_lst h, ← tel_lst k, ← tel_append]
  exact uc_tel _
theorem tel_join (i : Cd) : ∀ ns : List Cd, tel (ns.map (join i)) = upm i &&& tel ns
  | [] => (Nat.and_zero _).symm
  | n :: ns => by
    show upm (join i n) ||| tel (ns.map (join i)) = upm i &&& (upm n ||| tel ns)
    rw [tel_join i ns, Nat.and_or_distrib_left, (by decide +kernel : ∀ i n : Cd, upm (join i n) = upm i &&& upm n) i n]
theorem tel_joins (ns : List Cd) : ∀ ms : List Cd, tel (ms.flatMap fun i => ns.map (join i)) = tel ms &&& tel ns
  | [] => (Nat.zero_and _).symm
  | m :: ms => by
    rw [List.flatMap_cons, tel_append, tel_join, tel_joins ns ms]
    show _ = (upm m ||| tel ms) &&& tel ns
    rw [Nat.and_or_distrib_right]
theorem uc_and {s t : Nat} (h : Uc s) (k : Uc t) : Uc (s &&& t) := by
  rw [← tel_lst h, ← tel_lst k, ← tel_joins]
  exact uc_tel _
theorem uc_zero : Uc 0 := by decide +kernel
/-! ## what the program says is what the law says -/
theorem tells_has {t : Nat} (h : Uc t) (m : Cd) : ((lst (fl t)).any fun i => sub i m) = has t m := by
  rw [← tel_has, tel_lst h]
theorem any_lst (ms : List Cd) : (ms.filter fun one => !((ms.map fun other => sub other one && (other != one)).any id)) = lst ms := by
  unfold lst
  congr 1
  funext one
  rw [Bool.eq_iff_iff]
  simp [List.filter_eq_nil_iff, List.any_map]
  constructor
  · intro h a ha hn
    exact Bool.eq_false_iff.mpr fun hs => hn (h a ha hs)
  · intro h a ha hs
    by_cases e : a = one
    · exact e
    · exact absurd hs (by simpa using h a ha e)
theorem any_grs (ms : List Cd) : (ms.filter fun one => !((ms.map fun other => sub one other && (one != other)).any id)) = grs ms := by
  unfold grs
  congr 1
  funext one
  rw [Bool.eq_iff_iff]
  simp [List.filter_eq_nil_iff, List.any_map]
  constructor
  · intro h a ha hn
    exact Bool.eq_false_iff.mpr fun hs => hn (h a ha hs).symm
  · intro h a ha hs
    by_cases e : a = one
    · exact e.symm
    · exact absurd hs (by simpa using h a ha e)
theorem quiet0 : ∀ t, t < 256 → upB t = t → (lst (fl t)).isEmpty = (fl t).isEmpty := by decide +kernel
theorem lst_inj0 : ∀ s, s < 256 → upB s = s → ∀ t, t < 256 → upB t = t → decide (lst (fl s) = lst (fl t)) = decide (fl s = fl t) := by decide +kernel
theorem within0 : ∀ s, s < 256 → upB s = s → ∀ t, t < 256 → upB t = t → (lst (fl s)).all (has t) = ((fl s).filter fun m => !has t m).isEmpty := by decide +kernel
theorem mem_fl {t : Nat} {m : Cd} : (fl t).contains m = has t m := by
  rw [Bool.eq_iff_iff]
  simp [fl, List.mem_filter, (by decide : ∀ i : Cd, i ∈ e8) m]
theorem fl_or (s t : Nat) : (e8.filter fun m => (fl s).contains m || (fl t).contains m) = fl (s ||| t) := by
  unfold fl
  congr 1
  funext m
  have := mem_fl (t := s) (m := m)
  have q := mem_fl (t := t) (m := m)
  unfold fl at this q
  rw [this, q, has_or]
theorem fl_and (s t : Nat) : ((fl s).filter fun m => (fl t).contains m) = fl (s &&& t) := by
  unfold fl
  rw [List.filter_filter]
  congr 1
  funext m
  have q := mem_fl (t := t) (m := m)
  unfold fl at q
  rw [q, has_and, Bool.and_comm]
theorem fl_tel (ms : List Cd) : (e8.filter fun one => !(ms.filter fun less => sub less one).isEmpty) = fl (tel ms) := by
  unfold fl
  congr 1
  funext m
  rw [tel_has, Bool.eq_iff_iff]
  simp [List.filter_eq_nil_iff]
theorem ql_eq (t : Nat) : (e8.filter fun m => !(fl t).contains m) = ql t := by
  unfold ql
  congr 1
  funext m
  rw [mem_fl]
theorem fl_len (t : Nat) : (fl t).length ≤ 8 := List.length_filter_le ..
theorem ql_len (t : Nat) : (ql t).length ≤ 8 := List.length_filter_le ..
theorem lst_len (ms : List Cd) : (lst ms).length ≤ ms.length := List.length_filter_le ..
theorem grs_len (ms : List Cd) : (grs ms).length ≤ ms.length := List.length_filter_le ..
end W8
set_option Elab.async false
set_option linter.all false
set_option maxRecDepth 100000
set_option maxHeartbeats 4000000
/-! What stands in the heap, told by codes; comprehensions over it. -/
namespace W8
open PySem PySem.Spec PyProof.Rows L2
theorem same_new {H : Hp} {D : Addr} {o : HO} (h : H D = none) : Same H (upd H D o) := fun b u e => by
  rw [upd_ne (ne_of_none e h)]
  exact e
end W8
namespace L2
open PySem PySem.Spec PyProof.Rows
/-- a new thing filled anew -/
theorem Same.over {H H1 : Hp} {D : Addr} {o : HO} (a : Same H H1) (h : H D = Option.none) : Same H (upd H1 D o) := fun b u e => by
  rw [upd_ne (ne_of_none e h)]
  exact a _ _ e
theorem Same.sqT {K : PySem.W.Frag} {H H' : Hp} {q : Addr} {xs : List V} (k : Same H H') (h : SqT K H q xs) : SqT K H' q xs := by
  rcases h with (h | ⟨o, h⟩) | h
  · exact .inl (.inl (k _ _ h))
  · exact .inl (.inr ⟨o, k _ _ h⟩)
  · exact .inr h
end L2
namespace W8
open PySem PySem.Spec PyProof.Rows L2
abbrev Rp (α : Type) := Hp → V → α → Prop
/-- all but lists is as it was -/
def Kp (H H' : Hp) : Prop := ∀ b o, (∀ xs, o ≠ .lst xs) → H b = some o → H' b = some o
theorem Kp.of {H H' : Hp} (s : Same H H') : Kp H H' := fun b o _ e => s b o e
theorem Kp.refl (H : Hp) : Kp H H := fun _ _ _ e => e
theorem Kp.trans {H H1 H2 : Hp} (a : Kp H H1) (b : Kp H1 H2) : Kp H H2 := fun c o n e => b c o n (a c o n e)
theorem Kp.lst {H : Hp} {D : Addr} {ys zs : List V} (h : H D = some (.lst ys)) : Kp H (upd H D (.lst zs)) := fun b o n e => by
  rw [upd_ne fun z => by
    rw [z, h] at e
    exact n _ (Option.some.inj e).symm]
  exact e
def Mono {α : Type} (R : Rp α) : Prop := ∀ H H' v c, Kp H H' → R H v c → R H' v c
/-- each value stands for its code -/
def Ev {α : Type} (R : Rp α) (H : Hp) (xs : List V) (cs : List α) : Prop := xs.length = cs.length ∧ ∀ (i : Nat) x c, xs[i]? = some x → cs[i]? = some c → R H x c
section
variable {α β : Type} {R : Rp α} {R2 : Rp β} {H H' : Hp} {xs ys : List V} {cs ds : List α} {x : V} {c : α}
theorem Ev.nil : Ev R H [] [] := ⟨rfl, fun i x c h => by simp at h⟩
theorem Ev.kp (m : Mono R) (e : Ev R H xs cs) (s : Kp H H') : Ev R H' xs cs := ⟨e.1, fun i x c h k => m _ _ _ _ s (e.2 i x c h k)⟩
theorem Ev.same (m : Mono R) (e : Ev R H xs cs) (s : Same H H') : Ev R H' xs cs := e.kp m (.of s)
theorem Ev.cons (h : R H x c) (e : Ev R H xs cs) : Ev R H (x :: xs) (c :: cs) := by
  refine ⟨by simp [e.1], fun i y d h1 h2 => ?_⟩
  cases i with
  | zero =>
    simp at h1 h2
    subst h1 h2
    exact h
  | succ i => exact e.2 i y d (by simpa using h1) (by simpa using h2)
theorem Ev.uncons (e : Ev R H (x :: xs) (c :: cs)) : R H x c ∧ Ev R H xs cs := by
  refine ⟨e.2 0 x c rfl rfl, by simpa using e.1, fun i y d h1 h2 => e.2 (i + 1) y d (by simpa using h1) (by simpa using h2)⟩
theorem Ev.append (e : Ev R H xs cs) (f : Ev R H ys ds) : Ev R H (xs ++ ys) (cs ++ ds) := by
  refine ⟨by simp [e.1, f.1], fun i y d h1 h2 => ?_⟩
  by_cases k : i < xs.length
  · rw [List.getElem?_append_left k] at h1
    rw [List.getElem?_append_left (by rw [← e.1]; exact k)] at h2
    exact e.2 i y d h1 h2
  · rw [List.getElem?_append_right (by omega)] at h1
    rw [List.getElem?_append_right (by have := e.1; omega), ← e.1] at h2
    exact f.2 _ y d h1 h2
theorem Ev.at (e : Ev R H xs cs) {i : Nat} (h : xs[i]? = some x) : ∃ c, cs[i]? = some c ∧ R H x c := by
  have k : i < cs.length := by
    rw [← e.1]
    exact (List.getElem?_eq_some_iff.mp h).1
  exact ⟨cs[i], List.getElem?_eq_getElem k, e.2 i x _ h (List.getElem?_eq_getElem k)⟩
theorem Ev.imp {f : α → β} (k : ∀ x c, R H x c → R2 H x (f c)) (e : Ev R H xs cs) : Ev R2 H xs (cs.map f) := by
  refine ⟨by simp [e.1], fun i y d h1 h2 => ?_⟩
  obtain ⟨c, hc, r⟩ := e.at h1
  rw [List.getElem?_map, hc] at h2
  cases h2
  exact k _ _ r
theorem Ev.drop (e : Ev R H xs cs) (n : Nat) : Ev R H (xs.drop n) (cs.drop n) := by
  refine ⟨by simp [e.1], fun i y d h1 h2 => ?_⟩
  rw [List.getElem?_drop] at h1 h2
  exact e.2 _ _ _ h1 h2
end
theorem take_snoc {α : Type} {cs : List α} {j : Nat} {c : α} (h : cs[j]? = some c) : cs.take (j + 1) = cs.take j ++ [c] := by
  rw [List.take_add_one, h]
  rfl
/-- [e for x in xs if t] over what stands for cs: what p says of the code is kept, as f has it -/
theorem lc_sieve {α β : Type} {R : Rp α} {R2 : Rp β} (mR : Mono R) (mR2 : Mono R2) (p : α → Bool) (f : α → β) {J : It} {G : Hp → Prop} {xs : List V} {cs : List α} {tt : TT} {te : TE} {i : Nat} {σ : L2.St} {H : Hp} {D : Addr} {Q : Hp → Prop}
    (w : Walk J xs.length G (YAt xs)) (few : cs.length ≤ 1000) (hG : ∀ H', Same H H' → G H') (new : H D = none) (ev : Ev R H xs cs)
    (test : ∀ (x : V) (c : α) (H1 : Hp) (Rq : Bool → Hp → Prop), c ∈ cs → Same H H1 → R H1 x c → (∀ H2, Same H1 H2 → Rq (p c) H2) → tt ((σ.set i none).set i (some x)) H1 Rq)
    (elt : ∀ (x : V) (c : α) (H1 : Hp) (Rq : VK), c ∈ cs → p c = true → Same H H1 → R H1 x c → (∀ y H2, Same H1 H2 → R2 H2 y (f c) → Rq y H2) → te ((σ.set i none).set i (some x)) H1 Rq)
    (k : ∀ H' ys, Same H H' → H' D = some (.lst ys) → Ev R2 H' ys ((cs.filter p).map f) → Q H') :
    ∃ W : Nat → Nat → Hp → Prop, (∃ m, W 0 m (upd H D (.lst []))) ∧ ∀ j m H, W j m H →
      (J.stop j H ∧ Q H) ∨ (J.go j H ∧ ∃ Nx : Hp → Prop, (∀ H', Nx H' → ∃ m', m' < m ∧ W (j + 1) m' H') ∧ ∀ x H', J.yld j H x H' → gName i x (wipe σ [i]) H' fun σ2 H2 => wipe σ2 [i] = wipe σ [i] ∧ tt σ2 H2 fun b H3 =>
        if b = true then te σ2 H3 fun y H4 => ∃ acc, H4 D = some (.lst acc) ∧ acc.length < sizeLine ∧ Nx (upd H4 D (.lst (acc ++ [y]))) else Nx H3) := by
  refine lc_it w (fun j H' => Same H H' ∧ ∃ ys, H' D = some (.lst ys) ∧ Ev R2 H' ys (((cs.take j).filter p).map f)) ⟨same_new new, [], upd_same, Ev.nil⟩ (fun j H' _ q => hG H' q.1) ?_ fun H' q => ?_
  · rintro j x H1 H2 hj ⟨sm, ys, hD, ey⟩ ⟨rfl, hx⟩
    obtain ⟨c, hc, r⟩ := ev.at hx
    have mc : c ∈ cs := List.mem_of_getElem? hc
    have rc := mR _ _ _ _ (.of sm) r
    refine ⟨by simp [wipe, List.set_set], test x c H2 _ mc sm rc fun H3 s3 => ?_⟩
    cases hp : p c with
    | false =>
      rw [if_neg Bool.false_ne_true]
      refine ⟨sm.trans s3, ys, s3 _ _ hD, ?_⟩
      rw [take_snoc hc, List.filter_append, List.filter_cons, if_neg (by rw [hp]; exact Bool.false_ne_true), List.filter_nil, List.append_nil]
      exact ey.same mR2 s3
    | true =>
      rw [if_pos rfl]
      refine elt x c H3 _ mc hp (sm.trans s3) (mR _ _ _ _ (.of s3) rc) fun y H4 s4 r4 => ?_
      have s5 := s3.trans s4
      refine ⟨ys, s5 _ _ hD, ?_, (sm.trans s5).over new, ys ++ [y], upd_same, ?_⟩
      · rw [ey.1, List.length_map, sizeLine_eq]
        have := List.length_filter_le p (cs.take j)
        have := List.length_take_le j cs
        have : (cs.take j).length ≤ cs.length := by simp; omega
        omega
      · rw [take_snoc hc, List.filter_append, List.filter_cons, if_pos hp, List.filter_nil, List.map_append]
        have z : Ev R2 H4 (ys ++ [y]) (((cs.take j).filter p).map f ++ [c].map f) := (ey.same mR2 s5).append (Ev.cons r4 Ev.nil)
        exact z.kp mR2 (.lst (s5 _ _ hD))
  · obtain ⟨sm, ys, hD, ey⟩ := q
    have e : cs.take xs.length = cs := by rw [ev.1]; exact List.take_length
    rw [e] at ey
    exact k H' ys sm hD ey
/-! ## lists and tuples of what stands for codes -/
/-- a list (its own object, tracked) -/
def Ls {α : Type} (R : Rp α) (H : Hp) (l : Addr) (cs : List α) : Prop := ∃ xs, H l = some (.lst xs) ∧ Ev R H xs cs
def Tu {α : Type} (R : Rp α) (H : Hp) (l : Addr) (cs : List α) : Prop := ∃ xs, H l = some (.tup xs) ∧ Ev R H xs cs
theorem Ls.same {α : Type} {R : Rp α} {H H' : Hp} {l : Addr} {cs : List α} (m : Mono R) (h : Ls R H l cs) (s : Same H H') : Ls R H' l cs :=
  let ⟨xs, e, v⟩ := h
  ⟨xs, s _ _ e, v.same m s⟩
theorem Tu.kp {α : Type} {R : Rp α} {H H' : Hp} {l : Addr} {cs : List α} (m : Mono R) (h : Tu R H l cs) (s : Kp H H') : Tu R H' l cs :=
  let ⟨xs, e, v⟩ := h
  ⟨xs, s _ _ (fun _ z => by cases z) e, v.kp m s⟩
theorem Tu.same {α : Type} {R : Rp α} {H H' : Hp} {l : Addr} {cs : List α} (m : Mono R) (h : Tu R H l cs) (s : Same H H') : Tu R H' l cs := h.kp m (.of s)
/-- words -/
def rW : Rp Str := fun _ v w => v = .str w
def rB : Rp Bool := fun _ v b => v = .bl b
theorem mW : Mono rW := fun _ _ _ _ _ h => h
theorem mB : Mono rB := fun _ _ _ _ _ h => h
theorem ev_words {H : Hp} : ∀ ws : List Str, Ev rW H (ws.map V.str) ws
  | [] => Ev.nil
  | w :: ws => Ev.cons rfl (ev_words ws)
theorem ev_words_eq {H : Hp} {xs : List V} {ws : List Str} (e : Ev rW H xs ws) : xs = ws.map V.str := by
  apply List.ext_getElem (by simp [e.1])
  intro i h1 h2
  obtain ⟨c, hc, r⟩ := e.at (List.getElem?_eq_getElem h1)
  have k : i < ws.length := by simpa using h2
  rw [List.getElem?_eq_getElem k] at hc
  cases hc
  rw [r]
  simp
theorem ev_bools_eq {H : Hp} {xs : List V} {ws : List Bool} (e : Ev rB H xs ws) : xs = ws.map V.bl := by
  apply List.ext_getElem (by simp [e.1])
  intro i h1 h2
  obtain ⟨c, hc, r⟩ := e.at (List.getElem?_eq_getElem h1)
  have k : i < ws.length := by simpa using h2
  rw [List.getElem?_eq_getElem k] at hc
  cases hc
  rw [r]
  simp
/-- a set's words as a tuple -/
def rT : Rp Cd := fun H v m => ∃ a, v = .ref a ∧ H a = some (.tup ((wds m).map V.str))
theorem mT : Mono rT := fun _ _ _ _ s ⟨a, e, h⟩ => ⟨a, e, s _ _ (fun _ z => by cases z) h⟩
def dT (m : Cd) : PyData := .tuple ((wds m).map .str)
def dL (ms : List Cd) : PyData := .list (ms.map dT)
theorem str_beq_dec (x z : Str) : (x == z) = decide (x = z) := by
  by_cases e : x = z
  · simp [e]
  · rw [decide_eq_false e]
    exact Bool.eq_false_iff.mpr fun q => e (beq_iff_eq.mp q)
theorem eqv_str (x z : Str) : PyData.eqv (.str x) (.str z) = decide (x = z) := by
  show (x == z) = _
  exact str_beq_dec x z
theorem eqv_strs : ∀ w u : List Str, PyData.eqvAll (w.map PyData.str) (u.map PyData.str) = decide (w = u)
  | [], [] => rfl
  | [], _ :: _ => rfl
  | _ :: _, [] => rfl
  | x :: w, y :: u => by
    show (PyData.eqv (.str x) (.str y) && PyData.eqvAll _ _) = _
    rw [eqv_strs w u, eqv_str]
    by_cases e : x = y
    · by_cases z : w = u <;> simp [e, z]
    · simp [e]
theorem eqv_dT (m n : Cd) : PyData.eqv (dT m) (dT n) = decide (m = n) := by
  show PyData.eqvAll _ _ = _
  rw [eqv_strs]
  by_cases e : m = n
  · simp [e]
  · rw [decide_eq_false e]
    exact decide_eq_false fun z => e (wds_inj _ _ z)
theorem eqv_dTs : ∀ ms ns : List Cd, PyData.eqvAll (ms.map dT) (ns.map dT) = decide (ms = ns)
  | [], [] => rfl
  | [], _ :: _ => rfl
  | _ :: _, [] => rfl
  | x :: w, y :: u => by
    show (PyData.eqv (dT x) (dT y) && PyData.eqvAll _ _) = _
    rw [eqv_dTs w u, eqv_dT]
    by_cases e : x = y
    · by_cases z : w = u <;> simp [e, z]
    · simp [e]
theorem eqv_dL (ms ns : List Cd) : PyData.eqv (dL ms) (dL ns) = decide (ms = ns) := eqv_dTs ms ns
theorem any_dT (ms : List Cd) (m : Cd) : ((ms.map dT).any fun z => PyData.eqv z (dT m)) = ms.contains m := by
  induction ms with
  | nil => rfl
  | cons n ms ih =>
    rw [List.map_cons, List.any_cons, ih, eqv_dT, List.contains_cons]
    congr 1
    by_cases e : n = m
    · simp [e]
    · rw [decide_eq_false e]
      exact (Bool.eq_false_iff.mpr fun q => e (beq_iff_eq.mp q).symm).symm
def Ok3 (ws : List Str) : Prop := ∀ w ∈ ws, w ∈ all3
theorem lay3 : ∀ w ∈ all3, (PyData.str w).canLay0 = true := by decide +kernel
theorem ok3_wds (m : Cd) : Ok3 (wds m) := wds_in m
theorem strs_lay : ∀ ws : List Str, Ok3 ws → PyData.canLayAll0 (ws.map PyData.str) = true ∧ PyData.depthAll (ws.map PyData.str) ≤ 1
  | [], _ => ⟨rfl, by simp [PyData.depthAll]⟩
  | b :: r, ok => by
    obtain ⟨h1, h2⟩ := strs_lay r fun w hw => ok w (List.mem_cons_of_mem _ hw)
    refine ⟨?_, ?_⟩
    · show ((PyData.str b).canLay0 && PyData.canLayAll0 (r.map PyData.str)) = true
      rw [h1, lay3 b (ok b (List.mem_cons_self ..))]
      rfl
    · simp only [List.map_cons, PyData.depthAll, PyData.depth]
      omega
theorem dT_lay (m : Cd) : (dT m).canLay0 = true ∧ (dT m).depth ≤ 2 := by
  obtain ⟨h1, h2⟩ := strs_lay (wds m) (ok3_wds m)
  refine ⟨h1, ?_⟩
  show PyData.depthAll _ + 1 ≤ 2
  omega
theorem dTs_lay : ∀ ms : List Cd, PyData.canLayAll0 (ms.map dT) = true ∧ PyData.depthAll (ms.map dT) ≤ 2
  | [] => ⟨rfl, by simp [PyData.depthAll]⟩
  | b :: r => by
    obtain ⟨h1, h2⟩ := dTs_lay r
    obtain ⟨k1, k2⟩ := dT_lay b
    refine ⟨?_, ?_⟩
    · show ((dT b).canLay0 && PyData.canLayAll0 (r.map dT)) = true
      rw [h1, k1]
      rfl
    · simp only [List.map_cons, PyData.depthAll]
      omega
theorem dT_sh (m : Cd) : SeqAt.shaped (dT m) = true := by
  obtain ⟨h1, h2⟩ := dT_lay m
  simp only [SeqAt.shaped, Bool.and_eq_true, decide_eq_true_eq]
  exact ⟨h1, by omega⟩
theorem dL_sh (ms : List Cd) : SeqAt.shaped (dL ms) = true := by
  obtain ⟨h1, h2⟩ := dTs_lay ms
  simp only [SeqAt.shaped, Bool.and_eq_true, decide_eq_true_eq]
  refine ⟨h1, ?_⟩
  show PyData.depthAll _ + 1 ≤ 64
  omega
theorem strs_sh {ws : List Str} (ok : Ok3 ws) : SeqAt.shaped (.list (ws.map PyData.str)) = true := by
  obtain ⟨h1, h2⟩ := strs_lay ws ok
  simp only [SeqAt.shaped, Bool.and_eq_true, decide_eq_true_eq]
  refine ⟨h1, ?_⟩
  show PyData.depthAll _ + 1 ≤ 64
  omega
theorem dp_strs {K : PySem.W.Frag} {H : Hp} : ∀ ws : List Str, DpAll K H (ws.map V.str) (ws.map PyData.str)
  | [] => .nil
  | x :: r => .cons (.str x) (dp_strs r)
theorem dp_T {K : PySem.W.Frag} {H : Hp} {v : V} {m : Cd} (h : rT H v m) : Dp K H v (dT m) := by
  obtain ⟨a, rfl, h⟩ := h
  exact .tup (SqT.of h) (dp_strs _)
theorem dp_Ts {K : PySem.W.Frag} {H : Hp} : ∀ {xs : List V} {ms : List Cd}, Ev rT H xs ms → DpAll K H xs (ms.map dT)
  | [], [], _ => .nil
  | x :: xs, m :: ms, e => .cons (dp_T e.uncons.1) (dp_Ts e.uncons.2)
  | [], _ :: _, e => by cases e.1
  | _ :: _, [], e => by cases e.1
theorem dp_L {K : PySem.W.Frag} {H : Hp} {l : Addr} {ms : List Cd} (h : Ls rT H l ms) : Dp K H (.ref l) (dL ms) := by
  obtain ⟨xs, h, e⟩ := h
  exact .lst (SqL.of h) (dp_Ts e)
theorem inV_strs (n : Str) (xs : List Str) : inV (.str n) (xs.map V.str) = xs.contains n := by
  induction xs with
  | nil => rfl
  | cons x xs ih =>
    have e : inV (.str n) (V.str x :: xs.map V.str) = (eqV (.str x) (.str n) || inV (.str n) (xs.map V.str)) := rfl
    rw [List.map_cons, e, ih, List.contains_cons]
    show ((x == n) || _) = ((n == x) || _)
    rw [str_beq_dec, str_beq_dec]
    congr 1
    by_cases z : x = n
    · simp [z]
    · rw [decide_eq_false z, decide_eq_false fun q => z q.symm]
theorem flat_strs (ws : List Str) : (ws.map V.str).all flatV = true := by
  induction ws with
  | nil => rfl
  | cons a l ih =>
    rw [List.map_cons, List.all_cons, ih]
    rfl
end W8
set_option Elab.async false
set_option linter.all false
set_option maxRecDepth 100000
set_option maxHeartbeats 4000000
/-! Dicts by names: what stands behind each name, told by codes. -/
namespace Wh
open PySem PySem.Spec PyProof.Rows L2
open W8 (Ev Rp Kp Mono same_new take_snoc rW ev_words)
/-- all but dicts is as it was -/
def Kd (H H' : Hp) : Prop := ∀ b o, (∀ kvs, o ≠ .dK kvs) → H b = some o → H' b = some o
theorem Kd.of {H H' : Hp} (s : Same H H') : Kd H H' := fun b o _ e => s b o e
theorem Kd.dct {H : Hp} {D : Addr} {ys zs : List (Key × V)} (h : H D = some (.dK ys)) : Kd H (upd H D (.dK zs)) := fun b o n e => by
  rw [upd_ne fun z => by
    rw [z, h] at e
    exact n _ (Option.some.inj e).symm]
  exact e
def MonoD {α : Type} (R : Rp α) : Prop := ∀ H H' v c, Kd H H' → R H v c → R H' v c
theorem MonoD.ev {α : Type} {R : Rp α} {H H' : Hp} {xs : List V} {cs : List α} (m : MonoD R) (e : Ev R H xs cs) (s : Kd H H') : Ev R H' xs cs := ⟨e.1, fun i x c h k => m _ _ _ _ s (e.2 i x c h k)⟩
def kv2 (n : Str) (x : V) : Key × V := (Sum.inr n, x)
def kvz (ns : List Str) (xs : List V) : List (Key × V) := List.zipWith kv2 ns xs
/-- behind the names ns there stand cs -/
def Dc {α : Type} (R : Rp α) (H : Hp) (d : Addr) (ns : List Str) (cs : List α) : Prop := ∃ xs, H d = some (.dK (kvz ns xs)) ∧ xs.length = ns.length ∧ Ev R H xs cs
theorem Dc.same {α : Type} {R : Rp α} {H H' : Hp} {d : Addr} {ns : List Str} {cs : List α} (m : MonoD R) (h : Dc R H d ns cs) (s : Same H H') : Dc R H' d ns cs :=
  let ⟨xs, e, l, v⟩ := h
  ⟨xs, s _ _ e, l, m.ev v (.of s)⟩
theorem Dc.nil {α : Type} {R : Rp α} {H : Hp} {d : Addr} (h : H d = some (.dK [])) : Dc R H d [] [] := ⟨[], h, rfl, Ev.nil⟩
theorem key_ne {x y : Str} (h : ¬ x = y) : ¬ (Sum.inr x : Key) = Sum.inr y := fun z => h (Sum.inr.inj z)
theorem valV_kvz : ∀ (ns : List Str) (xs : List V) (n : Str), xs.length = ns.length → (n ∉ ns ∧ valV (kvz ns xs) (Sum.inr n) = none) ∨ ∃ i : Nat, ns[i]? = some n ∧ valV (kvz ns xs) (Sum.inr n) = xs[i]? ∧ ∃ x, xs[i]? = some x
  | [], [], n, _ => .inl ⟨by simp, rfl⟩
  | m :: ns, x :: xs, n, h => by
    by_cases e : m = n
    · subst e
      exact .inr ⟨0, rfl, valV_pos rfl, x, rfl⟩
    · have q : valV (kvz (m :: ns) (x :: xs)) (Sum.inr n) = valV (kvz ns xs) (Sum.inr n) := valV_neg (key_ne e)
      rcases valV_kvz ns xs n (by simpa using h) with ⟨h1, h2⟩ | ⟨i, h1, h2, y, h3⟩
      · exact .inl ⟨by simp [h1, Ne.symm e], q.trans h2⟩
      · exact .inr ⟨i + 1, by simpa using h1, q.trans h2, y, by simpa using h3⟩
  | [], _ :: _, _, h => by cases h
  | _ :: _, [], _, h => by cases h
section
variable {α : Type} {R : Rp α} {H : Hp} {d : Addr} {ns : List Str} {cs : List α} {n : Str}
/-- a name that is there -/
theorem Dc.get (h : Dc R H d ns cs) (hn : n ∈ ns) : ∃ (i : Nat) (x : V) (c : α), ns[i]? = some n ∧ cs[i]? = some c ∧ R H x c ∧ DGet H d (.str n) (some x) := by
  obtain ⟨xs, e, l, v⟩ := h
  rcases valV_kvz ns xs n l with ⟨h1, _⟩ | ⟨i, h1, h2, x, h3⟩
  · exact absurd hn h1
  · obtain ⟨c, hc, r⟩ := v.at h3
    have q := DGet.k (k := Sum.inr n) e
    rw [h2, h3] at q
    exact ⟨i, x, c, h1, hc, r, q⟩
/-- a name that is not -/
theorem Dc.no (h : Dc R H d ns cs) (hn : n ∉ ns) : DGet H d (.str n) none := by
  obtain ⟨xs, e, l, v⟩ := h
  rcases valV_kvz ns xs n l with ⟨_, h2⟩ | ⟨i, h1, _⟩
  · have q := DGet.k (k := Sum.inr n) e
    rw [h2] at q
    exact q
  · exact absurd (List.mem_of_getElem? h1) hn
/-- whether it is there -/
theorem Dc.has (h : Dc R H d ns cs) (n : Str) : ∃ o, DGet H d (.str n) o ∧ o.isSome = decide (n ∈ ns) := by
  by_cases hn : n ∈ ns
  · obtain ⟨i, x, c, _, _, _, g⟩ := h.get hn
    exact ⟨_, g, by rw [decide_eq_true hn]; rfl⟩
  · exact ⟨_, h.no hn, by rw [decide_eq_false hn]; rfl⟩
end
theorem kvz_length (ns : List Str) (xs : List V) (h : xs.length = ns.length) : (kvz ns xs).length = ns.length := by
  unfold kvz
  rw [List.length_zipWith, h, Nat.min_self]
theorem put_new {ns : List Str} {xs : List V} {n : Str} {x : V} (l : xs.length = ns.length) (h : n ∉ ns) : putK (kvz ns xs) (Sum.inr n) x = kvz (ns ++ [n]) (xs ++ [x]) := by
  have e : ¬ ((kvz ns xs).any fun kv => decide (kv.1 = (Sum.inr n : Key))) = true := by
    rw [List.any_eq_true]
    rintro ⟨kv, hk, e⟩
    have e := of_decide_eq_true e
    obtain ⟨i, hi, rfl⟩ := List.getElem_of_mem hk
    unfold kvz at e hi
    rw [List.getElem_zipWith] at e
    rw [List.length_zipWith] at hi
    have e := Sum.inr.inj e
    exact h (e ▸ List.getElem_mem _)
  unfold putK
  rw [if_neg e]
  unfold kvz
  rw [List.zipWith_append l.symm]
  rfl
/-- a new name at the end -/
theorem Dc.put {α : Type} {R : Rp α} {H : Hp} {d : Addr} {ns : List Str} {cs : List α} {n : Str} {x : V} {c : α} (m : MonoD R) (h : Dc R H d ns cs) (hn : n ∉ ns) (few : ns.length ≤ 1000) (r : R H x c) :
    ∃ H', DPut H d (.str n) x H' ∧ Dc R H' d (ns ++ [n]) (cs ++ [c]) ∧ (∀ b o, b ≠ d → H b = some o → H' b = some o) := by
  obtain ⟨xs, e, l, v⟩ := h
  refine ⟨_, DPut.k (k := Sum.inr n) e (by rw [kvz_length _ _ l, sizeLine_eq]; omega), ⟨xs ++ [x], ?_, by simp [l], ?_⟩, fun b o nb q => by rw [upd_ne nb]; exact q⟩
  · rw [upd_same, put_new l hn]
  · exact m.ev (v.append (Ev.cons r Ev.nil)) (.dct e)
/-- {n: e(n) for n in names}, the names different -/
theorem dc_sieve {α : Type} {R : Rp α} (mR : MonoD R) (f : Str → α) {K : PySem.W.Frag} {a : Addr} {ns : List Str} {tv : TE} {i : Nat} {σ : L2.St} {H : Hp} {D : Addr} {Q : Hp → Prop} (nd : ns.Nodup) (few : ns.length ≤ 1000) (hl : SqT K H a (ns.map V.str)) (hi : i < σ.length) (new : H D = none)
    (elt : ∀ (n : Str) (H1 : Hp) (Rq : VK), n ∈ ns → Same H H1 → (∀ y H2, Same H1 H2 → R H2 y (f n) → Rq y H2) → tv ((σ.set i none).set i (some (.str n))) H1 Rq)
    (k : ∀ H', Same H H' → Dc R H' D ns (ns.map f) → Q H') :
    ∃ W : Nat → Nat → Hp → Prop, (∃ m, W 0 m (upd H D (.dK []))) ∧ ∀ j m H, W j m H →
      ((Itt K a).stop j H ∧ Q H) ∨ ((Itt K a).go j H ∧ ∃ Nx : Hp → Prop, (∀ H', Nx H' → ∃ m', m' < m ∧ W (j + 1) m' H') ∧ ∀ x H', (Itt K a).yld j H x H' → gName i x (wipe σ [i]) H' fun σ2 H2 => wipe σ2 [i] = wipe σ [i] ∧ tYes σ2 H2 fun b H3 =>
        if b = true then tVar i σ2 H3 fun y H4 => tv σ2 H4 fun z H5 => ∃ kvs k, y = kV k ∧ H5 D = some (.dK kvs) ∧ kvs.length < sizeLine ∧ Nx (upd H5 D (.dK (putK kvs k z))) else Nx H3) := by
  refine dc_tup (xs := ns.map V.str) (fun j H' => Same H H' ∧ Dc R H' D (ns.take j) ((ns.take j).map f)) ⟨same_new new, Dc.nil upd_same⟩ (fun j H' _ q => q.1.sqT hl) ?_ fun H' q => ?_
  · rintro j x H1 hx ⟨sm, xs, hD, l, ex⟩
    obtain ⟨n, hn, r⟩ := (ev_words (H := H) ns).at hx
    have r : x = .str n := r
    subst r
    have mn : n ∈ ns := List.mem_of_getElem? hn
    refine ⟨by simp [wipe, List.set_set], ?_⟩
    dsimp only [tYes]
    rw [if_pos rfl]
    refine ⟨.str n, by simp [wipe, hi], elt n H1 _ mn sm fun y H2 s2 r2 => ?_⟩
    have hnew : n ∉ ns.take j := fun z => by
      obtain ⟨q, hq, e⟩ := List.getElem_of_mem z
      rw [List.length_take] at hq
      rw [List.getElem_take] at e
      have k1 : ns[q]? = some n := by rw [← e]; exact List.getElem?_eq_getElem _
      have := (List.getElem?_inj (i := q) (j := j) (by omega) nd).mp (k1.trans hn.symm)
      omega
    refine ⟨_, Sum.inr n, rfl, s2 _ _ hD, ?_, ?_, ?_⟩
    · rw [kvz_length _ _ l, List.length_take, sizeLine_eq]
      omega
    · exact (sm.trans s2).over new
    · rw [take_snoc hn, List.map_append]
      refine ⟨xs ++ [y], ?_, by simp [l], ?_⟩
      · rw [upd_same, put_new l hnew]
      · exact mR.ev ((mR.ev ex (.of s2)).append (Ev.cons r2 Ev.nil)) (.dct (s2 _ _ hD))
  · obtain ⟨sm, d⟩ := q
    have e : ns.take (ns.map V.str).length = ns := by
      rw [List.length_map]
      exact List.take_length
    rw [e] at d
    exact k H' sm d
end Wh
set_option Elab.async false
set_option linter.all false
set_option maxRecDepth 100000
set_option maxHeartbeats 4000000
namespace Wh
open PySem PySem.Spec PyProof.Rows L2
open Wp hiding Same.refl Same.trans same_new
open W8 (Ev Rp Kp Mono same_new take_snoc rW rB mW mB ev_words ev_words_eq ev_bools_eq lc_sieve)
theorem ps_dead {X : Cx} {st : Stmt} : PS X st (fun _ _ _ => False) := ⟨fun _ _ _ _ _ _ h => h.elim⟩
/-! ## kinds as they stand -/
structure KD where
  n : Str
  fs : List FV
  b : Option Str
  f : Bool
  h : Bool
  k : Option Str
  r : Bool
deriving DecidableEq
def rF (K : PySem.W.Frag) (CF : Addr) : Rp FV := fun H v x => ∃ a, v = .ref a ∧ FieldAt K CF H a x
def TuK {α : Type} (K : PySem.W.Frag) (R : Rp α) (H : Hp) (l : Addr) (cs : List α) : Prop := ∃ xs, SqT K H l xs ∧ Ev R H xs cs
def rK (K : PySem.W.Frag) (CF CK : Addr) : Rp KD := fun H v x => ∃ a dx tf, v = .ref a ∧ H a = some (.ins CK dx (fsK (.str x.n) (.ref tf) (tv x.b) (.bl x.f) (.bl x.h) (tv x.k) (.bl x.r))) ∧ TuK K (rF K CF) H tf x.fs
/-- a relation between heaps under which tuples and things stay -/
structure Stay (H H' : Hp) : Prop where
  t : ∀ b xs, H b = some (.tup xs) → H' b = some (.tup xs)
  z : ∀ b o xs, H b = some (.frz o (.tup xs)) → H' b = some (.frz o (.tup xs))
  i : ∀ b C d fs, H b = some (.ins C d fs) → H' b = some (.ins C d fs)
theorem Stay.kp {H H' : Hp} (s : Kp H H') : Stay H H' := ⟨fun b xs e => s _ _ (fun _ z => by cases z) e, fun b o xs e => s _ _ (fun _ z => by cases z) e, fun b C d fs e => s _ _ (fun _ z => by cases z) e⟩
theorem Stay.kd {H H' : Hp} (s : Kd H H') : Stay H H' := ⟨fun b xs e => s _ _ (fun _ z => by cases z) e, fun b o xs e => s _ _ (fun _ z => by cases z) e, fun b C d fs e => s _ _ (fun _ z => by cases z) e⟩
theorem Stay.sqT {K : PySem.W.Frag} {H H' : Hp} {a : Addr} {xs : List V} (s : Stay H H') (h : SqT K H a xs) : SqT K H' a xs := by
  rcases h with (h | ⟨o, h⟩) | h
  · exact .inl (.inl (s.t _ _ h))
  · exact .inl (.inr ⟨o, s.z _ _ _ h⟩)
  · exact .inr h
section
variable {K : PySem.W.Frag} {CF CK : Addr} {H H' : Hp} {v : V}
theorem rF_stay {x : FV} (s : Stay H H') (h : rF K CF H v x) : rF K CF H' v x := by
  obtain ⟨a, e, ⟨dx, tw, h1, h2⟩, sh⟩ := h
  exact ⟨a, e, ⟨dx, tw, s.i _ _ _ _ h1, s.sqT h2⟩, sh⟩
theorem TuK.stay {l : Addr} {cs : List FV} (s : Stay H H') (h : TuK K (rF K CF) H l cs) : TuK K (rF K CF) H' l cs := by
  obtain ⟨xs, h1, h2⟩ := h
  exact ⟨xs, s.sqT h1, h2.1, fun i x c a b => rF_stay s (h2.2 i x c a b)⟩
theorem rK_stay {x : KD} (s : Stay H H') (h : rK K CF CK H v x) : rK K CF CK H' v x := by
  obtain ⟨a, dx, tf, e, h1, h2⟩ := h
  exact ⟨a, dx, tf, e, s.i _ _ _ _ h1, h2.stay s⟩
end
theorem mF (K : PySem.W.Frag) (CF : Addr) : Mono (rF K CF) := fun _ _ _ _ s => rF_stay (.kp s)
theorem mK (K : PySem.W.Frag) (CF CK : Addr) : Mono (rK K CF CK) := fun _ _ _ _ s => rK_stay (.kp s)
theorem dK (K : PySem.W.Frag) (CF CK : Addr) : MonoD (rK K CF CK) := fun _ _ _ _ s => rK_stay (.kd s)
/-- a tuple of fields as a value -/
def rTF (K : PySem.W.Frag) (CF : Addr) : Rp (List FV) := fun H v x => ∃ t, v = .ref t ∧ TuK K (rF K CF) H t x
theorem dTF (K : PySem.W.Frag) (CF : Addr) : MonoD (rTF K CF) := fun _ _ _ _ s ⟨t, e, h⟩ => ⟨t, e, h.stay (.kd s)⟩
theorem sTF {K : PySem.W.Frag} {CF : Addr} {H H' : Hp} {v : V} {x : List FV} (h : rTF K CF H v x) (s : Same H H') : rTF K CF H' v x := dTF K CF _ _ _ _ (.of s) h
/-- a kind's fields, those of its base ahead -/
def baseFs (ks : List KD) (b : Str) : List FV := ((ks.find? fun e => decide (e.n = b)).map (·.fs)).getD []
def allF (ks : List KD) (x : KD) : List FV := match x.b with
  | none => x.fs
  | some b => baseFs ks b ++ x.fs
theorem find_at {ks : List KD} (nd : (ks.map (·.n)).Nodup) {i : Nat} {e : KD} (h : ks[i]? = some e) : (ks.find? fun z => decide (z.n = e.n)) = some e := by
  induction ks generalizing i with
  | nil => simp at h
  | cons x ks ih =>
    rw [List.map_cons, List.nodup_cons] at nd
    cases i with
    | zero =>
      simp at h
      subst h
      simp
    | succ i =>
      have h' : ks[i]? = some e := by simpa using h
      have ne : ¬ x.n = e.n := fun z => nd.1 (by rw [z]; exact List.mem_map_of_mem (List.mem_of_getElem? h'))
      rw [List.find?_cons, decide_eq_false ne]
      exact ih nd.2 h'
section
variable {P : Program} {w : World} {K : PySem.W.Frag} {mg : Str → Option Value} {base : Heap} {CF CK CH : Addr}
/-! ## _all_fields -/
abbrev sAll : Stmt := top 51
abbrev nAll : List Str := ["kind", "by_name"]
def spAll (K : PySem.W.Frag) (CF CK : Addr) : Sp := fun vs H Q _ => ∃ (v : V) (d : Addr) (x : KD) (ks : List KD), vs = [v, .ref d] ∧ rK K CF CK H v x ∧ Dc (rK K CF CK) H d (ks.map (·.n)) ks ∧ (ks.map (·.n)).Nodup ∧ (∀ b, x.b = some b → b ∈ ks.map (·.n)) ∧ (allF ks x).length ≤ 1000 ∧
  ∀ (t : Addr) H', Same H H' → TuK K (rF K CF) H' t (allF ks x) → Q (.ref t) H'
theorem scAll : FnScope nAll nAll (defScope sAll) := ⟨rfl, rfl, rfl, by decide +kernel, rfl, by decide +kernel, by decide +kernel⟩
theorem ok_all {f : Addr} {fd : FuncData} (F : Fun K "_all_fields" "_all_fields" sAll f fd) (C : PlainC K CK ["name", "fields", "base", "frozen", "heirs", "key", "registered"]) : FnOk P w K mg base CX0 1 f fd nAll (spAll K CF CK) := by
  refine F.ok scAll (fun vs H Q E h => ?_) (fun cdv A outer s H vs Q E hr h => ?_)
  · obtain ⟨v, d, x, ks, rfl, _⟩ := h
    rfl
  · obtain ⟨_, d, x, ks, rfl, ⟨a, dx, tf, rfl, ha, hf⟩, hd, nd, hb, few, k⟩ := h
    have hu := hu_of hr
    refine ⟨_, 
      (pss_cons (ps_if (pt_cmp (pc_isN (pe_fld (pv 0) rfl))) 
        (pss_one (ps_ret (pe_fld (pv 0) rfl))) pss_nil)
      (pss_one (ps_ret (pe_op op_catA (pe_fld (pe_dget hu (pv 1) (pe_fld (pv 0) rfl) (fun _ _ => rfl)) rfl) (pe_fld (pv 0) rfl))))), ?_⟩
    refine ⟨_, rfl, a, CK, dx, _, _, rfl, ha, C.cl, C.no _ (by simp), (lk_ks _ _ _ _ _ _ _).2.2.1, _, rfl, ?_⟩
    cases e : x.b with
    | none =>
      have ea : allF ks x = x.fs := by
        unfold allF
        rw [e]
      rw [ea] at k
      exact ⟨_, rfl, a, CK, dx, _, _, rfl, ha, C.cl, C.no _ (by simp), (lk_ks _ _ _ _ _ _ _).2.1, k tf H (Same.refl _) hf⟩
    | some b =>
      obtain ⟨i, y, z, hn, hz, ⟨a2, dx2, tf2, rfl, ha2, us2, hf2, ev2⟩, g⟩ := hd.get (hb b e)
      have ez : z.n = b := by
        rw [List.getElem?_map, hz] at hn
        exact Option.some.inj hn
      have ea : allF ks x = z.fs ++ x.fs := by
        unfold allF baseFs
        rw [e]
        have q := find_at nd hz
        rw [ez] at q
        show ((ks.find? fun e => decide (e.n = b)).map (·.fs)).getD [] ++ x.fs = _
        rw [q]
        rfl
      rw [ea] at k few
      obtain ⟨us, hus, evu⟩ := hf
      have lz : us2.length + us.length ≤ sizeLine := by
        rw [ev2.1, evu.1, sizeLine_eq]
        rw [List.length_append] at few
        omega
      refine ⟨_, rfl, _, rfl, a, CK, dx, _, _, rfl, ha, C.cl, C.no _ (by simp), (lk_ks _ _ _ _ _ _ _).2.2.1, d, _, rfl, by rw [e]; exact g, ?_⟩
      refine ⟨a2, CK, dx2, _, _, rfl, ha2, C.cl, C.no _ (by simp), (lk_ks _ _ _ _ _ _ _).2.1, ?_⟩
      refine ⟨_, rfl, a, CK, dx, _, _, rfl, ha, C.cl, C.no _ (by simp), (lk_ks _ _ _ _ _ _ _).2.1, tf2, tf, us2, us, rfl, rfl, hf2, hus, lz, fun e2 => ?_, fun _ e2 => ?_, fun _ _ p hp => ?_⟩
      · refine k tf H (Same.refl _) ⟨us, hus, ?_⟩
        have : z.fs = [] := List.eq_nil_of_length_eq_zero (by rw [← ev2.1, e2]; rfl)
        rw [this]
        exact evu
      · refine k tf2 H (Same.refl _) ⟨us2, hf2, ?_⟩
        have : x.fs = [] := List.eq_nil_of_length_eq_zero (by rw [← evu.1, e2]; rfl)
        rw [this, List.append_nil]
        exact ev2
      · have s1 := same_new (o := .tup (us2 ++ us)) hp
        exact k p _ s1 ⟨us2 ++ us, SqT.of upd_same, (ev2.append evu).same (mF K CF) s1⟩
/-! ## _check_kinds -/
abbrev sChk : Stmt := top 49
abbrev nChk : List Str := ["kinds", "kind"]
def spChk (K : PySem.W.Frag) (CF CK : Addr) : Sp := fun vs H Q _ => ∃ (l : Addr) (xs : List V) (ks : List KD), vs = [.ref l] ∧ (SqL K H l xs ∨ SqT K H l xs) ∧ Ev (rK K CF CK) H xs ks ∧ 1 ≤ ks.length ∧ ks.length ≤ 12 ∧ ∀ H', Same H H' → Q .non H'
theorem scChk : FnScope nChk ["kinds"] (defScope sChk) := ⟨rfl, rfl, rfl, by decide +kernel, rfl, by decide +kernel, by decide +kernel⟩
theorem kit_seqv {K : PySem.W.Frag} {t : String} (h : t = "list" ∨ t = "tuple") : PySem.W.kitAny K (.type t) [.type "list", .type "tuple"] = some true := by
  rcases h with rfl | rfl
  · exact kitAny_cons (kit_ty (b := "list") (r := true) (by decide +kernel)) (fun h => nomatch h) (fun _ => rfl)
  · exact kitAny_cons (kit_ty (b := "list") (r := false) (by decide +kernel)) (fun _ => kitAny_cons (kit_ty (b := "tuple") (r := true) (by decide +kernel)) (fun h => nomatch h) (fun _ => rfl)) (fun h => nomatch h)
theorem seq_ty {H : Hp} {l : Addr} {xs : List V} (h : SqL K H l xs ∨ SqT K H l xs) : ∃ t, TyX K H (.ref l) (.type t) ∧ (t = "list" ∨ t = "tuple") := by
  rcases h with h | h
  · exact ⟨_, Wp.SqL.ty h, .inl rfl⟩
  · exact ⟨_, Wp.SqT.ty h, .inr rfl⟩
theorem seq_same {H H' : Hp} {l : Addr} {xs : List V} (s : Same H H') (h : SqL K H l xs ∨ SqT K H l xs) : SqL K H' l xs ∨ SqT K H' l xs := h.imp s.seq s.sqT
theorem ok_chk {f : Addr} {fd : FuncData} {mc u12 : Value} (F : Fun K "_check_kinds" "_check_kinds" sChk f fd) (B : Bn mg) (O : OwnC K CK) (gK : mg "Kind" = some (.ref CK)) (gH : mg "House" = some (.ref CH)) (cr : ClX.CRead K CH mc) (cv : ClX.CVal K CH mc "KINDS" (.int 12) u12) :
    FnOk P w K mg base CX0 1 f fd ["kinds"] (spChk K CF CK) := by
  refine F.ok scChk (fun vs H Q E h => ?_) (fun cdv A outer s H vs Q E hr h => ?_)
  · obtain ⟨l, xs, ks, rfl, _⟩ := h
    rfl
  · obtain ⟨l, xs, ks, rfl, sq, ev, n1, n12, k⟩ := h
    refine ⟨_, 
      (pss_cons (ps_if (PW.pt (pw_or (pt_not (pt_val (pe_callB call_isiT (by rfl) B.isi boot_isi (pa_cons (pv 0) (pa_cons (pe_tup (pa_cons (pe_bltn (v := .ty "list") (by rfl) B.list PyProof.Rows.boot_list rfl) (pa_cons (pe_bltn (v := .ty "tuple") (by rfl) B.tuple boot_ttuple rfl) pa_nil))) pa_nil))))) (pw_or1 (pt_not (pt_chain op_le op_le pe_int (pe_callB call_len_seq (by rfl) B.len PySem.boot_len (pa_cons (pv 0) pa_nil)) (ClX.pe_cval (pe_glob (v := .ref CH) (by rfl) gH rfl))))))) 
        (pss_one ps_dead) pss_nil)
      (pss_one (ps_for PassesOwn.never rfl (pi_seqV (i := 0) (pv 0)) (pg_name (i := 1) scChk.nd rfl (Or.inl rfl)) 
        (pss_one (ps_if (pt_not (pt_val (pe_callB call_isi (by rfl) B.isi boot_isi (pa_cons (pv 1) (pa_cons (pe_glob (v := .ref CK) (by rfl) gK rfl) pa_nil))))) 
          (pss_one ps_dead) pss_nil))))), ?_⟩
    refine ⟨_, rfl, by show 2 ≤ sizeLine; decide, fun T hT => ?_⟩
    have s1 : Same H (upd H T (.tup [.ty "list", .ty "tuple"])) := same_new hT
    have sq1 := seq_same s1 sq
    obtain ⟨t, ty, ht⟩ := seq_ty sq1
    refine ⟨.ref l, T, [.ty "list", .ty "tuple"], _, [.type "list", .type "tuple"], _, rfl, upd_same, .cons (.ty _) (.cons (.ty _) .nil), ty, kit_seqv ht, _, rfl, iteF ?_⟩
    have e1 : decide ((1 : Int) ≤ (xs.length : Nat)) = true := decide_eq_true (by rw [ev.1]; omega)
    have e2 : decide (((xs.length : Nat) : Int) ≤ 12) = true := decide_eq_true (by rw [ev.1]; omega)
    refine ⟨_, rfl, l, xs, rfl, sq1, _, _, rfl, rfl, _, rfl, ?_⟩
    rw [e1]
    refine iteT ⟨CH, _, _, _, rfl, cr, cv, _, _, rfl, rfl, _, rfl, ?_⟩
    rw [e2]
    refine iteF ?_
    refine ⟨l, xs, rfl, sq1, fun J G w hG => ?_⟩
    refine for_it w (fun i σ H' => ∃ y1, σ = [some (.ref l), y1] ∧ Same (upd H T (.tup [.ty "list", .ty "tuple"])) H') ⟨none, rfl, Same.refl _⟩ (fun i σ H' _ ⟨_, _, s⟩ => hG H' (.of s)) ?_ ?_
    · rintro i v σ H1 H2 hi ⟨y1, rfl, s2⟩ ⟨rfl, hv⟩
      obtain ⟨c, hc, a, dx, tf, rfl, ha, _⟩ := ev.at hv
      exact ⟨_, rfl, .ref a, .ref CK, _, _, true, rfl, .own _, O.ty ((s1.trans s2) _ _ ha), O.self, _, rfl, iteF ⟨_, rfl, s2⟩⟩
    · rintro σ H1 ⟨y1, rfl, s2⟩
      exact k H1 (s1.trans s2)
end
end Wh
set_option Elab.async false
set_option linter.all false
set_option maxRecDepth 100000
set_option maxHeartbeats 4000000
namespace L2
open PySem PySem.Spec PyProof.Rows
/-! A block is cut behind a statement: what holds there is said once, whatever way led to it. -/
def tCut (t u : TS) : TS := fun D σ H => ∃ W : L2.St → Hp → Prop, t { D with nx := W } σ H ∧ ∀ σ' H', W σ' H' → u D σ' H'
theorem pss_cut {X : Cx} {st : Stmt} {rest : List Stmt} {t u : TS} (h1 : PS X st t) (h2 : PSs X rest u) : PSs X (st :: rest) (tCut t u) := by
  refine ⟨fun pins s σ H D I h => ?_⟩
  obtain ⟨W, hW, hN⟩ := h
  refine wpAny_execs_cons (thn (h1.run pins s σ H { D with nx := W } I hW) fun f s1 q => ?_)
  cases f with
  | next =>
    obtain ⟨σ', H', I', q⟩ := q
    exact h2.run pins s1 σ' H' D I' (hN σ' H' q)
  | ret v => exact q
  | brk => exact q
  | cont => exact q
end L2
set_option Elab.async false
set_option linter.all false
set_option maxRecDepth 100000
set_option maxHeartbeats 4000000
namespace Wh
open PySem PySem.Spec PyProof.Rows L2
open Wp hiding Same.refl Same.trans same_new boot_all
open W8 (Ev Rp Kp Mono same_new take_snoc rW rB mW mB ev_words ev_words_eq ev_bools_eq lc_sieve)
def slotB (g : FV) : Bool := !decide (g.m = "mark")
/-- what a kind keeps behind those that stand before it -/
structure Alone (es : List KD) (names : List Str) (x : KD) : Prop where
  new : x.n ∉ es.map (·.n)
  base : ∀ b, x.b = some b → ∃ e ∈ es, e.n = b ∧ e.h = true
  few : (allF es x).length ≤ 10
  diff : ((allF es x).map (·.n)).Nodup
  aim : ∀ g ∈ allF es x, slotB g = true → ∃ t, g.t = some t ∧ (t = "any" ∨ t ∈ names)
  key : ∀ k, x.k = some k → (∀ g ∈ allF es x, slotB g = false) ∧ k ∈ (allF es x).map (·.n)
section
variable {P : Program} {w : World} {K : PySem.W.Frag} {mg : Str → Option Value} {base : Heap} {CF CK CH : Addr}
abbrev sAln : Stmt := top 50
abbrev nAln : List Str := ["kind", "earlier", "names", "fields", "slots", "field"]
def spAln (K : PySem.W.Frag) (CF CK : Addr) : Sp := fun vs H Q _ => ∃ (v : V) (d t : Addr) (x : KD) (es : List KD) (names : List Str), vs = [v, .ref d, .ref t] ∧ rK K CF CK H v x ∧ Dc (rK K CF CK) H d (es.map (·.n)) es ∧ (es.map (·.n)).Nodup ∧
  SqT K H t (names.map V.str) ∧ Alone es names x ∧ ∀ H', Same H H' → Q (.bl true) H'
theorem scAln : FnScope nAln ["kind", "earlier", "names"] (defScope sAln) := ⟨rfl, rfl, rfl, by decide +kernel, rfl, by decide +kernel, by decide +kernel⟩
theorem dec_s {x y : Str} : decide (V.str x = V.str y) = decide (x = y) := by simp
theorem filter_all {α : Type} (xs : List α) : xs.filter (fun _ => true) = xs := List.filter_eq_self.mpr fun _ _ => rfl
theorem mem_in {n : Str} {ns : List Str} : inV (.str n) (ns.map V.str) = decide (n ∈ ns) := by
  rw [Bool.eq_iff_iff, decide_eq_true_eq]
  unfold inV
  rw [List.any_map, List.any_eq_true]
  constructor
  · rintro ⟨x, hx, e⟩
    exact (show x = n from beq_iff_eq.mp e) ▸ hx
  · exact fun h => ⟨n, h, beq_self_eq_true n⟩
theorem flat_strs (ns : List Str) : (ns.map V.str).all flatV = true := by
  rw [List.all_map, List.all_eq_true]
  intro _ _
  rfl
theorem ok_aln {f f1 f2 : Addr} {fd fd1 fd2 : FuncData} {mc u10 : Value} (F : Fun K "_holds_alone" "_holds_alone" sAln f fd) (B : Bn mg) (C : PlainC K CK ["name", "fields", "base", "frozen", "heirs", "key", "registered"]) (CFc : PlainC K CF ["name", "mode", "target", "default", "was"])
    (AF : Known P w K mg base CX0 1 "_all_fields" ["kind", "by_name"] (spAll K CF CK) f1 fd1) (DF : Known P w K mg base CX0 1 "are_different" ["names"] (spDiff K) f2 fd2)
    (gA : ∃ u, mg "ANY" = some u ∧ RelV (.str "any") u) (gH : mg "House" = some (.ref CH)) (cr : ClX.CRead K CH mc) (cv : ClX.CVal K CH mc "FIELDS" (.int 10) u10) :
    FnOk P w K mg base CX0 2 f fd ["kind", "earlier", "names"] (spAln K CF CK) := by
  refine F.ok scAln (fun vs H Q E h => ?_) (fun cdv A outer s H vs Q E hr h => ?_)
  · obtain ⟨v, d, t, x, es, names, rfl, _⟩ := h
    rfl
  · obtain ⟨_, d, t, x, es, names, rfl, hk0, hd, nd, ht, al, k⟩ := h
    obtain ⟨a, dx, tf, rfl, ha, hf⟩ := id hk0
    have hu := hu_of hr
    refine ⟨_, 
      (pss_cons (ps_if (pt_cmp (pc_din hu (pe_fld (pv 0) rfl) (pv 1))) 
        (pss_one (ps_ret pe_bl)) pss_nil)
      (pss_cut (ps_if (PW.pt (pw_and (pt_cmp (pc_notN (pe_fld (pv 0) rfl))) (pw_and1 (PW.pt (pw_or (pt_cmp (pc_dnotin hu (pe_fld (pv 0) rfl) (pv 1))) (pw_or1 (pt_not (pt_val (pe_fld (pe_dget hu (pv 1) (pe_fld (pv 0) rfl) (fun _ _ => rfl)) rfl))))))))) 
        (pss_one (ps_ret pe_bl)) pss_nil)
      (pss_cons (ps_set (i := 3) scAln.nd rfl (.inl rfl) (pe_call AF.ok (hr.mono (by decide)) rfl AF.mg AF.kp AF.bi .nil pass0 (pa_cons (pv 0) (pa_cons (pv 1) pa_nil))))
      (pss_cons (ps_if (PW.pt (pw_or (pt_cmpR op_gt (pe_callB call_len_seq (by rfl) B.len PySem.boot_len (pa_cons (pv 3) pa_nil)) (ClX.pe_cval (pe_glob (v := .ref CH) (by rfl) gH rfl)) (nomark _)) (pw_or1 (pt_not (pt_val (pe_call DF.ok (hr.mono (by decide)) rfl DF.mg DF.kp DF.bi .nil pass0 (pa_cons (pe_lc (own := [("field", 5)]) (g := gName 5) (tt := tYes) (te := tFld K (tVar 5) "name") rfl scAln.nd (pi_tup (pv 3)) (blkOk_by (N := nAln) (sc := defScope sAln) (by decide +kernel)) (fun _ _ _ _ _ => pg_name (i := 5) scAln.nd rfl (Or.inl rfl)) (fun _ _ _ _ _ => pts_nil) (fun _ _ _ _ _ => (pe_fld (pv 5) rfl))) pa_nil))))))) 
        (pss_one (ps_ret pe_bl)) pss_nil)
      (pss_cons (ps_setLc (i := 4) (own := [("field", 5)]) (g := gName 5) (te := tVar 5) (tt := tTest (tOp rNe (tFld K (tVar 5) "mode") (tC (.str "mark")))) rfl scAln.nd rfl rfl (sw_true rfl rfl rfl (by decide +kernel)) (pi_tup (pv 3)) (blkOk_by (N := nAln) (sc := defScope sAln) (by decide +kernel)) (fun _ _ _ _ _ => pg_name (i := 5) scAln.nd rfl (Or.inl rfl)) (fun _ _ _ _ _ => pts_one (pt_cmpR op_ne (pe_fld (pv 5) rfl) pe_str (nomark _))) (fun _ _ _ _ _ => (pv 5)))
      (pss_cons (ps_if (pt_not (pt_val (pe_callB (cr_all rfl) (by rfl) B.all boot_all (pa_cons (pe_lc (own := [("field", 5)]) (g := gName 5) (tt := tYes) (te := tOrV (tOp rEq (tFld K (tVar 5) "target") (tC (.str "any"))) (tOp (rIn K false) (tFld K (tVar 5) "target") (tVar 2))) rfl scAln.nd (pi_list (pv 4)) (blkOk_by (N := nAln) (sc := defScope sAln) (by decide +kernel)) (fun _ _ _ _ _ => pg_name (i := 5) scAln.nd rfl (Or.inl rfl)) (fun _ _ _ _ _ => pts_nil) (fun _ _ _ _ _ => (pe_or (pe_cmpR op_eq (pe_fld (pv 5) rfl) (pe_cn (by rfl) gA) (nomark _)) (pe_one (pe_cmpR (show OpR _ (compareOp .In) (rIn K false) from op_in_seq) (pe_fld (pv 5) rfl) (pv 2) (by rfl)))))) pa_nil)))) 
        (pss_one (ps_ret pe_bl)) pss_nil)
      (pss_one (ps_ret (pe_or (pe_cmp (pc_isN (pe_fld (pv 0) rfl)) rfl) (pe_one (pe_and (pe_notT (pv 4)) (pe_one (pe_cmpR op_in_seq (pe_fld (pv 0) rfl) (pe_lc (own := [("field", 5)]) (g := gName 5) (tt := tYes) (te := tFld K (tVar 5) "name") rfl scAln.nd (pi_tup (pv 3)) (blkOk_by (N := nAln) (sc := defScope sAln) (by decide +kernel)) (fun _ _ _ _ _ => pg_name (i := 5) scAln.nd rfl (Or.inl rfl)) (fun _ _ _ _ _ => pts_nil) (fun _ _ _ _ _ => (pe_fld (pv 5) rfl))) (by rfl)))))))))))))), ?_⟩
    refine ⟨_, rfl, a, CK, dx, _, _, rfl, ha, C.cl, C.no _ (by simp), (lk_ks _ _ _ _ _ _ _).1, _, rfl, d, _, rfl, hd.no al.new, _, rfl, iteF ?_⟩
    refine ⟨fun σ H' => σ = [some (.ref a), some (.ref d), some (.ref t), none, none, none] ∧ H' = H, ?_, ?_⟩
    · refine ⟨_, rfl, a, CK, dx, _, _, rfl, ha, C.cl, C.no _ (by simp), (lk_ks _ _ _ _ _ _ _).2.2.1, ?_⟩
      cases e : x.b with
      | none => exact ⟨_, rfl, iteF (iteF ⟨rfl, rfl⟩)⟩
      | some b =>
        obtain ⟨y, my, ey, hy⟩ := al.base b e
        obtain ⟨i, u, z, hn, hz, r, g⟩ := hd.get (n := b) (ey ▸ List.mem_map_of_mem my)
        obtain ⟨a2, dx2, tf2, rfl, ha2, us2, hf2, ev2⟩ := r
        have ez : z = y := by
          rw [List.getElem?_map, hz] at hn
          have q1 := find_at nd hz
          obtain ⟨j, hj, ej⟩ := List.getElem_of_mem my
          have q2 := find_at nd (List.getElem?_eq_getElem hj)
          rw [ej, ey, ← Option.some.inj hn, q1] at q2
          exact Option.some.inj q2
        subst ez
        have g2 : DGet H d (tv x.b) (some (V.ref a2)) := by
          rw [e]
          exact g
        rw [e] at ha
        refine ⟨_, rfl, iteT ⟨_, rfl, a, CK, dx, _, _, rfl, ha, C.cl, C.no _ (by simp), (lk_ks _ _ _ _ _ _ _).2.2.1, _, rfl, d, _, rfl, g, _, rfl, iteF ?_⟩⟩
        refine ⟨_, rfl, _, rfl, a, CK, dx, _, _, rfl, ha, C.cl, C.no _ (by simp), (lk_ks _ _ _ _ _ _ _).2.2.1, d, _, rfl, g, a2, CK, dx2, _, _, rfl, ha2, C.cl, C.no _ (by simp), (lk_ks _ _ _ _ _ _ _).2.2.2.2.1, _, rfl, ?_⟩
        rw [hy]
        exact iteF ⟨rfl, rfl⟩
    · rintro σ H0 ⟨rfl, rfl⟩
      refine ⟨_, rfl, _, rfl, .ref a, d, x, es, rfl, hk0, hd, nd, ?_, ?_, fun t2 H1 s1 ht2 => ?_⟩
      · intro b e
        obtain ⟨y, my, ey, _⟩ := al.base b e
        exact ey ▸ List.mem_map_of_mem my
      · exact Nat.le_trans al.few (by decide)
      obtain ⟨us, hus, evu⟩ := ht2
      have few : (allF es x).length ≤ 1000 := Nat.le_trans al.few (by decide)
      have nf : decide ((10 : Int) < ((us.length : Nat) : Int)) = false := decide_eq_false (by
        have := al.few
        rw [evu.1]
        omega)
      refine ⟨_, rfl, t2, us, rfl, .inr hus, CH, _, _, _, rfl, cr, cv, _, _, rfl, rfl, _, rfl, ?_⟩
      rw [nf]
      refine iteF ?_
      have rd : ∀ (H2 : Hp) (b : Addr) (g : FV), rF K CF H2 (.ref b) g → ∃ dy tw, H2 b = some (.ins CF dy (fsF (.str g.n) (.str g.m) (tv g.t) (.int g.d) tw)) := by
        rintro H2 b g ⟨b2, e2, ⟨dy, tw, hb, _⟩, _⟩
        cases e2
        exact ⟨dy, tw, hb⟩
      refine ⟨_, rfl, t2, rfl, ⟨us, hus⟩, fun D hD => ?_⟩
      refine lc_sieve (mF K CF) mW (fun _ => true) (fun g => g.n) walk_tup few (fun H2 s2 => s2.sqT hus) hD evu (fun v c H2 Rq _ _ _ kk => kk _ (Same.refl _)) ?_ ?_
      · rintro v c H2 Rq _ _ _ r kk
        obtain ⟨b, rfl, _⟩ := id r
        obtain ⟨dy, tw, hb⟩ := rd _ _ _ r
        exact ⟨_, rfl, b, CF, dy, _, _, rfl, hb, CFc.cl, CFc.no _ (by simp), (lk_fs _ _ _ _ _).2.2.2.2, kk _ _ (Same.refl _) rfl⟩
      intro H2 ys s2 hys ey
      rw [filter_all] at ey
      have eys := ev_words_eq ey
      subst eys
      have fewN : ((allF es x).map (fun g => g.n)).length ≤ 1000 := by rw [List.length_map]; exact few
      refine ⟨D, (allF es x).map (fun g => g.n), rfl, ⟨.inl (SqL.of hys), fewN⟩, _, rfl, ?_⟩
      rw [decide_eq_true al.diff]
      refine iteF ?_
      have hus2 := s2.sqT hus
      have evu2 := evu.same (mF K CF) s2
      refine ⟨_, rfl, t2, rfl, ⟨us, hus2⟩, fun D3 hD3 => ?_⟩
      refine lc_sieve (mF K CF) (mF K CF) slotB id walk_tup few (fun H3 s3 => s3.sqT hus2) hD3 evu2 ?_ ?_ ?_
      · rintro v c H3 Rq _ s3 r kk
        obtain ⟨b, rfl, _⟩ := id r
        obtain ⟨dy, tw, hb⟩ := rd _ _ _ r
        refine ⟨_, rfl, b, CF, dy, _, _, rfl, hb, CFc.cl, CFc.no _ (by simp), (lk_fs _ _ _ _ _).2.2.2.1, rfl, _, rfl, ?_⟩
        rw [dec_s]
        exact kk _ (Same.refl _)
      · rintro v c H3 Rq _ _ s3 r kk
        exact ⟨_, rfl, kk _ _ (Same.refl _) r⟩
      intro H3 zs s3 hzs ez
      rw [List.map_id] at ez
      have s13 : Same H1 H3 := s2.trans s3
      have ls : ((allF es x).filter slotB).length ≤ 1000 := Nat.le_trans (List.length_filter_le _ _) few
      refine ⟨_, rfl, D3, rfl, ⟨zs, SqL.of hzs⟩, fun D4 hD4 => ?_⟩
      refine lc_sieve (mF K CF) mB (fun _ => true) (fun _ => true) walk_list ls (fun H4 s4 => SqL.of (s4 _ _ hzs)) hD4 ez (fun v c H2 Rq _ _ _ kk => kk _ (Same.refl _)) ?_ ?_
      · rintro v g H4 Rq mg _ s4 r kk
        obtain ⟨b, rfl, _⟩ := id r
        obtain ⟨dy, tw, hb⟩ := rd _ _ _ r
        obtain ⟨m1, m2⟩ := List.mem_filter.mp mg
        obtain ⟨tg, et, ht2⟩ := al.aim g m1 m2
        rw [et] at hb
        refine ⟨_, rfl, b, CF, dy, _, _, rfl, hb, CFc.cl, CFc.no _ (by simp), (lk_fs _ _ _ _ _).2.2.1, rfl, _, rfl, ?_⟩
        rw [show decide (tv (some tg) = V.str "any") = decide (tg = ("any" : Str)) from dec_s]
        by_cases ea : tg = ("any" : Str)
        · rw [decide_eq_true ea]
          exact iteT (kk _ _ (Same.refl _) rfl)
        · rw [decide_eq_false ea]
          refine iteF ⟨_, rfl, b, CF, dy, _, _, rfl, hb, CFc.cl, CFc.no _ (by simp), (lk_fs _ _ _ _ _).2.2.1, _, rfl, t, names.map V.str, rfl, .inr ((s1.trans (s13.trans s4)).sqT ht), rfl, flat_strs _, ?_⟩
          show Rq (.bl (inV (.str tg) _)) H4
          rw [mem_in, decide_eq_true (ht2.resolve_left ea)]
          exact kk _ _ (Same.refl _) rfl
      intro H4 bs s4 hbs eb
      rw [filter_all] at eb
      have ebs := ev_bools_eq eb
      subst ebs
      have hall : (((allF es x).filter slotB).map fun _ => true).all id = true := by
        rw [List.all_map, List.all_eq_true]
        intro _ _
        rfl
      refine ⟨D4, _, rfl, SqL.of hbs, _, rfl, ?_⟩
      rw [hall]
      refine iteF ?_
      have s04 : Same H0 H4 := s1.trans (s13.trans s4)
      refine ⟨_, rfl, a, CK, dx, _, _, rfl, s04 _ _ ha, C.cl, C.no _ (by simp), (lk_ks _ _ _ _ _ _ _).2.2.2.2.2.1, ?_⟩
      cases e : x.k with
      | none => exact ⟨_, rfl, iteT (k _ s04)⟩
      | some kn =>
        obtain ⟨k1, k2⟩ := al.key kn e
        have nos : (allF es x).filter slotB = [] := List.filter_eq_nil_iff.mpr fun g hg => by rw [k1 g hg]; exact Bool.false_ne_true
        have zn : zs = [] := List.eq_nil_of_length_eq_zero (by rw [ez.1, nos]; rfl)
        have ha4 := s04 _ _ ha
        rw [e] at ha4
        refine ⟨_, rfl, iteF ⟨_, rfl, false, .inl ⟨zs, SqL.of (s4 _ _ hzs), by rw [zn]; rfl⟩, _, rfl, iteT ?_⟩⟩
        refine ⟨_, rfl, a, CK, dx, _, _, rfl, ha4, C.cl, C.no _ (by simp), (lk_ks _ _ _ _ _ _ _).2.2.2.2.2.1, _, rfl, t2, rfl, ⟨us, (s13.trans s4).sqT hus⟩, fun D5 hD5 => ?_⟩
        refine lc_sieve (mF K CF) mW (fun _ => true) (fun g => g.n) walk_tup few (fun H5 s5 => s5.sqT ((s13.trans s4).sqT hus)) hD5 (evu.same (mF K CF) (s13.trans s4)) (fun v c H2 Rq _ _ _ kk => kk _ (Same.refl _)) ?_ ?_
        · rintro v c H5 Rq _ _ _ r kk
          obtain ⟨b, rfl, _⟩ := id r
          obtain ⟨dy, tw, hb⟩ := rd _ _ _ r
          exact ⟨_, rfl, b, CF, dy, _, _, rfl, hb, CFc.cl, CFc.no _ (by simp), (lk_fs _ _ _ _ _).2.2.2.2, kk _ _ (Same.refl _) rfl⟩
        intro H5 ws s5 hws ew
        rw [filter_all] at ew
        have ews := ev_words_eq ew
        subst ews
        refine ⟨D5, _, rfl, .inl (SqL.of hws), rfl, flat_strs _, ?_⟩
        show Q (.bl (inV (.str kn) _)) H5
        rw [mem_in, decide_eq_true k2]
        exact k _ (s04.trans s5)
end
end Wh
set_option Elab.async false
set_option linter.all false
set_option maxRecDepth 100000
set_option maxHeartbeats 4000000
namespace Wh
open PySem PySem.Spec PyProof.Rows L2
open Wp hiding Same.refl Same.trans same_new boot_all
open W8 (Ev Rp Kp Mono same_new take_snoc rW rB mW mB ev_words ev_words_eq ev_bools_eq lc_sieve)
/-- the comprehension in a comprehension -/
theorem blkOk_in {N : List Str} {scope inner : Scope} {env : Env} {own : List (Str × Nat)} (sc : Scope) (e : env.scope = sc) (h : blkC N (relS scope sc) inner own = true) : BlkOk N (relabel scope env) inner own := by
  subst e
  exact blkOk_by h
/-- a method that is known -/
structure KMt (P : Program) (w : World) (K : PySem.W.Frag) (mg : Str → Option Value) (base : Heap) (C : Addr) (CX : CXT) (k : Nat) (x : Str) (ps : List Str) (sp : Sp) (f : Addr) (fd : FuncData) : Prop where
  ok : FnOk P w K mg base CX k f fd ps sp
  mt : Meth K C x f
  bi : Binds K fd ps []
abbrev houseAt : List Str := ["root", "names", "_kinds", "_by_name", "_fields", "_leads", "_far"]
/-! ## whom a slot lets in -/
def baseOf (ks : List KD) (n : Str) : Option Str := (ks.find? fun e => decide (e.n = n)).bind (·.b)
def letB (ks : List KD) (t n : Str) : Bool := decide (t = ("any" : Str)) || decide (t = n) || decide (some t = baseOf ks n)
def aims (gs : List FV) : List Str := (gs.filter slotB).map fun g => g.t.getD ""
def ledBy (ks : List KD) (x : KD) : List Str := (ks.map (·.n)).filter fun o => ((aims (allF ks x)).map fun t => letB ks t o).any id
/-- the slots of a kind have aims -/
def Aimed (ks : List KD) : Prop := ∀ x ∈ ks, ∀ g ∈ allF ks x, slotB g = true → ∃ t, g.t = some t
section
variable {P : Program} {w : World} {K : PySem.W.Frag} {mg : Str → Option Value} {base : Heap} {CF CK CH : Addr}
abbrev sLt : Stmt := meth 53 7
abbrev nLt : List Str := ["self", "target", "name"]
def spLt (K : PySem.W.Frag) (CF CK CH : Addr) : Sp := fun vs H Q _ => ∃ (s : Addr) (t n : Str) (dx d : Addr) (fs : List (Str × V)) (ks : List KD), vs = [.ref s, .str t, .str n] ∧ H s = some (.ins CH dx fs) ∧ List.lookup ("_by_name" : Str) fs = some (.ref d) ∧
  Dc (rK K CF CK) H d (ks.map (·.n)) ks ∧ (ks.map (·.n)).Nodup ∧ n ∈ ks.map (·.n) ∧ Q (.bl (letB ks t n)) H
theorem scLt : FnScope nLt nLt (defScope sLt) := ⟨rfl, rfl, rfl, by decide +kernel, rfl, by decide +kernel, by decide +kernel⟩
theorem at_name {ks : List KD} (nd : (ks.map (·.n)).Nodup) {i : Nat} {n : Str} {z : KD} (h1 : (ks.map (·.n))[i]? = some n) (h2 : ks[i]? = some z) : z.n = n ∧ (ks.find? fun e => decide (e.n = n)) = some z := by
  rw [List.getElem?_map, h2] at h1
  have e : z.n = n := Option.some.inj h1
  have q := find_at nd h2
  rw [e] at q
  exact ⟨e, q⟩
theorem ok_lt {f : Addr} {fd : FuncData} (F : Fun K "_lets" "House._lets" sLt f fd) (C : PlainC K CK ["name", "fields", "base", "frozen", "heirs", "key", "registered"]) (HC : PlainC K CH houseAt)
    (gA : ∃ u, mg "ANY" = some u ∧ RelV (.str "any") u) : FnOk P w K mg base CX0 1 f fd nLt (spLt K CF CK CH) := by
  refine F.ok scLt (fun vs H Q E h => ?_) (fun cdv A outer s H vs Q E hr h => ?_)
  · obtain ⟨v, t, n, dx, d, fs, ks, rfl, _⟩ := h
    rfl
  · obtain ⟨v, t, n, dx, d, fs, ks, rfl, hs, hl, hd, nd, mn, k⟩ := h
    have hu := hu_of hr
    refine ⟨_, 
      (pss_one (ps_ret (pe_or (pe_cmpR op_eq (pv 1) (pe_cn (by rfl) gA) (nomark _)) (pe_or (pe_cmpR op_eq (pv 1) (pv 2) (nomark _)) (pe_one (pe_cmpR op_eq (pv 1) (pe_fld (pe_dget hu (pe_fld (pv 0) rfl) (pv 2) (fun _ _ => rfl)) rfl) (nomark _))))))), ?_⟩
    obtain ⟨i, u, z, hn, hz, ⟨a2, dx2, tf2, rfl, ha2, us2, hf2, ev2⟩, g⟩ := hd.get mn
    obtain ⟨ez, fz⟩ := at_name nd hn hz
    have eb : baseOf ks n = z.b := by
      unfold baseOf
      rw [fz]
      rfl
    refine ⟨_, rfl, rfl, _, rfl, ?_⟩
    rw [dec_s]
    unfold letB at k
    by_cases e1 : t = ("any" : Str)
    · rw [decide_eq_true e1] at k ⊢
      exact iteT k
    · rw [decide_eq_false e1] at k ⊢
      refine iteF ⟨_, rfl, _, rfl, rfl, _, rfl, ?_⟩
      rw [dec_s]
      by_cases e2 : t = n
      · rw [decide_eq_true e2] at k ⊢
        exact iteT k
      · rw [decide_eq_false e2] at k ⊢
        refine iteF ⟨_, rfl, _, rfl, v, CH, dx, _, _, rfl, hs, HC.cl, HC.no _ (by simp), hl, _, rfl, d, _, rfl, g, a2, CK, dx2, _, _, rfl, ha2, C.cl, C.no _ (by simp), (lk_ks _ _ _ _ _ _ _).2.2.1, ?_, ?_⟩
        · cases z.b <;> rfl
        · rw [eb] at k
          have q : decide (V.str t = tv z.b) = decide (some t = z.b) := by
            cases z.b with
            | none => rfl
            | some b =>
              show decide (V.str t = V.str b) = _
              simp
          rw [q]
          simpa using k
abbrev sLd : Stmt := meth 53 6
abbrev nLd : List Str := ["self", "name", "targets", "field", "other", "target"]
def spLd (K : PySem.W.Frag) (CF CK CH : Addr) : Sp := fun vs H Q _ => ∃ (s : Addr) (n : Str) (dx d df tn : Addr) (fs : List (Str × V)) (ks : List KD) (x : KD), vs = [.ref s, .str n] ∧ H s = some (.ins CH dx fs) ∧ List.lookup ("_lets" : Str) fs = none ∧ List.lookup ("_by_name" : Str) fs = some (.ref d) ∧ List.lookup ("_fields" : Str) fs = some (.ref df) ∧ List.lookup ("names" : Str) fs = some (.ref tn) ∧
  Dc (rK K CF CK) H d (ks.map (·.n)) ks ∧ (ks.map (·.n)).Nodup ∧ Dc (rTF K CF) H df (ks.map (·.n)) (ks.map (allF ks)) ∧ SqT K H tn ((ks.map (·.n)).map V.str) ∧ x ∈ ks ∧ x.n = n ∧ Aimed ks ∧ (∀ y ∈ ks, (allF ks y).length ≤ 10) ∧ ks.length ≤ 12 ∧
  ∀ (D : Addr) H', Same H H' → H' D = some (.lst ((ledBy ks x).map V.str)) → Q (.ref D) H'
theorem scLd : FnScope nLd ["self", "name"] (defScope sLd) := ⟨rfl, rfl, rfl, by decide +kernel, rfl, by decide +kernel, by decide +kernel⟩
theorem ok_ld {f f1 : Addr} {fd fd1 : FuncData} (F : Fun K "_leads_from" "House._leads_from" sLd f fd) (B : Bn mg) (an : mg "any" = none) (CFc : PlainC K CF ["name", "mode", "target", "default", "was"]) (HC : PlainC K CH houseAt)
    (LT : KMt P w K mg base CH CX0 1 "_lets" nLt (spLt K CF CK CH) f1 fd1) : FnOk P w K mg base CX0 2 f fd ["self", "name"] (spLd K CF CK CH) := by
  refine F.ok scLd (fun vs H Q E h => ?_) (fun cdv A outer s H vs Q E hr h => ?_)
  · obtain ⟨v, n, dx, d, df, tn, fs, ks, x, rfl, _⟩ := h
    rfl
  · obtain ⟨v, _, dx, d, df, tn, fs, ks, x, rfl, hs, l0, l1, l2, l3, hd, nd, hf, hn, mx, rfl, am, f10, k12, k⟩ := h
    have hu := hu_of hr
    refine ⟨_, 
      (pss_cons (ps_set (i := 2) scLd.nd rfl (.inr rfl) (pe_lc (own := [("field", 3)]) (g := gName 3) (te := tFld K (tVar 3) "target") (tt := tTest (tOp rNe (tFld K (tVar 3) "mode") (tC (.str "mark")))) rfl scLd.nd (pi_tup (pe_dget hu (pe_fld (pv 0) rfl) (pv 1) (fun _ _ => rfl))) (blkOk_by (N := nLd) (sc := defScope sLd) (by decide +kernel)) (fun _ _ _ _ _ => pg_name (i := 3) scLd.nd rfl (Or.inl rfl)) (fun _ _ _ _ _ => pts_one (pt_cmpR op_ne (pe_fld (pv 3) rfl) pe_str (nomark _))) (fun _ _ _ _ _ => (pe_fld (pv 3) rfl))))
      (pss_one (ps_ret (pe_lc (own := [("other", 4)]) (g := gName 4) (te := tVar 4) (tt := tB (tCB (rAny K) (tCons (tLc (iList K (tVar 2)) (gName 5) tYes (tMeth CH "_lets" (spLt K CF CK CH) [] E0 (tVar 0) (tCons (tVar 5) (tCons (tVar 4) tNil))) [5]) tNil))) rfl scLd.nd (pi_tup (pe_fld (pv 0) rfl)) (blkOk_by (N := nLd) (sc := defScope sLd) (by decide +kernel)) (fun _ _ _ _ _ => pg_name (i := 4) scLd.nd rfl (Or.inr rfl)) (fun _ _ _ _ _ => pts_one (pt_val (pe_callB (cr_any rfl) (by rfl) an boot_any (pa_cons (pe_lc (own := [("target", 5)]) (g := gName 5) (tt := tYes) (te := tMeth CH "_lets" (spLt K CF CK CH) [] E0 (tVar 0) (tCons (tVar 5) (tCons (tVar 4) tNil))) rfl scLd.nd (pi_list (pv 2)) (by exact blkOk_in (N := nLd) (defScope sLd) rfl (by decide +kernel)) (fun _ _ _ _ _ => pg_name (i := 5) scLd.nd rfl (Or.inl rfl)) (fun _ _ _ _ _ => pts_nil) (fun _ _ _ _ _ => (pe_meth (pv 0) HC.cl LT.mt LT.ok (hr.mono (by decide)) LT.bi .nil pass0 (pa_cons (pv 5) (pa_cons (pv 4) pa_nil))))) pa_nil)))) (fun _ _ _ _ _ => (pv 4)))))), ?_⟩
    obtain ⟨i, u, gs, hi, hz, ⟨t, rfl, us, hus, evu⟩, g⟩ := hf.get (List.mem_map_of_mem mx)
    have egs : gs = allF ks x := by
      obtain ⟨j, hj, ej⟩ := List.getElem_of_mem mx
      have q : (ks.map (·.n))[j]? = some x.n := by rw [List.getElem?_map, List.getElem?_eq_getElem hj, ej]; rfl
      have q2 : i < (ks.map (·.n)).length := (List.getElem?_eq_some_iff.mp hi).1
      have := (List.getElem?_inj (i := i) (j := j) q2 nd).mp (hi.trans q.symm)
      subst this
      rw [List.getElem?_map, List.getElem?_eq_getElem hj, ej] at hz
      exact (Option.some.inj hz).symm
    subst egs
    have few : (allF ks x).length ≤ 1000 := Nat.le_trans (f10 x mx) (by decide)
    refine ⟨_, rfl, v, CH, dx, _, _, rfl, hs, HC.cl, HC.no _ (by simp), l2, _, rfl, df, _, rfl, g, t, rfl, ⟨us, hus⟩, fun D hD => ?_⟩
    have rd : ∀ (H2 : Hp) (b : Addr) (g : FV), rF K CF H2 (.ref b) g → ∃ dy tw, H2 b = some (.ins CF dy (fsF (.str g.n) (.str g.m) (tv g.t) (.int g.d) tw)) := by
      rintro H2 b g ⟨b2, e2, ⟨dy, tw, hb, _⟩, _⟩
      cases e2
      exact ⟨dy, tw, hb⟩
    refine lc_sieve (mF K CF) mW slotB (fun g => g.t.getD "") walk_tup few (fun H2 s2 => s2.sqT hus) hD evu ?_ ?_ ?_
    · rintro v c H3 Rq _ s3 r kk
      obtain ⟨b, rfl, _⟩ := id r
      obtain ⟨dy, tw, hb⟩ := rd _ _ _ r
      refine ⟨_, rfl, b, CF, dy, _, _, rfl, hb, CFc.cl, CFc.no _ (by simp), (lk_fs _ _ _ _ _).2.2.2.1, rfl, _, rfl, ?_⟩
      rw [dec_s]
      exact kk _ (Same.refl _)
    · rintro v c H3 Rq mc sc s3 r kk
      obtain ⟨b, rfl, _⟩ := id r
      obtain ⟨dy, tw, hb⟩ := rd _ _ _ r
      obtain ⟨tg, et⟩ := am x mx c mc sc
      refine ⟨_, rfl, b, CF, dy, _, _, rfl, hb, CFc.cl, CFc.no _ (by simp), (lk_fs _ _ _ _ _).2.2.1, kk _ _ (Same.refl _) ?_⟩
      rw [et]
      rfl
    intro H3 zs s3 hzs ez
    have ezs := ev_words_eq ez
    subst ezs
    have la : ((((allF ks x).filter slotB).map fun g => g.t.getD "")).length ≤ 1000 := by
      rw [List.length_map]
      exact Nat.le_trans (List.length_filter_le _ _) few
    refine ⟨_, rfl, v, CH, dx, _, _, rfl, s3 _ _ hs, HC.cl, HC.no _ (by simp), l3, tn, rfl, ⟨_, s3.sqT hn⟩, fun D2 hD2 => ?_⟩
    refine lc_sieve mW mW (fun o => ((aims (allF ks x)).map fun t => letB ks t o).any id) id (walk_tup (xs := (ks.map (fun z => KD.n z)).map V.str)) (by rw [List.length_map]; omega) (fun H4 s4 => s4.sqT (s3.sqT hn)) hD2 (ev_words (ks.map (fun z => KD.n z))) ?_ ?_ ?_
    · rintro _ o H4 Rq mo s4 rfl kk
      have s34 : Same H H4 := s3.trans s4
      refine ⟨_, rfl, D, rfl, ⟨_, SqL.of (s4 _ _ hzs)⟩, fun D3 hD3 => ?_⟩
      refine lc_sieve mW mB (fun _ => true) (fun t => letB ks t o) walk_list la (fun H5 s5 => SqL.of (s5 _ _ (s4 _ _ hzs))) hD3 (ev_words _) (fun v c H2 Rq _ _ _ kk => kk _ (Same.refl _)) ?_ ?_
      · rintro _ t2 H5 Rq2 _ _ s5 rfl kk2
        exact ⟨_, rfl, v, dx, fs, rfl, (s34.trans s5) _ _ hs, l0, _, rfl, _, rfl, v, t2, o, dx, d, fs, ks, rfl, (s34.trans s5) _ _ hs, l1, hd.same (dK K CF CK) (s34.trans s5), nd, mo, kk2 _ _ (Same.refl _) rfl⟩
      · intro H5 bs s5 hbs eb
        rw [filter_all] at eb
        have ebs := ev_bools_eq eb
        subst ebs
        exact ⟨D3, _, rfl, SqL.of hbs, _, rfl, kk _ s5⟩
    · rintro v c H5 Rq _ _ _ r kk
      exact ⟨_, rfl, kk _ _ (Same.refl _) r⟩
    · intro H4 ys s4 hys ey
      rw [List.map_id] at ey
      have eys := ev_words_eq ey
      subst eys
      exact k D2 H4 (s3.trans s4) hys
end
end Wh
set_option Elab.async false
set_option linter.all false
set_option maxRecDepth 100000
set_option maxHeartbeats 4000000
namespace Wh
open PySem PySem.Spec PyProof.Rows L2
open Wp hiding Same.refl Same.trans same_new boot_all
open W8 (Ev Rp Kp Mono same_new take_snoc rW rB mW mB ev_words ev_words_eq ev_bools_eq lc_sieve)
/-! ## what is reached from a kind -/
inductive Rch (L : Str → List Str) (n : Str) : Str → Prop
  | one {m : Str} (h : m ∈ L n) : Rch L n m
  | more {m k : Str} (h : Rch L n m) (h2 : k ∈ L m) : Rch L n k
open Classical in
noncomputable def farOf (ns : List Str) (L : Str → List Str) (n : Str) : List Str := ns.filter fun o => decide (Rch L n o)
def rL : Rp (List Str) := fun H v xs => ∃ l, v = .ref l ∧ H l = some (.lst (xs.map V.str))
theorem dL : MonoD rL := fun _ _ _ _ s ⟨l, e, h⟩ => ⟨l, e, s _ _ (fun _ z => by cases z) h⟩
/-- leads among names -/
structure Leads (ns : List Str) (L : Str → List Str) : Prop where
  nd : ns.Nodup
  few : ns.length ≤ 12
  sub : ∀ n ∈ ns, ∀ m ∈ L n, m ∈ ns
  ln : ∀ n ∈ ns, (L n).Nodup
theorem nodup_le {xs ys : List Str} (h : xs.Nodup) (s : ∀ x ∈ xs, x ∈ ys) : xs.length ≤ ys.length := by
  induction xs generalizing ys with
  | nil => exact Nat.zero_le _
  | cons x xs ih =>
    rw [List.nodup_cons] at h
    have mx : x ∈ ys := s x (List.mem_cons_self ..)
    have q := ih (ys := ys.erase x) h.2 fun y my => (List.mem_erase_of_ne fun e => h.1 (by rw [← e]; exact my)).mpr (s y (List.mem_cons_of_mem _ my))
    rw [List.length_erase_of_mem mx] at q
    have := List.length_pos_of_mem mx
    show xs.length + 1 ≤ ys.length
    omega
theorem Rch.mem {ns : List Str} {L : Str → List Str} (l : Leads ns L) {n m : Str} (hn : n ∈ ns) (h : Rch L n m) : m ∈ ns := by
  induction h with
  | one h => exact l.sub n hn _ h
  | more _ h2 ih => exact l.sub _ ih _ h2
open Classical in
theorem far_of {ns : List Str} {L : Str → List Str} {n : Str} {fs : List Str} (h1 : ∀ m ∈ fs, Rch L n m) (h2 : ∀ m ∈ L n, m ∈ fs) (h3 : ∀ m ∈ fs, ∀ y ∈ L m, y ∈ fs) : (ns.filter fun o => decide (o ∈ fs)) = farOf ns L n := by
  unfold farOf
  congr 1
  funext o
  rw [Bool.eq_iff_iff, decide_eq_true_eq, decide_eq_true_eq]
  refine ⟨h1 o, fun h => ?_⟩
  induction h with
  | one h => exact h2 _ h
  | more _ h ih => exact h3 _ ih _ h
theorem dget_same {H H' : Hp} {a : Addr} {y : V} {r : Option V} (h : DGet H a y r) (s : Same H H') : DGet H' a y r := by
  rcases h with ⟨kvs, k, h, e, er⟩ | ⟨kvs, k, b, h, e, eb, er⟩
  · exact .inl ⟨kvs, k, h.imp (s _ _) fun ⟨od, h⟩ => ⟨od, s _ _ h⟩, e, er⟩
  · exact .inr ⟨kvs, k, b, h.imp (s _ _) fun ⟨od, h⟩ => ⟨od, s _ _ h⟩, e, s _ _ eb, er⟩
theorem walk_keysD {d : Addr} {o : Obj} {ns : List Str} {xs : List V} (l : xs.length = ns.length) : Walk (Itk d o (kvz ns xs)) (ns.map V.str).length (fun H => H d = some (.frz o (.dK (kvz ns xs)))) (YAt (ns.map V.str)) := by
  have e : (ns.map V.str).length = (kvz ns xs).length := by rw [kvz_length _ _ l, List.length_map]
  rw [e]
  refine walk_keys.mono (fun _ h => h) ?_
  rintro i H x H' hi _ ⟨rfl, k, v, hk, rfl⟩
  refine ⟨rfl, ?_⟩
  unfold kvz at hk
  rw [List.getElem?_zipWith] at hk
  rw [List.getElem?_map]
  cases h1 : ns[i]? with
  | none => rw [h1] at hk; cases hk
  | some m =>
    rw [h1] at hk
    cases h2 : xs[i]? with
    | none => rw [h2] at hk; cases hk
    | some y =>
      rw [h2] at hk
      have := Option.some.inj hk
      unfold kv2 at this
      cases this
      rfl
/-- the names found so far, the first a of them followed -/
structure Fnd (L : Str → List Str) (n : Str) (a : Nat) (fs : List Str) : Prop where
  nd : fs.Nodup
  r : ∀ m ∈ fs, Rch L n m
  h : ∀ m ∈ L n, m ∈ fs
  c : ∀ i, i < a → ∀ m, fs[i]? = some m → ∀ y ∈ L m, y ∈ fs
  le : a ≤ fs.length
section
variable {P : Program} {w : World} {K : PySem.W.Frag} {mg : Str → Option Value} {base : Heap} {CF CK CH : Addr}
abbrev sFar : Stmt := top 52
abbrev nFar : List Str := ["name", "leads", "found", "at", "further", "other"]
def spFar (K : PySem.W.Frag) : Sp := fun vs H Q _ => ∃ (n : Str) (d : Addr) (ns : List Str) (L : Str → List Str), vs = [.str n, .ref d] ∧ Dc rL H d ns (ns.map L) ∧ Leads ns L ∧ n ∈ ns ∧
  ∀ (D : Addr) H', Same H H' → H' D = some (.lst ((farOf ns L n).map V.str)) → Q (.ref D) H'
theorem scFar : FnScope nFar ["name", "leads"] (defScope sFar) := ⟨rfl, rfl, rfl, by decide +kernel, rfl, by decide +kernel, by decide +kernel⟩
theorem ok_far {f : Addr} {fd : FuncData} (F : Fun K "_far_from" "_far_from" sFar f fd) (B : Bn mg) : FnOk P w K mg base CX0 1 f fd ["name", "leads"] (spFar K) := by
  refine F.ok scFar (fun vs H Q E h => ?_) (fun cdv A outer s H vs Q E hr h => ?_)
  · obtain ⟨n, d, ns, L, rfl, _⟩ := h
    rfl
  · obtain ⟨n, d, ns, L, rfl, hd, ld, mn, k⟩ := h
    have hu := hu_of hr
    refine ⟨_, 
      (pss_cons (ps_set (i := 2) scFar.nd rfl (.inr rfl) (pe_callTy call_list_of (by rfl) B.list PyProof.Rows.boot_list (pa_cons (pe_dget hu (pv 1) (pv 0) (fun _ _ => rfl)) pa_nil)))
      (pss_cons (ps_set (i := 3) scFar.nd rfl (.inl rfl) pe_int)
      (pss_cut (ps_while PassesOwn.never (pt_cmpR op_lt (pv 3) (pe_callB call_len_seq (by rfl) B.len PySem.boot_len (pa_cons (pv 2) pa_nil)) (nomark _)) 
        (pss_cons (ps_for PassesOwn.never rfl (pi_list (pe_dget hu (pv 1) (pe_ix ix_list (pv 2) (pv 3) (fun _ _ => rfl)) (fun _ _ => rfl))) (pg_name (i := 4) scFar.nd rfl (Or.inl rfl)) 
          (pss_one (ps_if (pt_cmpR op_notIn_seq (pv 4) (pv 2) (by rfl)) 
            (pss_one (ps_expr (pe_bm PySem.F.plainAttrs_list PySem.F.slot_list_append PySem.F.type_list_append mt_append (pv 2) (pa_cons (pv 4) pa_nil)))) pss_nil)))
        (pss_one (ps_aug (i := 3) scFar.nd rfl (.inl rfl) pe_int ip_add))))
      (pss_one (ps_ret (pe_lock (pe_lc (own := [("other", 5)]) (g := gName 5) (te := tVar 5) (tt := tTest (tOp (rIn K false) (tVar 5) (tVar 2))) rfl scFar.nd (pi_keys (pv 1)) (blkOk_by (N := nFar) (sc := defScope sFar) (by decide +kernel)) (fun _ _ _ _ _ => pg_name (i := 5) scFar.nd rfl (Or.inl rfl)) (fun _ _ _ _ _ => pts_one (pt_cmpR (show OpR _ (compareOp .In) (rIn K false) from op_in_seq) (pv 5) (pv 2) (by rfl))) (fun _ _ _ _ _ => (pv 5))))))))), ?_⟩
    obtain ⟨i0, _, _, hn0, hz0, ⟨l0, rfl, h0⟩, g⟩ := hd.get mn
    rw [List.getElem?_map, hn0] at hz0
    obtain rfl := Option.some.inj hz0
    refine ⟨_, rfl, _, rfl, d, _, rfl, g, l0, _, rfl, .inl (SqL.of h0), fun Fd hF => ?_⟩
    have sF : Same H (upd H Fd (.lst ((L n).map V.str))) := same_new hF
    have len : ∀ {a : Nat} {fs : List Str}, Fnd L n a fs → fs.length ≤ ns.length := fun q => nodup_le q.nd fun m hm => (q.r m hm).mem ld mn
    refine ⟨fun σ H' => ∃ (a : Nat) (v4 : Option V) (fs : List Str), σ = [some (.str n), some (.ref d), some (.ref Fd), some (.int (a : Nat)), v4, none] ∧ Same H H' ∧ H' Fd = some (.lst (fs.map V.str)) ∧ Fnd L n a fs ∧ fs.length ≤ a, ?_, ?_⟩
    · refine ⟨fun m σ H' => ∃ (a : Nat) (v4 : Option V) (fs : List Str), m = ns.length - a ∧ σ = [some (.str n), some (.ref d), some (.ref Fd), some (.int (a : Nat)), v4, none] ∧ Same H H' ∧ H' Fd = some (.lst (fs.map V.str)) ∧ Fnd L n a fs,
        ⟨_, 0, none, L n, rfl, rfl, sF, upd_same, ⟨ld.ln n mn, fun m hm => .one hm, fun m hm => hm, fun i hi => absurd hi (Nat.not_lt_zero _), Nat.zero_le _⟩⟩, ?_⟩
      rintro _ _ H1 ⟨a, v4, fs, rfl, rfl, s1, hf1, q⟩
      have lf := len q
      refine ⟨_, rfl, _, rfl, Fd, _, rfl, .inl (SqL.of hf1), _, _, rfl, rfl, _, rfl, ?_⟩
      rw [List.length_map]
      by_cases hlt : a < fs.length
      · rw [decide_eq_true (by omega)]
        obtain ⟨m, hm⟩ : ∃ m, fs[a]? = some m := ⟨_, List.getElem?_eq_getElem hlt⟩
        have mfs : m ∈ fs := List.mem_of_getElem? hm
        have mns : m ∈ ns := (q.r m mfs).mem ld mn
        obtain ⟨i1, _, _, hn1, hz1, ⟨l1, rfl, h01⟩, g01⟩ := hd.get mns
        rw [List.getElem?_map, hn1] at hz1
        obtain rfl := Option.some.inj hz1
        have ne1 : l1 ≠ Fd := ne_of_none h01 hF
        have h1 := s1 _ _ h01
        have g1 := dget_same g01 s1
        refine iteT ⟨fun σ H' => ∃ (v4 : Option V) (fs2 : List Str), σ = [some (.str n), some (.ref d), some (.ref Fd), some (.int ((a + 1 : Nat) : Int)), v4, none] ∧ Same H H' ∧ H' Fd = some (.lst (fs2.map V.str)) ∧ Fnd L n (a + 1) fs2, ?_, ?_⟩
        · rintro σ H' ⟨v4, fs2, rfl, s2, hf2, q2⟩
          have := len q2
          have := q2.le
          exact ⟨ns.length - (a + 1), by omega, a + 1, v4, fs2, rfl, rfl, s2, hf2, q2⟩
        · refine ⟨_, rfl, _, rfl, _, rfl, Fd, _, _, .str m, rfl, rfl, SqL.of hf1, ?_, d, _, rfl, g1, l1, rfl, ⟨_, SqL.of h1⟩, ?_⟩
          · exact atI_nat (by rw [List.getElem?_map, hm]; rfl)
          refine for_it (walk_list (xs := (L m).map V.str)) (fun j σ H' => ∃ (v4 : Option V) (fs2 : List Str), σ = [some (.str n), some (.ref d), some (.ref Fd), some (.int (a : Nat)), v4, none] ∧ Same H H' ∧ H' Fd = some (.lst (fs2.map V.str)) ∧
            fs2.Nodup ∧ (∀ m ∈ fs2, Rch L n m) ∧ (∃ tl, fs2 = fs ++ tl) ∧ ∀ y ∈ (L m).take j, y ∈ fs2)
            ⟨v4, fs, rfl, s1, hf1, q.nd, q.r, ⟨[], by simp⟩, by simp⟩ (fun i σ H' _ ⟨_, _, _, s, _⟩ => SqL.of (s _ _ h01)) ?_ ?_
          · rintro j x σ H2 H3 hj ⟨v4, fs2, rfl, s2, hf2, nd2, r2, ⟨tl, e2⟩, t2⟩ ⟨rfl, hx⟩
            rw [List.getElem?_map] at hx
            obtain ⟨y, hy, rfl⟩ := Option.map_eq_some_iff.mp hx
            refine ⟨_, rfl, _, rfl, Fd, _, rfl, .inl (SqL.of hf2), rfl, flat_strs _, _, rfl, ?_⟩
            have tk : (L m).take (j + 1) = (L m).take j ++ [y] := take_snoc hy
            rw [show inV (.str y) (fs2.map V.str) = decide (y ∈ fs2) from mem_in]
            have l2 : fs2.length ≤ ns.length := nodup_le nd2 fun m hm => (r2 m hm).mem ld mn
            by_cases hin : y ∈ fs2
            · rw [decide_eq_true hin]
              refine iteF ⟨_, fs2, rfl, s2, hf2, nd2, r2, ⟨tl, e2⟩, fun z hz => ?_⟩
              rw [tk, List.mem_append] at hz
              rcases hz with hz | hz
              · exact t2 z hz
              · rw [List.mem_singleton.mp hz]; exact hin
            · rw [decide_eq_false hin]
              refine iteT ⟨_, rfl, ?_, _, rfl, Fd, _, _, rfl, rfl, hf2, ?_, ?_⟩
              · exact .inl ⟨rfl, _, SqL.of hf2⟩
              · rw [List.length_map, sizeLine_eq]
                have := ld.few
                omega
              · have yr : Rch L n y := .more (q.r m mfs) (List.mem_of_getElem? hy)
                refine ⟨_, fs2 ++ [y], rfl, s2.over hF, by rw [upd_same, List.map_append]; rfl, ?_, ?_, ⟨tl ++ [y], by rw [e2, List.append_assoc]⟩, ?_⟩
                · rw [List.nodup_append]
                  refine ⟨nd2, by simp, fun z hz u hu e => hin ?_⟩
                  rw [List.mem_singleton.mp hu] at e
                  exact e ▸ hz
                · intro z hz
                  rcases List.mem_append.mp hz with hz | hz
                  · exact r2 z hz
                  · rw [List.mem_singleton.mp hz]; exact yr
                · intro z hz
                  rw [tk, List.mem_append] at hz
                  exact List.mem_append.mpr (hz.imp (t2 z) id)
          · rintro σ H2 ⟨v4, fs2, rfl, s2, hf2, nd2, r2, ⟨tl, e2⟩, t2⟩
            refine ⟨_, rfl, _, _, rfl, rfl, _, fs2, rfl, s2, hf2, nd2, r2, fun z hz => ?_, fun i hi z hz y hy => ?_, ?_⟩
            · rw [e2]
              exact List.mem_append_left _ (q.h z hz)
            · by_cases hia : i < a
              · have lt : i < fs.length := by omega
                rw [e2, List.getElem?_append_left lt] at hz
                rw [e2]
                exact List.mem_append_left _ (q.c i hia z hz y hy)
              · have ei : i = a := by omega
                subst ei
                rw [e2, List.getElem?_append_left hlt, hm] at hz
                cases hz
                have := t2 y
                rw [List.length_map, List.take_length] at this
                exact this hy
            · rw [e2, List.length_append]
              omega
      · rw [decide_eq_false (by omega)]
        exact ⟨a, v4, fs, rfl, s1, hf1, q, by omega⟩
    · rintro _ H1 ⟨a, v4, fs, rfl, s1, hf1, q, la⟩
      obtain ⟨xs, hdd, lx, _⟩ := (hd.same dL s1)
      have nf : Fd ≠ d := fun e => by rw [e, hdd] at hf1; cases hf1
      have ecl : ∀ m ∈ fs, ∀ y ∈ L m, y ∈ fs := fun m hm y hy => by
        obtain ⟨i, hi, e⟩ := List.getElem_of_mem hm
        exact q.c i (by omega) m (by rw [List.getElem?_eq_getElem hi, e]) y hy
      refine ⟨d, _, hdd, trivial, fun od => ⟨_, rfl, d, od, rfl, .inl ⟨kvz ns xs, upd_same, fun D hD => ?_⟩⟩⟩
      have few : ns.length ≤ 1000 := Nat.le_trans ld.few (by decide)
      refine lc_sieve mW mW (fun o => decide (o ∈ fs)) id (walk_keysD lx) few (fun H' s => s _ _ upd_same) hD (ev_words ns) ?_ ?_ ?_
      · rintro _ o H2 Rq _ s2 rfl kk
        refine ⟨_, rfl, _, rfl, Fd, _, rfl, .inl (SqL.of (s2 _ _ (by rw [upd_ne nf]; exact hf1))), rfl, flat_strs _, _, rfl, ?_⟩
        rw [show inV (.str o) (fs.map V.str) = decide (o ∈ fs) from mem_in]
        exact kk _ (Same.refl _)
      · rintro v c H2 Rq _ _ _ r kk
        exact ⟨_, rfl, kk _ _ (Same.refl _) r⟩
      · intro H2 ys s2 hys ey
        rw [List.map_id, far_of q.r q.h ecl] at ey
        have eys := ev_words_eq ey
        subst eys
        have nD : D ≠ d := fun e => by rw [e, upd_same] at hD; cases hD
        refine ⟨s2 _ _ upd_same, k D _ (fun b o e => ?_) (by rw [upd_ne nD]; exact hys)⟩
        by_cases eb : b = d
        · subst eb
          rw [upd_same]
          exact hdd.symm.trans (s1 _ _ e)
        · rw [upd_ne eb]
          exact s2 _ _ (by rw [upd_ne eb]; exact s1 _ _ e)
end
end Wh
set_option Elab.async false
set_option linter.all false
set_option maxRecDepth 100000
set_option maxHeartbeats 4000000
namespace Wh
open PySem PySem.Spec PyProof.Rows L2
open Wp hiding Same.refl Same.trans same_new boot_all
open W8 (Ev Rp Kp Mono same_new take_snoc rW rB mW mB ev_words ev_words_eq ev_bools_eq lc_sieve)
/-! ## frozen kinds -/
def heirB (ks : List KD) (n : Str) : Bool := ((ks.find? fun e => decide (e.n = n)).map (·.h)).getD false
section
variable {P : Program} {w : World} {K : PySem.W.Frag} {mg : Str → Option Value} {base : Heap} {CF CK CH : Addr}
abbrev sFz : Stmt := meth 53 8
abbrev nFz : List Str := ["self", "name", "far", "other"]
def spFz (K : PySem.W.Frag) (CF CK CH : Addr) : Sp := fun vs H Q _ => ∃ (s : Addr) (dx d dr tn : Addr) (fs : List (Str × V)) (ks : List KD) (L : Str → List Str), vs = [.ref s] ∧ H s = some (.ins CH dx fs) ∧ List.lookup ("_by_name" : Str) fs = some (.ref d) ∧ List.lookup ("_far" : Str) fs = some (.ref dr) ∧ List.lookup ("names" : Str) fs = some (.ref tn) ∧
  Dc (rK K CF CK) H d (ks.map (·.n)) ks ∧ (ks.map (·.n)).Nodup ∧ ks.length ≤ 12 ∧ Dc rL H dr (ks.map (·.n)) ((ks.map (·.n)).map L) ∧ SqT K H tn ((ks.map (·.n)).map V.str) ∧ (∀ n ∈ ks.map (·.n), (L n).length ≤ 12 ∧ ∀ m ∈ L n, m ∈ ks.map (·.n)) ∧
  (∀ x ∈ ks, x.f = true → x.n ∉ L x.n ∧ ∀ m ∈ L x.n, heirB ks m = false) ∧ ∀ H', Same H H' → Q .non H'
theorem scFz : FnScope nFz ["self"] (defScope sFz) := ⟨rfl, rfl, rfl, by decide +kernel, rfl, by decide +kernel, by decide +kernel⟩
theorem ok_fz {f : Addr} {fd : FuncData} (F : Fun K "_check_frozen" "House._check_frozen" sFz f fd) (an : mg "any" = none) (C : PlainC K CK ["name", "fields", "base", "frozen", "heirs", "key", "registered"]) (HC : PlainC K CH houseAt) : FnOk P w K mg base CX0 1 f fd ["self"] (spFz K CF CK CH) := by
  refine F.ok scFz (fun vs H Q E h => ?_) (fun cdv A outer s H vs Q E hr h => ?_)
  · obtain ⟨v, dx, d, dr, tn, fs, ks, L, rfl, _⟩ := h
    rfl
  · obtain ⟨v, dx, d, dr, tn, fs, ks, L, rfl, hs, l1, l2, l3, hd, nd, k12, hL, hn, sub, fz, k⟩ := h
    have hu := hu_of hr
    refine ⟨_, 
      (pss_one (ps_for PassesOwn.never rfl (pi_tup (pe_fld (pv 0) rfl)) (pg_name (i := 1) scFz.nd rfl (Or.inl rfl)) 
        (pss_cons (ps_set (i := 2) scFz.nd rfl (.inl rfl) (pe_dget hu (pe_fld (pv 0) rfl) (pv 1) (fun _ _ => rfl)))
        (pss_one (ps_if (PW.pt (pw_and (pt_val (pe_fld (pe_dget hu (pe_fld (pv 0) rfl) (pv 1) (fun _ _ => rfl)) rfl)) (pw_and1 (PW.pt (pw_or (pt_cmpR op_in_seq (pv 1) (pv 2) (by rfl)) (pw_or1 (pt_val (pe_callB (cr_any rfl) (by rfl) an boot_any (pa_cons (pe_lc (own := [("other", 3)]) (g := gName 3) (tt := tYes) (te := tFld K (tDGet (tFld K (tVar 0) "_by_name") (tVar 3)) "heirs") rfl scFz.nd (pi_list (pv 2)) (blkOk_by (N := nFz) (sc := defScope sFz) (by decide +kernel)) (fun _ _ _ _ _ => pg_name (i := 3) scFz.nd rfl (Or.inl rfl)) (fun _ _ _ _ _ => pts_nil) (fun _ _ _ _ _ => (pe_fld (pe_dget hu (pe_fld (pv 0) rfl) (pv 3) (fun _ _ => rfl)) rfl))) pa_nil))))))))) 
          (pss_one ps_dead) pss_nil))))), ?_⟩
    refine ⟨_, rfl, v, CH, dx, _, _, rfl, hs, HC.cl, HC.no _ (by simp), l3, tn, rfl, ⟨_, hn⟩, ?_⟩
    refine for_it (walk_tup (xs := (ks.map (fun z => KD.n z)).map V.str)) (fun j σ H' => ∃ v1 v2, σ = [some (.ref v), v1, v2, none] ∧ Same H H') ⟨none, none, rfl, Same.refl _⟩ (fun i σ H' _ ⟨_, _, _, s⟩ => s.sqT hn) ?_ ?_
    · rintro j y σ H1 H2 hj ⟨v1, v2, rfl, s1⟩ ⟨rfl, hy⟩
      rw [List.getElem?_map] at hy
      obtain ⟨n, hn1, rfl⟩ := Option.map_eq_some_iff.mp hy
      have mn : n ∈ ks.map (·.n) := List.mem_of_getElem? hn1
      obtain ⟨_, _, _, hn2, hz2, ⟨l0, rfl, h0⟩, g0⟩ := hL.get mn
      rw [List.getElem?_map, hn2] at hz2
      obtain rfl := Option.some.inj hz2
      obtain ⟨i, u, z, hn3, hz, ⟨a2, dx2, tf2, rfl, ha2, us2, hf2, ev2⟩, g⟩ := hd.get mn
      obtain ⟨ez, fe⟩ := at_name nd hn3 hz
      have mz : z ∈ ks := List.mem_of_getElem? hz
      have hs1 := s1 _ _ hs
      refine ⟨_, rfl, v, CH, dx, _, _, rfl, hs1, HC.cl, HC.no _ (by simp), l2, _, rfl, dr, _, rfl, dget_same g0 s1, ?_⟩
      refine ⟨_, rfl, v, CH, dx, _, _, rfl, hs1, HC.cl, HC.no _ (by simp), l1, _, rfl, d, _, rfl, dget_same g s1, a2, CK, dx2, _, _, rfl, s1 _ _ ha2, C.cl, C.no _ (by simp), (lk_ks _ _ _ _ _ _ _).2.2.2.1, _, rfl, ?_⟩
      cases ef : z.f with
      | false => exact iteF (iteF ⟨_, _, rfl, s1⟩)
      | true =>
        obtain ⟨f1, f2⟩ := fz z mz ef
        rw [ez] at f1 f2
        refine iteT ⟨_, rfl, _, rfl, l0, _, rfl, .inl (SqL.of (s1 _ _ h0)), rfl, flat_strs _, _, rfl, ?_⟩
        rw [show inV (.str n) ((L n).map V.str) = decide (n ∈ L n) from mem_in, decide_eq_false f1]
        refine iteF ⟨_, rfl, l0, rfl, ⟨_, SqL.of (s1 _ _ h0)⟩, fun D hD => ?_⟩
        refine lc_sieve mW mB (fun _ => true) (fun m => heirB ks m) walk_list (Nat.le_trans (sub n mn).1 (by decide)) (fun H3 s3 => SqL.of (s3 _ _ (s1 _ _ h0))) hD (ev_words (L n)) (fun v c H2 Rq _ _ _ kk => kk _ (Same.refl _)) ?_ ?_
        · rintro _ m H3 Rq mm _ s3 rfl kk
          obtain ⟨i5, u5, z5, hn5, hz5, ⟨a5, dx5, tf5, rfl, ha5, us5, hf5, ev5⟩, g5⟩ := hd.get ((sub n mn).2 m mm)
          obtain ⟨ez5, fe5⟩ := at_name nd hn5 hz5
          have s13 := s1.trans s3
          refine ⟨_, rfl, v, CH, dx, _, _, rfl, s13 _ _ hs, HC.cl, HC.no _ (by simp), l1, _, rfl, d, _, rfl, dget_same g5 s13, a5, CK, dx5, _, _, rfl, s13 _ _ ha5, C.cl, C.no _ (by simp), (lk_ks _ _ _ _ _ _ _).2.2.2.2.1, kk _ _ (Same.refl _) ?_⟩
          show V.bl z5.h = V.bl (heirB ks m)
          unfold heirB
          rw [fe5]
          rfl
        · intro H3 bs s3 hbs eb
          rw [filter_all] at eb
          have ebs := ev_bools_eq eb
          subst ebs
          have no : ((L n).map fun m => heirB ks m).any id = false := by
            rw [List.any_map, List.any_eq_false]
            intro m hm
            show ¬ heirB ks m = true
            rw [f2 m hm]
            exact Bool.false_ne_true
          refine ⟨D, _, rfl, SqL.of hbs, _, rfl, ?_⟩
          rw [no]
          exact iteF ⟨_, _, rfl, s1.trans s3⟩
    · rintro σ H1 ⟨v1, v2, rfl, s1⟩
      exact k H1 s1
end
end Wh
set_option Elab.async false
set_option linter.all false
set_option maxRecDepth 100000
set_option maxHeartbeats 4000000
namespace Wh
open PySem PySem.Spec PyProof.Rows L2
open Wp hiding Same.refl Same.trans same_new boot_all
open W8 (Ev Rp Kp Mono same_new take_snoc rW rB mW mB ev_words ev_words_eq ev_bools_eq lc_sieve)
/-! ## houses that are right -/
def atName (ks : List KD) (n : Str) : Option KD := ks.find? fun e => decide (e.n = n)
def leadOf (ks : List KD) (n : Str) : List Str := ((atName ks n).map (ledBy ks)).getD []
noncomputable def farK (ks : List KD) (n : Str) : List Str := farOf (ks.map (·.n)) (leadOf ks) n
structure HouseOk (root : Str) (ks : List KD) : Prop where
  n1 : 1 ≤ ks.length
  n12 : ks.length ≤ 12
  alone : ∀ i x, ks[i]? = some x → Alone (ks.take i) (ks.map (·.n)) x
  frz : ∀ x ∈ ks, x.f = true → x.n ∉ farK ks x.n ∧ ∀ m ∈ farK ks x.n, heirB ks m = false
  root : ∃ x ∈ ks, x.n = root ∧ x.k = none
theorem nodup_of_new : ∀ (ks : List KD), (∀ i x, ks[i]? = some x → x.n ∉ (ks.take i).map (·.n)) → (ks.map (·.n)).Nodup := by
  intro ks h
  refine List.pairwise_iff_getElem.mpr fun i j hi hj hij e => ?_
  rw [List.getElem_map, List.getElem_map] at e
  rw [List.length_map] at hi hj
  refine h j _ (List.getElem?_eq_getElem hj) ?_
  rw [← e]
  refine List.mem_map_of_mem (List.mem_iff_getElem.mpr ⟨i, by rw [List.length_take]; omega, ?_⟩)
  rw [List.getElem_take]
namespace HouseOk
variable {root : Str} {ks : List KD}
theorem nd (h : HouseOk root ks) : (ks.map (·.n)).Nodup := nodup_of_new ks fun i x e => (h.alone i x e).new
theorem find_take {es ks : List KD} {b : Str} (pre : ∃ tl, ks = es ++ tl) (h : ∃ e ∈ es, e.n = b) : baseFs es b = baseFs ks b := by
  obtain ⟨tl, rfl⟩ := pre
  obtain ⟨e, me, ee⟩ := h
  unfold baseFs
  rw [List.find?_append]
  have : (es.find? fun e => decide (e.n = b)).isSome = true := by
    rw [List.find?_isSome]
    exact ⟨e, me, decide_eq_true ee⟩
  obtain ⟨z, hz⟩ := Option.isSome_iff_exists.mp this
  rw [hz]
  rfl
theorem all (h : HouseOk root ks) {i : Nat} {x : KD} (e : ks[i]? = some x) : allF (ks.take i) x = allF ks x := by
  unfold allF
  cases eb : x.b with
  | none => rfl
  | some b =>
    obtain ⟨y, my, ey, _⟩ := (h.alone i x e).base b eb
    show baseFs (ks.take i) b ++ _ = baseFs ks b ++ _
    rw [find_take ⟨ks.drop i, (List.take_append_drop i ks).symm⟩ ⟨y, my, ey⟩]
theorem at_mem {x : KD} (mx : x ∈ ks) : ∃ i : Nat, ks[i]? = some x := by
  obtain ⟨i, hi, e⟩ := List.getElem_of_mem mx
  exact ⟨i, by rw [List.getElem?_eq_getElem hi, e]⟩
theorem few (h : HouseOk root ks) {x : KD} (mx : x ∈ ks) : (allF ks x).length ≤ 10 := by
  obtain ⟨i, e⟩ := at_mem mx
  rw [← h.all e]
  exact (h.alone i x e).few
theorem aimed (h : HouseOk root ks) : Aimed ks := fun x mx g mg sg => by
  obtain ⟨i, e⟩ := at_mem mx
  rw [← h.all e] at mg
  obtain ⟨t, et, _⟩ := (h.alone i x e).aim g mg sg
  exact ⟨t, et⟩
theorem base (h : HouseOk root ks) {x : KD} (mx : x ∈ ks) {b : Str} (eb : x.b = some b) : b ∈ ks.map (·.n) := by
  obtain ⟨i, e⟩ := at_mem mx
  obtain ⟨y, my, ey, _⟩ := (h.alone i x e).base b eb
  exact ey ▸ List.mem_map_of_mem (List.mem_of_mem_take my)
theorem atN (h : HouseOk root ks) {x : KD} (mx : x ∈ ks) : atName ks x.n = some x := by
  obtain ⟨i, e⟩ := at_mem mx
  exact find_at h.nd e
theorem leads (h : HouseOk root ks) : Leads (ks.map (·.n)) (leadOf ks) := by
  have q : ∀ n, leadOf ks n = [] ∨ ∃ x, leadOf ks n = ledBy ks x := fun n => by
    unfold leadOf
    cases atName ks n with
    | none => exact .inl rfl
    | some x => exact .inr ⟨x, rfl⟩
  refine ⟨h.nd, by rw [List.length_map]; exact h.n12, fun n _ m hm => ?_, fun n _ => ?_⟩
  · rcases q n with e | ⟨x, e⟩
    · rw [e] at hm; cases hm
    · rw [e] at hm
      exact (List.mem_filter.mp hm).1
  · rcases q n with e | ⟨x, e⟩
    · rw [e]; exact List.nodup_nil
    · rw [e]
      exact h.nd.filter _
end HouseOk
theorem far_mem {ns : List Str} {L : Str → List Str} {n : Str} : (∀ m ∈ farOf ns L n, m ∈ ns) ∧ (farOf ns L n).length ≤ ns.length := by
  unfold farOf
  exact ⟨fun m hm => (List.mem_filter.mp hm).1, List.length_filter_le _ _⟩
/-! ## all but the houses is as it was -/
def Kh (CH : Addr) (H H' : Hp) : Prop := ∀ b o, (∀ d fs, o ≠ .ins CH d fs) → H b = some o → H' b = some o
theorem Kh.of {CH : Addr} {H H' : Hp} (s : Same H H') : Kh CH H H' := fun b o _ e => s b o e
theorem Kh.trans {CH : Addr} {H H' H'' : Hp} (s : Kh CH H H') (t : Kh CH H' H'') : Kh CH H H'' := fun b o n e => t b o n (s b o n e)
theorem Kh.put {CH s dx dx' : Addr} {H : Hp} {fs fs' : List (Str × V)} (h : H s = some (.ins CH dx fs)) : Kh CH H (upd H s (.ins CH dx' fs')) := fun b o n e => by
  rw [upd_ne fun z => by
    rw [z, h] at e
    exact n _ _ (Option.some.inj e).symm]
  exact e
section
variable {K : PySem.W.Frag} {CF CK CH : Addr} {H H' : Hp} {v : V}
theorem Kh.sqT {a : Addr} {xs : List V} (s : Kh CH H H') (h : SqT K H a xs) : SqT K H' a xs := by
  rcases h with (h | ⟨o, h⟩) | h
  · exact .inl (.inl (s _ _ (fun _ _ z => by cases z) h))
  · exact .inl (.inr ⟨o, s _ _ (fun _ _ z => by cases z) h⟩)
  · exact .inr h
theorem Kh.sqL {a : Addr} {xs : List V} (s : Kh CH H H') (h : SqL K H a xs) : SqL K H' a xs :=
  h.elim (fun h => .inl (h.elim (fun h => .inl (s _ _ (fun _ _ z => by cases z) h)) fun ⟨o, h⟩ => .inr ⟨o, s _ _ (fun _ _ z => by cases z) h⟩)) fun h => .inr h
theorem rF_kh {x : FV} (n : CF ≠ CH) (s : Kh CH H H') (h : rF K CF H v x) : rF K CF H' v x := by
  obtain ⟨a, e, ⟨dx, tw, h1, h2⟩, sh⟩ := h
  exact ⟨a, e, ⟨dx, tw, s _ _ (fun _ _ z => n (by cases z; rfl)) h1, s.sqT h2⟩, sh⟩
theorem tuF_kh {l : Addr} {cs : List FV} (n : CF ≠ CH) (s : Kh CH H H') (h : TuK K (rF K CF) H l cs) : TuK K (rF K CF) H' l cs := by
  obtain ⟨xs, h1, h2⟩ := h
  exact ⟨xs, s.sqT h1, h2.1, fun i x c a b => rF_kh n s (h2.2 i x c a b)⟩
theorem rK_kh {x : KD} (n : CF ≠ CH) (m : CK ≠ CH) (s : Kh CH H H') (h : rK K CF CK H v x) : rK K CF CK H' v x := by
  obtain ⟨a, dx, tf, e, h1, h2⟩ := h
  exact ⟨a, dx, tf, e, s _ _ (fun _ _ z => m (by cases z; rfl)) h1, tuF_kh n s h2⟩
theorem rTF_kh {x : List FV} (n : CF ≠ CH) (s : Kh CH H H') (h : rTF K CF H v x) : rTF K CF H' v x := let ⟨t, e, h⟩ := h; ⟨t, e, tuF_kh n s h⟩
theorem rL_kh {x : List Str} (s : Kh CH H H') (h : rL H v x) : rL H' v x := let ⟨t, e, h⟩ := h; ⟨t, e, s _ _ (fun _ _ z => by cases z) h⟩
theorem Dc.kh {α : Type} {R : Rp α} {d : Addr} {ns : List Str} {cs : List α} (m : ∀ v c, R H v c → R H' v c) (s : Kh CH H H') (h : Dc R H d ns cs) : Dc R H' d ns cs := by
  obtain ⟨xs, e, l, v⟩ := h
  exact ⟨xs, s _ _ (fun _ _ z => by cases z) e, l, v.1, fun i x c a b => m _ _ (v.2 i x c a b)⟩
end
/-! ## a house as it stands -/
def fsH (root names kinds by_ flds leads far : V) : List (Str × V) := [("root", root), ("names", names), ("_kinds", kinds), ("_by_name", by_), ("_fields", flds), ("_leads", leads), ("_far", far)]
structure HouseAt (K : PySem.W.Frag) (CF CK CH : Addr) (H : Hp) (s : Addr) (root : Str) (ks : List KD) : Prop where
  ex : ∃ (dx tn tk d df dl dr : Addr), H s = some (.ins CH dx (fsH (.str root) (.ref tn) (.ref tk) (.ref d) (.ref df) (.ref dl) (.ref dr))) ∧ SqT K H tn ((ks.map (·.n)).map V.str) ∧ TuK K (rK K CF CK) H tk ks ∧
    Dc (rK K CF CK) H d (ks.map (·.n)) ks ∧ Dc (rTF K CF) H df (ks.map (·.n)) (ks.map (allF ks)) ∧ Dc rL H dl (ks.map (·.n)) ((ks.map (·.n)).map (leadOf ks)) ∧ Dc rL H dr (ks.map (·.n)) ((ks.map (·.n)).map (farK ks))
  ok : HouseOk root ks
end Wh
set_option Elab.async false
set_option linter.all false
set_option maxRecDepth 100000
set_option maxHeartbeats 4000000
namespace Wh
open PySem PySem.Spec PyProof.Rows L2
open Wp hiding Same.refl Same.trans same_new boot_all
open W8 (Ev Rp Kp Mono same_new take_snoc rW rB mW mB ev_words ev_words_eq ev_bools_eq lc_sieve)
section
variable {P : Program} {w : World} {K : PySem.W.Frag} {mg : Str → Option Value} {base : Heap} {CF CK CH : Addr}
theorem pf1 (a b : V) : putF "names" b ([("root", a)] : List (Str × V)) = ([("root", a), ("names", b)] : List (Str × V)) := rfl
theorem pf2 (a b c : V) : putF "_kinds" c ([("root", a), ("names", b)] : List (Str × V)) = ([("root", a), ("names", b), ("_kinds", c)] : List (Str × V)) := rfl
theorem pf3 (a b c d : V) : putF "_by_name" d ([("root", a), ("names", b), ("_kinds", c)] : List (Str × V)) = ([("root", a), ("names", b), ("_kinds", c), ("_by_name", d)] : List (Str × V)) := rfl
theorem pf4 (a b c d e : V) : putF "_fields" e ([("root", a), ("names", b), ("_kinds", c), ("_by_name", d)] : List (Str × V)) = ([("root", a), ("names", b), ("_kinds", c), ("_by_name", d), ("_fields", e)] : List (Str × V)) := rfl
theorem pf5 (a b c d e f : V) : putF "_leads" f ([("root", a), ("names", b), ("_kinds", c), ("_by_name", d), ("_fields", e)] : List (Str × V)) = ([("root", a), ("names", b), ("_kinds", c), ("_by_name", d), ("_fields", e), ("_leads", f)] : List (Str × V)) := rfl
theorem pf6 (a b c d e f g : V) : putF "_far" g ([("root", a), ("names", b), ("_kinds", c), ("_by_name", d), ("_fields", e), ("_leads", f)] : List (Str × V)) = fsH a b c d e f g := rfl
abbrev sHI : Stmt := meth 53 2
abbrev nHI : List Str := ["self", "root", "kinds", "names", "by_name", "kind", "name"]
def spHI (K : PySem.W.Frag) (CF CK CH : Addr) : Sp := fun vs H Q _ => ∃ (s dx l : Addr) (root : Str) (xs : List V) (ks : List KD), vs = [.ref s, .str root, .ref l] ∧ H s = some (.ins CH dx []) ∧ (∃ o, H l = some o) ∧ (SqL K H l xs ∨ SqT K H l xs) ∧ Ev (rK K CF CK) H xs ks ∧ HouseOk root ks ∧
  ∀ H', But s H H' → HouseAt K CF CK CH H' s root ks → Q .non H'
theorem scHI : FnScope nHI ["self", "root", "kinds"] (defScope sHI) := ⟨rfl, rfl, rfl, by decide +kernel, rfl, by decide +kernel, by decide +kernel⟩
theorem ok_HI {f f1 f2 f3 f4 f5 f6 : Addr} {fd fd1 fd2 fd3 fd4 fd5 fd6 : FuncData} (F : Fun K "__init__" "House.__init__" sHI f fd) (B : Bn mg) (C : PlainC K CK ["name", "fields", "base", "frozen", "heirs", "key", "registered"]) (HC : PlainC K CH houseAt) (nF : CF ≠ CH) (nK : CK ≠ CH)
    (CKS : Known P w K mg base CX0 1 "_check_kinds" ["kinds"] (spChk K CF CK) f1 fd1) (AL : Known P w K mg base CX0 2 "_holds_alone" ["kind", "earlier", "names"] (spAln K CF CK) f2 fd2) (AF : Known P w K mg base CX0 1 "_all_fields" ["kind", "by_name"] (spAll K CF CK) f3 fd3)
    (LD : KMt P w K mg base CH CX0 2 "_leads_from" ["self", "name"] (spLd K CF CK CH) f4 fd4) (FR : Known P w K mg base CX0 1 "_far_from" ["name", "leads"] (spFar K) f5 fd5) (FZ : KMt P w K mg base CH CX0 1 "_check_frozen" ["self"] (spFz K CF CK CH) f6 fd6) :
    FnOk P w K mg base CX0 3 f fd ["self", "root", "kinds"] (spHI K CF CK CH) := by
  refine F.ok scHI (fun vs H Q E h => ?_) (fun cdv A outer s0 H vs Q E hr h => ?_)
  · obtain ⟨s, dx, l, root, xs, ks, rfl, _⟩ := h
    rfl
  · obtain ⟨s, dx, l, root, xs, ks, rfl, hs, ⟨ol, hol⟩, sq, ev, ok, k⟩ := h
    have hu := hu_of hr
    refine ⟨_, 
      (pss_cons (ps_expr (pe_call CKS.ok (hr.mono (by decide)) rfl CKS.mg CKS.kp CKS.bi .nil pass0 (pa_cons (pv 2) pa_nil)))
      (pss_cons (ps_set (i := 3) scHI.nd rfl (.inl rfl) (pe_callTy call_tuple_of (by rfl) B.tuple boot_ttuple (pa_cons (pe_lc (own := [("kind", 5)]) (g := gName 5) (tt := tYes) (te := tFld K (tVar 5) "name") rfl scHI.nd (pi_seqV (i := 2) (pv 2)) (blkOk_by (N := nHI) (sc := defScope sHI) (by decide +kernel)) (fun _ _ _ _ _ => pg_name (i := 5) scHI.nd rfl (Or.inl rfl)) (fun _ _ _ _ _ => pts_nil) (fun _ _ _ _ _ => (pe_fld (pv 5) rfl))) pa_nil)))
      (pss_cons (ps_set (i := 4) scHI.nd rfl (.inr rfl) pe_dnewK)
      (pss_cons (ps_for PassesOwn.never rfl (pi_seqV (i := 2) (pv 2)) (pg_name (i := 5) scHI.nd rfl (Or.inl rfl)) 
        (pss_cons (ps_if (pt_not (pt_val (pe_call AL.ok (hr.mono (by decide)) rfl AL.mg AL.kp AL.bi .nil pass0 (pa_cons (pv 5) (pa_cons (pv 4) (pa_cons (pv 3) pa_nil)))))) 
          (pss_one ps_dead) pss_nil)
        (pss_one (ps_dput hu (pv 4) (pe_fld (pv 5) rfl) (pv 5) rfl))))
      (pss_cons (ps_fld (pv 0) (pv 1) rfl)
      (pss_cons (ps_fld (pv 0) (pv 3) rfl)
      (pss_cut (ps_fld (pv 0) (pe_callTy call_tuple_of (by rfl) B.tuple boot_ttuple (pa_cons (pv 2) pa_nil)) rfl)
      (pss_cons (ps_fld (pv 0) (pv 4) rfl)
      (pss_cons (ps_fld (pv 0) (pe_dc (own := [("name", 6)]) (g := gName 6) (tt := tYes) (tk := tVar 6) (tv := tCall (spAll K CF CK) [] E0 (tCons (tDGet (tVar 4) (tVar 6)) (tCons (tVar 4) tNil))) rfl scHI.nd (pi_tup (pv 3)) (blkOk_by (N := nHI) (sc := defScope sHI) (by decide +kernel)) (fun _ _ _ _ _ => pg_name (i := 6) scHI.nd rfl (Or.inl rfl)) (fun _ _ _ _ _ => pts_nil) (fun _ _ _ _ _ => (pv 6)) (fun _ _ _ _ _ => (pe_call AF.ok (hr.mono (by decide)) rfl AF.mg AF.kp AF.bi .nil pass0 (pa_cons (pe_dget hu (pv 4) (pv 6) (fun _ _ => rfl)) (pa_cons (pv 4) pa_nil))))) rfl)
      (pss_cons (ps_fld (pv 0) (pe_dc (own := [("name", 6)]) (g := gName 6) (tt := tYes) (tk := tVar 6) (tv := tMeth CH "_leads_from" (spLd K CF CK CH) [] E0 (tVar 0) (tCons (tVar 6) tNil)) rfl scHI.nd (pi_tup (pv 3)) (blkOk_by (N := nHI) (sc := defScope sHI) (by decide +kernel)) (fun _ _ _ _ _ => pg_name (i := 6) scHI.nd rfl (Or.inl rfl)) (fun _ _ _ _ _ => pts_nil) (fun _ _ _ _ _ => (pv 6)) (fun _ _ _ _ _ => (pe_meth (pv 0) HC.cl LD.mt LD.ok (hr.mono (by decide)) LD.bi .nil pass0 (pa_cons (pv 6) pa_nil)))) rfl)
      (pss_cons (ps_fld (pv 0) (pe_dc (own := [("name", 6)]) (g := gName 6) (tt := tYes) (tk := tVar 6) (tv := tCall (spFar K) [] E0 (tCons (tVar 6) (tCons (tFld K (tVar 0) "_leads") tNil))) rfl scHI.nd (pi_tup (pv 3)) (blkOk_by (N := nHI) (sc := defScope sHI) (by decide +kernel)) (fun _ _ _ _ _ => pg_name (i := 6) scHI.nd rfl (Or.inl rfl)) (fun _ _ _ _ _ => pts_nil) (fun _ _ _ _ _ => (pv 6)) (fun _ _ _ _ _ => (pe_call FR.ok (hr.mono (by decide)) rfl FR.mg FR.kp FR.bi .nil pass0 (pa_cons (pv 6) (pa_cons (pe_fld (pv 0) rfl) pa_nil))))) rfl)
      (pss_cons (ps_expr (pe_meth0 (pv 0) HC.cl FZ.mt FZ.ok (hr.mono (by decide)) FZ.bi .nil pass0))
      (pss_one (ps_if (PW.pt (pw_or (pt_cmpR op_notIn_seq (pv 1) (pv 3) (by rfl)) (pw_or1 (pt_cmp (pc_notN (pe_fld (pe_dget hu (pv 4) (pv 1) (fun _ _ => rfl)) rfl)))))) 
        (pss_one ps_dead) pss_nil)))))))))))))), ?_⟩
    refine ⟨_, rfl, l, xs, ks, rfl, sq, ev, ok.n1, ok.n12, fun H1 s1 => ?_⟩
    have few : ks.length ≤ 1000 := Nat.le_trans ok.n12 (by decide)
    refine ⟨l, xs, rfl, seq_same s1 sq, fun J G w hG D hD => ?_⟩
    refine lc_sieve (mK K CF CK) mW (fun _ => true) (fun x => x.n) w few (fun H' s => hG H' (.of s)) hD (ev.same (mK K CF CK) s1) (fun v c H2 Rq _ _ _ kk => kk _ (Same.refl _)) ?_ ?_
    · rintro v c H2 Rq _ _ _ ⟨a, dy, tf, rfl, ha, _⟩ kk
      exact ⟨_, rfl, a, CK, dy, _, _, rfl, ha, C.cl, C.no _ (by simp), (lk_ks _ _ _ _ _ _ _).1, kk _ _ (Same.refl _) rfl⟩
    intro H2 ws s2 hws ew
    rw [filter_all] at ew
    have ews := ev_words_eq ew
    subst ews
    refine ⟨D, _, rfl, .inl ⟨SqL.of hws, fun tn htn dd hdd => ?_⟩⟩
    have s13 : Same H (upd H2 tn (.tup ((ks.map fun x => x.n).map V.str))) := s1.trans (s2.trans (same_new htn))
    have hT : SqT K (upd H2 tn (.tup ((ks.map fun x => x.n).map V.str))) tn ((ks.map fun x => x.n).map V.str) := SqT.of upd_same
    generalize upd H2 tn (.tup ((ks.map fun x => x.n).map V.str)) = H3 at s13 hT hdd ⊢
    refine ⟨l, xs, rfl, seq_same (s13.trans (same_new hdd)) sq, fun J2 G2 w2 hG2 => ?_⟩
    refine for_it w2 (fun j σ H' => ∃ v5, σ = [some (.ref s), some (.str root), some (.ref l), some (.ref tn), some (.ref dd), v5, none] ∧ Same H3 H' ∧ Dc (rK K CF CK) H' dd ((ks.take j).map (·.n)) (ks.take j))
      ⟨none, rfl, same_new hdd, Dc.nil upd_same⟩ (fun i σ H' _ ⟨_, _, s, q⟩ => hG2 H' fun o e => ?_) ?_ ?_
    · have hl3 := s13 _ _ hol
      rw [upd_ne (ne_of_none hl3 hdd)] at e
      exact s _ _ e
    · rintro j v σ H4 _ hj ⟨v5, rfl, s4, hd4⟩ ⟨rfl, hv⟩
      obtain ⟨x, hx, r⟩ := (ev.same (mK K CF CK) (s13.trans s4)).at hv
      obtain ⟨a, dy, tf, rfl, ha, hf⟩ := id r
      have ndj : ((ks.take j).map (·.n)).Nodup := (ok.nd).sublist (List.Sublist.map _ (List.take_sublist j ks))
      refine ⟨_, rfl, _, rfl, _, rfl, .ref a, dd, tn, x, ks.take j, ks.map (·.n), rfl, r, hd4, ndj, s4.sqT hT, ok.alone j x hx, fun H5 s5 => ⟨_, rfl, iteF ?_⟩⟩
      obtain ⟨H6, put, hd6, oth⟩ := (hd4.same (dK K CF CK) s5).put (dK K CF CK) (ok.alone j x hx).new (by rw [List.length_map, List.length_take]; omega) (rK_stay (.kp (.of s5)) r)
      refine ⟨_, rfl, _, rfl, _, rfl, a, CK, dy, _, _, rfl, s5 _ _ ha, C.cl, C.no _ (by simp), (lk_ks _ _ _ _ _ _ _).1, dd, H6, rfl, put, _, rfl, fun b o e => oth b o (ne_of_none e hdd) (s5 _ _ (s4 _ _ e)), ?_⟩
      rw [take_snoc hx, List.map_append]
      exact hd6
    · rintro σ H4 ⟨v5, rfl, s4, hd4⟩
      have tk : ks.take xs.length = ks := by rw [ev.1]; exact List.take_length
      rw [tk] at hd4
      have s04 : Same H H4 := s13.trans s4
      have hs4 := s04 _ _ hs
      have hT4 := s4.sqT hT
      have sq4 := seq_same s04 sq
      have ev4 := ev.same (mK K CF CK) s04
      -- root, names
      refine ⟨_, rfl, _, rfl, s, CH, dx, _, rfl, hs4, HC.cl, HC.no _ (by simp), (by decide), ?_⟩
      refine ⟨_, rfl, _, rfl, s, CH, dx, _, rfl, upd_same, HC.cl, HC.no _ (by simp), (by show 1 < 1000; decide), ?_⟩
      rw [show putF "root" (V.str root) [] = ([("root", V.str root)] : List (Str × V)) from rfl, pf1, upd_upd]
      have b5 : But s H4 (upd H4 s (.ins CH dx [("root", .str root), ("names", .ref tn)])) := fun b o n e => by rw [upd_ne n]; exact e
      have k5 : Kh CH H4 (upd H4 s (.ins CH dx [("root", .str root), ("names", .ref tn)])) := Kh.put hs4
      have hs5 : (upd H4 s (.ins CH dx [("root", .str root), ("names", .ref tn)])) s = some (.ins CH dx [("root", .str root), ("names", .ref tn)]) := upd_same
      generalize upd H4 s (.ins CH dx [("root", .str root), ("names", .ref tn)]) = H5 at b5 k5 hs5 ⊢
      refine ⟨fun σ H' => ∃ v5 tk, σ = [some (.ref s), some (.str root), some (.ref l), some (.ref tn), some (.ref dd), v5, none] ∧ H' s = some (.ins CH dx [("root", .str root), ("names", .ref tn), ("_kinds", .ref tk)]) ∧ Kh CH H4 H' ∧ But s H4 H' ∧ SqT K H' tk xs, ?_, ?_⟩
      · have sq5 : SqL K H5 l xs ∨ SqT K H5 l xs := sq4.imp k5.sqL k5.sqT
        have fin : ∀ (tk : Addr) (H6 : Hp), H6 s = some (.ins CH dx [("root", .str root), ("names", .ref tn)]) → Kh CH H4 H6 → But s H4 H6 → SqT K H6 tk xs → 
            ∃ v5' tk', [some (V.ref s), some (.str root), some (.ref l), some (.ref tn), some (.ref dd), v5, none] = [some (.ref s), some (.str root), some (.ref l), some (.ref tn), some (.ref dd), v5', none] ∧
              (upd H6 s (.ins CH dx (putF "_kinds" (.ref tk) [("root", .str root), ("names", .ref tn)]))) s = some (.ins CH dx [("root", .str root), ("names", .ref tn), ("_kinds", .ref tk')]) ∧ Kh CH H4 (upd H6 s (.ins CH dx (putF "_kinds" (.ref tk) [("root", .str root), ("names", .ref tn)]))) ∧ But s H4 (upd H6 s (.ins CH dx (putF "_kinds" (.ref tk) [("root", .str root), ("names", .ref tn)]))) ∧ SqT K (upd H6 s (.ins CH dx (putF "_kinds" (.ref tk) [("root", .str root), ("names", .ref tn)]))) tk' xs := by
          intro tk H6 h6 k6 b6 t6
          exact ⟨v5, tk, rfl, upd_same, k6.trans (Kh.put h6), fun b o n e => by rw [upd_ne n]; exact b6 b o n e, (Kh.put h6).sqT t6⟩
        rcases sq5 with sq5 | sq5
        · refine ⟨_, rfl, l, xs, rfl, .inl ⟨sq5, fun tk htk => ?_⟩⟩
          have sn : Same H5 (upd H5 tk (.tup xs)) := same_new htk
          exact ⟨_, rfl, s, CH, dx, _, rfl, sn _ _ hs5, HC.cl, HC.no _ (by simp), (by show 2 < 1000; decide), fin tk _ (sn _ _ hs5) (k5.trans (.of sn)) (fun b o n e => sn _ _ (b5 b o n e)) (SqT.of upd_same)⟩
        · exact ⟨_, rfl, l, xs, rfl, .inr ⟨sq5, _, rfl, s, CH, dx, _, rfl, hs5, HC.cl, HC.no _ (by simp), (by show 2 < 1000; decide), fin l _ hs5 k5 b5 sq5⟩⟩
      · rintro σ H6 ⟨v6, tk, rfl, hs6, k6, b6, ht6⟩
        refine ⟨_, rfl, _, rfl, s, CH, dx, _, rfl, hs6, HC.cl, HC.no _ (by simp), (by show 3 < 1000; decide), ?_⟩
        rw [pf3]
        have k7 := k6.trans (Kh.put (dx' := dx) (fs' := [("root", .str root), ("names", .ref tn), ("_kinds", .ref tk), ("_by_name", .ref dd)]) hs6)
        have b7 : But s H4 (upd H6 s (.ins CH dx [("root", .str root), ("names", .ref tn), ("_kinds", .ref tk), ("_by_name", .ref dd)])) := fun b o n e => by rw [upd_ne n]; exact b6 b o n e
        have ht7 := (Kh.put (dx' := dx) (fs' := [("root", .str root), ("names", .ref tn), ("_kinds", .ref tk), ("_by_name", .ref dd)]) hs6).sqT ht6
        have hs7 : (upd H6 s (.ins CH dx [("root", .str root), ("names", .ref tn), ("_kinds", .ref tk), ("_by_name", .ref dd)])) s = some (.ins CH dx [("root", .str root), ("names", .ref tn), ("_kinds", .ref tk), ("_by_name", .ref dd)]) := upd_same
        generalize upd H6 s (.ins CH dx [("root", .str root), ("names", .ref tn), ("_kinds", .ref tk), ("_by_name", .ref dd)]) = H7 at k7 b7 ht7 hs7 ⊢
        have hT7 := k7.sqT hT4
        have hd7 := hd4.kh (fun _ _ => rK_kh nF nK k7) k7
        have n12 : (ks.map (·.n)).length ≤ 1000 := by rw [List.length_map]; exact few
        -- _fields
        have fld : ∀ H' n, Same H7 H' → n ∈ ks.map (·.n) → ∃ x a, x ∈ ks ∧ x.n = n ∧ atName ks n = some x ∧ DGet H' dd (.str n) (some (.ref a)) ∧ rK K CF CK H' (.ref a) x := by
          intro H' n s' mn
          obtain ⟨i, u, z, hn, hz, r, g⟩ := (hd7.same (dK K CF CK) s').get mn
          obtain ⟨ez, fz⟩ := at_name ok.nd hn hz
          obtain ⟨a, _, _, rfl, _⟩ := id r
          exact ⟨z, a, List.mem_of_getElem? hz, ez, fz, g, r⟩
        have e1 : (ks.map (·.n)).map (fun n => ((atName ks n).map (allF ks)).getD []) = ks.map (allF ks) := by
          rw [List.map_map]
          refine List.map_congr_left fun x mx => ?_
          show ((atName ks x.n).map (allF ks)).getD [] = _
          rw [ok.atN mx]
          rfl
        refine ⟨_, rfl, tn, rfl, ⟨_, hT7⟩, fun Df hDf => ?_⟩
        refine dc_sieve (dTF K CF) (fun n => ((atName ks n).map (allF ks)).getD []) (ns := ks.map (fun z => KD.n z)) ok.nd n12 hT7 (by show 6 < 7; decide) hDf ?_ ?_
        · intro n H8 Rq mn s8 kk
          obtain ⟨x, a, mx, ex, at_, g, r⟩ := fld H8 n s8 mn
          refine ⟨_, rfl, _, rfl, dd, _, rfl, g, _, rfl, .ref a, dd, x, ks, rfl, r, hd7.same (dK K CF CK) s8, ok.nd, fun b eb => ok.base mx eb, Nat.le_trans (ok.few mx) (by decide), fun t H9 s9 ht => kk (.ref t) H9 s9 ⟨t, rfl, ?_⟩⟩
          rw [at_]
          exact ht
        intro H8 s8 hf8
        rw [e1] at hf8
        have k8 : Kh CH H4 H8 := k7.trans (.of s8)
        refine ⟨_, rfl, s, CH, dx, _, rfl, s8 _ _ hs7, HC.cl, HC.no _ (by simp), (by show 4 < 1000; decide), ?_⟩
        rw [pf4]
        have p9 : Kh CH H8 (upd H8 s (.ins CH dx [("root", .str root), ("names", .ref tn), ("_kinds", .ref tk), ("_by_name", .ref dd), ("_fields", .ref Df)])) := Kh.put (s8 _ _ hs7)
        have b9 : But s H4 (upd H8 s (.ins CH dx [("root", .str root), ("names", .ref tn), ("_kinds", .ref tk), ("_by_name", .ref dd), ("_fields", .ref Df)])) := fun b o n e => by rw [upd_ne n]; exact s8 _ _ (b7 b o n e)
        have hs9 : (upd H8 s (.ins CH dx [("root", .str root), ("names", .ref tn), ("_kinds", .ref tk), ("_by_name", .ref dd), ("_fields", .ref Df)])) s = some (.ins CH dx [("root", .str root), ("names", .ref tn), ("_kinds", .ref tk), ("_by_name", .ref dd), ("_fields", .ref Df)]) := upd_same
        generalize upd H8 s (.ins CH dx [("root", .str root), ("names", .ref tn), ("_kinds", .ref tk), ("_by_name", .ref dd), ("_fields", .ref Df)]) = H9 at p9 b9 hs9 ⊢
        have k9 := k8.trans p9
        have hT9 := k9.sqT hT4
        have hd9 := hd4.kh (fun _ _ => rK_kh nF nK k9) k9
        have hf9 := hf8.kh (fun _ _ => rTF_kh nF p9) p9
        -- _leads
        refine ⟨_, rfl, tn, rfl, ⟨_, hT9⟩, fun Dl hDl => ?_⟩
        refine dc_sieve dL (leadOf ks) (ns := ks.map (fun z => KD.n z)) ok.nd n12 hT9 (by show 6 < 7; decide) hDl ?_ ?_
        · intro n H10 Rq mn s10 kk
          obtain ⟨x, mx, rfl⟩ := List.mem_map.mp mn
          refine ⟨_, rfl, s, dx, _, rfl, s10 _ _ hs9, rfl, _, rfl, s, x.n, dx, dd, Df, tn, _, ks, x, rfl, s10 _ _ hs9, rfl, rfl, rfl, rfl, hd9.same (dK K CF CK) s10, ok.nd, hf9.same (dTF K CF) s10, s10.sqT hT9, mx, rfl, ok.aimed, fun y my => ok.few my, ok.n12, fun D H' s' hD' => kk (.ref D) H' s' ⟨D, rfl, ?_⟩⟩
          unfold leadOf
          rw [ok.atN mx]
          exact hD'
        intro H10 s10 hl10
        refine ⟨_, rfl, s, CH, dx, _, rfl, s10 _ _ hs9, HC.cl, HC.no _ (by simp), (by show 5 < 1000; decide), ?_⟩
        rw [pf5]
        have p11 : Kh CH H10 (upd H10 s (.ins CH dx [("root", .str root), ("names", .ref tn), ("_kinds", .ref tk), ("_by_name", .ref dd), ("_fields", .ref Df), ("_leads", .ref Dl)])) := Kh.put (s10 _ _ hs9)
        have b11 : But s H4 (upd H10 s (.ins CH dx [("root", .str root), ("names", .ref tn), ("_kinds", .ref tk), ("_by_name", .ref dd), ("_fields", .ref Df), ("_leads", .ref Dl)])) := fun b o n e => by rw [upd_ne n]; exact s10 _ _ (b9 b o n e)
        have hs11 : (upd H10 s (.ins CH dx [("root", .str root), ("names", .ref tn), ("_kinds", .ref tk), ("_by_name", .ref dd), ("_fields", .ref Df), ("_leads", .ref Dl)])) s = some (.ins CH dx [("root", .str root), ("names", .ref tn), ("_kinds", .ref tk), ("_by_name", .ref dd), ("_fields", .ref Df), ("_leads", .ref Dl)]) := upd_same
        generalize upd H10 s (.ins CH dx [("root", .str root), ("names", .ref tn), ("_kinds", .ref tk), ("_by_name", .ref dd), ("_fields", .ref Df), ("_leads", .ref Dl)]) = H11 at p11 b11 hs11 ⊢
        have p911 : Kh CH H9 H11 := Kh.trans (.of s10) p11
        have k11 := k9.trans p911
        have hT11 := k11.sqT hT4
        have hl11 := hl10.kh (fun _ _ => rL_kh p11) p11
        -- _far
        refine ⟨_, rfl, tn, rfl, ⟨_, hT11⟩, fun Dr hDr => ?_⟩
        refine dc_sieve dL (farK ks) (ns := ks.map (fun z => KD.n z)) ok.nd n12 hT11 (by show 6 < 7; decide) hDr ?_ ?_
        · intro n H12 Rq mn s12 kk
          exact ⟨_, rfl, _, rfl, s, CH, dx, _, _, rfl, s12 _ _ hs11, HC.cl, HC.no _ (by simp), rfl, n, Dl, ks.map (fun z => KD.n z), leadOf ks, rfl, hl11.same dL s12, ok.leads, mn, fun D H' s' hD' => kk (.ref D) H' s' ⟨D, rfl, hD'⟩⟩
        intro H12 s12 hr12
        refine ⟨_, rfl, s, CH, dx, _, rfl, s12 _ _ hs11, HC.cl, HC.no _ (by simp), (by show 6 < 1000; decide), ?_⟩
        rw [pf6]
        have p13 : Kh CH H12 (upd H12 s (.ins CH dx (fsH (.str root) (.ref tn) (.ref tk) (.ref dd) (.ref Df) (.ref Dl) (.ref Dr)))) := Kh.put (s12 _ _ hs11)
        have b13 : But s H4 (upd H12 s (.ins CH dx (fsH (.str root) (.ref tn) (.ref tk) (.ref dd) (.ref Df) (.ref Dl) (.ref Dr)))) := fun b o n e => by rw [upd_ne n]; exact s12 _ _ (b11 b o n e)
        have hs13 : (upd H12 s (.ins CH dx (fsH (.str root) (.ref tn) (.ref tk) (.ref dd) (.ref Df) (.ref Dl) (.ref Dr)))) s = some (.ins CH dx (fsH (.str root) (.ref tn) (.ref tk) (.ref dd) (.ref Df) (.ref Dl) (.ref Dr))) := upd_same
        generalize upd H12 s (.ins CH dx (fsH (.str root) (.ref tn) (.ref tk) (.ref dd) (.ref Df) (.ref Dl) (.ref Dr))) = H13 at p13 b13 hs13 ⊢
        have p1113 : Kh CH H11 H13 := Kh.trans (.of s12) p13
        have p913 := p911.trans p1113
        have k13 := k9.trans p913
        have p713 : Kh CH H7 H13 := Kh.trans (.of s8) (p9.trans p913)
        have hT13 := k13.sqT hT4
        have hd13 := hd4.kh (fun _ _ => rK_kh nF nK k13) k13
        have hf13 := hf9.kh (fun _ _ => rTF_kh nF p913) p913
        have hl13 := hl11.kh (fun _ _ => rL_kh p1113) p1113
        have hr13 := hr12.kh (fun _ _ => rL_kh p13) p13
        have ht13 : TuK K (rK K CF CK) H13 tk ks := ⟨xs, p713.sqT ht7, ev4.1, fun i x c a b => rK_kh nF nK k13 (ev4.2 i x c a b)⟩
        refine ⟨_, rfl, s, dx, _, rfl, hs13, rfl, s, dx, dd, Dr, tn, _, ks, farK ks, rfl, hs13, rfl, rfl, rfl, hd13, ok.nd, ok.n12, hr13, hT13, fun n mn => ?_, ok.frz, fun H14 s14 => ?_⟩
        · have q := far_mem (ns := ks.map (fun z => KD.n z)) (L := leadOf ks) (n := n)
          exact ⟨Nat.le_trans q.2 (by rw [List.length_map]; exact ok.n12), q.1⟩
        · obtain ⟨x, mx, ex, kx⟩ := ok.root
          have mr : root ∈ ks.map (·.n) := ex ▸ List.mem_map_of_mem mx
          obtain ⟨i, u, z, hn, hz, ⟨a, dz, tz, rfl, haz, _⟩, g⟩ := (hd13.same (dK K CF CK) s14).get mr
          obtain ⟨ez, fz⟩ := at_name ok.nd hn hz
          have zx : z = x := by
            have := ok.atN mx
            unfold atName at this
            rw [ex, fz] at this
            exact Option.some.inj this
          subst zx
          rw [kx] at haz
          refine ⟨_, rfl, _, rfl, tn, _, rfl, .inr (s14.sqT hT13), rfl, flat_strs _, _, rfl, ?_⟩
          rw [show inV (.str root) ((ks.map (fun z => KD.n z)).map V.str) = decide (root ∈ ks.map (fun z => KD.n z)) from mem_in, decide_eq_true mr]
          refine iteF ⟨_, rfl, _, rfl, dd, _, rfl, g, a, CK, dz, _, _, rfl, haz, C.cl, C.no _ (by simp), (lk_ks _ _ _ _ _ _ _).2.2.2.2.2.1, _, rfl, iteF ?_⟩
          refine k H14 (fun b o n e => s14 _ _ (b13 b o n (s04 _ _ e))) ⟨⟨dx, tn, tk, dd, Df, Dl, Dr, s14 _ _ hs13, s14.sqT hT13, ⟨xs, s14.sqT (p713.sqT ht7), ev4.1, fun i x c a b => dK K CF CK _ _ _ _ (.of s14) (rK_kh nF nK k13 (ev4.2 i x c a b))⟩, hd13.same (dK K CF CK) s14, hf13.same (dTF K CF) s14, hl13.same dL s14, hr13.same dL s14⟩, ok⟩
end
end Wh
set_option Elab.async false
set_option linter.all false
set_option maxRecDepth 100000
set_option maxHeartbeats 4000000
namespace Wh
open PySem PySem.Spec PyProof.Rows L2
open Wp hiding Same.refl Same.trans same_new boot_all
open W8 (Ev Rp Kp Mono same_new take_snoc rW rB mW mB ev_words ev_words_eq ev_bools_eq lc_sieve)
/-! ## not in, by the class's own word -/
section
variable {X : Cx} {CX : CXT} {n : Nat} {C f : Addr} {fd : FuncData} {ps : List Str} {sp : Sp} {E : XK}
theorem run_own {A : Around} {pins : List (Addr × Obj)} {σ : L2.St} {H : Hp} {s : Shared} {Q : VK} {us : List Value} {ys : List V} (F : FnOk X.prog X.w X.K X.mg X.base CX n f fd ps sp) (hb : Binds X.K fd ps []) (hx : Passes CX X E)
    (room : Room n A) (fr : A.frames = X.A.frames) (I : Inv X pins σ H s) (r : Vals ys us) (h : sp ys H Q E) : wpAny (model X.prog X.w) A (call (.ref f) us) (EP X pins σ Q) X.xe s := by
  have lenU : us.length = ps.length := by rw [← r.length, F.len _ _ _ _ h]
  have b0 := hb s us I.kIn (by simpa using lenU)
  rw [List.append_nil] at b0
  have e0 : Env0 X.prog X.w X.K X.mg X.base A X.stack s H := { I.env0 with frames := fr.trans I.env0.frames }
  refine wpAny_call (codeAny_mono (F.run A X.stack s H ⟨us, []⟩ us ys Q E room e0 b0 r h) ?_)
  rintro (e | (_ | _ | _ | u)) s2 got
  · exact hx pins σ H s e s2 I got
  · exact got.elim
  · exact got.elim
  · exact got.elim
  · exact I.after got
def rOwnHas (neg : Bool) (C : Addr) (sp : Sp) (E : XK) : R2 := fun y x H Q => ∃ a dx fs, x = .ref a ∧ H a = some (.ins C dx fs) ∧ sp [.ref a, y] H (fun v H' => ∃ c : Bool, v = .bl c ∧ Q (.bl (if neg then !c else c)) H') E
theorem op_ownNotIn (F : FnOk X.prog X.w X.K X.mg X.base CX n f fd ps sp) (hb : Binds X.K fd ps []) (hx : Passes CX X E) (hs : PySem.W.findIn X.K (.ref C) "__contains__" = some (some (.ref f))) (hf : PySem.W.isFn X.K (.ref f) = true) (room : Room n X.A) :
    OpR X (compareOp .NotIn) (rOwnHas true C sp E) := by
  rintro pins s σ H y x v u Q I ry rx ⟨a, dx, fs, rfl, ha, p⟩
  cases rx
  obtain ⟨ox, od, J⟩ : ∃ ox od, PySem.W.InstAt s.heap a ox C od := by
    obtain ⟨mA, J, _⟩ := ins_get I.hok ha
    obtain ⟨od, J, _⟩ := J.look
    exact ⟨_, od, J⟩
  obtain ⟨m, fr⟩ := I.fr
  refine PySem.W.notIn_K fr I.ok.mod.kin J hs hf ?_
  refine wpAny_mono (run_own F hb hx room rfl I (ys := [.ref a, y]) (.cons (show L2.RelV (.ref a) (.ref a) from rfl) (.cons ry .nil)) p) ?_ fun _ _ e => e
  rintro z s2 ⟨v, H2, I2, rz, c, rfl, q⟩
  obtain rfl := rz
  exact wpAny_truthy_bool ⟨.bl (!c), H2, I2, rfl, q⟩
end
/-- a def that lets out what it may -/
theorem fun_okC {CX : CXT} {P : Program} {w : World} {K : PySem.W.Frag} {mg : Str → Option Value} {base : Heap} {k : Nat} {nm qn : Str} {N ps : List Str} {st : Stmt} {f : Addr} {fd : FuncData} {sp : Sp} (F : Fun K nm qn st f fd) (S : FnScope N ps (defScope st))
    (len : ∀ ys H Q E, sp ys H Q E → ys.length = ps.length)
    (go : ∀ (cd : Value) (A : Around) (out : List Env) (s : Shared) (H : Hp) (ys : List V) (Q : VK) (E : XK), Room k (A.deeper (envOfC qn (defScope st) s.heap.objs.size f cd)) → sp ys H Q E →
      ∃ t, PSs (cxOf CX P w K mg base N qn (defScope st) f cd A out s H E) (defBody st) t ∧ t ⟨fun _ H' => Q .non H', Q, fun _ _ => False, fun _ _ => False⟩ (start N ys) H) : FnOk P w K mg base CX (k + 1) f fd ps sp := by
  obtain ⟨_, _, _, _, _, _, _, _, _, rfl, look, code⟩ := F.ex
  exact fn_of look code S len fun A out s H ys Q E room h => go _ A out s H ys Q E room h
def inHouse (ks : List KD) : PyData → Bool
  | .str n => decide (n ∈ ks.map (·.n))
  | _ => false
section
variable {P : Program} {w : World} {K : PySem.W.Frag} {mg : Str → Option Value} {base : Heap} {CF CK CH : Addr}
theorem HouseAt.same {H H' : Hp} {s : Addr} {root : Str} {ks : List KD} (h : HouseAt K CF CK CH H s root ks) (e : Same H H') : HouseAt K CF CK CH H' s root ks := by
  obtain ⟨⟨dx, tn, tk, d, df, dl, dr, h1, h2, ⟨xs, h3, h3e⟩, h4, h5, h6, h7⟩, ok⟩ := h
  exact ⟨⟨dx, tn, tk, d, df, dl, dr, e _ _ h1, e.sqT h2, ⟨xs, e.sqT h3, h3e.same (mK K CF CK) e⟩, h4.same (dK K CF CK) e, h5.same (dTF K CF) e, h6.same dL e, h7.same dL e⟩, ok⟩
theorem lk_h (a b c d e f g : V) : List.lookup ("root" : Str) (fsH a b c d e f g) = some a ∧ List.lookup ("names" : Str) (fsH a b c d e f g) = some b ∧ List.lookup ("_kinds" : Str) (fsH a b c d e f g) = some c ∧ List.lookup ("_by_name" : Str) (fsH a b c d e f g) = some d ∧
    List.lookup ("_fields" : Str) (fsH a b c d e f g) = some e ∧ List.lookup ("_leads" : Str) (fsH a b c d e f g) = some f ∧ List.lookup ("_far" : Str) (fsH a b c d e f g) = some g := ⟨rfl, rfl, rfl, rfl, rfl, rfl, rfl⟩
abbrev sHas : Stmt := meth 53 5
abbrev nHas : List Str := ["self", "x"]
def spHas (K : PySem.W.Frag) (CF CK CH : Addr) : Sp := fun vs H Q _ => ∃ (s : Addr) (v : V) (d : PyData) (root : Str) (ks : List KD), vs = [.ref s, v] ∧ HouseAt K CF CK CH H s root ks ∧ Dq K H v d ∧ Q (.bl (inHouse ks d)) H
theorem scHas : FnScope nHas nHas (defScope sHas) := ⟨rfl, rfl, rfl, by decide +kernel, rfl, by decide +kernel, by decide +kernel⟩
theorem ok_has {f : Addr} {fd : FuncData} (F : Fun K "__contains__" "House.__contains__" sHas f fd) (B : Bn mg) (HC : PlainC K CH houseAt) : FnOk P w K mg base CX0 1 f fd nHas (spHas K CF CK CH) := by
  refine F.ok scHas (fun vs H Q E h => ?_) (fun cdv A outer s0 H vs Q E hr h => ?_)
  · obtain ⟨s, v, d, root, ks, rfl, _⟩ := h
    rfl
  · obtain ⟨s, v, d, root, ks, rfl, ⟨⟨dx, tn, tk, dd, df, dl, dr, hs, hT, _, hd, _⟩, ok⟩, q, k⟩ := h
    have hu := hu_of hr
    refine ⟨_, 
      (pss_one (ps_ret (pe_and (pe_callB call_isi (by rfl) B.isi boot_isi (pa_cons (pv 1) (pa_cons (pe_bltn (v := .ty "str") (by rfl) B.str boot_tstr rfl) pa_nil))) (pe_one (pe_cmp (pc_din hu (pv 1) (pe_fld (pv 0) rfl))))))), ?_⟩
    refine ⟨_, rfl, _, _, _, _, _, rfl, .ty "str", q.ty, kit_str d, _, rfl, ?_⟩
    cases d with
    | str x =>
      have ev : v = .str x := by
        cases q with
        | dat q _ => cases q; rfl
      subst ev
      obtain ⟨o, g, eo⟩ := hd.has x
      refine ⟨_, rfl, _, rfl, s, CH, dx, _, _, rfl, hs, HC.cl, HC.no _ (by simp), (lk_h _ _ _ _ _ _ _).2.2.2.1, dd, o, rfl, g, ?_⟩
      rw [eo]
      exact k
    | _ => exact k
/-! ## what a house is asked -/
abbrev sCk : Stmt := meth 53 9
abbrev nCk : List Str := ["self", "kind"]
/-- asked for a kind that it has: nothing; for another: UnknownKind, of that name -/
def spCk (K : PySem.W.Frag) (CF CK CH CU : Addr) : Sp := fun vs H Q E => ∃ (s : Addr) (v : V) (d : PyData) (root : Str) (ks : List KD), vs = [.ref s, v] ∧ HouseAt K CF CK CH H s root ks ∧ Dq K H v d ∧
  (inHouse ks d = true → Q .non H) ∧ (inHouse ks d = false → ∀ (H' : Hp) (e : Addr), Same H H' → H e = none → H' e = some (.xd [("name", v)]) → E (.ref CU) (some e) H')
theorem scCk : FnScope nCk nCk (defScope sCk) := ⟨rfl, rfl, rfl, by decide +kernel, rfl, by decide +kernel, by decide +kernel⟩
theorem ok_ck {f f1 CU fU : Addr} {fd fd1 fdU : FuncData} (F : Fun K "_check" "House._check" sCk f fd) (HS : KMt P w K mg base CH CX0 1 "__contains__" nHas (spHas K CF CK CH) f1 fd1) (hasIn : PySem.W.findIn K (.ref CH) "__contains__" = some (some (.ref f1))) (hasFn : PySem.W.isFn K (.ref f1) = true)
    (M : Mk1 P w K mg base "UnknownKind" "name" CU fU fdU) : FnOk P w K mg base (L2N.CX P w) 3 f fd nCk (spCk K CF CK CH CU) := by
  refine fun_okC F scCk (fun vs H Q E h => ?_) (fun cdv A outer s0 H vs Q E hr h => ?_)
  · obtain ⟨s, v, d, root, ks, rfl, _⟩ := h
    rfl
  · obtain ⟨s, v, d, root, ks, rfl, ha, q, k1, k2⟩ := h
    have hu := hu_of hr
    refine ⟨_, 
      (pss_one (ps_if (pt_cmpR (op_ownNotIn HS.ok HS.bi pass0 hasIn hasFn (hr.mono (by decide))) (pv 1) (pv 0) (by rfl)) 
        (pss_one (L2N.ps_raise rfl (L2N.takes_of rfl rfl rfl rfl) (pmk_oexN M.T M.iC M.tI M.FI (hr.mono (by decide)) M.bI pass0 (by rfl) M.gC (pa_cons (pv 1) pa_nil)))) pss_nil)), ?_⟩
    obtain ⟨dx, tn, tk, dd, df, dl, dr, hs, _⟩ := ha.ex
    refine ⟨_, rfl, _, rfl, s, dx, _, rfl, hs, s, v, d, root, ks, rfl, ha, q, _, rfl, _, rfl, ?_⟩
    cases e : inHouse ks d with
    | true => exact iteF (k1 e)
    | false =>
      refine iteT ⟨_, rfl, rs1 (Q := E) fun d0 nd => k2 e _ d0 (same_new nd) nd upd_same⟩
abbrev sFo : Stmt := meth 53 11
abbrev nFo : List Str := ["self", "kind"]
def spFo (K : PySem.W.Frag) (CF CK CH : Addr) : Sp := fun vs H Q _ => ∃ (s : Addr) (root : Str) (ks : List KD) (x : KD), vs = [.ref s, .str x.n] ∧ HouseAt K CF CK CH H s root ks ∧ Dq K H (.str x.n) (.str x.n) ∧ x ∈ ks ∧
  ∀ D H' us, Same H H' → H' D = some (.lst us) → Ev (rF K CF) H' us (allF ks x) → Q (.ref D) H'
theorem scFo : FnScope nFo nFo (defScope sFo) := ⟨rfl, rfl, rfl, by decide +kernel, rfl, by decide +kernel, by decide +kernel⟩
theorem get_allF {H : Hp} {ks : List KD} {x : KD} {df : Addr} (h : Dc (rTF K CF) H df (ks.map (·.n)) (ks.map (allF ks))) (nd : (ks.map (·.n)).Nodup) (mx : x ∈ ks) : ∃ t us, DGet H df (.str x.n) (some (.ref t)) ∧ SqT K H t us ∧ Ev (rF K CF) H us (allF ks x) := by
  obtain ⟨i, u, gs, hi, hz, ⟨t, rfl, us, hus, evu⟩, g⟩ := h.get (List.mem_map_of_mem mx)
  have egs : gs = allF ks x := by
    obtain ⟨j, hj, ej⟩ := List.getElem_of_mem mx
    have q : (ks.map (·.n))[j]? = some x.n := by rw [List.getElem?_map, List.getElem?_eq_getElem hj, ej]; rfl
    have q2 : i < (ks.map (·.n)).length := (List.getElem?_eq_some_iff.mp hi).1
    have := (List.getElem?_inj (i := i) (j := j) q2 nd).mp (hi.trans q.symm)
    subst this
    rw [List.getElem?_map, List.getElem?_eq_getElem hj, ej] at hz
    exact (Option.some.inj hz).symm
  subst egs
  exact ⟨t, us, g, hus, evu⟩
theorem in_house {ks : List KD} {x : KD} (mx : x ∈ ks) : inHouse ks (.str x.n) = true := decide_eq_true (List.mem_map_of_mem mx)
theorem ok_fo {f f1 CU : Addr} {fd fd1 : FuncData} (F : Fun K "fields_of" "House.fields_of" sFo f fd) (B : Bn mg) (HC : PlainC K CH houseAt) (CK0 : KMt P w K mg base CH (L2N.CX P w) 3 "_check" nCk (spCk K CF CK CH CU) f1 fd1) : FnOk P w K mg base (L2N.CX P w) 4 f fd nFo (spFo K CF CK CH) := by
  refine fun_okC F scFo (fun vs H Q E h => ?_) (fun cdv A outer s0 H vs Q E hr h => ?_)
  · obtain ⟨s, root, ks, x, rfl, _⟩ := h
    rfl
  · obtain ⟨s, root, ks, x, rfl, ha, q, mx, k⟩ := h
    have hu := hu_of hr
    refine ⟨_, 
      (pss_cons (ps_expr (pe_meth (pv 0) HC.cl CK0.mt CK0.ok (hr.mono (by decide)) CK0.bi .nil (L2N.passes_call (L2N.takes_of rfl rfl rfl rfl) (fun _ _ _ _ h => h)) (pa_cons (pv 1) pa_nil)))
      (pss_one (ps_ret (pe_callTy call_list_of (by rfl) B.list PyProof.Rows.boot_list (pa_cons (pe_dget hu (pe_fld (pv 0) rfl) (pv 1) (fun _ _ => rfl)) pa_nil))))), ?_⟩
    obtain ⟨dx, tn, tk, dd, df, dl, dr, hs, _, _, _, hf, _⟩ := ha.ex
    obtain ⟨t, us, g, hus, evu⟩ := get_allF hf ha.ok.nd mx
    refine ⟨_, rfl, s, dx, _, rfl, hs, rfl, _, rfl, s, .str x.n, .str x.n, root, ks, rfl, ha, q, fun _ => ?_, fun e => ?_⟩
    · exact ⟨_, rfl, s, CH, dx, _, _, rfl, hs, HC.cl, HC.no _ (by simp), (lk_h _ _ _ _ _ _ _).2.2.2.2.1, _, rfl, df, _, rfl, g, t, us, rfl, .inr hus, fun D hD => k D _ us (same_new hD) upd_same (evu.same (mF K CF) (same_new hD))⟩
    · rw [in_house mx] at e
      cases e
abbrev sFd : Stmt := meth 53 12
abbrev nFd : List Str := ["self", "kind", "name", "field"]
/-- the first field of a name -/
def fieldNamed (gs : List FV) : PyData → Option FV
  | .str n => gs.find? fun g => decide (g.n = n)
  | _ => none
def spFd (K : PySem.W.Frag) (CF CK CH CU CV : Addr) : Sp := fun vs H Q E => ∃ (s : Addr) (v y : V) (d z : PyData) (root : Str) (ks : List KD), vs = [.ref s, v, y] ∧ HouseAt K CF CK CH H s root ks ∧ Dq K H v d ∧ Dq K H y z ∧ (∀ n, scal (.str n) y = true) ∧
  (inHouse ks d = false → ∀ (H' : Hp) (e : Addr), Same H H' → H e = none → H' e = some (.xd [("name", v)]) → E (.ref CU) (some e) H') ∧
  ∀ x ∈ ks, d = .str x.n → ((∀ g, fieldNamed (allF ks x) z = some g → ∀ u, rF K CF H u g → Q u H) ∧ (fieldNamed (allF ks x) z = none → ∀ (H' : Hp) (e : Addr), Same H H' → H e = none → H' e = some (.xd [("name", y), ("kind", v)]) → E (.ref CV) (some e) H'))
theorem scFd : FnScope nFd ["self", "kind", "name"] (defScope sFd) := ⟨rfl, rfl, rfl, by decide +kernel, rfl, by decide +kernel, by decide +kernel⟩
theorem ok_fd {f f1 CU CV fV : Addr} {fd fd1 fdV : FuncData} (F : Fun K "field_of" "House.field_of" sFd f fd) (HC : PlainC K CH houseAt) (CFc : PlainC K CF ["name", "mode", "target", "default", "was"]) (CK0 : KMt P w K mg base CH (L2N.CX P w) 3 "_check" nCk (spCk K CF CK CH CU) f1 fd1)
    (M : Mk2 P w K mg base "UnknownField" "kind" "name" CV fV fdV) : FnOk P w K mg base (L2N.CX P w) 4 f fd ["self", "kind", "name"] (spFd K CF CK CH CU CV) := by
  refine fun_okC F scFd (fun vs H Q E h => ?_) (fun cdv A outer s0 H vs Q E hr h => ?_)
  · obtain ⟨s, v, y, d, z, root, ks, rfl, _⟩ := h
    rfl
  · obtain ⟨s, v, y, d, z, root, ks, rfl, ha, q, qz, sy, k1, k2⟩ := h
    have hu := hu_of hr
    refine ⟨_, 
      (pss_cons (ps_expr (pe_meth (pv 0) HC.cl CK0.mt CK0.ok (hr.mono (by decide)) CK0.bi .nil (L2N.passes_call (L2N.takes_of rfl rfl rfl rfl) (fun _ _ _ _ h => h)) (pa_cons (pv 1) pa_nil)))
      (pss_cons (ps_for PassesOwn.leaving rfl (pi_tup (pe_dget hu (pe_fld (pv 0) rfl) (pv 1) (fun _ _ => rfl))) (pg_name (i := 3) scFd.nd rfl (Or.inl rfl)) 
        (pss_one (ps_if (pt_cmpR op_eq (pe_fld (pv 3) rfl) (pv 2) (nomark _)) 
          (pss_one (ps_ret (pv 3))) pss_nil)))
      (pss_one (L2N.ps_raise rfl (L2N.takes_of rfl rfl rfl rfl) (pmk_oexN M.T M.iC M.tI M.FI (hr.mono (by decide)) M.bI pass0 (by rfl) M.gC (pa_cons (pv 1) (pa_cons (pv 2) pa_nil))))))), ?_⟩
    obtain ⟨dx, tn, tk, dd, df, dl, dr, hs, _, _, _, hf, _⟩ := ha.ex
    refine ⟨_, rfl, s, dx, _, rfl, hs, rfl, _, rfl, s, v, d, root, ks, rfl, ha, q, fun e => ?_, fun e => ?_⟩
    · obtain ⟨n, rfl⟩ : ∃ n, d = .str n := by
        cases d <;> first | exact ⟨_, rfl⟩ | cases e
      obtain ⟨x, mx, rfl⟩ := List.mem_map.mp (of_decide_eq_true e)
      cases q.str_of
      obtain ⟨p1, p2⟩ := k2 x mx rfl
      obtain ⟨t, us, g, hus, evu⟩ := get_allF hf ha.ok.nd mx
      refine ⟨_, rfl, s, CH, dx, _, _, rfl, hs, HC.cl, HC.no _ (by simp), (lk_h _ _ _ _ _ _ _).2.2.2.2.1, _, rfl, df, _, rfl, g, t, rfl, ⟨us, hus⟩, ?_⟩
      refine for_it (walk_tup (xs := us)) (fun j σ H' => H' = H ∧ ∃ v3, σ = [some (.ref s), some (.str x.n), some y, v3] ∧ fieldNamed ((allF ks x).take j) z = none) ⟨rfl, none, rfl, by cases z <;> rfl⟩ (fun i σ H' _ ⟨e, _⟩ => e ▸ hus) ?_ ?_
      · rintro j u σ _ _ hj ⟨rfl, v3, rfl, no⟩ ⟨rfl, hv⟩
        obtain ⟨g0, hg0, r⟩ := evu.at hv
        obtain ⟨b, rfl, ⟨dy, tw, hb, _⟩, _⟩ := id r
        have tk : (allF ks x).take (j + 1) = (allF ks x).take j ++ [g0] := take_snoc hg0
        have eq : decide (V.str g0.n = y) = (fieldNamed [g0] z).isSome := by
          cases z with
          | str n =>
            cases qz.str_of
            rw [dec_s]
            by_cases e9 : g0.n = n <;> simp [fieldNamed, List.find?, e9]
          | _ =>
            show _ = false
            refine decide_eq_false fun e9 => ?_
            subst e9
            cases qz with
            | dat q9 _ => cases q9
        have ap : ∀ gs hs : List FV, fieldNamed gs z = none → fieldNamed (gs ++ hs) z = fieldNamed hs z := fun gs hs e9 => by
          cases z with
          | str n =>
            simp only [fieldNamed] at e9 ⊢
            rw [List.find?_append, e9]
            rfl
          | _ => rfl
        refine ⟨_, rfl, b, CF, dy, _, _, rfl, hb, CFc.cl, CFc.no _ (by simp), (lk_fs _ _ _ _ _).2.2.2.2, _, rfl, sy _, _, rfl, ?_⟩
        rw [eq]
        cases e8 : fieldNamed [g0] z with
        | none =>
          refine iteF ⟨rfl, _, rfl, ?_⟩
          rw [tk, ap _ _ no, e8]
        | some g1 =>
          have e7 : g1 = g0 := by
            cases z with
            | str n =>
              simp only [fieldNamed] at e8
              have := List.mem_of_find?_eq_some e8
              exact List.mem_singleton.mp this
            | _ => cases e8
          subst e7
          refine iteT ⟨_, rfl, p1 g1 ?_ _ r⟩
          have whole : allF ks x = (allF ks x).take j ++ ([g1] ++ (allF ks x).drop (j + 1)) := by
            rw [← List.append_assoc, ← tk, List.take_append_drop]
          rw [whole, ap _ _ no]
          cases z with
          | str n =>
            simp only [fieldNamed] at e8 ⊢
            rw [List.find?_append, e8]
            rfl
          | _ => cases e8
      · rintro σ _ ⟨rfl, v3, rfl, no⟩
        rw [evu.1, List.take_length] at no
        exact ⟨_, rfl, _, rfl, rs2 (Q := E) fun d0 nd => p2 no _ d0 (same_new nd) nd upd_same⟩
    · exact k1 e
end
end Wh
set_option Elab.async false
set_option linter.all false
set_option maxRecDepth 100000
set_option maxHeartbeats 4000000
namespace Wh
open PySem PySem.Spec PyProof.Rows L2
open Wp hiding Same.refl Same.trans same_new boot_all
open W8 (Ev Rp Kp Mono same_new take_snoc rW rB mW mB ev_words ev_words_eq ev_bools_eq lc_sieve)
/-! ## what a reader takes -/
theorem passLN {X : Cx} : Passes (L2N.CX X.prog X.w) X E0 := fun _ _ _ _ _ _ _ h => by
  obtain ⟨_, _, _, _, _, _, _, _, _, _, _, _, z⟩ := h
  exact z.elim
def fitsB (g o : FV) : Bool := decide (g.m = o.m) && decide (g.t = o.t) && decide (g.d = o.d)
def srcOf (gs : List FV) (g : FV) : Option Str := (g.n :: g.w).find? fun n => gs.any fun o => decide (o.n = n) && fitsB g o
section
variable {P : Program} {w : World} {K : PySem.W.Frag} {mg : Str → Option Value} {base : Heap} {CF CK CH : Addr}
theorem find_first {α : Type} {p : α → Bool} : ∀ {l : List α} {j : Nat} {n : α}, (∀ m ∈ l.take j, p m = false) → l[j]? = some n → p n = true → l.find? p = some n
  | [], j, n, _, h, _ => by simp at h
  | x :: l, 0, n, _, h, hp => by
    simp at h
    subst h
    rw [List.find?_cons, hp]
  | x :: l, j + 1, n, hf, h, hp => by
    have hx : p x = false := hf x (by simp)
    rw [List.find?_cons, hx]
    exact find_first (j := j) (fun m hm => hf m (by rw [List.take_succ_cons]; exact List.mem_cons_of_mem _ hm)) (by simpa using h) hp
abbrev sFt : Stmt := top 33
abbrev nFt : List Str := ["field", "other"]
def spFt (K : PySem.W.Frag) (CF : Addr) : Sp := fun vs H Q _ => ∃ (v y : V) (g o : FV), vs = [v, y] ∧ rF K CF H v g ∧ rF K CF H y o ∧ Q (.bl (fitsB g o)) H
theorem scFt : FnScope nFt nFt (defScope sFt) := ⟨rfl, rfl, rfl, by decide +kernel, rfl, by decide +kernel, by decide +kernel⟩
theorem ok_ft {f : Addr} {fd : FuncData} (F : Fun K "_fits" "_fits" sFt f fd) (CFc : PlainC K CF ["name", "mode", "target", "default", "was"]) : FnOk P w K mg base CX0 1 f fd nFt (spFt K CF) := by
  refine F.ok scFt (fun vs H Q E h => ?_) (fun cdv A outer s0 H vs Q E hr h => ?_)
  · obtain ⟨v, y, g, o, rfl, _⟩ := h
    rfl
  · obtain ⟨_, _, g, o, rfl, ⟨a, rfl, ⟨dx, tw, ha, _⟩, _⟩, ⟨b, rfl, ⟨dy, ty, hb, _⟩, _⟩, k⟩ := h
    refine ⟨_, 
      (pss_one (ps_ret (pe_and (pe_cmpR op_eq (pe_fld (pv 0) rfl) (pe_fld (pv 1) rfl) (nomark _)) (pe_and (pe_cmpR op_eq (pe_fld (pv 0) rfl) (pe_fld (pv 1) rfl) (nomark _)) (pe_one (pe_cmpR op_eq (pe_fld (pv 0) rfl) (pe_fld (pv 1) rfl) (nomark _))))))), ?_⟩
    unfold fitsB at k
    refine ⟨_, rfl, a, CF, dx, _, _, rfl, ha, CFc.cl, CFc.no _ (by simp), (lk_fs _ _ _ _ _).2.2.2.1, _, rfl, b, CF, dy, _, _, rfl, hb, CFc.cl, CFc.no _ (by simp), (lk_fs _ _ _ _ _).2.2.2.1, rfl, _, rfl, ?_⟩
    rw [dec_s]
    cases e1 : decide (g.m = o.m) with
    | false =>
      rw [e1] at k
      exact iteF k
    | true =>
      rw [e1] at k
      refine iteT ⟨_, rfl, a, CF, dx, _, _, rfl, ha, CFc.cl, CFc.no _ (by simp), (lk_fs _ _ _ _ _).2.2.1, _, rfl, b, CF, dy, _, _, rfl, hb, CFc.cl, CFc.no _ (by simp), (lk_fs _ _ _ _ _).2.2.1, scal_tv _ _, _, rfl, ?_⟩
      rw [show decide (tv g.t = tv o.t) = decide (g.t = o.t) by
        cases g.t <;> cases o.t <;> simp [tv]]
      cases e2 : decide (g.t = o.t) with
      | false =>
        rw [e2] at k
        exact iteF k
      | true =>
        rw [e2] at k
        refine iteT ⟨_, rfl, a, CF, dx, _, _, rfl, ha, CFc.cl, CFc.no _ (by simp), (lk_fs _ _ _ _ _).2.1, _, rfl, b, CF, dy, _, _, rfl, hb, CFc.cl, CFc.no _ (by simp), (lk_fs _ _ _ _ _).2.1, rfl, ?_⟩
        rw [show decide (V.int g.d = V.int o.d) = decide (g.d = o.d) by simp]
        exact k
abbrev sSf : Stmt := top 34
abbrev nSf : List Str := ["writer", "reader", "kind", "field", "taking", "fields", "name", "other"]
def spSf (K : PySem.W.Frag) (CF CK CH CU CV : Addr) : Sp := fun vs H Q E => ∃ (s1 s2 : Addr) (v y : V) (d z : PyData) (r1 r2 : Str) (ks1 ks2 : List KD), vs = [.ref s1, .ref s2, v, y] ∧ HouseAt K CF CK CH H s1 r1 ks1 ∧ HouseAt K CF CK CH H s2 r2 ks2 ∧ Dq K H v d ∧ Dq K H y z ∧ (∀ n, scal (.str n) y = true) ∧
  (inHouse ks2 d = false → ∀ (H' : Hp) (e : Addr), Same H H' → H e = none → H' e = some (.xd [("name", v)]) → E (.ref CU) (some e) H') ∧
  ∀ x ∈ ks2, d = .str x.n → (fieldNamed (allF ks2 x) z = none → ∀ (H' : Hp) (e : Addr), Same H H' → H e = none → H' e = some (.xd [("name", y), ("kind", v)]) → E (.ref CV) (some e) H') ∧
    (∀ g, fieldNamed (allF ks2 x) z = some g → ∃ x1 ∈ ks1, x1.n = x.n ∧ g.w.length ≤ 1000 ∧ ∀ H', Same H H' → Q (tv (srcOf (allF ks1 x1) g)) H')
theorem scSf : FnScope nSf ["writer", "reader", "kind", "field"] (defScope sSf) := ⟨rfl, rfl, rfl, by decide +kernel, rfl, by decide +kernel, by decide +kernel⟩
theorem ok_sf {f f1 f2 f3 CU CV : Addr} {fd fd1 fd2 fd3 : FuncData} (F : Fun K "source_field" "source_field" sSf f fd) (HC : PlainC K CH houseAt) (CFc : PlainC K CF ["name", "mode", "target", "default", "was"]) (FT : Known P w K mg base CX0 1 "_fits" nFt (spFt K CF) f1 fd1)
    (FO : KMt P w K mg base CH (L2N.CX P w) 4 "fields_of" nFo (spFo K CF CK CH) f2 fd2) (FD : KMt P w K mg base CH (L2N.CX P w) 4 "field_of" ["self", "kind", "name"] (spFd K CF CK CH CU CV) f3 fd3) : FnOk P w K mg base (L2N.CX P w) 5 f fd ["writer", "reader", "kind", "field"] (spSf K CF CK CH CU CV) := by
  refine fun_okC F scSf (fun vs H Q E h => ?_) (fun cdv A outer s0 H vs Q E hr h => ?_)
  · obtain ⟨s1, s2, v, y, d, z, r1, r2, ks1, ks2, rfl, _⟩ := h
    rfl
  · obtain ⟨s1, s2, v, y, d, z, r1, r2, ks1, ks2, rfl, h1, h2, q, qz, sy, k1, k2⟩ := h
    have hu := hu_of hr
    refine ⟨_, 
      (pss_cons (ps_set (i := 4) scSf.nd rfl (.inl rfl) (pe_meth (pv 1) HC.cl FD.mt FD.ok (hr.mono (by decide)) FD.bi .nil (L2N.passes_call (L2N.takes_of rfl rfl rfl rfl) (fun _ _ _ _ h => h)) (pa_cons (pv 2) (pa_cons (pv 3) pa_nil))))
      (pss_cons (ps_set (i := 5) scSf.nd rfl (.inl rfl) (pe_meth (pv 0) HC.cl FO.mt FO.ok (hr.mono (by decide)) FO.bi .nil passLN (pa_cons (pv 2) pa_nil)))
      (pss_cons (ps_for PassesOwn.leaving rfl (pi_tup (pe_tup (pa_cons (pe_fld (pv 4) rfl) (StX.pa_star (pe_fld (pv 4) rfl) pa_nil)))) (pg_name (i := 6) scSf.nd rfl (Or.inl rfl)) 
        (pss_one (ps_for PassesOwn.leaving rfl (pi_list (pv 5)) (pg_name (i := 7) scSf.nd rfl (Or.inl rfl)) 
          (pss_one (ps_if (PW.pt (pw_and (pt_cmpR op_eq (pe_fld (pv 7) rfl) (pv 6) (nomark _)) (pw_and1 (pt_val (pe_call FT.ok (hr.mono (by decide)) rfl FT.mg FT.kp FT.bi .nil pass0 (pa_cons (pv 4) (pa_cons (pv 7) pa_nil))))))) 
            (pss_one (ps_ret (pv 6))) pss_nil)))))
      (pss_one (ps_ret pe_non))))), ?_⟩
    obtain ⟨dx, _, _, _, _, _, _, hs1, _⟩ := h1.ex
    obtain ⟨dy, _, _, _, _, _, _, hs2, _⟩ := h2.ex
    refine ⟨_, rfl, s2, dy, _, rfl, hs2, rfl, _, rfl, _, rfl, s2, v, y, d, z, r2, ks2, rfl, h2, q, qz, sy, k1, fun x mx ed => ⟨fun g eg u ru => ?_, (k2 x mx ed).1⟩⟩
    obtain ⟨x1, mx1, en, gw, k3⟩ := (k2 x mx ed).2 g eg
    have q1 := q
    rw [ed] at q1
    cases q1.str_of
    rw [← en] at q1 ⊢
    refine ⟨_, rfl, s1, dx, _, rfl, hs1, rfl, _, rfl, s1, r1, ks1, x1, rfl, h1, q1, mx1, fun D H1 us s hD eu => ?_⟩
    obtain ⟨a, rfl, ⟨da, tw, ha, hw⟩, _⟩ := id ru
    have hw1 := s.sqT hw
    refine ⟨_, rfl, a, CF, da, _, _, rfl, s _ _ ha, CFc.cl, CFc.no _ (by simp), (lk_fs _ _ _ _ _).2.2.2.2, _, rfl, a, CF, da, _, _, rfl, s _ _ ha, CFc.cl, CFc.no _ (by simp), (lk_fs _ _ _ _ _).1, tw, g.w.map V.str, rfl, .inl hw1, ?_, fun p hp => ⟨p, rfl, ⟨_, SqT.of upd_same⟩, ?_⟩⟩
    · rw [List.append_nil, List.length_cons, List.length_map, sizeLine_eq]
      omega
    have sp1 : Same H1 (upd H1 p (.tup (V.str g.n :: (g.w.map V.str ++ [])))) := same_new hp
    have en2 : V.str g.n :: (g.w.map V.str ++ []) = (g.n :: g.w).map V.str := by simp
    have hp2 : SqT K (upd H1 p (.tup (V.str g.n :: (g.w.map V.str ++ [])))) p ((g.n :: g.w).map V.str) := by
      rw [en2]
      exact SqT.of upd_same
    generalize hH2 : upd H1 p (.tup (V.str g.n :: (g.w.map V.str ++ []))) = H2 at sp1 hp2 ⊢
    have sH2 : Same H H2 := s.trans sp1
    have eu2 : Ev (rF K CF) H2 us (allF ks1 x1) := eu.same (mF K CF) sp1
    have ru2 : rF K CF H2 (.ref a) g := rF_stay (.kp (.of sH2)) ru
    have hD2 := sp1 _ _ hD
    refine for_it (walk_tup (xs := (g.n :: g.w).map V.str)) (fun j σ H' => ∃ v6 v7, σ = [some (.ref s1), some (.ref s2), some (.str x1.n), some y, some (.ref a), some (.ref D), v6, v7] ∧ Same H2 H' ∧ ∀ n ∈ (g.n :: g.w).take j, ((allF ks1 x1).any fun o => decide (o.n = n) && fitsB g o) = false)
      ⟨none, none, rfl, Same.refl _, by simp⟩ (fun i σ H' _ ⟨_, _, _, e, _⟩ => e.sqT hp2) ?_ ?_
    · rintro j u0 σ H3 _ hj ⟨v6, v7, rfl, s3, no⟩ ⟨rfl, hu0⟩
      rw [List.getElem?_map] at hu0
      obtain ⟨n, hn, rfl⟩ := Option.map_eq_some_iff.mp hu0
      refine ⟨_, rfl, D, rfl, ⟨us, SqL.of (s3 _ _ hD2)⟩, ?_⟩
      refine for_it (walk_list (xs := us)) (fun i σ H' => ∃ v7, σ = [some (.ref s1), some (.ref s2), some (.str x1.n), some y, some (.ref a), some (.ref D), some (.str n), v7] ∧ Same H2 H' ∧ ∀ o ∈ (allF ks1 x1).take i, (decide (o.n = n) && fitsB g o) = false)
        ⟨v7, rfl, s3, by simp⟩ (fun i σ H' _ ⟨_, _, e, _⟩ => SqL.of (e _ _ hD2)) ?_ ?_
      · rintro i u1 σ H4 _ hi ⟨v7, rfl, s4, no2⟩ ⟨rfl, hu1⟩
        obtain ⟨o, ho, ro⟩ := (eu2.same (mF K CF) s4).at hu1
        obtain ⟨b, rfl, ⟨db, tb, hb, _⟩, _⟩ := id ro
        have rg := rF_stay (.kp (.of s4)) ru2
        have tk : (allF ks1 x1).take (i + 1) = (allF ks1 x1).take i ++ [o] := take_snoc ho
        have next : (decide (o.n = n) && fitsB g o) = false → ∀ o2 ∈ (allF ks1 x1).take (i + 1), (decide (o2.n = n) && fitsB g o2) = false := fun e2 o2 m2 => by
          rw [tk, List.mem_append] at m2
          rcases m2 with m2 | m2
          · exact no2 o2 m2
          · rw [List.mem_singleton.mp m2]; exact e2
        refine ⟨_, rfl, b, CF, db, _, _, rfl, hb, CFc.cl, CFc.no _ (by simp), (lk_fs _ _ _ _ _).2.2.2.2, _, rfl, rfl, _, rfl, ?_⟩
        rw [dec_s]
        cases e1 : decide (o.n = n) with
        | false => exact iteF (iteF ⟨_, rfl, s4, next (by rw [e1]; rfl)⟩)
        | true =>
          refine iteT ⟨_, rfl, _, rfl, .ref a, .ref b, g, o, rfl, rg, ro, _, rfl, ?_⟩
          cases e2 : fitsB g o with
          | false => exact iteF ⟨_, rfl, s4, next (by rw [e1, e2]; rfl)⟩
          | true =>
            refine iteT ⟨_, rfl, ?_⟩
            have src : srcOf (allF ks1 x1) g = some n := find_first no hn (by
              rw [List.any_eq_true]
              exact ⟨o, List.mem_of_getElem? ho, by rw [e1, e2]; rfl⟩)
            have q9 := k3 _ (sH2.trans s4)
            rw [src] at q9
            exact q9
      · rintro σ H4 ⟨v7, rfl, s4, no2⟩
        refine ⟨_, _, rfl, s4, fun m hm => ?_⟩
        rw [take_snoc hn, List.mem_append] at hm
        rcases hm with hm | hm
        · exact no m hm
        · rw [List.mem_singleton.mp hm]
          rw [eu2.1, List.take_length] at no2
          exact List.any_eq_false.mpr fun o mo => by rw [no2 o mo]; exact Bool.false_ne_true
    · rintro σ H3 ⟨v6, v7, rfl, s3, no⟩
      have src : srcOf (allF ks1 x1) g = none := List.find?_eq_none.mpr fun m hm => by
        rw [no m (by rw [List.length_map, List.take_length]; exact hm)]
        exact Bool.false_ne_true
      have q9 := k3 _ (sH2.trans s3)
      rw [src] at q9
      exact q9
end
end Wh
set_option Elab.async false
set_option linter.all false
set_option maxRecDepth 100000
set_option maxHeartbeats 4000000
namespace Wh
open PySem PySem.Spec PyProof.Rows L2
open Wp hiding Same.refl Same.trans same_new boot_all
open W8 (Ev Rp Kp Mono same_new take_snoc rW rB mW mB ev_words ev_words_eq ev_bools_eq lc_sieve)
structure Bx (mg : Str → Option Value) : Prop where
  abs : mg "abs" = none
  max : mg "max" = none
  min : mg "min" = none
/-! ## numbers drawn out of a pot, at most n of them so far -/
theorem mod7 {x b : Int} (hb : 0 < b) : 0 ≤ x % b ∧ x % b < b := ⟨Int.emod_nonneg _ (by omega), Int.emod_lt_of_pos _ hb⟩
def Pot (p : Addr) (n : Nat) (H : Hp) : Prop := ∃ a b c : Int, H p = some (.lst [.int a, .int b, .int c]) ∧ 0 ≤ b ∧ b < 2 ^ 62 ∧ 0 ≤ c ∧ c ≤ n
theorem Pot.same {p : Addr} {n : Nat} {H H' : Hp} (h : Pot p n H) (s : Same H H') : Pot p n H' := let ⟨a, b, c, e, r⟩ := h; ⟨a, b, c, s _ _ e, r⟩
theorem Pot.le {p : Addr} {n m : Nat} {H : Hp} (h : Pot p n H) (l : n ≤ m) : Pot p m H := let ⟨a, b, c, e, r1, r2, r3, r4⟩ := h; ⟨a, b, c, e, r1, r2, r3, by omega⟩
theorem but_of {p : Addr} {H H' : Hp} (s : Same H H') : But p H H' := fun b o _ e => s b o e
theorem but_trans {p : Addr} {H H1 H2 : Hp} (a : But p H H1) (b : But p H1 H2) : But p H H2 := fun c o n e => b c o n (a c o n e)
section
variable {P : Program} {w : World} {K : PySem.W.Frag} {mg : Str → Option Value} {base : Heap}
theorem log_small {m : Int} (h : 0 < m) (l : m ≤ 1000000000000) : m.natAbs.log2 < 9000 := by
  have h0 : m.natAbs ≠ 0 := by omega
  have : m.natAbs.log2 < 40 := (Nat.log2_lt h0).mpr (by
    have : (2 : Nat) ^ 40 = 1099511627776 := by decide
    omega)
  omega
abbrev sDr : Stmt := top 56
abbrev nDr : List Str := ["_law_pot_here", "_law_many", "_law_digit", "_law_mixed"]
def spDr : Sp := fun vs H Q _ => ∃ (p : Addr) (m : Int) (n : Nat), vs = [.ref p, .int m] ∧ Pot p n H ∧ n < 1000000 ∧ 0 < m ∧ m ≤ 1000000000000 ∧ ∀ (k : Int) H', 0 ≤ k → k < m → But p H H' → Pot p (n + 1) H' → Q (.int k) H'
theorem scDr : FnScope nDr ["_law_pot_here", "_law_many"] (defScope sDr) := ⟨rfl, rfl, rfl, by decide +kernel, rfl, by decide +kernel, by decide +kernel⟩
theorem ok_Dr {f : Addr} {fd : FuncData} (F : Fun K "_law_draw" "_law_draw" sDr f fd) (B : Bn mg) : FnOk P w K mg base CX0 1 f fd ["_law_pot_here", "_law_many"] spDr := by
  refine F.ok scDr (fun vs H Q E h => ?_) (fun cdv A outer s H vs Q E hr h => ?_)
  · obtain ⟨p, m, n, rfl, _⟩ := h
    rfl
  · obtain ⟨p, m, n, rfl, ⟨a, b, c, hp, b0, b1, c0, c1⟩, n1, m0, m1, k⟩ := h
    refine ⟨_, 
      (pss_cons (ps_if (pt_cmpR op_gt (pe_ix ix_list (pv 0) pe_int (fun _ _ => rfl)) pe_int (nomark _)) 
        (pss_cons (ps_set (i := 2) scDr.nd rfl (.inl rfl) (pe_op op_mod (pe_callTy call_int1 (by rfl) B.int PyProof.Rows.boot_int (pa_cons (pe_ix ix_list (pv 0) pe_int (fun _ _ => rfl)) pa_nil)) (pv 1)))
        (pss_cons (ps_asg (pe_op op_fdivW (pe_ix ix_list (pv 0) pe_int (fun _ _ => rfl)) (pv 1)) (pg_sub (pv 0) pe_int set_list))
        (pss_one (ps_ret (pv 2))))) pss_nil)
      (pss_cons (ps_asg (pe_op op_add (pe_ix ix_list (pv 0) pe_int (fun _ _ => rfl)) pe_int) (pg_sub (pv 0) pe_int set_list))
      (pss_cons (ps_set (i := 3) scDr.nd rfl (.inl rfl) (pe_op op_mod (pe_callTy call_int1 (by rfl) B.int PyProof.Rows.boot_int (pa_cons (pe_op op_add (pe_op op_pow (pe_op op_add (pe_ix ix_list (pv 0) pe_int (fun _ _ => rfl)) (pe_op op_mul pe_int (pe_ix ix_list (pv 0) pe_int (fun _ _ => rfl)))) pe_int) (pe_op op_mul pe_int (pe_ix ix_list (pv 0) pe_int (fun _ _ => rfl)))) pa_nil)) pe_int))
      (pss_cons (ps_set (i := 3) scDr.nd rfl (.inl rfl) (pe_op op_mod (pe_callTy call_int1 (by rfl) B.int PyProof.Rows.boot_int (pa_cons (pe_op op_add (pe_op op_add (pe_op op_pow (pv 3) pe_int) (pe_op op_mul pe_int (pe_ix ix_list (pv 0) pe_int (fun _ _ => rfl)))) (pe_ix ix_list (pv 0) pe_int (fun _ _ => rfl))) pa_nil)) pe_int))
      (pss_one (ps_ret (pe_op op_mod (pe_callTy call_int1 (by rfl) B.int PyProof.Rows.boot_int (pa_cons (pe_op op_fdiv (pv 3) pe_int) pa_nil)) (pv 1)))))))), ?_⟩
    refine ⟨_, rfl, p, _, _, _, rfl, rfl, SqL.of hp, atI_nat (j := 0) rfl, _, _, rfl, rfl, _, rfl, ?_⟩
    refine ite2 (fun _ => ?_) (fun _ => ?_)
    · refine ⟨_, rfl, p, _, _, _, rfl, rfl, SqL.of hp, atI_nat (j := 0) rfl, .inl ⟨_, rfl, _, rfl, _, _, rfl, rfl, m0, ?_⟩⟩
      refine ⟨_, rfl, p, _, _, _, rfl, rfl, SqL.of hp, atI_nat (j := 0) rfl, _, rfl, _, _, rfl, rfl, ⟨m0, log_small m0 m1⟩, _, rfl, p, _, _, 0, rfl, rfl, hp, rfl, ?_⟩
      refine ⟨_, rfl, k _ _ (mod7 m0).1 (mod7 m0).2 (fun b o nb e => ?_) ⟨_, _, _, upd_same, b0, b1, c0, by omega⟩⟩
      rw [upd_ne nb]
      exact e
    · refine ⟨_, rfl, p, _, _, _, rfl, rfl, SqL.of hp, atI_nat (j := 2) rfl, _, _, rfl, rfl, _, rfl, p, _, _, 2, rfl, rfl, hp, rfl, ?_⟩
      have hb : But p H (upd H p (.lst [.int a, .int b, .int (c + 1)])) := fun d o ne e => by
        rw [upd_ne ne]
        exact e
      refine ⟨_, rfl, p, _, _, _, rfl, rfl, SqL.of upd_same, atI_nat (j := 1) rfl, _, rfl, p, _, _, _, rfl, rfl, SqL.of upd_same, atI_nat (j := 2) rfl, _, _, rfl, rfl, .inl ⟨by decide, by decide⟩, _, _, rfl, rfl, _, _, rfl, rfl, ⟨by decide, by decide, ?_⟩,
        _, rfl, p, _, _, _, rfl, rfl, SqL.of upd_same, atI_nat (j := 2) rfl, _, _, rfl, rfl, .inl ⟨by decide, by decide⟩, _, _, rfl, rfl, .inl ⟨_, rfl, _, _, rfl, rfl, (by show (0 : Int) < 2305843009213693951; decide), ?_⟩⟩
      · have : (2 : Int) ^ 62 = 4611686018427387904 := by decide
        have : (2 : Nat) ^ 64 = 18446744073709551616 := by decide
        omega
      show gName 3 (V.int (((b + 7368787 * (c + 1)) ^ (3 : Int).toNat + 104729 * (c + 1)) % 2305843009213693951)) _ (upd H p (.lst [.int a, .int b, .int (c + 1)])) _
      have hx := mod7 (x := (b + 7368787 * (c + 1)) ^ (3 : Int).toNat + 104729 * (c + 1)) (b := 2305843009213693951) (by decide)
      generalize ((b + 7368787 * (c + 1)) ^ (3 : Int).toNat + 104729 * (c + 1)) % 2305843009213693951 = x at hx ⊢
      refine ⟨_, rfl, _, _, rfl, rfl, ⟨by decide, by decide, ?_⟩, _, rfl, p, _, _, _, rfl, rfl, SqL.of upd_same, atI_nat (j := 2) rfl, _, _, rfl, rfl, .inl ⟨by decide, by decide⟩, _, _, rfl, rfl, _, rfl, p, _, _, _, rfl, rfl, SqL.of upd_same, atI_nat (j := 1) rfl, _, _, rfl, rfl,
        .inl ⟨_, rfl, _, _, rfl, rfl, (by show (0 : Int) < 2147483647; decide), ?_⟩⟩
      · have : (2 : Nat) ^ 64 = 18446744073709551616 := by decide
        omega
      refine ⟨_, rfl, _, _, rfl, rfl, ⟨by decide, by decide⟩, .inl ⟨_, rfl, _, rfl, _, _, rfl, rfl, m0, ?_⟩⟩
      exact k _ _ (mod7 m0).1 (mod7 m0).2 hb ⟨_, _, _, upd_same, b0, b1, by omega, by omega⟩
abbrev sPt : Stmt := top 55
abbrev nPt : List Str := ["_law_script", "_law_at", "_law_cell", "_law_size", "_law_seed"]
def spPt (K : PySem.W.Frag) : Sp := fun vs H Q _ => ∃ (a : Addr) (ns : List Int) (i : Nat), vs = [.ref a, .int (i : Nat)] ∧ SqL K H a (ns.map V.int) ∧ i ≤ 1000 ∧ ∀ p H', H p = none → Same H H' → Pot p 0 H' → Q (.ref p) H'
theorem scPt : FnScope nPt ["_law_script", "_law_at"] (defScope sPt) := ⟨rfl, rfl, rfl, by decide +kernel, rfl, by decide +kernel, by decide +kernel⟩
theorem ok_Pt {f : Addr} {fd : FuncData} (F : Fun K "_law_pot" "_law_pot" sPt f fd) (B : Bn mg) (Bx : Bx mg) : FnOk P w K mg base CX0 1 f fd ["_law_script", "_law_at"] (spPt K) := by
  refine F.ok scPt (fun vs H Q E h => ?_) (fun cdv A outer s H vs Q E hr h => ?_)
  · obtain ⟨a, ns, i, rfl, _⟩ := h
    rfl
  · obtain ⟨a, ns, i, rfl, hS, hi, k⟩ := h
    refine ⟨_, 
      (pss_cut (ps_set (i := 2) scPt.nd rfl (.inl rfl) (pe_ifExp (pt_cmpR op_lt (pv 1) (pe_callB call_len_seq (by rfl) B.len PySem.boot_len (pa_cons (pv 0) pa_nil)) (nomark _)) (pe_ix ix_list (pv 0) (pv 1) (fun _ _ => rfl)) pe_int))
      (pss_cons (ps_set (i := 3) scPt.nd rfl (.inl rfl) (pe_callB call_abs (by rfl) Bx.abs (by decide +kernel) (pa_cons (pv 2) pa_nil)))
      (pss_cons (ps_set (i := 4) scPt.nd rfl (.inl rfl) (pe_op op_mod (pe_callTy call_int1 (by rfl) B.int PyProof.Rows.boot_int (pa_cons (pe_op op_add (pe_op op_mul pe_int (pv 3)) (pe_callTy call_int1 (by rfl) B.int PyProof.Rows.boot_int (pa_cons (pe_cmpR op_lt (pv 2) pe_int (nomark _)) pa_nil))) pa_nil)) pe_int))
      (pss_one (ps_ret (pe_lst (pa_cons (pe_ifExp (pt_cmpR op_ge (pv 3) (pe_op op_pow pe_int pe_int) (nomark _)) (pv 3) pe_int) (pa_cons (pe_op op_add (pv 4) (pe_op op_mul pe_int (pv 1))) (pa_cons pe_int pa_nil))))))))), ?_⟩
    refine ⟨fun σ H' => ∃ c : Int, σ = [some (.ref a), some (.int (i : Nat)), some (.int c), none, none] ∧ H' = H, ?_, ?_⟩
    · refine ⟨_, rfl, _, rfl, a, _, rfl, .inl hS, _, _, rfl, rfl, _, rfl, ?_⟩
      refine ite2 (fun hlt => ?_) (fun _ => ⟨0, rfl, rfl⟩)
      have hlt := of_decide_eq_true hlt
      rw [List.length_map] at hlt
      have hj : i < ns.length := by omega
      have hx : (ns.map V.int)[i]? = some (V.int ns[i]) := by
        rw [List.getElem?_map, List.getElem?_eq_getElem hj]
        rfl
      exact ⟨_, rfl, _, rfl, a, _, _, _, rfl, rfl, hS, atI_nat hx, _, rfl, rfl⟩
    · rintro _ _ ⟨c, rfl, eH⟩
      cases eH
      refine ⟨_, rfl, _, rfl, _, rfl, _, _, rfl, rfl, .inl ⟨by decide, by decide⟩, _, rfl, _, _, rfl, rfl, .inr ⟨_, rfl, _, _, rfl, rfl, .inl ⟨_, rfl, _, _, rfl, rfl, (by show (0 : Int) < 2305843009213693951; decide), ?_⟩⟩⟩
      show gName 4 (V.int ((2 * (if c < 0 then -c else c) + (if decide (c < 0) = true then 1 else 0)) % 2305843009213693951)) _ _ _
      have hx := mod7 (x := 2 * (if c < 0 then -c else c) + (if decide (c < 0) = true then 1 else 0)) (b := 2305843009213693951) (by decide)
      generalize (2 * (if c < 0 then -c else c) + (if decide (c < 0) = true then 1 else 0)) % 2305843009213693951 = x at hx ⊢
      have p62 : (2 : Int) ^ 62 = 4611686018427387904 := by decide
      have fin : ∀ (z : Int) p, H p = none → Q (.ref p) (upd H p (.lst [.int z, .int (x + 1000003 * (i : Int)), .int 0])) := fun z p hp => k p _ hp (same_new hp) ⟨_, _, _, upd_same, by omega, by omega, by omega, by omega⟩
      refine ⟨_, rfl, _, _, rfl, rfl, ⟨by decide, by decide, by decide⟩, _, _, rfl, rfl, _, rfl, ?_⟩
      refine ite2 (fun _ => ?_) (fun _ => ?_)
      · exact ⟨_, rfl, _, rfl, _, rfl, _, _, rfl, rfl, .inl ⟨by decide, by decide⟩, _, _, rfl, rfl, (by show 3 ≤ sizeLine; decide), fun p hp => fin _ p hp⟩
      · exact ⟨_, rfl, _, rfl, _, _, rfl, rfl, .inl ⟨by decide, by decide⟩, _, _, rfl, rfl, (by show 3 ≤ sizeLine; decide), fun p hp => fin _ p hp⟩
end
end Wh
set_option Elab.async false
set_option linter.all false
set_option maxRecDepth 100000
set_option maxHeartbeats 4000000
namespace Wh
open PySem PySem.Spec PyProof.Rows L2
open Wp hiding Same.refl Same.trans same_new boot_all
/-! ## words of letters, by codes -/
def tS (l : List Nat) : Str := ⟨l.toArray⟩
def smallL : List Nat := smallS.cps.toList
def largeL : List Nat := largeS.cps.toList
theorem small_len : smallL.length = 26 := by decide +kernel
theorem small_nd : smallL.Nodup := by decide +kernel
theorem large_len : largeL.length = 26 := by decide +kernel
theorem large_nd : largeL.Nodup := by decide +kernel
theorem tS_len (l : List Nat) : (tS l).length = l.length := rfl
theorem tS_add (a b : List Nat) : tS a ++ tS b = tS (a ++ b) := by
  show (⟨a.toArray ++ b.toArray⟩ : Str) = ⟨(a ++ b).toArray⟩
  rw [List.append_toArray]
theorem tS_inj {a b : List Nat} (h : tS a = tS b) : a = b := by
  have : a.toArray = b.toArray := congrArg Str.cps h
  simpa using congrArg Array.toList this
theorem tS_lo (l : List Nat) {k : Nat} (h : k ≤ l.length) : cutS (tS l) none (some (k : Int)) = tS (l.take k) := by
  unfold cutS
  rw [HT.sIx_nat, HT.sIx_none, tS_len, Nat.min_eq_left h, Nat.sub_zero]
  rfl
theorem tS_hi (l : List Nat) {k : Nat} (h : k ≤ l.length) : cutS (tS l) (some (k : Int)) none = tS (l.drop k) := by
  unfold cutS
  rw [HT.sIx_nat, HT.sIx_none, tS_len, Nat.min_eq_left h]
  show tS ((l.drop k).take (l.length - k)) = _
  rw [List.take_of_length_le (by rw [List.length_drop]; omega)]
/-- the words with one letter more, at the same place -/
def withL (l : List Nat) (k : Nat) (c : Nat) : List Nat := l.take k ++ [c] ++ l.drop k
theorem withL_len {l : List Nat} {k c : Nat} (h : k ≤ l.length) : (withL l k c).length = l.length + 1 := by
  unfold withL
  simp only [List.length_append, List.length_take, List.length_drop, List.length_cons, List.length_nil]
  omega
theorem withL_inj {l : List Nat} {k c d : Nat} (h : withL l k c = withL l k d) : c = d := by
  unfold withL at h
  rw [List.append_assoc, List.append_assoc] at h
  have := List.append_cancel_left h
  simpa using this
theorem withL_mem {l : List Nat} {k c x : Nat} : x ∈ withL l k c → x = c ∨ x ∈ l := by
  unfold withL
  simp only [List.mem_append, List.mem_singleton]
  rintro ((h | h) | h)
  · exact .inr (List.mem_of_mem_take h)
  · exact .inl h
  · exact .inr (List.mem_of_mem_drop h)
/-- the k-th letter behind the shift -/
def turn (al : List Nat) (s k : Nat) : Nat := al.getD ((s + k) % 26) 0
theorem turn_mem {al : List Nat} (l : al.length = 26) (s k : Nat) : turn al s k ∈ al := by
  unfold turn
  rw [List.getD_eq_getElem?_getD, List.getElem?_eq_getElem (by omega)]
  exact List.getElem_mem _
theorem turn_inj {al : List Nat} (l : al.length = 26) (nd : al.Nodup) {s i j : Nat} (hi : i < 26) (hj : j < 26) (h : turn al s i = turn al s j) : i = j := by
  unfold turn at h
  rw [List.getD_eq_getElem?_getD, List.getD_eq_getElem?_getD, List.getElem?_eq_getElem (by omega), List.getElem?_eq_getElem (by omega)] at h
  have h2 : al[(s + i) % 26]? = al[(s + j) % 26]? := by
    rw [List.getElem?_eq_getElem (by omega), List.getElem?_eq_getElem (by omega)]
    exact congrArg some h
  have := (List.getElem?_inj (i := (s + i) % 26) (j := (s + j) % 26) (by omega) nd).mp h2
  omega
theorem turns_nd {al : List Nat} (l : al.length = 26) (nd : al.Nodup) (s : Nat) (f : Nat → List Nat) (inj : ∀ c d, f c = f d → c = d) {m : Nat} (hm : m ≤ 26) : ((List.range m).map fun k => tS (f (turn al s k))).Nodup := by
  refine List.pairwise_iff_getElem.mpr fun i j hi hj hij e => ?_
  rw [List.length_map, List.length_range] at hi hj
  rw [List.getElem_map, List.getElem_map, List.getElem_range, List.getElem_range] at e
  have := turn_inj l nd (by omega) (by omega) (inj _ _ (tS_inj e))
  omega
theorem field_word {l : List Nat} (h1 : 1 ≤ l.length) (h8 : l.length ≤ 8) (s : ∀ x ∈ l, x ∈ smallL) : isFieldName (.str (tS l)) = true := by
  unfold isFieldName isWordN lettersIn
  rw [Bool.and_eq_true, Bool.and_eq_true, decide_eq_true_eq, decide_eq_true_eq, List.all_eq_true]
  refine ⟨⟨h1, ?_⟩, fun c hc => decide_eq_true (s c hc)⟩
  rw [tS_len]
  omega
theorem kind_word {c : Nat} {l : List Nat} (hc : c ∈ largeL) (h7 : l.length ≤ 7) (s : ∀ x ∈ l, x ∈ smallL) : isKindName (.str (tS (c :: l))) = true := by
  unfold isKindName
  show (decide ((tS (c :: l)).length ≤ 8) && decide (c ∈ largeS.cps.toList) && l.all fun c => decide (c ∈ smallS.cps.toList)) = true
  rw [Bool.and_eq_true, Bool.and_eq_true, decide_eq_true_eq, decide_eq_true_eq, List.all_eq_true]
  refine ⟨⟨?_, hc⟩, fun x hx => decide_eq_true (s x hx)⟩
  rw [tS_len, List.length_cons]
  omega
/-- letters joined by nothing -/
theorem join_letters : ∀ cs : List Nat, Txt.join "" (cs.map fun c => (⟨#[c]⟩ : Str)) = tS cs := by
  intro cs
  have e : (cs.map fun c => (⟨#[c]⟩ : Str)) = (cs.map fun c => [c]).map SX.S := by
    rw [List.map_map]
    rfl
  have j : ∀ cs : List Nat, TL.joinL [] (cs.map fun c => [c]) = cs := by
    intro cs
    induction cs with
    | nil => rfl
    | cons c cs ih =>
      cases cs with
      | nil => rfl
      | cons d cs =>
        show [c] ++ ([] ++ TL.joinL [] ([d] :: cs.map fun c => [c])) = _
        rw [show TL.joinL [] ([d] :: cs.map fun c => [c]) = d :: cs from ih]
        rfl
  rw [e, show ("" : Str) = SX.S [] from rfl, SX.join_S, j]
  rfl
end Wh
set_option Elab.async false
set_option linter.all false
set_option maxRecDepth 100000
set_option maxHeartbeats 4000000
namespace Wh
open PySem PySem.Spec PyProof.Rows L2
open Wp hiding Same.refl Same.trans same_new boot_all
open W8 (Ev Rp Kp Mono same_new take_snoc rW rB mW mB ev_words ev_words_eq ev_bools_eq lc_sieve)
section
variable {P : Program} {w : World} {K : PySem.W.Frag} {mg : Str → Option Value} {base : Heap}
abbrev sLb : Stmt := top 57
abbrev nLb : List Str := ["_law_pot_here", "_law_many", "_law_letters", "_law_stem", "_law_spot", "_law_shift", "_law_turn", "_law_k"]
theorem small_at {i : Int} (h0 : 0 ≤ i) (h1 : i < 26) : ∃ c, atI smallS.cps.toList i = some c ∧ c ∈ smallL := by
  obtain ⟨j, rfl⟩ := Int.eq_ofNat_of_zero_le h0
  have hj : j < smallL.length := by rw [small_len]; omega
  exact ⟨_, atI_nat (List.getElem?_eq_getElem hj), List.getElem_mem hj⟩
theorem one_sum : ∀ cs : List Nat, ((cs.map fun c => (⟨#[c]⟩ : Str)).map (·.length)).sum = cs.length
  | [] => rfl
  | c :: cs => by
    rw [List.map_cons, List.map_cons, List.sum_cons, one_sum cs, List.length_cons]
    show 1 + cs.length = _
    omega
theorem turn_at {al : List Nat} (l : al.length = 26) (s k : Nat) : atI al (((s : Int) + (0 + (k : Int))) % 26) = some (turn al s k) := by
  have e : ((s : Int) + (0 + (k : Int))) % 26 = (((s + k) % 26 : Nat) : Int) := by omega
  rw [e]
  refine atI_nat ?_
  unfold turn
  rw [List.getD_eq_getElem?_getD, List.getElem?_eq_getElem (by omega)]
  rfl
theorem tS_withL (cs : List Nat) (k c : Nat) : tS (cs.take k) ++ (⟨#[c]⟩ : Str) ++ tS (cs.drop k) = tS (withL cs k c) := by
  rw [show (⟨#[c]⟩ : Str) = tS [c] from rfl, tS_add, tS_add]
  rfl
structure Labels (m : Nat) (ls : List Str) : Prop where
  len : ls.length = m
  nd : ls.Nodup
  ok : ∀ x ∈ ls, isFieldName (.str x) = true
def spLb : Sp := fun vs H Q _ => ∃ (p : Addr) (m n : Nat), vs = [.ref p, .int (m : Nat)] ∧ Pot p n H ∧ n < 100000 ∧ m ≤ 26 ∧ ∀ (ls : List Str) (D : Addr) H', H D = none → But p H H' → H' D = some (.lst (ls.map V.str)) → Labels m ls → Pot p (n + 20) H' → Q (.ref D) H'
theorem scLb : FnScope nLb ["_law_pot_here", "_law_many"] (defScope sLb) := ⟨rfl, rfl, rfl, by decide +kernel, rfl, by decide +kernel, by decide +kernel⟩
theorem ok_Lb {f f1 : Addr} {fd fd1 : FuncData} (F : Fun K "_law_labels" "_law_labels" sLb f fd) (B : Bn mg) (DR : Known P w K mg base CX0 1 "_law_draw" ["_law_pot_here", "_law_many"] spDr f1 fd1) : FnOk P w K mg base CX0 2 f fd ["_law_pot_here", "_law_many"] spLb := by
  refine F.ok scLb (fun vs H Q E h => ?_) (fun cdv A outer s H vs Q E hr h => ?_)
  · obtain ⟨p, m, n, rfl, _⟩ := h
    rfl
  · obtain ⟨p, m, n, rfl, pt, n1, m1, k⟩ := h
    have hu := hu_of hr
    refine ⟨_, 
      (pss_cons (ps_set (i := 2) scLb.nd rfl (.inr rfl) pe_str)
      (pss_cons (ps_set (i := 3) scLb.nd rfl (.inr rfl) (pe_bm PySem.F.plainAttrs_str PySem.F.slot_str_join PySem.F.type_str_join mt_join pe_str (pa_cons (pe_lc (own := [("_law_turn", 6)]) (g := gName 6) (tt := tYes) (te := tOp rIxS (tVar 2) (tCall spDr [] E0 (tCons (tVar 0) (tCons (tC (.int 26)) tNil)))) rfl scLb.nd (pi_range1 rfl B.range (pa_cons (pe_call DR.ok (hr.mono (by decide)) rfl DR.mg DR.kp DR.bi .nil pass0 (pa_cons (pv 0) (pa_cons pe_int pa_nil))) pa_nil)) (blkOk_by (N := nLb) (sc := defScope sLb) (by decide +kernel)) (fun _ _ _ _ _ => pg_name (i := 6) scLb.nd rfl (Or.inl rfl)) (fun _ _ _ _ _ => pts_nil) (fun _ _ _ _ _ => (pe_ix ix_str (pv 2) (pe_call DR.ok (hr.mono (by decide)) rfl DR.mg DR.kp DR.bi .nil pass0 (pa_cons (pv 0) (pa_cons pe_int pa_nil))) (fun _ _ => rfl)))) pa_nil)))
      (pss_cons (ps_asg (pe_tup (pa_cons (pe_call DR.ok (hr.mono (by decide)) rfl DR.mg DR.kp DR.bi .nil pass0 (pa_cons (pv 0) (pa_cons (pe_op op_add (pe_callB call_len_str (by rfl) B.len PySem.boot_len (pa_cons (pv 3) pa_nil)) pe_int) pa_nil))) (pa_cons (pe_call DR.ok (hr.mono (by decide)) rfl DR.mg DR.kp DR.bi .nil pass0 (pa_cons (pv 0) (pa_cons pe_int pa_nil))) pa_nil))) (pg_tup rfl (pgs_cons (pg_name (i := 4) scLb.nd rfl (Or.inr rfl)) (pgs_cons (pg_name (i := 5) scLb.nd rfl (Or.inr rfl)) pgs_nil))))
      (pss_one (ps_ret (pe_lc (own := [("_law_k", 7)]) (g := gName 7) (tt := tYes)  rfl scLb.nd (pi_range1 rfl B.range (pa_cons (pv 1) pa_nil)) (blkOk_by (N := nLb) (sc := defScope sLb) (by decide +kernel)) (fun _ _ _ _ _ => pg_name (i := 7) scLb.nd rfl (Or.inl rfl)) (fun _ _ _ _ _ => pts_nil) (fun _ _ _ _ _ => (pe_op op_add_str (pe_op op_add_str (pe_slice sl_str (pv 3) po_none (po_some (pv 4))) (pe_ix ix_str (pv 2) (pe_op op_mod (pe_callTy call_int1 (by rfl) B.int PyProof.Rows.boot_int (pa_cons (pe_op op_add (pv 5) (pv 7)) pa_nil)) pe_int) (fun _ _ => rfl))) (pe_slice sl_str (pv 3) (po_some (pv 4)) po_none))))))))), ?_⟩
    refine ⟨rfl, _, rfl, p, 8, n, rfl, pt, by omega, by decide, by decide, fun c H1 c0 c1 b1 pt1 => ⟨c, rfl, by omega, by omega, fun D hD => ?_⟩⟩
    obtain ⟨cn, rfl⟩ := Int.eq_ofNat_of_zero_le c0
    have pD : p ≠ D := fun e => by
      obtain ⟨_, _, _, hp, _⟩ := pt1
      rw [e, hD] at hp
      cases hp
    have up : ∀ {H3 : Hp} {q : Nat} {o : HO}, Pot p q H3 → Pot p q (upd H3 D o) := fun {H3 q o} h => by
      obtain ⟨a9, b9, c9, e9, r9⟩ := h
      exact ⟨a9, b9, c9, by rw [upd_ne pD]; exact e9, r9⟩
    refine lc_it walk_range (fun j H' => But p H1 H' ∧ Pot p (n + 1 + j) H' ∧ ∃ cs : List Nat, cs.length = j ∧ (∀ a ∈ cs, a ∈ smallL) ∧ H' D = some (.lst (cs.map fun a => V.str ⟨#[a]⟩)))
      ⟨fun b o nb e => by rw [upd_ne (ne_of_none e hD)]; exact e, up pt1, [], rfl, by simp, upd_same⟩ (fun _ _ _ _ => trivial) ?_ ?_
    · rintro j y H2 H3 hj ⟨b2, pt2, cs, lc, sc, eD⟩ ⟨rfl, rfl⟩
      refine ⟨rfl, ⟨_, rfl, _, rfl, p, 26, n + 1 + j, rfl, pt2, by omega, by decide, by decide, fun v H4 v0 v1 b4 pt4 => ?_⟩⟩
      obtain ⟨q, hq, mq⟩ := small_at v0 v1
      refine ⟨smallS, v, q, rfl, rfl, by rw [sizeLine_eq]; decide +kernel, hq, _, b4 _ _ (Ne.symm pD) eD, by rw [List.length_map, sizeLine_eq]; omega, ?_⟩
      refine ⟨fun b o nb e => ?_, up pt4, cs ++ [q], by simp [lc], fun a ha => ?_, by rw [upd_same, List.map_append]; rfl⟩
      · rw [upd_ne (ne_of_none e hD)]
        exact b4 _ _ nb (b2 _ _ nb e)
      · rcases List.mem_append.mp ha with ha | ha
        · exact sc a ha
        · rw [List.mem_singleton.mp ha]; exact mq
    rintro H2 ⟨b2, pt2, cs, lc, sc, eD⟩
    refine ⟨"", D, cs.map fun c => (⟨#[c]⟩ : Str), rfl, rfl, .inl (SqL.of (by rw [List.map_map]; exact eD)), ?_, ?_⟩
    · rw [one_sum, List.length_map]
      show cs.length + cs.length * 0 ≤ 16777216
      omega
    rw [join_letters]
    have c7 : cs.length ≤ 7 := by omega
    refine ⟨_, rfl, _, rfl, tS cs, rfl, by rw [tS_len, sizeLine_eq]; omega, _, _, rfl, rfl, p, (cs.length : Int) + 1, n + 1 + cn, rfl, pt2, by omega, by omega, by omega, fun sp H3 sp0 sp1 b3 pt3 => ?_⟩
    refine ⟨_, rfl, p, 26, n + 1 + cn + 1, rfl, pt3, by omega, by decide, by decide, fun sh H4 sh0 sh1 b4 pt4 => ⟨by show 2 ≤ sizeLine; decide, fun T hT => ?_⟩⟩
    refine ⟨T, _, rfl, SqT.of upd_same, rfl, _, _, rfl, _, _, rfl, rfl, ?_⟩
    obtain ⟨spN, rfl⟩ := Int.eq_ofNat_of_zero_le sp0
    obtain ⟨shN, rfl⟩ := Int.eq_ofNat_of_zero_le sh0
    have sp2 : spN ≤ cs.length := by omega
    have sT : Same H4 (upd H4 T (.tup [.int (spN : Nat), .int (shN : Nat)])) := same_new hT
    generalize upd H4 T (.tup [.int (spN : Nat), .int (shN : Nat)]) = H5 at sT ⊢
    have sz : (tS cs).length ≤ sizeLine := by rw [tS_len, sizeLine_eq]; omega
    refine ⟨_, rfl, (m : Int), rfl, by omega, by omega, fun D2 hD2 => ?_⟩
    refine lc_it walk_range (fun j H' => Same H5 H' ∧ H' D2 = some (.lst (((List.range j).map fun q => tS (withL cs spN (turn smallL shN q))).map V.str))) ⟨same_new hD2, upd_same⟩ (fun _ _ _ _ => trivial) ?_ ?_
    · rintro j y H6 H7 hj ⟨s6, e6⟩ ⟨rfl, rfl⟩
      refine ⟨rfl, ⟨_, rfl, _, rfl, _, rfl, tS cs, rfl, sz, ?_⟩⟩
      refine ⟨_, rfl, _, rfl, _, rfl, _, _, rfl, rfl, .inl ⟨_, rfl, _, _, rfl, rfl, (by show (0 : Int) < 26; decide), smallS, _, _, rfl, rfl, by rw [sizeLine_eq]; decide +kernel, turn_at small_len shN j, ?_⟩⟩
      rw [tS_lo cs sp2]
      refine ⟨_, _, rfl, rfl, ?_, _, rfl, _, rfl, _, rfl, tS cs, rfl, sz, ?_⟩
      · show (cs.take spN).length + 1 ≤ _
        rw [List.length_take, sizeLine_eq]
        omega
      rw [tS_hi cs sp2]
      refine ⟨_, _, rfl, rfl, ?_, _, e6, by rw [List.length_map, List.length_map, List.length_range, sizeLine_eq]; omega, s6.over hD2, ?_⟩
      · show (tS (cs.take spN) ++ (⟨#[turn smallL shN j]⟩ : Str)).length + (cs.drop spN).length ≤ _
        rw [show (⟨#[turn smallL shN j]⟩ : Str) = tS [turn smallL shN j] from rfl, tS_add, tS_len, List.length_append, List.length_take, List.length_drop, sizeLine_eq]
        show min _ _ + 1 + _ ≤ _
        omega
      · rw [upd_same, List.range_succ, List.map_append, List.map_append, tS_withL]
        rfl
    · rintro H6 ⟨s6, e6⟩
      have b46 : But p H H6 := but_trans b1 (but_trans b2 (but_trans b3 (but_trans b4 (but_trans (but_of sT) (but_of s6)))))
      have b45 : But p H H5 := but_trans b1 (but_trans b2 (but_trans b3 (but_trans b4 (but_of sT))))
      have pt5 : Pot p (n + 20) H5 := (pt4.same sT).le (by omega)
      rw [Int.toNat_natCast] at e6
      refine k _ D2 H6 ?_ b46 e6 ⟨by rw [List.length_map, List.length_range], turns_nd small_len small_nd shN (withL cs spN) (fun _ _ => withL_inj) m1, fun x hx => ?_⟩ (pt5.same s6)
      · cases h : H D2 with
        | none => rfl
        | some o =>
          have np : D2 ≠ p := fun e => by
            obtain ⟨_, _, _, e5, _⟩ := pt5
            rw [← e, hD2] at e5
            cases e5
          rw [b45 _ _ np h] at hD2
          cases hD2
      · obtain ⟨q, _, rfl⟩ := List.mem_map.mp hx
        refine field_word (by rw [withL_len sp2]; omega) (by rw [withL_len sp2]; omega) fun y hy => ?_
        rcases withL_mem hy with rfl | hy
        · exact turn_mem small_len _ _
        · exact sc y hy
end
end Wh
set_option Elab.async false
set_option linter.all false
set_option maxRecDepth 100000
set_option maxHeartbeats 4000000
namespace Wh
open PySem PySem.Spec PyProof.Rows L2
open Wp hiding Same.refl Same.trans same_new boot_all
open W8 (Ev Rp Kp Mono same_new take_snoc rW rB mW mB ev_words ev_words_eq ev_bools_eq lc_sieve)
section
variable {P : Program} {w : World} {K : PySem.W.Frag} {mg : Str → Option Value} {base : Heap}
abbrev sKn : Stmt := top 58
abbrev nKn : List Str := ["_law_pot_here", "_law_many", "_law_letters", "_law_capitals", "_law_head", "_law_shift", "_law_stem", "_law_spot", "_law_turn", "_law_k"]
structure KNames (m : Nat) (ls : List Str) : Prop where
  len : ls.length = m
  nd : ls.Nodup
  ok : ∀ x ∈ ls, isKindName (.str x) = true
theorem large_at {i : Int} (h0 : 0 ≤ i) (h1 : i < 26) : ∃ c, atI largeS.cps.toList i = some c ∧ c ∈ largeL := by
  obtain ⟨j, rfl⟩ := Int.eq_ofNat_of_zero_le h0
  have hj : j < largeL.length := by rw [large_len]; omega
  exact ⟨_, atI_nat (List.getElem?_eq_getElem hj), List.getElem_mem hj⟩
def spKn : Sp := fun vs H Q _ => ∃ (p : Addr) (m n : Nat), vs = [.ref p, .int (m : Nat)] ∧ Pot p n H ∧ n < 100000 ∧ m ≤ 26 ∧ ∀ (ls : List Str) (D : Addr) H', H D = none → But p H H' → H' D = some (.lst (ls.map V.str)) → KNames m ls → Pot p (n + 20) H' → Q (.ref D) H'
theorem scKn : FnScope nKn ["_law_pot_here", "_law_many"] (defScope sKn) := ⟨rfl, rfl, rfl, by decide +kernel, rfl, by decide +kernel, by decide +kernel⟩
theorem ok_Kn {f f1 : Addr} {fd fd1 : FuncData} (F : Fun K "_law_kind_names" "_law_kind_names" sKn f fd) (B : Bn mg) (DR : Known P w K mg base CX0 1 "_law_draw" ["_law_pot_here", "_law_many"] spDr f1 fd1) : FnOk P w K mg base CX0 2 f fd ["_law_pot_here", "_law_many"] spKn := by
  refine F.ok scKn (fun vs H Q E h => ?_) (fun cdv A outer s H vs Q E hr h => ?_)
  · obtain ⟨p, m, n, rfl, _⟩ := h
    rfl
  · obtain ⟨p, m, n, rfl, pt, n1, m1, k⟩ := h
    have hu := hu_of hr
    refine ⟨_, 
      (pss_cons (ps_set (i := 2) scKn.nd rfl (.inr rfl) pe_str)
      (pss_cons (ps_set (i := 3) scKn.nd rfl (.inr rfl) pe_str)
      (pss_cons (ps_asg (pe_tup (pa_cons (pe_ix ix_str (pv 3) (pe_call DR.ok (hr.mono (by decide)) rfl DR.mg DR.kp DR.bi .nil pass0 (pa_cons (pv 0) (pa_cons pe_int pa_nil))) (fun _ _ => rfl)) (pa_cons (pe_call DR.ok (hr.mono (by decide)) rfl DR.mg DR.kp DR.bi .nil pass0 (pa_cons (pv 0) (pa_cons pe_int pa_nil))) pa_nil))) (pg_tup rfl (pgs_cons (pg_name (i := 4) scKn.nd rfl (Or.inr rfl)) (pgs_cons (pg_name (i := 5) scKn.nd rfl (Or.inr rfl)) pgs_nil))))
      (pss_cons (ps_set (i := 6) scKn.nd rfl (.inr rfl) (pe_bm PySem.F.plainAttrs_str PySem.F.slot_str_join PySem.F.type_str_join mt_join pe_str (pa_cons (pe_lc (own := [("_law_turn", 8)]) (g := gName 8) (tt := tYes) (te := tOp rIxS (tVar 2) (tCall spDr [] E0 (tCons (tVar 0) (tCons (tC (.int 26)) tNil)))) rfl scKn.nd (pi_range1 rfl B.range (pa_cons (pe_call DR.ok (hr.mono (by decide)) rfl DR.mg DR.kp DR.bi .nil pass0 (pa_cons (pv 0) (pa_cons pe_int pa_nil))) pa_nil)) (blkOk_by (N := nKn) (sc := defScope sKn) (by decide +kernel)) (fun _ _ _ _ _ => pg_name (i := 8) scKn.nd rfl (Or.inl rfl)) (fun _ _ _ _ _ => pts_nil) (fun _ _ _ _ _ => (pe_ix ix_str (pv 2) (pe_call DR.ok (hr.mono (by decide)) rfl DR.mg DR.kp DR.bi .nil pass0 (pa_cons (pv 0) (pa_cons pe_int pa_nil))) (fun _ _ => rfl)))) pa_nil)))
      (pss_cons (ps_if (pt_cmpR op_eq (pe_call DR.ok (hr.mono (by decide)) rfl DR.mg DR.kp DR.bi .nil pass0 (pa_cons (pv 0) (pa_cons pe_int pa_nil))) pe_int (nomark _)) 
        (pss_one (ps_ret (pe_lc (own := [("_law_k", 9)]) (g := gName 9) (tt := tYes)  rfl scKn.nd (pi_range1 rfl B.range (pa_cons (pv 1) pa_nil)) (blkOk_by (N := nKn) (sc := defScope sKn) (by decide +kernel)) (fun _ _ _ _ _ => pg_name (i := 9) scKn.nd rfl (Or.inl rfl)) (fun _ _ _ _ _ => pts_nil) (fun _ _ _ _ _ => (pe_op op_add_str (pe_ix ix_str (pv 3) (pe_op op_mod (pe_callTy call_int1 (by rfl) B.int PyProof.Rows.boot_int (pa_cons (pe_op op_add (pv 5) (pv 9)) pa_nil)) pe_int) (fun _ _ => rfl)) (pv 6)))))) pss_nil)
      (pss_cons (ps_set (i := 7) scKn.nd rfl (.inr rfl) (pe_call DR.ok (hr.mono (by decide)) rfl DR.mg DR.kp DR.bi .nil pass0 (pa_cons (pv 0) (pa_cons (pe_op op_add (pe_callB call_len_str (by rfl) B.len PySem.boot_len (pa_cons (pv 6) pa_nil)) pe_int) pa_nil))))
      (pss_one (ps_ret (pe_lc (own := [("_law_k", 9)]) (g := gName 9) (tt := tYes)  rfl scKn.nd (pi_range1 rfl B.range (pa_cons (pv 1) pa_nil)) (blkOk_by (N := nKn) (sc := defScope sKn) (by decide +kernel)) (fun _ _ _ _ _ => pg_name (i := 9) scKn.nd rfl (Or.inl rfl)) (fun _ _ _ _ _ => pts_nil) (fun _ _ _ _ _ => (pe_op op_add_str (pe_op op_add_str (pe_op op_add_str (pv 4) (pe_slice sl_str (pv 6) po_none (po_some (pv 7)))) (pe_ix ix_str (pv 2) (pe_op op_mod (pe_callTy call_int1 (by rfl) B.int PyProof.Rows.boot_int (pa_cons (pe_op op_add (pv 5) (pv 9)) pa_nil)) pe_int) (fun _ _ => rfl))) (pe_slice sl_str (pv 6) (po_some (pv 7)) po_none)))))))))))), ?_⟩
    refine ⟨_, rfl, _, rfl, p, 26, n, rfl, pt, by omega, by decide, by decide, fun hd Ha hd0 hd1 ba pa => ?_⟩
    obtain ⟨hc, hhc, mhc⟩ := large_at hd0 hd1
    refine ⟨largeS, hd, hc, rfl, rfl, by rw [sizeLine_eq]; decide +kernel, hhc, _, rfl, p, 26, n + 1, rfl, pa, by omega, by decide, by decide, fun sh Hb sh0 sh1 bb pb => ⟨by show 2 ≤ sizeLine; decide, fun T hT => ?_⟩⟩
    refine ⟨T, _, rfl, SqT.of upd_same, rfl, _, _, rfl, _, _, rfl, rfl, ?_⟩
    have sT : Same Hb (upd Hb T (.tup [.str ⟨#[hc]⟩, .int sh])) := same_new hT
    have pc := pb.same sT
    have b0 : But p H (upd Hb T (.tup [.str ⟨#[hc]⟩, .int sh])) := but_trans ba (but_trans bb (but_of sT))
    generalize upd Hb T (.tup [.str ⟨#[hc]⟩, .int sh]) = H0 at pc b0 ⊢
    refine ⟨rfl, _, rfl, p, 7, n + 1 + 1, rfl, pc, by omega, by decide, by decide, fun c H1 c0 c1 b1 pt1 => ⟨c, rfl, by omega, by omega, fun D hD => ?_⟩⟩
    obtain ⟨cn, rfl⟩ := Int.eq_ofNat_of_zero_le c0
    obtain ⟨shN, rfl⟩ := Int.eq_ofNat_of_zero_le sh0
    have pD : p ≠ D := fun e => by
      obtain ⟨_, _, _, hp, _⟩ := pt1
      rw [e, hD] at hp
      cases hp
    have up : ∀ {H3 : Hp} {q : Nat} {o : HO}, Pot p q H3 → Pot p q (upd H3 D o) := fun {H3 q o} h => by
      obtain ⟨a9, b9, c9, e9, r9⟩ := h
      exact ⟨a9, b9, c9, by rw [upd_ne pD]; exact e9, r9⟩
    refine lc_it walk_range (fun j H' => But p H1 H' ∧ Pot p (n + 3 + j) H' ∧ ∃ cs : List Nat, cs.length = j ∧ (∀ a ∈ cs, a ∈ smallL) ∧ H' D = some (.lst (cs.map fun a => V.str ⟨#[a]⟩)))
      ⟨fun b o nb e => by rw [upd_ne (ne_of_none e hD)]; exact e, up pt1, [], rfl, by simp, upd_same⟩ (fun _ _ _ _ => trivial) ?_ ?_
    · rintro j y H2 H3 hj ⟨b2, pt2, cs, lc, sc, eD⟩ ⟨rfl, rfl⟩
      refine ⟨rfl, ⟨_, rfl, _, rfl, p, 26, n + 3 + j, rfl, pt2, by omega, by decide, by decide, fun v H4 v0 v1 b4 pt4 => ?_⟩⟩
      obtain ⟨q, hq, mq⟩ := small_at v0 v1
      refine ⟨smallS, v, q, rfl, rfl, by rw [sizeLine_eq]; decide +kernel, hq, _, b4 _ _ (Ne.symm pD) eD, by rw [List.length_map, sizeLine_eq]; omega, ?_⟩
      refine ⟨fun b o nb e => ?_, up pt4, cs ++ [q], by simp [lc], fun a ha => ?_, by rw [upd_same, List.map_append]; rfl⟩
      · rw [upd_ne (ne_of_none e hD)]
        exact b4 _ _ nb (b2 _ _ nb e)
      · rcases List.mem_append.mp ha with ha | ha
        · exact sc a ha
        · rw [List.mem_singleton.mp ha]; exact mq
    rintro H2 ⟨b2, pt2, cs, lc, sc, eD⟩
    refine ⟨"", D, cs.map fun c => (⟨#[c]⟩ : Str), rfl, rfl, .inl (SqL.of (by rw [List.map_map]; exact eD)), ?_, ?_⟩
    · rw [one_sum, List.length_map]
      show cs.length + cs.length * 0 ≤ 16777216
      omega
    rw [join_letters]
    have c7 : cs.length ≤ 6 := by omega
    have sz : (tS cs).length ≤ sizeLine := by rw [tS_len, sizeLine_eq]; omega
    have b02 : But p H H2 := but_trans b0 (but_trans b1 b2)
    have fresh : ∀ {H5 : Hp} {q : Nat} {D2 : Addr}, But p H H5 → Pot p q H5 → H5 D2 = none → H D2 = none := fun {H5 q D2} b5 p5 hD2 => by
      cases h : H D2 with
      | none => rfl
      | some o =>
        have np : D2 ≠ p := fun e => by
          obtain ⟨_, _, _, e5, _⟩ := p5
          rw [← e, hD2] at e5
          cases e5
        rw [b5 _ _ np h] at hD2
        cases hD2
    refine ⟨_, rfl, p, 3, n + 3 + cn, rfl, pt2, by omega, by decide, by decide, fun v H3 v0 v1 b3 pt3 => ⟨rfl, _, rfl, ?_⟩⟩
    refine ite2 (fun _ => ?_) (fun _ => ?_)
    · refine ⟨_, rfl, (m : Int), rfl, by omega, by omega, fun D2 hD2 => ?_⟩
      refine lc_it walk_range (fun j H' => Same H3 H' ∧ H' D2 = some (.lst (((List.range j).map fun q => tS (turn largeL shN q :: cs)).map V.str))) ⟨same_new hD2, upd_same⟩ (fun _ _ _ _ => trivial) ?_ ?_
      · rintro j y H6 H7 hj ⟨s6, e6⟩ ⟨rfl, rfl⟩
        refine ⟨rfl, ⟨_, rfl, _, rfl, _, rfl, _, _, rfl, rfl, .inl ⟨_, rfl, _, _, rfl, rfl, (by show (0 : Int) < 26; decide), largeS, _, _, rfl, rfl, by rw [sizeLine_eq]; decide +kernel, turn_at large_len shN j, ?_⟩⟩⟩
        refine ⟨_, rfl, _, _, rfl, rfl, ?_, _, e6, by rw [List.length_map, List.length_map, List.length_range, sizeLine_eq]; omega, s6.over hD2, ?_⟩
        · show 1 + cs.length ≤ _
          rw [sizeLine_eq]
          omega
        · rw [upd_same, List.range_succ, List.map_append, List.map_append, show (⟨#[turn largeL shN j]⟩ : Str) = tS [turn largeL shN j] from rfl, tS_add]
          rfl
      · rintro H6 ⟨s6, e6⟩
        rw [Int.toNat_natCast] at e6
        refine k _ D2 H6 (fresh (but_trans b02 b3) pt3 hD2) (but_trans b02 (but_trans b3 (but_of s6))) e6 ⟨by rw [List.length_map, List.length_range], turns_nd large_len large_nd shN (fun c => c :: cs) (fun c d e => (List.cons.inj e).1) m1, fun x hx => ?_⟩ ((pt3.same s6).le (by omega))
        obtain ⟨q, _, rfl⟩ := List.mem_map.mp hx
        exact kind_word (turn_mem large_len _ _) (by omega) sc
    · refine ⟨_, rfl, _, rfl, tS cs, rfl, sz, _, _, rfl, rfl, p, (cs.length : Int) + 1, n + 3 + cn + 1, rfl, pt3, by omega, by omega, by omega, fun sp H4 sp0 sp1 b4 pt4 => ?_⟩
      obtain ⟨spN, rfl⟩ := Int.eq_ofNat_of_zero_le sp0
      have sp2 : spN ≤ cs.length := by omega
      refine ⟨_, rfl, (m : Int), rfl, by omega, by omega, fun D2 hD2 => ?_⟩
      refine lc_it walk_range (fun j H' => Same H4 H' ∧ H' D2 = some (.lst (((List.range j).map fun q => tS (hc :: withL cs spN (turn smallL shN q))).map V.str))) ⟨same_new hD2, upd_same⟩ (fun _ _ _ _ => trivial) ?_ ?_
      · rintro j y H6 H7 hj ⟨s6, e6⟩ ⟨rfl, rfl⟩
        refine ⟨rfl, ⟨_, rfl, _, rfl, _, rfl, _, rfl, tS cs, rfl, sz, ?_⟩⟩
        rw [tS_lo cs sp2]
        refine ⟨_, _, rfl, rfl, ?_, _, rfl, _, rfl, _, rfl, _, _, rfl, rfl, .inl ⟨_, rfl, _, _, rfl, rfl, (by show (0 : Int) < 26; decide), smallS, _, _, rfl, rfl, by rw [sizeLine_eq]; decide +kernel, turn_at small_len shN j, ?_⟩⟩
        · show 1 + (cs.take spN).length ≤ _
          rw [List.length_take, sizeLine_eq]
          omega
        refine ⟨_, _, rfl, rfl, ?_, _, rfl, _, rfl, _, rfl, tS cs, rfl, sz, ?_⟩
        · rw [show (⟨#[hc]⟩ : Str) = tS [hc] from rfl, tS_add, tS_len, List.length_append, List.length_take, sizeLine_eq]
          show 1 + min _ _ + 1 ≤ _
          omega
        rw [tS_hi cs sp2]
        refine ⟨_, _, rfl, rfl, ?_, _, e6, by rw [List.length_map, List.length_map, List.length_range, sizeLine_eq]; omega, s6.over hD2, ?_⟩
        · rw [show (⟨#[hc]⟩ : Str) = tS [hc] from rfl, show (⟨#[turn smallL shN j]⟩ : Str) = tS [turn smallL shN j] from rfl, tS_add, tS_add, tS_len, tS_len, List.length_append, List.length_append, List.length_take, List.length_drop, sizeLine_eq]
          show 1 + min _ _ + 1 + _ ≤ _
          omega
        · rw [upd_same, List.range_succ, List.map_append, List.map_append, show (⟨#[hc]⟩ : Str) = tS [hc] from rfl, show (⟨#[turn smallL shN j]⟩ : Str) = tS [turn smallL shN j] from rfl, tS_add, tS_add, tS_add]
          rfl
      · rintro H6 ⟨s6, e6⟩
        rw [Int.toNat_natCast] at e6
        refine k _ D2 H6 (fresh (but_trans b02 (but_trans b3 b4)) pt4 hD2) (but_trans b02 (but_trans b3 (but_trans b4 (but_of s6)))) e6 ⟨by rw [List.length_map, List.length_range], turns_nd small_len small_nd shN (fun c => hc :: withL cs spN c) (fun c d e => withL_inj (List.cons.inj e).2) m1, fun x hx => ?_⟩ ((pt4.same s6).le (by omega))
        obtain ⟨q, _, rfl⟩ := List.mem_map.mp hx
        refine kind_word mhc (by rw [withL_len sp2]; omega) fun y hy => ?_
        rcases withL_mem hy with rfl | hy
        · exact turn_mem small_len _ _
        · exact sc y hy
end
end Wh
set_option Elab.async false
set_option linter.all false
set_option maxRecDepth 100000
set_option maxHeartbeats 4000000
namespace Wh
open PySem PySem.Spec PyProof.Rows L2
open Wp hiding Same.refl Same.trans same_new boot_all
open W8 (Ev Rp Kp Mono same_new take_snoc rW rB mW mB ev_words ev_words_eq ev_bools_eq lc_sieve)
/-! ## the law's own rows: tuples of fields, tuples of kinds -/
def rLF (K : PySem.W.Frag) : Rp FV := fun H v x => ∃ t wt, v = .ref t ∧ SqT K H t [.str x.n, .str x.m, tv x.t, .int x.d, .ref wt] ∧ SqT K H wt (x.w.map V.str)
theorem rLF_stay {K : PySem.W.Frag} {H H' : Hp} {v : V} {x : FV} (s : Stay H H') (h : rLF K H v x) : rLF K H' v x := let ⟨t, wt, e, h1, h2⟩ := h; ⟨t, wt, e, s.sqT h1, s.sqT h2⟩
theorem Pot.stay {p : Addr} {n : Nat} {H H' : Hp} (h : Pot p n H) (b : But p H H') : Stay H H' := by
  obtain ⟨_, _, _, e, _⟩ := h
  have ne : ∀ {q o}, H q = some o → (∀ xs, o ≠ .lst xs) → q ≠ p := fun {q o} eq no z => by
    rw [z, e] at eq
    exact no _ (Option.some.inj eq).symm
  exact ⟨fun q xs h => b _ _ (ne h fun _ z => by cases z) h, fun q o xs h => b _ _ (ne h fun _ z => by cases z) h, fun q C d fs h => b _ _ (ne h fun _ z => by cases z) h⟩
theorem Pot.at_ {p : Addr} {n : Nat} {H : Hp} (h : Pot p n H) {q : Addr} (e : H q = none) : q ≠ p := fun z => by
  obtain ⟨_, _, _, ep, _⟩ := h
  rw [← z, e] at ep
  cases ep
/-- what is drawn for a field -/
structure Drawn (aims : List Str) (name alias_ : Str) (x : FV) : Prop where
  n : x.n = name
  w : x.w = [alias_] ∨ x.w = []
  m : (x.m = "mark" ∧ x.t = none ∧ -1000000000000 < x.d ∧ x.d < 1000000000000) ∨ ((x.m = "link" ∨ x.m = "list") ∧ x.d = 0 ∧ ∃ t ∈ aims, x.t = some t)
section
variable {P : Program} {w : World} {K : PySem.W.Frag} {mg : Str → Option Value} {base : Heap}
abbrev sPs : Stmt := top 60
abbrev nPs : List Str := ["_law_pot_here", "_law_road"]
def spPs : Sp := fun vs H Q _ => ∃ (p : Addr) (n : Nat), vs = [.ref p] ∧ Pot p n H ∧ n < 100000 ∧ ∀ (d : Int) H', -1000000000000 < d → d < 1000000000000 → But p H H' → Pot p (n + 3) H' → Q (.int d) H'
theorem scPs : FnScope nPs ["_law_pot_here"] (defScope sPs) := ⟨rfl, rfl, rfl, by decide +kernel, rfl, by decide +kernel, by decide +kernel⟩
theorem ok_Ps {f f1 : Addr} {fd fd1 : FuncData} (F : Fun K "_law_preset" "_law_preset" sPs f fd) (DR : Known P w K mg base CX0 1 "_law_draw" ["_law_pot_here", "_law_many"] spDr f1 fd1) : FnOk P w K mg base CX0 2 f fd ["_law_pot_here"] spPs := by
  refine F.ok scPs (fun vs H Q E h => ?_) (fun cdv A outer s H vs Q E hr h => ?_)
  · obtain ⟨p, n, rfl, _⟩ := h
    rfl
  · obtain ⟨p, n, rfl, pt, n1, k⟩ := h
    refine ⟨_, 
      (pss_cons (ps_set (i := 1) scPs.nd rfl (.inl rfl) (pe_call DR.ok (hr.mono (by decide)) rfl DR.mg DR.kp DR.bi .nil pass0 (pa_cons (pv 0) (pa_cons pe_int pa_nil))))
      (pss_cons (ps_if (pt_cmpR op_eq (pv 1) pe_int (nomark _)) 
        (pss_one (ps_ret (pe_call DR.ok (hr.mono (by decide)) rfl DR.mg DR.kp DR.bi .nil pass0 (pa_cons (pv 0) (pa_cons (pe_op op_pow pe_int pe_int) pa_nil))))) pss_nil)
      (pss_cons (ps_if (pt_cmpR op_eq (pv 1) pe_int (nomark _)) 
        (pss_one (ps_ret (pe_op op_mul (pe_op op_sub (pe_op op_sub (pe_op op_pow pe_int pe_int) pe_int) (pe_call DR.ok (hr.mono (by decide)) rfl DR.mg DR.kp DR.bi .nil pass0 (pa_cons (pv 0) (pa_cons pe_int pa_nil)))) (pe_op op_sub pe_int (pe_op op_mul pe_int (pe_call DR.ok (hr.mono (by decide)) rfl DR.mg DR.kp DR.bi .nil pass0 (pa_cons (pv 0) (pa_cons pe_int pa_nil)))))))) pss_nil)
      (pss_one (ps_ret (pe_op op_sub (pe_call DR.ok (hr.mono (by decide)) rfl DR.mg DR.kp DR.bi .nil pass0 (pa_cons (pv 0) (pa_cons pe_int pa_nil))) pe_int)))))), ?_⟩
    refine ⟨_, rfl, p, 4, n, rfl, pt, by omega, by decide, by decide, fun r H1 r0 r1 b1 pt1 => ?_⟩
    refine ⟨_, rfl, rfl, _, rfl, ?_⟩
    refine ite2 (fun _ => ?_) (fun _ => ?_)
    · refine ⟨_, rfl, _, _, rfl, rfl, ⟨by decide, by decide, by decide⟩, p, 1000000000, n + 1, rfl, pt1, by omega, by decide, by decide, fun v H2 v0 v1 b2 pt2 => k v H2 (by omega) (by omega) (but_trans b1 b2) (pt2.le (by omega))⟩
    · refine ⟨_, rfl, rfl, _, rfl, ?_⟩
      refine ite2 (fun _ => ?_) (fun _ => ?_)
      · refine ⟨_, _, rfl, rfl, ⟨by decide, by decide, by decide⟩, _, _, rfl, rfl, _, rfl, p, 3, n + 1, rfl, pt1, by omega, by decide, by decide, fun v H2 v0 v1 b2 pt2 => ⟨_, _, rfl, rfl, _, rfl, p, 2, n + 2, rfl, pt2, by omega, by decide, by decide, fun u H3 u0 u1 b3 pt3 => ?_⟩⟩
        refine ⟨_, _, rfl, rfl, .inl ⟨by decide, by decide⟩, _, _, rfl, rfl, _, _, rfl, rfl, .inr ⟨by omega, by omega⟩, ?_⟩
        have e12 : (10 : Int) ^ (12 : Int).toNat = 1000000000000 := by decide
        have q : (u = 0 ∨ u = 1) ∧ (v = 0 ∨ v = 1 ∨ v = 2) := by omega
        refine k _ H3 ?_ ?_ (but_trans b1 (but_trans b2 b3)) (pt3.le (by omega))
        · rcases q with ⟨rfl | rfl, rfl | rfl | rfl⟩ <;> decide
        · rcases q with ⟨rfl | rfl, rfl | rfl | rfl⟩ <;> decide
      · exact ⟨_, rfl, p, 5, n + 1, rfl, pt1, by omega, by decide, by decide, fun v H2 v0 v1 b2 pt2 => ⟨_, _, rfl, rfl, k _ H2 (by omega) (by omega) (but_trans b1 b2) (pt2.le (by omega))⟩⟩
abbrev sLf : Stmt := top 61
abbrev nLf : List Str := ["_law_pot_here", "_law_name", "_law_alias", "_law_aims", "_law_mode", "_law_former"]
def spLf (K : PySem.W.Frag) : Sp := fun vs H Q _ => ∃ (p q : Addr) (n : Nat) (name alias_ : Str) (aims : List Str), vs = [.ref p, .str name, .str alias_, .ref q] ∧ Pot p n H ∧ n < 90000 ∧ H q = some (.lst (aims.map V.str)) ∧ 0 < aims.length ∧ aims.length ≤ 100 ∧
  ∀ (v : V) (x : FV) H', Drawn aims name alias_ x → rLF K H' v x → But p H H' → Pot p (n + 5) H' → Q v H'
theorem scLf : FnScope nLf ["_law_pot_here", "_law_name", "_law_alias", "_law_aims"] (defScope sLf) := ⟨rfl, rfl, rfl, by decide +kernel, rfl, by decide +kernel, by decide +kernel⟩
theorem ok_Lf {f f1 f2 : Addr} {fd fd1 fd2 : FuncData} (F : Fun K "_law_field" "_law_field" sLf f fd) (B : Bn mg) (DR : Known P w K mg base CX0 1 "_law_draw" ["_law_pot_here", "_law_many"] spDr f1 fd1) (PS_ : Known P w K mg base CX0 2 "_law_preset" ["_law_pot_here"] spPs f2 fd2) : FnOk P w K mg base CX0 3 f fd ["_law_pot_here", "_law_name", "_law_alias", "_law_aims"] (spLf K) := by
  refine F.ok scLf (fun vs H Q E h => ?_) (fun cdv A outer s H vs Q E hr h => ?_)
  · obtain ⟨p, q, n, name, al, aims, rfl, _⟩ := h
    rfl
  · obtain ⟨p, q, n, name, al, aims, rfl, pt, n1, hq, a0, a1, k⟩ := h
    refine ⟨_, 
      (pss_cut (ps_par (i := 4) (j := 5) rfl scLf.nd rfl rfl (by decide) rfl rfl (pa_cons (pe_ix ix_list (pe_lst (pa_cons pe_str (pa_cons pe_str (pa_cons pe_str pa_nil)))) (pe_call DR.ok (hr.mono (by decide)) rfl DR.mg DR.kp DR.bi .nil pass0 (pa_cons (pv 0) (pa_cons pe_int pa_nil))) (fun _ _ => rfl)) (pa_cons (pe_ifExp (pt_cmpR op_eq (pe_call DR.ok (hr.mono (by decide)) rfl DR.mg DR.kp DR.bi .nil pass0 (pa_cons (pv 0) (pa_cons pe_int pa_nil))) pe_int (nomark _)) (pe_tup (pa_cons (pv 2) pa_nil)) (pe_tup pa_nil)) pa_nil)) rfl)
      (pss_cons (ps_if (pt_cmpR op_eq (pv 4) pe_str (nomark _)) 
        (pss_one (ps_ret (pe_tup (pa_cons (pv 1) (pa_cons (pv 4) (pa_cons pe_non (pa_cons (pe_call PS_.ok (hr.mono (by decide)) rfl PS_.mg PS_.kp PS_.bi .nil pass0 (pa_cons (pv 0) pa_nil)) (pa_cons (pv 5) pa_nil)))))))) pss_nil)
      (pss_one (ps_ret (pe_tup (pa_cons (pv 1) (pa_cons (pv 4) (pa_cons (pe_ix ix_list (pv 3) (pe_call DR.ok (hr.mono (by decide)) rfl DR.mg DR.kp DR.bi .nil pass0 (pa_cons (pv 0) (pa_cons (pe_callB call_len_seq (by rfl) B.len PySem.boot_len (pa_cons (pv 3) pa_nil)) pa_nil))) (fun _ _ => rfl)) (pa_cons pe_int (pa_cons (pv 5) pa_nil)))))))))), ?_⟩
    have q0 : ∀ {H' : Hp}, But p H H' → H' q = some (.lst (aims.map V.str)) := fun b => b _ _ (fun z => by
      obtain ⟨_, _, _, e, _⟩ := pt
      rw [← z, hq] at e
      cases aims with
      | nil => cases a0
      | cons a r => cases e) hq
    refine ⟨fun σ H' => ∃ (mode : Str) (wt : Addr) (ws : List Str), σ = [some (.ref p), some (.str name), some (.str al), some (.ref q), some (.str mode), some (.ref wt)] ∧ (mode = "mark" ∨ mode = "link" ∨ mode = "list") ∧ (ws = [al] ∨ ws = []) ∧ SqT K H' wt (ws.map V.str) ∧ But p H H' ∧ Pot p (n + 2) H', ?_, ?_⟩
    · refine ⟨by show 3 ≤ sizeLine; decide, fun t3 ht3 => ?_⟩
      have st3 : Same H (upd H t3 (.lst [.str "mark", .str "link", .str "list"])) := same_new ht3
      have ptb := pt.same st3
      refine ⟨_, rfl, p, 3, n, rfl, ptb, by omega, by decide, by decide, fun i H1 i0 i1 b1 pt1 => ?_⟩
      have ne3 : t3 ≠ p := pt.at_ ht3
      have l3 : H1 t3 = some (.lst [.str "mark", .str "link", .str "list"]) := b1 _ _ ne3 upd_same
      obtain ⟨iN, rfl⟩ := Int.eq_ofNat_of_zero_le i0
      obtain ⟨mode, hm, mm⟩ : ∃ mode : Str, ([.str "mark", .str "link", .str "list"] : List V)[iN]? = some (.str mode) ∧ (mode = "mark" ∨ mode = "link" ∨ mode = "list") := by
        have : iN = 0 ∨ iN = 1 ∨ iN = 2 := by omega
        rcases this with rfl | rfl | rfl
        · exact ⟨_, rfl, .inl rfl⟩
        · exact ⟨_, rfl, .inr (.inl rfl)⟩
        · exact ⟨_, rfl, .inr (.inr rfl)⟩
      have bH1 : But p H H1 := but_trans (but_of st3) b1
      refine ⟨t3, _, _, _, rfl, rfl, SqL.of l3, atI_nat hm, ?_⟩
      refine ⟨_, rfl, p, 2, n + 1, rfl, pt1, by omega, by decide, by decide, fun u H2 u0 u1 b2 pt2 => ⟨rfl, _, rfl, ?_⟩⟩
      have bH2 : But p H H2 := but_trans bH1 b2
      refine ite2 (fun _ => ?_) (fun _ => ?_)
      · refine ⟨_, rfl, by show 1 ≤ sizeLine; decide, fun wt hwt => ?_⟩
        have sw := same_new (o := .tup [.str al]) hwt
        exact ⟨_, _, rfl, mode, wt, [al], rfl, mm, .inl rfl, SqT.of upd_same, but_trans bH2 (but_of sw), pt2.same sw⟩
      · refine ⟨by show 0 ≤ sizeLine; decide, fun wt hwt => ?_⟩
        have sw := same_new (o := .tup []) hwt
        exact ⟨_, _, rfl, mode, wt, [], rfl, mm, .inr rfl, SqT.of upd_same, but_trans bH2 (but_of sw), pt2.same sw⟩
    · rintro _ H1 ⟨mode, wt, ws, rfl, mm, hws, hwt, b1, pt1⟩
      refine ⟨_, rfl, rfl, _, rfl, ?_⟩
      rw [dec_s]
      by_cases em : mode = ("mark" : Str)
      · rw [decide_eq_true em]
        refine iteT ⟨_, rfl, _, rfl, _, rfl, p, n + 2, rfl, pt1, by omega, fun d H3 d0 d1 b3 pt3 => ⟨_, rfl, by show 5 ≤ sizeLine; decide, fun t ht => ?_⟩⟩
        have st := same_new (o := .tup [.str name, .str mode, .non, .int d, .ref wt]) ht
        have y3 := pt1.stay b3
        exact k (.ref t) ⟨name, mode, none, d, ws⟩ _ ⟨rfl, hws, .inl ⟨em, rfl, d0, d1⟩⟩ ⟨t, wt, rfl, SqT.of upd_same, st.sqT (y3.sqT hwt)⟩ (but_trans b1 (but_trans b3 (but_of st))) (pt3.same st)
      · rw [decide_eq_false em]
        have hq1 := q0 b1
        refine iteF ⟨_, rfl, _, rfl, _, rfl, _, rfl, _, rfl, q, _, rfl, .inl (SqL.of hq1), p, _, n + 2, rfl, pt1, by omega, by rw [List.length_map]; omega, by rw [List.length_map]; omega, fun i H3 i0 i1 b3 pt3 => ?_⟩
        obtain ⟨iN, rfl⟩ := Int.eq_ofNat_of_zero_le i0
        rw [List.length_map] at i1
        have lt : iN < aims.length := by omega
        have hx : (aims.map V.str)[iN]? = some (V.str aims[iN]) := by
          rw [List.getElem?_map, List.getElem?_eq_getElem lt]
          rfl
        refine ⟨q, _, _, _, rfl, rfl, SqL.of (q0 (but_trans b1 b3)), atI_nat hx, _, rfl, by show 5 ≤ sizeLine; decide, fun t ht => ?_⟩
        have st := same_new (o := .tup [.str name, .str mode, .str aims[iN], .int 0, .ref wt]) ht
        have y3 := pt1.stay b3
        exact k (.ref t) ⟨name, mode, some aims[iN], 0, ws⟩ _ ⟨rfl, hws, .inr ⟨mm.resolve_left em, rfl, _, List.getElem_mem lt, rfl⟩⟩ ⟨t, wt, rfl, SqT.of upd_same, st.sqT (y3.sqT hwt)⟩ (but_trans b1 (but_trans b3 (but_of st))) ((pt3.same st).le (by omega))
end
end Wh
set_option Elab.async false
set_option linter.all false
set_option maxRecDepth 100000
set_option maxHeartbeats 4000000
namespace Wh
open PySem PySem.Spec PyProof.Rows L2
open Wp hiding Same.refl Same.trans same_new boot_all
open W8 (Ev Rp Kp Mono same_new take_snoc rW rB mW mB ev_words ev_words_eq ev_bools_eq lc_sieve)
/-! ## rows asked -/
def rLK (K : PySem.W.Frag) : Rp KD := fun H v x => ∃ t lf us, v = .ref t ∧ SqT K H t [.str x.n, tv x.b, .bl x.f, .bl x.h, tv x.k, .bl x.r, .ref lf] ∧ H lf = some (.lst us) ∧ Ev (rLF K) H us x.fs
theorem sLF {K : PySem.W.Frag} {H H' : Hp} {v : V} {x : FV} (s : Same H H') (h : rLF K H v x) : rLF K H' v x := rLF_stay (.kp (.of s)) h
theorem mLF (K : PySem.W.Frag) : Mono (rLF K) := fun _ _ _ _ s => rLF_stay (.kp s)
theorem rLK_same {K : PySem.W.Frag} {H H' : Hp} {v : V} {x : KD} (s : Same H H') (h : rLK K H v x) : rLK K H' v x := by
  obtain ⟨t, lf, us, e, h1, h2, h3⟩ := h
  exact ⟨t, lf, us, e, s.sqT h1, s _ _ h2, h3.same (mLF K) s⟩
theorem rLK_but {K : PySem.W.Frag} {p : Addr} {n : Nat} {H H' : Hp} {v : V} {x : KD} (pt : Pot p n H) (b : But p H H') (h : rLK K H v x) : rLK K H' v x := by
  obtain ⟨t, lf, us, e, h1, h2, h3⟩ := h
  have y := pt.stay b
  refine ⟨t, lf, us, e, y.sqT h1, b _ _ (fun z => ?_) h2, h3.1, fun i u c a d => rLF_stay y (h3.2 i u c a d)⟩
  obtain ⟨a1, a2, a3, ep, _⟩ := pt
  rw [z, ep] at h2
  cases h2
  obtain ⟨c, _, t2, wt, e2, _⟩ := h3.at (i := 0) rfl
  cases e2
/-- a list of rows -/
def Rows (K : PySem.W.Frag) (H : Hp) (l : Addr) (ks : List KD) : Prop := ∃ us, H l = some (.lst us) ∧ us.length = ks.length ∧ ∀ (i : Nat) v x, us[i]? = some v → ks[i]? = some x → rLK K H v x
theorem Rows.same {K : PySem.W.Frag} {H H' : Hp} {l : Addr} {ks : List KD} (h : Rows K H l ks) (s : Same H H') : Rows K H' l ks := let ⟨us, e, n, r⟩ := h; ⟨us, s _ _ e, n, fun i v x a b => rLK_same s (r i v x a b)⟩
section
variable {P : Program} {w : World} {K : PySem.W.Frag} {mg : Str → Option Value} {base : Heap}
abbrev sRw : Stmt := top 64
abbrev nRw : List Str := ["_law_rows", "_law_kind", "_law_row_here"]
def spRw (K : PySem.W.Frag) : Sp := fun vs H Q _ => ∃ (l : Addr) (n : Str) (ks : List KD) (x : KD), vs = [.ref l, .str n] ∧ Rows K H l ks ∧ ks.length ≤ 100 ∧ atName ks n = some x ∧ ∀ v H', rLK K H' v x → Same H H' → Q v H'
theorem scRw : FnScope nRw ["_law_rows", "_law_kind"] (defScope sRw) := ⟨rfl, rfl, rfl, by decide +kernel, rfl, by decide +kernel, by decide +kernel⟩
theorem find_head : ∀ {ks : List KD} {n : Str} {x : KD}, atName ks n = some x → (ks.filter fun e => decide (e.n = n)).head? = some x := by
  intro ks n x h
  rw [List.head?_filter]
  exact h
theorem ok_Rw {f : Addr} {fd : FuncData} (F : Fun K "_law_row" "_law_row" sRw f fd) : FnOk P w K mg base CX0 1 f fd ["_law_rows", "_law_kind"] (spRw K) := by
  refine F.ok scRw (fun vs H Q E h => ?_) (fun cdv A outer s H vs Q E hr h => ?_)
  · obtain ⟨l, n, ks, x, rfl, _⟩ := h
    rfl
  · obtain ⟨l, n, ks, x, rfl, ⟨us, hl, lu, r⟩, few, ha, k⟩ := h
    refine ⟨_, 
      (pss_one (ps_ret (pe_ix ix_list (pe_lc (own := [("_law_row_here", 2)]) (g := gName 2) (te := tVar 2) (tt := tTest (tOp rEq (tOp (rIxT K) (tVar 2) (tC (.int 0))) (tVar 1))) rfl scRw.nd (pi_list (pv 0)) (blkOk_by (N := nRw) (sc := defScope sRw) (by decide +kernel)) (fun _ _ _ _ _ => pg_name (i := 2) scRw.nd rfl (Or.inl rfl)) (fun _ _ _ _ _ => pts_one (pt_cmpR op_eq (pe_ix ix_tup (pv 2) pe_int (fun _ _ => rfl)) (pv 1) (nomark _))) (fun _ _ _ _ _ => (pv 2))) pe_int (fun _ _ => rfl)))), ?_⟩
    refine ⟨_, rfl, l, rfl, ⟨us, SqL.of hl⟩, fun D hD => ?_⟩
    refine lc_it walk_list (fun j H' => Same H H' ∧ ∃ zs cs, H' D = some (.lst zs) ∧ cs = (ks.take j).filter (fun e => decide (e.n = n)) ∧ zs.length = cs.length ∧ zs.length ≤ j ∧ ∀ (i : Nat) v y, zs[i]? = some v → cs[i]? = some y → rLK K H v y)
      ⟨same_new hD, [], [], upd_same, by simp, rfl, by simp, by simp⟩ (fun _ _ _ q => SqL.of (q.1 _ _ hl)) ?_ ?_
    · rintro j v H1 H2 hj ⟨s1, zs, cs, hz, ec, lz, lj, rz⟩ ⟨rfl, hv⟩
      have hk : ks[j]? = some ks[j] := List.getElem?_eq_getElem (by omega)
      generalize ks[j] = y at hk
      have ry := r j v y hv hk
      obtain ⟨t, lf, ws, rfl, ht, _⟩ := rLK_same s1 ry
      have tk : ks.take (j + 1) = ks.take j ++ [y] := take_snoc hk
      refine ⟨rfl, _, rfl, t, _, _, _, rfl, rfl, ht, atI_nat (j := 0) rfl, _, rfl, rfl, _, rfl, ?_⟩
      rw [dec_s]
      by_cases e : y.n = n
      · rw [decide_eq_true e]
        refine iteT ⟨_, rfl, zs, hz, by rw [sizeLine_eq]; omega, s1.over hD, zs ++ [.ref t], cs ++ [y], upd_same, by rw [tk, List.filter_append, ← ec]; simp [e], by simp [lz], by simp; omega, fun i v y2 h1 h2 => ?_⟩
        by_cases hi : i < zs.length
        · rw [List.getElem?_append_left hi] at h1
          rw [List.getElem?_append_left (by omega)] at h2
          exact rz i v y2 h1 h2
        · have hi2 : i = zs.length := by
            have := (List.getElem?_eq_some_iff.mp h1).1
            simp at this
            omega
          subst hi2
          rw [List.getElem?_append_right (Nat.le_refl _), Nat.sub_self] at h1
          rw [lz, List.getElem?_append_right (Nat.le_refl _), Nat.sub_self] at h2
          cases h1
          cases h2
          exact ry
      · rw [decide_eq_false e]
        exact iteF ⟨s1, zs, cs, hz, by rw [tk, List.filter_append, ← ec]; simp [e], lz, by omega, rz⟩
    · rintro H1 ⟨s1, zs, cs, hz, ec, lz, lj, rz⟩
      have tk : ks.take us.length = ks := by rw [lu]; exact List.take_length
      rw [tk] at ec
      have hh := find_head ha
      rw [← ec, List.head?_eq_getElem?] at hh
      have : 0 < zs.length := by
        have := (List.getElem?_eq_some_iff.mp hh).1
        omega
      have h0 : zs[0]? = some zs[0] := List.getElem?_eq_getElem this
      exact ⟨D, _, _, _, rfl, rfl, SqL.of hz, atI_nat (j := 0) h0, k _ _ (rLK_same s1 (rz 0 _ x h0 hh)) s1⟩
abbrev sFs : Stmt := top 65
abbrev nFs : List Str := ["_law_rows", "_law_kind", "_law_row_here", "_law_above"]
def spFs (K : PySem.W.Frag) : Sp := fun vs H Q _ => ∃ (l : Addr) (n : Str) (ks : List KD) (x : KD), vs = [.ref l, .str n] ∧ Rows K H l ks ∧ ks.length ≤ 100 ∧ atName ks n = some x ∧ (∀ b, x.b = some b → ∃ y, atName ks b = some y) ∧ (allF ks x).length ≤ 1000 ∧
  ∀ (D : Addr) (us : List V) H', H D = none → H' D = some (.lst us) → Ev (rLF K) H' us (allF ks x) → Same H H' → Q (.ref D) H'
theorem scFs : FnScope nFs ["_law_rows", "_law_kind"] (defScope sFs) := ⟨rfl, rfl, rfl, by decide +kernel, rfl, by decide +kernel, by decide +kernel⟩
theorem ok_Fs {f f1 : Addr} {fd fd1 : FuncData} (F : Fun K "_law_fields" "_law_fields" sFs f fd) (B : Bn mg) (RW_ : Known P w K mg base CX0 1 "_law_row" ["_law_rows", "_law_kind"] (spRw K) f1 fd1) : FnOk P w K mg base CX0 2 f fd ["_law_rows", "_law_kind"] (spFs K) := by
  refine F.ok scFs (fun vs H Q E h => ?_) (fun cdv A outer s H vs Q E hr h => ?_)
  · obtain ⟨l, n, ks, x, rfl, _⟩ := h
    rfl
  · obtain ⟨l, n, ks, x, rfl, rw_, few, ha, hb, f1000, k⟩ := h
    refine ⟨_, 
      (pss_cons (ps_set (i := 2) scFs.nd rfl (.inl rfl) (pe_call RW_.ok (hr.mono (by decide)) rfl RW_.mg RW_.kp RW_.bi .nil pass0 (pa_cons (pv 0) (pa_cons (pv 1) pa_nil))))
      (pss_cut (ps_set (i := 3) scFs.nd rfl (.inl rfl) (pe_ifExp (pt_cmp (pc_isN (pe_ix ix_tup (pv 2) pe_int (fun _ _ => rfl)))) (pe_lst pa_nil) (pe_callTy call_list_of (by rfl) B.list PyProof.Rows.boot_list (pa_cons (pe_ix ix_tup (pe_call RW_.ok (hr.mono (by decide)) rfl RW_.mg RW_.kp RW_.bi .nil pass0 (pa_cons (pv 0) (pa_cons (pe_ix ix_tup (pv 2) pe_int (fun _ _ => rfl)) pa_nil))) pe_int (fun _ _ => rfl)) pa_nil))))
      (pss_one (ps_ret (pe_op op_cat (pv 3) (pe_callTy call_list_of (by rfl) B.list PyProof.Rows.boot_list (pa_cons (pe_ix ix_tup (pv 2) pe_int (fun _ _ => rfl)) pa_nil))))))), ?_⟩
    refine ⟨_, rfl, _, rfl, l, n, ks, x, rfl, rw_, few, ha, fun v H1 r1 s1 => ?_⟩
    obtain ⟨t, lf, us, rfl, ht, hlf, eu⟩ := id r1
    refine ⟨fun σ H' => ∃ (D : Addr) (ws : List V), σ = [some (.ref l), some (.str n), some (.ref t), some (.ref D)] ∧ Same H1 H' ∧ H' D = some (.lst ws) ∧ Ev (rLF K) H' ws (match x.b with | none => [] | some b => baseFs ks b), ?_, ?_⟩
    · refine ⟨_, rfl, t, _, _, _, rfl, rfl, ht, atI_nat (j := 1) rfl, _, rfl, ?_⟩
      cases e : x.b with
      | none => exact iteT ⟨by show 0 ≤ sizeLine; decide, fun D hD => ⟨D, [], rfl, same_new hD, upd_same, Ev.nil⟩⟩
      | some b =>
        obtain ⟨y, hy⟩ := hb b e
        have ht2 := ht
        rw [e] at ht2
        refine iteF ⟨_, rfl, _, rfl, t, _, _, _, rfl, rfl, ht2, atI_nat (j := 1) rfl, l, b, ks, y, rfl, rw_.same s1, few, hy, fun v2 H2 r2 s2 => ?_⟩
        obtain ⟨t2, lf2, us2, rfl, ht3, hlf2, eu2⟩ := r2
        refine ⟨t2, _, _, _, rfl, rfl, ht3, atI_nat (j := 6) rfl, lf2, us2, rfl, .inl (SqL.of hlf2), fun D hD => ?_⟩
        have ey : baseFs ks b = y.fs := by
          unfold baseFs
          rw [show (ks.find? fun e => decide (e.n = b)) = some y from hy]
          rfl
        exact ⟨D, us2, rfl, s2.trans (same_new hD), upd_same, by show Ev _ _ us2 (baseFs ks b); rw [ey]; exact eu2.same (mLF K) (same_new hD)⟩
    · rintro _ H2 ⟨D, ws, rfl, s2, hD, ew⟩
      refine ⟨_, rfl, _, rfl, t, _, _, _, rfl, rfl, s2.sqT ht, atI_nat (j := 6) rfl, lf, us, rfl, .inl (SqL.of (s2 _ _ hlf)), fun D2 hD2 => ?_⟩
      have s3 : Same H2 (upd H2 D2 (.lst us)) := same_new hD2
      have ea : (match x.b with | none => [] | some b => baseFs ks b) ++ x.fs = allF ks x := by
        unfold allF
        cases x.b <;> rfl
      refine ⟨D, D2, ws, us, rfl, rfl, s3 _ _ hD, upd_same, ?_, fun D3 hD3 => ?_⟩
      · rw [← ea, List.length_append] at f1000
        rw [ew.1, eu.1, sizeLine_eq]
        omega
      · have s4 := same_new (o := .lst (ws ++ us)) hD3
        refine k D3 (ws ++ us) _ ?_ upd_same ?_ (s1.trans (s2.trans (s3.trans s4)))
        · exact Same.free (s1.trans (s2.trans s3)) hD3
        · rw [← ea]
          exact ((ew.same (mLF K) s3).append (eu.same (mLF K) (s2.trans s3))).same (mLF K) s4
end
end Wh
set_option Elab.async false
set_option linter.all false
set_option maxRecDepth 100000
set_option maxHeartbeats 4000000
namespace Wh
open PySem PySem.Spec PyProof.Rows L2
open Wp hiding Same.refl Same.trans same_new boot_all
open W8 (Ev Rp Kp Mono same_new take_snoc rW rB mW mB ev_words ev_words_eq ev_bools_eq lc_sieve)
/-! ## what the law expects to be taken -/
def OkF (g : FV) : Prop := PyData.strOk g.m = true ∧ ∀ t, g.t = some t → PyData.strOk t = true
def tvD : Option Str → PyData
  | none => .none
  | some t => .str t
def three (g : FV) : PyData := .tuple [.str g.m, tvD g.t, .int g.d]
theorem three_eq (o g : FV) : PyData.eqv (three o) (three g) = fitsB g o := by
  have e1 : ∀ a b : Option Str, PyData.eqv (tvD a) (tvD b) = decide (b = a) := fun a b => by
    cases a <;> cases b <;> simp [tvD, PyData.eqv]
    rw [Bool.eq_iff_iff, beq_iff_eq, decide_eq_true_eq]
    exact eq_comm
  have e2 : ∀ a b : Str, PyData.eqv (.str a) (.str b) = decide (b = a) := fun a b => by
    simp only [PyData.eqv]
    rw [Bool.eq_iff_iff, beq_iff_eq, decide_eq_true_eq]
    exact eq_comm
  have e3 : ∀ a b : Int, PyData.eqv (.int a) (.int b) = decide (b = a) := fun a b => by
    simp only [PyData.eqv]
    rw [Bool.eq_iff_iff, beq_iff_eq, decide_eq_true_eq]
    exact eq_comm
  unfold three fitsB
  simp only [PyData.eqv, PyData.eqvAll] at e2 e3 ⊢
  rw [e1]
  have e2' := e2 o.m g.m
  have e3' := e3 o.d g.d
  simp only [e2', e3', Bool.and_true, Bool.and_assoc]
theorem three_shaped {g : FV} (h : OkF g) : SeqAt.shaped (three g) = true := by
  obtain ⟨h1, h2⟩ := h
  unfold three
  cases e : g.t with
  | none => simp [tvD, SeqAt.shaped, PyData.canLay0, PyData.canLayAll0, PyData.depth, PyData.depthAll, h1]
  | some t =>
    have h3 := h2 t e
    simp [tvD, SeqAt.shaped, PyData.canLay0, PyData.canLayAll0, PyData.depth, PyData.depthAll, h1, h3]
theorem three_dp {K : PySem.W.Frag} {H : Hp} {a : Addr} {g : FV} (h : SqT K H a [.str g.m, tv g.t, .int g.d]) : Dp K H (.ref a) (three g) := by
  refine .tup h (.cons (.str _) (.cons ?_ (.cons (.int _) .nil)))
  cases g.t with
  | none => exact .non
  | some t => exact .str t
theorem catA_one {K : PySem.W.Frag} {H : Hp} {a b : Addr} {x : V} {ys : List V} {Q : VK} (ha : SqT K H a [x]) (hb : SqT K H b ys) (few : ys.length ≤ 1000) (k : ∀ p H', Same H H' → SqT K H' p (x :: ys) → Q (.ref p) H') : rCatA K (.ref a) (.ref b) H Q := by
  refine ⟨a, b, [x], ys, rfl, rfl, ha, hb, ?_, (fun e => by cases e), fun _ e => ?_, fun _ _ p hp => k p _ (same_new hp) (SqT.of upd_same)⟩
  · rw [sizeLine_eq]
    show 1 + ys.length ≤ _
    omega
  · subst e
    exact k a H (Same.refl _) ha
section
variable {P : Program} {w : World} {K : PySem.W.Frag} {mg : Str → Option Value} {base : Heap}
abbrev sTk : Stmt := top 67
abbrev nTk : List Str := ["_law_elder", "_law_later", "_law_kind", "_law_name", "_law_wanted", "_law_label", "_law_one"]
def spTk (K : PySem.W.Frag) : Sp := fun vs H Q _ => ∃ (l1 l2 : Addr) (kn nm : Str) (ks1 ks2 : List KD) (x1 x2 : KD) (g : FV), vs = [.ref l1, .ref l2, .str kn, .str nm] ∧ Rows K H l1 ks1 ∧ Rows K H l2 ks2 ∧ ks1.length ≤ 100 ∧ ks2.length ≤ 100 ∧ atName ks1 kn = some x1 ∧ atName ks2 kn = some x2 ∧
  (∀ b, x1.b = some b → ∃ y, atName ks1 b = some y) ∧ (∀ b, x2.b = some b → ∃ y, atName ks2 b = some y) ∧ (allF ks1 x1).length ≤ 1000 ∧ (allF ks2 x2).length ≤ 1000 ∧ fieldNamed (allF ks2 x2) (.str nm) = some g ∧ OkF g ∧ (∀ o ∈ allF ks1 x1, OkF o) ∧ g.w.length ≤ 1000 ∧
  ∀ H', Same H H' → Q (tv (srcOf (allF ks1 x1) g)) H'
theorem scTk : FnScope nTk ["_law_elder", "_law_later", "_law_kind", "_law_name"] (defScope sTk) := ⟨rfl, rfl, rfl, by decide +kernel, rfl, by decide +kernel, by decide +kernel⟩
theorem ok_Tk {f f1 : Addr} {fd fd1 : FuncData} (F : Fun K "_law_takes" "_law_takes" sTk f fd) (FS : Known P w K mg base CX0 2 "_law_fields" ["_law_rows", "_law_kind"] (spFs K) f1 fd1) : FnOk P w K mg base CX0 3 f fd ["_law_elder", "_law_later", "_law_kind", "_law_name"] (spTk K) := by
  refine F.ok scTk (fun vs H Q E h => ?_) (fun cdv A outer s H vs Q E hr h => ?_)
  · obtain ⟨l1, l2, kn, nm, ks1, ks2, x1, x2, g, rfl, _⟩ := h
    rfl
  · obtain ⟨l1, l2, kn, nm, ks1, ks2, x1, x2, g, rfl, R1, R2, n1, n2, a1, a2, b1, b2, f1, f2, hg, og, oo, gw, k⟩ := h
    refine ⟨_, 
      (pss_cons (ps_set (i := 4) scTk.nd rfl (.inl rfl) (pe_ix ix_list (pe_lc (own := [("_law_one", 6)]) (g := gName 6) (te := tVar 6) (tt := tTest (tOp rEq (tOp (rIxT K) (tVar 6) (tC (.int 0))) (tVar 3))) rfl scTk.nd (pi_list (pe_call FS.ok (hr.mono (by decide)) rfl FS.mg FS.kp FS.bi .nil pass0 (pa_cons (pv 1) (pa_cons (pv 2) pa_nil)))) (blkOk_by (N := nTk) (sc := defScope sTk) (by decide +kernel)) (fun _ _ _ _ _ => pg_name (i := 6) scTk.nd rfl (Or.inl rfl)) (fun _ _ _ _ _ => pts_one (pt_cmpR op_eq (pe_ix ix_tup (pv 6) pe_int (fun _ _ => rfl)) (pv 3) (nomark _))) (fun _ _ _ _ _ => (pv 6))) pe_int (fun _ _ => rfl)))
      (pss_cons (ps_for PassesOwn.never rfl (pi_tup (pe_op op_catA (pe_tup (pa_cons (pv 3) pa_nil)) (pe_ix ix_tup (pv 4) pe_int (fun _ _ => rfl)))) (pg_name (i := 5) scTk.nd rfl (Or.inl rfl)) 
        (pss_one (ps_for PassesOwn.never rfl (pi_list (pe_call FS.ok (hr.mono (by decide)) rfl FS.mg FS.kp FS.bi .nil pass0 (pa_cons (pv 0) (pa_cons (pv 2) pa_nil)))) (pg_name (i := 6) scTk.nd rfl (Or.inl rfl)) 
          (pss_one (ps_if (PW.pt (pw_and (pt_cmpR op_eq (pe_ix ix_tup (pv 6) pe_int (fun _ _ => rfl)) (pv 5) (nomark _)) (pw_and1 (pt_cmpR (op_eqD hr.units) (pe_slice sl_tup (pv 6) (po_some pe_int) (po_some pe_int)) (pe_slice sl_tup (pv 4) (po_some pe_int) (po_some pe_int)) (nomark _))))) 
            (pss_one (ps_ret (pv 5))) pss_nil)))))
      (pss_one (ps_ret pe_non)))), ?_⟩
    refine ⟨_, rfl, _, rfl, l2, kn, ks2, x2, rfl, R2, n2, a2, b2, f2, fun Da us H1 hDa hus evu s1 => ?_⟩
    refine ⟨Da, rfl, ⟨us, SqL.of hus⟩, fun D hD => ?_⟩
    refine lc_sieve (mLF K) (mLF K) (fun o => decide (o.n = nm)) id walk_list f2 (fun H' s => SqL.of (s _ _ hus)) hD evu ?_ ?_ ?_
    · rintro _ o H2 Rq _ s2 ⟨t, wt, rfl, ht, _⟩ kk
      refine ⟨_, rfl, t, _, _, _, rfl, rfl, ht, atI_nat (j := 0) rfl, _, rfl, rfl, _, rfl, ?_⟩
      rw [dec_s]
      exact kk _ (Same.refl _)
    · rintro v c H2 Rq _ _ _ r kk
      exact ⟨_, rfl, kk _ _ (Same.refl _) r⟩
    intro H2 zs s2 hzs ez
    rw [List.map_id] at ez
    have hh : ((allF ks2 x2).filter fun o => decide (o.n = nm))[0]? = some g := by
      rw [← List.head?_eq_getElem?, List.head?_filter]
      exact hg
    have gn : g.n = nm := of_decide_eq_true (List.mem_filter.mp (List.mem_of_getElem? hh)).2
    have hz0 : ∃ v, zs[0]? = some v := by
      have := (List.getElem?_eq_some_iff.mp hh).1
      exact ⟨_, List.getElem?_eq_getElem (by rw [ez.1]; exact this)⟩
    obtain ⟨v, hv⟩ := hz0
    obtain ⟨t, wt, rfl, ht, hwt⟩ := ez.2 0 v g hv hh
    refine ⟨D, _, _, _, rfl, rfl, SqL.of hzs, atI_nat (j := 0) hv, ?_⟩
    have s02 : Same H H2 := s1.trans s2
    refine ⟨_, rfl, by show 1 ≤ sizeLine; decide, fun p1 hp1 => ?_⟩
    have s3 : Same H2 (upd H2 p1 (.tup [.str nm])) := same_new hp1
    refine ⟨_, rfl, t, _, _, _, rfl, rfl, s3.sqT ht, atI_nat (j := 4) rfl, catA_one (SqT.of upd_same) (s3.sqT hwt) (by rw [List.length_map]; exact gw) fun p2 H3 s4 hp2 => ⟨p2, rfl, ⟨_, hp2⟩, ?_⟩⟩
    have s03 : Same H H3 := s02.trans (s3.trans s4)
    have ht3 := s4.sqT (s3.sqT ht)
    refine for_it (walk_tup (xs := (g.n :: g.w).map V.str)) (fun j σ H' => ∃ v5 v6, σ = [some (.ref l1), some (.ref l2), some (.str kn), some (.str nm), some (.ref t), v5, v6] ∧ Same H3 H' ∧ ∀ n ∈ (g.n :: g.w).take j, ((allF ks1 x1).any fun o => decide (o.n = n) && fitsB g o) = false)
      ⟨none, none, rfl, Same.refl _, by simp⟩ (fun i σ H' _ ⟨_, _, _, e, _⟩ => e.sqT (by rw [gn]; exact hp2)) ?_ ?_
    · rintro j u0 σ H4 _ hj ⟨v5, v6, rfl, s5, no⟩ ⟨rfl, hu0⟩
      rw [List.getElem?_map] at hu0
      obtain ⟨n, hn, rfl⟩ := Option.map_eq_some_iff.mp hu0
      have s04 := s03.trans s5
      refine ⟨_, rfl, _, rfl, l1, kn, ks1, x1, rfl, R1.same s04, n1, a1, b1, f1, fun De vs H5 hDe hvs evv s6 => ⟨De, rfl, ⟨vs, SqL.of hvs⟩, ?_⟩⟩
      refine for_it (walk_list (xs := vs)) (fun i σ H' => ∃ v6, σ = [some (.ref l1), some (.ref l2), some (.str kn), some (.str nm), some (.ref t), some (.str n), v6] ∧ Same H5 H' ∧ ∀ o ∈ (allF ks1 x1).take i, (decide (o.n = n) && fitsB g o) = false)
        ⟨v6, rfl, Same.refl _, by simp⟩ (fun i σ H' _ ⟨_, _, e, _⟩ => SqL.of (e _ _ hvs)) ?_ ?_
      · rintro i u1 σ H6 _ hi ⟨v6, rfl, s7, no2⟩ ⟨rfl, hu1⟩
        obtain ⟨o, ho, t2, w2, rfl, ht2, _⟩ := (evv.same (mLF K) s7).at hu1
        have tk : (allF ks1 x1).take (i + 1) = (allF ks1 x1).take i ++ [o] := take_snoc ho
        have next : (decide (o.n = n) && fitsB g o) = false → ∀ o2 ∈ (allF ks1 x1).take (i + 1), (decide (o2.n = n) && fitsB g o2) = false := fun e2 o2 m2 => by
          rw [tk, List.mem_append] at m2
          rcases m2 with m2 | m2
          · exact no2 o2 m2
          · rw [List.mem_singleton.mp m2]; exact e2
        refine ⟨_, rfl, t2, _, _, _, rfl, rfl, ht2, atI_nat (j := 0) rfl, _, rfl, rfl, _, rfl, ?_⟩
        rw [dec_s]
        cases e1 : decide (o.n = n) with
        | false => exact iteF (iteF ⟨_, rfl, s7, next (by rw [e1]; rfl)⟩)
        | true =>
          have s8 : Same H3 _ := s5.trans (s6.trans s7)
          refine iteT ⟨_, rfl, 1, rfl, 4, rfl, t2, _, rfl, ht2, by show ¬ (HT.sIx 5 0 (some 1) = 0 ∧ HT.sIx 5 5 (some 4) = 5); decide, fun pa hpa => ?_⟩
          have sa := same_new (o := .tup [.str o.m, tv o.t, .int o.d]) hpa
          refine ⟨_, rfl, 1, rfl, 4, rfl, t, _, rfl, sa.sqT (s8.sqT ht3), by show ¬ (HT.sIx 5 0 (some 1) = 0 ∧ HT.sIx 5 5 (some 4) = 5); decide, fun pb hpb => ?_⟩
          have sb := same_new (o := .tup [.str g.m, tv g.t, .int g.d]) hpb
          refine ⟨three o, three g, three_dp (sb.sqT (SqT.of upd_same)), three_dp (SqT.of upd_same), three_shaped (oo o (List.mem_of_getElem? ho)), three_shaped og, _, rfl, ?_⟩
          rw [three_eq]
          cases e2 : fitsB g o with
          | false => exact iteF ⟨_, rfl, s7.trans (sa.trans sb), next (by rw [e1, e2]; rfl)⟩
          | true =>
            refine iteT ⟨_, rfl, ?_⟩
            have src : srcOf (allF ks1 x1) g = some n := find_first no hn (by
              rw [List.any_eq_true]
              exact ⟨o, List.mem_of_getElem? ho, by rw [e1, e2]; rfl⟩)
            have q9 := k _ (s03.trans (s8.trans (sa.trans sb)))
            rw [src] at q9
            exact q9
      · rintro σ H6 ⟨v6, rfl, s7, no2⟩
        refine ⟨_, _, rfl, s5.trans (s6.trans s7), fun m hm => ?_⟩
        rw [take_snoc hn, List.mem_append] at hm
        rcases hm with hm | hm
        · exact no m hm
        · rw [List.mem_singleton.mp hm]
          rw [evv.1, List.take_length] at no2
          exact List.any_eq_false.mpr fun o mo => by rw [no2 o mo]; exact Bool.false_ne_true
    · rintro σ H4 ⟨v5, v6, rfl, s5, no⟩
      have src : srcOf (allF ks1 x1) g = none := List.find?_eq_none.mpr fun m hm => by
        rw [no m (by rw [List.length_map, List.take_length]; exact hm)]
        exact Bool.false_ne_true
      have q9 := k _ (s03.trans s5)
      rw [src] at q9
      exact q9
end
end Wh
set_option Elab.async false
set_option linter.all false
set_option maxRecDepth 100000
set_option maxHeartbeats 4000000
namespace Wh
open PySem PySem.Spec PyProof.Rows L2
open Wp hiding Same.refl Same.trans same_new boot_all
open W8 (Ev Rp Kp Mono same_new take_snoc rW rB mW mB ev_words ev_words_eq ev_bools_eq lc_sieve)
/-! ## a house is built of rows -/
abbrev psF : List Str := ["self", "name", "mode", "target", "default", "was"]
abbrev psK : List Str := ["self", "name", "fields", "base", "frozen", "heirs", "key", "registered"]
structure MkF (P : Program) (w : World) (K : PySem.W.Frag) (mg : Str → Option Value) (base : Heap) (CF CB fI : Addr) (fdI : FuncData) : Prop where
  ok : FnOk P w K mg base (L2.CX P w) 4 fI fdI psF (spFI K CF CB)
  made : Mk K CF fI
  gl : mg "Field" = some (.ref CF)
  kb : KBn K fdI psF 3 ["target", "default", "was"] (fun us ws => us ++ ws) (fun vs zs => vs ++ zs)
structure MkKd (P : Program) (w : World) (K : PySem.W.Frag) (mg : Str → Option Value) (base : Heap) (CF CK CB fI : Addr) (fdI : FuncData) : Prop where
  ok : FnOk P w K mg base (L2N.CX P w) 3 fI fdI psK (spKI K CF CK CB)
  made : Mk K CK fI
  gl : mg "Kind" = some (.ref CK)
  kb : KBn K fdI psK 3 ["base", "frozen", "heirs", "key", "registered"] (fun us ws => us ++ ws) (fun vs zs => vs ++ zs)
structure MkH (P : Program) (w : World) (K : PySem.W.Frag) (mg : Str → Option Value) (base : Heap) (CF CK CH fI : Addr) (fdI : FuncData) : Prop where
  ok : FnOk P w K mg base CX0 3 fI fdI ["self", "root", "kinds"] (spHI K CF CK CH)
  made : Mk K CH fI
  gl : mg "House" = some (.ref CH)
  bi : Binds K fdI ["self", "root", "kinds"] []
structure GoodF (g : FV) : Prop where
  right : fieldRight (.str g.n) (.str g.m) (tvD g.t) (.int g.d) (.tuple (g.w.map .str)) = true
  n : SeqAt.shaped (.str g.n) = true
  m : SeqAt.shaped (.str g.m) = true
  t : SeqAt.shaped (tvD g.t) = true
  w : SeqAt.shaped (.tuple (g.w.map .str)) = true
  sn : Shrt (.str g.n)
  st : Shrt (tvD g.t)
  sw : ShrtS (.tuple (g.w.map .str))
structure GoodK (x : KD) : Prop where
  fs : ∀ g ∈ x.fs, GoodF g
  right : kindRight (.str x.n) (some (x.fs.map .f)) (tvD x.b) (.bool x.f) (.bool x.h) (tvD x.k) (.bool x.r) = true
  n : SeqAt.shaped (.str x.n) = true
  b : SeqAt.shaped (tvD x.b) = true
  k : SeqAt.shaped (tvD x.k) = true
  sn : Shrt (.str x.n)
  sb : Shrt (tvD x.b)
  sk : Shrt (tvD x.k)
  few : x.fs.length ≤ 1000
theorem txts_map : ∀ w : List Str, txts (w.map PyData.str) = w
  | [] => rfl
  | x :: w => by
    show x :: txts (w.map PyData.str) = _
    rw [txts_map w]
theorem made_same {H1 : Hp} {a dx C : Addr} (ha : H1 a = none) (hd : H1 dx = none) : Same H1 (upd (upd H1 dx (.own a)) a (.ins C dx [])) := fun b o e => by
  rw [upd_ne (ne_of_none e ha), upd_ne (ne_of_none e hd)]
  exact e
theorem dq_tv {K : PySem.W.Frag} {H : Hp} {o : Option Str} (h : SeqAt.shaped (tvD o) = true) : Dq K H (tv o) (tvD o) := by
  cases o with
  | none => exact .dat .non rfl
  | some t => exact .dat (.str t) h
theorem paired_F {K : PySem.W.Frag} {CF : Addr} {H : Hp} : ∀ {us : List V} {gs : List FV}, Ev (rF K CF) H us gs → Paired (ItAt K CF H) us (gs.map .f)
  | [], [], _ => .nil
  | u :: us, g :: gs, e => .cons (e.2 0 u g rfl rfl) (paired_F ⟨by have := e.1; simp at this; exact this, fun i x c a b => e.2 (i + 1) x c (by simpa using a) (by simpa using b)⟩)
  | [], _ :: _, e => by cases e.1
  | _ :: _, [], e => by cases e.1
section
variable {P : Program} {w : World} {K : PySem.W.Frag} {mg : Str → Option Value} {base : Heap} {CF CK CH CB CB2 : Addr}
abbrev sBu : Stmt := top 63
abbrev nBu : List Str := ["_law_rows", "_law_start", "_law_made", "_law_row_here", "_law_parts", "_law_one"]
def spBu (K : PySem.W.Frag) (CF CK CH : Addr) : Sp := fun vs H Q _ => ∃ (l : Addr) (root : Str) (ks : List KD), vs = [.ref l, .str root] ∧ Rows K H l ks ∧ (∀ x ∈ ks, GoodK x) ∧ HouseOk root ks ∧ ∀ s H', H s = none → Same H H' → HouseAt K CF CK CH H' s root ks → Q (.ref s) H'
theorem scBu : FnScope nBu ["_law_rows", "_law_start"] (defScope sBu) := ⟨rfl, rfl, rfl, by decide +kernel, rfl, by decide +kernel, by decide +kernel⟩
theorem ok_Bu {f f1 f2 f3 : Addr} {fd fd1 fd2 fd3 : FuncData} (F : Fun K "_law_built" "_law_built" sBu f fd) (MF : MkF P w K mg base CF CB f1 fd1) (MK : MkKd P w K mg base CF CK CB2 f2 fd2) (MH : MkH P w K mg base CF CK CH f3 fd3) : FnOk P w K mg base CX0 6 f fd ["_law_rows", "_law_start"] (spBu K CF CK CH) := by
  refine F.ok scBu (fun vs H Q E h => ?_) (fun cdv A outer s H vs Q E hr h => ?_)
  · obtain ⟨l, root, ks, rfl, _⟩ := h
    rfl
  · obtain ⟨l, root, ks, rfl, ⟨us, hl, lu, r⟩, good, ok, k⟩ := h
    refine ⟨_, 
      (pss_cons (ps_set (i := 2) scBu.nd rfl (.inl rfl) (pe_lst pa_nil))
      (pss_cons (ps_for PassesOwn.never rfl (pi_list (pv 0)) (pg_name (i := 3) scBu.nd rfl (Or.inl rfl)) 
        (pss_cons (ps_setLc (i := 4) (own := [("_law_one", 5)]) (g := gName 5) (tt := tYes) (te := tMakeK CF 2 (["target", "default", "was"] : List Str).length (spFI K CF CB) (fun vs zs => vs ++ zs) E0 (tCons (tOp (rIxT K) (tVar 5) (tC (.int 0))) (tCons (tOp (rIxT K) (tVar 5) (tC (.int 1))) tNil)) (tCons (tOp (rIxT K) (tVar 5) (tC (.int 2))) (tCons (tOp (rIxT K) (tVar 5) (tC (.int 3))) (tCons (tOp (rIxT K) (tVar 5) (tC (.int 4))) tNil)))) rfl scBu.nd rfl rfl (sw_true rfl rfl rfl (by decide +kernel)) (pi_list (pe_ix ix_tup (pv 3) pe_int (fun _ _ => rfl))) (blkOk_by (N := nBu) (sc := defScope sBu) (by decide +kernel)) (fun _ _ _ _ _ => pg_name (i := 5) scBu.nd rfl (Or.inl rfl)) (fun _ _ _ _ _ => pts_nil) (fun _ _ _ _ _ => (pe_makeK MF.made MF.ok (hr.mono (by decide)) rfl MF.gl MF.kb passL (pa_cons (pe_ix ix_tup (pv 5) pe_int (fun _ _ => rfl)) (pa_cons (pe_ix ix_tup (pv 5) pe_int (fun _ _ => rfl)) pa_nil)) (pk_cons (pe_ix ix_tup (pv 5) pe_int (fun _ _ => rfl)) (pk_cons (pe_ix ix_tup (pv 5) pe_int (fun _ _ => rfl)) (pk_cons (pe_ix ix_tup (pv 5) pe_int (fun _ _ => rfl)) pk_nil))))))
        (pss_one (ps_expr (pe_bm PySem.F.plainAttrs_list PySem.F.slot_list_append PySem.F.type_list_append mt_append (pv 2) (pa_cons (pe_makeK MK.made MK.ok (hr.mono (by decide)) rfl MK.gl MK.kb passLN (pa_cons (pe_ix ix_tup (pv 3) pe_int (fun _ _ => rfl)) (pa_cons (pv 4) pa_nil)) (pk_cons (pe_ix ix_tup (pv 3) pe_int (fun _ _ => rfl)) (pk_cons (pe_ix ix_tup (pv 3) pe_int (fun _ _ => rfl)) (pk_cons (pe_ix ix_tup (pv 3) pe_int (fun _ _ => rfl)) (pk_cons (pe_ix ix_tup (pv 3) pe_int (fun _ _ => rfl)) (pk_cons (pe_ix ix_tup (pv 3) pe_int (fun _ _ => rfl)) pk_nil)))))) pa_nil))))))
      (pss_one (ps_ret (pe_make MH.made MH.ok (hr.mono (by decide)) rfl MH.gl MH.bi .nil pass0 (pa_cons (pv 1) (pa_cons (pv 2) pa_nil))))))), ?_⟩
    refine ⟨by show 0 ≤ sizeLine; decide, fun M hM => ?_⟩
    refine ⟨_, rfl, l, rfl, ⟨us, SqL.of (same_new (o := .lst []) hM _ _ hl)⟩, ?_⟩
    refine for_it walk_list (fun j σ H' => ∃ v3 v4, σ = [some (.ref l), some (.str root), some (.ref M), v3, v4, none] ∧ Same H H' ∧ ∃ zs, H' M = some (.lst zs) ∧ zs.length = j ∧ ∀ (i : Nat) v x, zs[i]? = some v → ks[i]? = some x → rK K CF CK H' v x)
      ⟨none, none, rfl, same_new hM, [], upd_same, rfl, by simp⟩ (fun i σ H' _ ⟨_, _, _, e, _⟩ => SqL.of (e _ _ hl)) ?_ ?_
    · rintro j u σ H1 _ hj ⟨v3, v4, rfl, s1, zs, hz, lz, rz⟩ ⟨rfl, hu⟩
      have hk : ks[j]? = some ks[j] := List.getElem?_eq_getElem (by omega)
      generalize ks[j] = x at hk
      obtain ⟨t, lf, ws, rfl, ht, hlf, ew⟩ := rLK_same s1 (r j u x hu hk)
      have gx := good x (List.mem_of_getElem? hk)
      refine ⟨_, rfl, t, _, _, _, rfl, rfl, ht, atI_nat (j := 6) rfl, lf, rfl, ⟨ws, SqL.of hlf⟩, fun D hD => ?_⟩
      refine lc_sieve (mLF K) (mF K CF) (fun _ => true) id walk_list gx.few (fun H' s => SqL.of (s _ _ hlf)) hD ew (fun v c H2 Rq _ _ _ kk => kk _ (Same.refl _)) ?_ ?_
      · rintro _ g H2 Rq mg _ s2 ⟨t2, wt, rfl, ht2, hwt⟩ kk
        have gg := gx.fs g mg
        refine ⟨_, rfl, t2, _, _, _, rfl, rfl, ht2, atI_nat (j := 0) rfl, _, rfl, t2, _, _, _, rfl, rfl, ht2, atI_nat (j := 1) rfl, _, rfl, t2, _, _, _, rfl, rfl, ht2, atI_nat (j := 2) rfl, _, rfl, t2, _, _, _, rfl, rfl, ht2, atI_nat (j := 3) rfl, _, rfl, t2, _, _, _, rfl, rfl, ht2, atI_nat (j := 4) rfl, rfl, rfl, fun a da ha hda ne => ?_⟩
        have sm := made_same (C := CF) ha hda
        refine ⟨a, da, _, _, _, _, _, .str g.n, .str g.m, tvD g.t, .int g.d, .tuple (g.w.map .str), rfl, upd_same, .dat (.str _) gg.n, .dat (.str _) gg.m, dq_tv gg.t, .dat (.int _) rfl, .dat (.tup (sm.sqT hwt) (dpAll_strs g.w)) gg.w, gg.sn, gg.st, gg.sw, fun _ H' tw b e sT => ⟨rfl, ?_⟩, fun bad => ?_⟩
        · refine kk _ H' (fun c o q => b _ _ (ne_of_none q ha) (sm _ _ q)) ⟨a, rfl, ⟨da, tw, e, ?_⟩, gg.w⟩
          rw [show txtsOf (.tuple (g.w.map .str)) = g.w from txts_map g.w] at sT
          exact sT
        · rw [gg.right] at bad
          cases bad
      intro H2 ys s2 hys ey
      rw [filter_all, List.map_id] at ey
      have ht2 := s2.sqT ht
      refine ⟨_, rfl, .inl ⟨rfl, _, SqL.of (s2 _ _ hz)⟩, ?_⟩
      refine ⟨_, rfl, t, _, _, _, rfl, rfl, ht2, atI_nat (j := 0) rfl, _, rfl, _, rfl, t, _, _, _, rfl, rfl, ht2, atI_nat (j := 1) rfl, _, rfl, t, _, _, _, rfl, rfl, ht2, atI_nat (j := 2) rfl, _, rfl, t, _, _, _, rfl, rfl, ht2, atI_nat (j := 3) rfl, _, rfl, t, _, _, _, rfl, rfl, ht2, atI_nat (j := 4) rfl, _, rfl, t, _, _, _, rfl, rfl, ht2, atI_nat (j := 5) rfl, rfl, rfl, fun a da ha hda ne => ?_⟩
      have sm := made_same (C := CK) ha hda
      refine ⟨a, da, _, _, _, _, _, _, _, .str x.n, tvD x.b, .bool x.f, .bool x.h, tvD x.k, .bool x.r, some (x.fs.map .f), ys, rfl, upd_same, .dat (.str _) gx.n, ⟨D, rfl, .inl (SqL.of (sm _ _ hys)), paired_F (ey.same (mF K CF) sm), by rw [List.length_map]; exact gx.few⟩, dq_tv gx.b, .dat (.bl _) rfl, .dat (.bl _) rfl, dq_tv gx.k, .dat (.bl _) rfl, gx.sn, gx.sb, gx.sk, fun _ H' tf b e sT => ⟨rfl, ?_⟩, fun bad => ?_⟩
      · have s3 : Same H2 H' := fun c o q => b _ _ (ne_of_none q ha) (sm _ _ q)
        have hz3 := s3 _ _ (s2 _ _ hz)
        have s12 := s2.trans s3
        refine ⟨M, zs, .ref a, rfl, rfl, hz3, by rw [lz, sizeLine_eq]; have := ok.n12; omega, _, _, rfl, (s1.trans s12).over hM, zs ++ [.ref a], upd_same, by simp [lz], fun i v y h1 h2 => ?_⟩
        have off : ∀ {v : V} {y : KD}, rK K CF CK H' v y → rK K CF CK (upd H' M (.lst (zs ++ [.ref a]))) v y := fun q => rK_stay (.kp fun c o nl e => by
          rw [upd_ne fun z => by
            rw [z, hz3] at e
            exact nl _ (Option.some.inj e).symm]
          exact e) q
        by_cases hi : i < zs.length
        · rw [List.getElem?_append_left hi] at h1
          exact off (rK_stay (.kp (.of s12)) (rz i v y h1 h2))
        · have hi2 : i = zs.length := by
            have := (List.getElem?_eq_some_iff.mp h1).1
            simp at this
            omega
          subst hi2
          rw [List.getElem?_append_right (Nat.le_refl _), Nat.sub_self] at h1
          rw [lz, hk] at h2
          cases h1
          cases h2
          exact off ⟨a, da, tf, rfl, e, ys, sT, ey.same (mF K CF) s3⟩
      · rw [gx.right] at bad
        cases bad
    · rintro σ H1 ⟨v3, v4, rfl, s1, zs, hz, lz, rz⟩
      refine ⟨_, rfl, _, rfl, fun a da ha hda ne => ?_⟩
      have sm := made_same (C := CH) ha hda
      refine ⟨a, da, M, root, zs, ks, rfl, upd_same, ⟨_, sm _ _ hz⟩, .inl (SqL.of (sm _ _ hz)), ⟨by rw [lz, lu], fun i v x h1 h2 => rK_stay (.kp (.of sm)) (rz i v x h1 h2)⟩, ok, fun H' b hh => ⟨rfl, ?_⟩⟩
      have s2 : Same H1 H' := fun c o q => b _ _ (ne_of_none q ha) (sm _ _ q)
      exact k a H' (Same.free s1 ha) (s1.trans s2) hh
end
end Wh
set_option Elab.async false
set_option linter.all false
set_option maxRecDepth 100000
set_option maxHeartbeats 4000000
/-! `in` of a list, == of two tuples, by the items' own ==, with either answer. -/
namespace GB
open PySem PySem.SeqAt
open AutoSeq1 (wpAny_loadPart')
open MeetsSeq MeetsSeq2 MeetsSeq3 SeqRoads2
open GQ (FinOf call_here)
section
variable {prog : Program} {w : World} {A : Around} {R : Result → Shared → Prop}
/-- at each turn the list stands as it stood -/
def Stands (l : Addr) (T : String) (items : Array Value) (J : Shared → Prop) : Prop := ∀ s, J s → ∃ dd n sl, s.heap.get? l = some { cls := .type T, dict := dd, data := .seq items n, slots := sl }
theorem contains_loopJ (l : Addr) (items : Array Value) (x : Value) (e : Nat → Bool) (J : Shared → Prop) (hl : Stands l "list" items J)
    (he : ∀ i (h : i < items.size) s, J s → wpAny (model prog w) A.in1 (eqBool items[i] x) (fun r s' => r = e i ∧ J s') (fun e s' => R (.error e) s') s)
    (fin : ∀ s, J s → R (.ok (.ret (.bool ((List.range items.size).any e)))) s) (k : Nat) :
    ∀ i : Nat, items.size - i = k → i ≤ items.size → (∀ j, j < i → e j = false) → ∀ s, J s →
      wpAny (model prog w) A.in1 (Builtin.«list.__contains__.loop» ⟨[.ref l, x, rawInt i], []⟩) (FinOf prog w A R) (fun e s' => R (.error e) s') s := by
  induction k with
  | zero =>
    intro i hk hi no s h
    obtain ⟨dd, n, sl, hl1⟩ := hl _ h
    have hi' : i = items.size := by omega
    have hany : (List.range items.size).any e = false := by
      rw [List.any_eq_false]
      intro j hj
      rw [no j (by rw [hi']; exact List.mem_range.mp hj)]
      exact Bool.false_ne_true
    have hR := fin s h
    rw [hany] at hR
    obtain ⟨hp, g, d, tk, os⟩ := s
    wp_walk using wpAny_loadPart' hl1
    have hi1 : items[((i : Nat) : Int).toNat]? = none := by simp; omega
    rw [hi1]
    wp_walk
    exact hR
  | succ k ih =>
    intro i hk hi no s h
    obtain ⟨dd, n, sl, hl1⟩ := hl _ h
    have hlt : i < items.size := by omega
    have ht := he i hlt s h
    obtain ⟨hp, g, d, tk, os⟩ := s
    wp_walk using wpAny_loadPart' hl1
    have hi1 : items[((i : Nat) : Int).toNat]? = some items[i] := by simp [hlt]
    have hc : ((i : Int) + 1) = ((i + 1 : Nat) : Int) := by omega
    rw [hi1]
    refine wpAny_bind (wpAny_mono ht (fun r s2 h2 => ?_) fun _ _ x => x)
    obtain ⟨hr, h2⟩ := h2
    subst hr
    cases he' : e i with
    | true =>
      have hany : (List.range items.size).any e = true := List.any_eq_true.mpr ⟨i, List.mem_range.mpr hlt, he'⟩
      have hR := fin s2 h2
      rw [hany] at hR
      obtain ⟨hp2, g2, d2, tk2, os2⟩ := s2
      wp_walk
      exact hR
    | false =>
      have hrec := ih (i + 1) (by omega) (by omega) (fun j hj => by
        rcases Nat.lt_or_ge j i with q | q
        · exact no j q
        · rw [show j = i by omega]; exact he') s2 h2
      obtain ⟨hp2, g2, d2, tk2, os2⟩ := s2
      wp_walk
      rw [hc]
      exact ⟨plainId_quiet plain_contains_loop _, codeAny_builtin entry_contains_loop (by
        rw [Around.under_plainId plain_contains_loop _]
        exact hrec)⟩
theorem list_containsJ (l : Addr) (items : Array Value) (x : Value) (e : Nat → Bool) (J : Shared → Prop) (hl : Stands l "list" items J)
    (he : ∀ i (h : i < items.size) s, J s → wpAny (model prog w) A.in1 (eqBool items[i] x) (fun r s' => r = e i ∧ J s') (fun e s' => R (.error e) s') s)
    (fin : ∀ s, J s → R (.ok (.ret (.bool ((List.range items.size).any e)))) s) {s : Shared} (h : J s) :
    wpAny (model prog w) A.in1 (Builtin.«list.__contains__» ⟨[.ref l, x], []⟩) (FinOf prog w A R) (fun e s' => R (.error e) s') s := by
  obtain ⟨dd, n, sl, hl1⟩ := hl _ h
  have hrec := contains_loopJ (A := A) (R := R) l items x e J hl he fin _ 0 rfl (Nat.zero_le _) (fun j hj => absurd hj (Nat.not_lt_zero _)) s h
  obtain ⟨hp, g, d, tk, os⟩ := s
  wp_walk using wpAny_loadPart' hl1
  exact ⟨plainId_quiet plain_contains_loop _, codeAny_builtin entry_contains_loop (by
    rw [Around.under_plainId plain_contains_loop _]
    exact hrec)⟩
theorem tuple_eqJ (l b : Addr) (items items2 : Array Value) (e : Nat → Bool) (J : Shared → Prop) (hl : Stands l "tuple" items J) (hb : Stands b "tuple" items2 J)
    (he : ∀ i (h1 : i < items.size) (h2 : i < items2.size) s, J s → wpAny (model prog w) A.in1 (eqBool items[i] items2[i]) (fun r s' => r = e i ∧ J s') (fun e s' => R (.error e) s') s)
    (fin : ∀ s, J s → R (.ok (.ret (.bool ((List.range (min items.size items2.size)).all e && items.size == items2.size)))) s) {s : Shared} (h : J s) :
    wpAny (model prog w) A.in1 (Builtin.«tuple.__eq__» ⟨[.ref l, .ref b], []⟩) (FinOf prog w A R) (fun e s' => R (.error e) s') s := by
  obtain ⟨dd, n, sl, hl1⟩ := hl _ h
  obtain ⟨dd2, n2, sl2, hb1⟩ := hb _ h
  have f2 := AutoSeq1.sub_tuple_tuple
  have hZ : (items.toList.zip items2.toList).length = min items.size items2.size := by simp
  have h0 := h
  obtain ⟨hp, g, d, tk, os⟩ := s
  wp_walk using wpAny_loadPart' hl1, wpAny_loadPart' hb1, wpAny_forIn_list _ (fun rest b s' => b.1 = none ∧ J s' ∧ ∃ i, rest = (items.toList.zip items2.toList).drop i ∧
      (∀ s, J s → R (.ok (.ret (.bool (((List.range (min items.size items2.size)).drop i).all e && items.size == items2.size)))) s)) _
  case turn =>
    rintro ⟨y, x⟩ rest b s' ⟨hb', hJ, i, hz, hR⟩
    have hlt : i < (items.toList.zip items2.toList).length := by
      rcases Nat.lt_or_ge i (items.toList.zip items2.toList).length with h' | h'
      · exact h'
      · rw [List.drop_of_length_le h'] at hz; cases hz
    have hm : i < min items.size items2.size := hZ ▸ hlt
    have h1 : i < items.size := Nat.lt_of_lt_of_le hm (Nat.min_le_left _ _)
    have h2 : i < items2.size := Nat.lt_of_lt_of_le hm (Nat.min_le_right _ _)
    rw [List.drop_eq_getElem_cons hlt] at hz
    injection hz with hyx hrest
    have hy : y = items[i] := by have := congrArg Prod.fst hyx; simpa using this
    have hx : x = items2[i] := by have := congrArg Prod.snd hyx; simpa using this
    subst hy hx
    have hd : (List.range (min items.size items2.size)).drop i = i :: (List.range (min items.size items2.size)).drop (i + 1) := by simp [List.drop_eq_getElem_cons, hm]
    rw [hd, List.all_cons] at hR
    refine wpAny_bind (wpAny_mono (he i h1 h2 s' hJ) (fun r s2 q2 => ?_) fun _ _ x => x)
    obtain ⟨hr, q2⟩ := q2
    subst hr
    cases hy : e i with
    | true =>
      rw [hy] at hR
      wp_walk
      exact ⟨rfl, q2, i + 1, hrest, fun s3 q3 => by simpa using hR s3 q3⟩
    | false =>
      rw [hy] at hR
      have hR2 := hR s2 q2
      wp_walk
      simpa using hR2
  case fin =>
    rintro ⟨b1, b2⟩ s' ⟨hb', hJ, i, hz, hR⟩
    simp only at hb'
    subst hb'
    have hge : min items.size items2.size ≤ i := by
      rcases Nat.lt_or_ge i (items.toList.zip items2.toList).length with h' | h'
      · rw [List.drop_eq_getElem_cons h'] at hz; cases hz
      · exact hZ ▸ h'
    have hR2 := hR s' hJ
    rw [List.drop_of_length_le (by simpa using hge)] at hR2
    wp_walk
    simpa [Builtin.Tuple.tupleCompareSizes] using hR2
  case h =>
    exact ⟨rfl, h0, 0, rfl, fun s q => by simpa using fin s q⟩
end
section
variable {prog : Program} {w : World} {A : Around} {E : Value → Shared → Prop} {s : Shared}
/-- in a list inside the operator -/
theorem contains_J {l : Addr} {items : Array Value} {x : Value} {e : Nat → Bool} {J : Shared → Prop} {Q : Bool → Shared → Prop} (hl : Stands l "list" items J)
    (he : ∀ i (h : i < items.size) s, J s → wpAny (model prog w) A.in1 (eqBool items[i] x) (fun r s' => r = e i ∧ J s') E s)
    (fin : ∀ s, J s → Q ((List.range items.size).any e) s) (h : J s) : wpAny (model prog w) A (contains (.ref l) x) Q E s := by
  obtain ⟨dd, n, sl, hl1⟩ := hl _ h
  refine wpAny_contains_slot (Q := Q) ⟨_, hl1, rfl⟩ F.slot_list_contains (wpAny_mono (Q := fun v s' => ∃ b, v = .bool b ∧ Q b s') (call_here F.slot_list_contains ⟨_, hl1, rfl⟩ F.entry_list_contains (F.args_list_contains_2 _ _) ?_) (fun v s' hv => ?_) fun _ _ e => e)
  · exact list_containsJ (R := wants (fun v s' => ∃ b, v = .bool b ∧ Q b s') E) l items x e J hl he (fun s q => ⟨_, rfl, fin s q⟩) h
  · obtain ⟨b, rfl, hq⟩ := hv
    exact wpAny_truthy_bool hq
theorem rc_tupJ {l b : Addr} {items items2 : Array Value} {e : Nat → Bool} {J : Shared → Prop} {Q : Value → Shared → Prop} (hu : A.units < cLine) (hl : Stands l "tuple" items J) (hb : Stands b "tuple" items2 J)
    (he : ∀ i (h1 : i < items.size) (h2 : i < items2.size) s, J s → wpAny (model prog w) A.in1 (eqBool items[i] items2[i]) (fun r s' => r = e i ∧ J s') E s)
    (fin : ∀ s, J s → Q (.bool ((List.range (min items.size items2.size)).all e && items.size == items2.size)) s) (h : J s) : wpAny (model prog w) A (richCompare .Eq (.ref l) (.ref b)) Q E s := by
  obtain ⟨dd, n, sl, hl1⟩ := hl _ h
  obtain ⟨dd2, n2, sl2, hb1⟩ := hb _ h
  refine wpAny_richCompare_same_room (op := .Eq) ⟨_, hl1, rfl⟩ ⟨_, hb1, rfl⟩ F.slot_tuple_eq (call_here F.slot_tuple_eq ⟨_, hl1, rfl⟩ F.entry_tuple_eq (F.args_tuple_eq_2 _ _) ?_) hu
  exact tuple_eqJ (R := wants (fun v s' => v ≠ .notImplemented ∧ Q v s') E) l b items items2 e J hl hb he (fun s q => ⟨(fun x => nomatch x), fin s q⟩) h
end
end GB
namespace Wp
open PySem PySem.Spec PyProof.Rows L2
open PySem.W (InstAt Looks findIn isFn mroIn notFirst)
open SeqAt
theorem vals_refs : ∀ {zs : List Addr} {us : List Value}, Vals (zs.map V.ref) us → us = zs.map Value.ref
  | [], _, .nil => rfl
  | z :: zs, _, .cons a r => by
    cases a
    rw [vals_refs r]
    rfl
/-- what == of two own things inside a builtin answers: k, and nothing that is tracked changes -/
def Answ (K : PySem.W.Frag) (C : Addr) (sp : Sp) (E : XK) (H : Hp) (a b : Addr) (k : Bool) : Prop := ∃ (dx : Addr) (fs : List (Str × V)) (D dy : Addr) (gs : List (Str × V)), H a = some (.ins C dx fs) ∧ H b = some (.ins D dy gs) ∧ notFirst K C (.ref D) = true ∧
  (a = b → k = true) ∧ sp [.ref a, .ref b] H (fun v H' => v = .bl k ∧ H' = H) E
section
variable {X : Cx} {CX : CXT} {n : Nat} {C f : Addr} {fd : FuncData} {ps : List Str} {sp : Sp} {E : XK}
theorem eqb_own (F : FnOk X.prog X.w X.K X.mg X.base CX n f fd ps sp) (hb : Binds X.K fd ps []) (hx : Passes CX X E) (O : OwnEqual X.K C f) {A : Around} {pins : List (Addr × Obj)} {σ : L2.St} {H : Hp} {s : Shared} {a b : Addr} {k : Bool} (sb : Sub X n A)
    (I : Inv X pins σ H s) (d : Answ X.K C sp E H a b k) : wpAny (model X.prog X.w) A (eqBool (.ref a) (.ref b)) (fun r s' => r = k ∧ Inv X pins σ H s') X.xe s := by
  obtain ⟨dx, fs, D, dy, gs, ha, hb', nf, same, p⟩ := d
  by_cases hab : a = b
  · have hk := same hab
    subst hk hab
    exact SeqAt.EqAt.same (A := A) (s := s) (.ref a) X.prog X.w X.xe _ ⟨rfl, I⟩
  · refine GQ.eqBool_refG hab ?_
    obtain ⟨mA, J, _⟩ := ins_get I.hok ha
    obtain ⟨od, J, _⟩ := J.look
    obtain ⟨mB, J', _⟩ := ins_get I.hok hb'
    obtain ⟨od', J', _⟩ := J'.look
    obtain ⟨m, fr⟩ := I.fr
    refine PySem.W.cmp_K (op := .Eq) sb.room.units0 fr I.ok.mod.kin J J'.type nf O.eq O.fn ?_
    refine wpAny_mono (run_own F hb hx sb.room sb.fr I (ys := [.ref a, .ref b]) (.cons (show L2.RelV (.ref a) (.ref a) from rfl) (.cons (show L2.RelV (.ref b) (.ref b) from rfl) .nil)) p) ?_ fun _ _ e => e
    rintro r s2 ⟨z, H2, J2, rz, ez, eH⟩
    subst ez
    cases rz
    rw [eH] at J2
    exact ⟨k, rfl, rfl, J2⟩
theorem stands_list {pins : List (Addr × Obj)} {σ : L2.St} {H : Hp} {l : Addr} {zs : List Addr} (h : SqL X.K H l (zs.map V.ref)) : GB.Stands l "list" (zs.map Value.ref).toArray (Inv X pins σ H) := fun s I => by
  obtain ⟨its, rv, pl, hz⟩ := I.list h
  rw [vals_refs rv] at pl
  obtain ⟨⟨cls, dd, data, sl⟩, ho, hc, n, hd⟩ := pl.isList
  simp only at hc hd
  subst hc hd
  exact ⟨dd, n, sl, ho⟩
theorem stands_tup {pins : List (Addr × Obj)} {σ : L2.St} {H : Hp} {l : Addr} {zs : List Addr} (h : SqT X.K H l (zs.map V.ref)) : GB.Stands l "tuple" (zs.map Value.ref).toArray (Inv X pins σ H) := fun s I => by
  obtain ⟨its, rv, pl, hz⟩ := I.tuple h
  rw [vals_refs rv] at pl
  obtain ⟨⟨cls, dd, data, sl⟩, ho, hc, n, hd⟩ := pl
  simp only at hc hd
  subst hc hd
  exact ⟨dd, n, sl, ho⟩
/-- x in ys, ys a list of own things, by the items' own == -/
def rInOwn (neg : Bool) (K : PySem.W.Frag) (C : Addr) (sp : Sp) (E : XK) : R2 := fun x y H Q => ∃ (b l : Addr) (zs : List Addr) (e : Nat → Bool), x = .ref b ∧ y = .ref l ∧ SqL K H l (zs.map V.ref) ∧
  (∀ i z, zs[i]? = some z → Answ K C sp E H z b (e i)) ∧ Q (.bl (neg != (List.range zs.length).any e)) H
theorem contains_own (F : FnOk X.prog X.w X.K X.mg X.base CX n f fd ps sp) (hb : Binds X.K fd ps []) (hx : Passes CX X E) (O : OwnEqual X.K C f) (hr : Room (n + 1) X.A) {pins : List (Addr × Obj)} {σ : L2.St} {H : Hp} {s : Shared} {b l : Addr} {zs : List Addr} {e : Nat → Bool}
    {Q : Bool → Shared → Prop} (I : Inv X pins σ H s) (hl : SqL X.K H l (zs.map V.ref)) (he : ∀ i z, zs[i]? = some z → Answ X.K C sp E H z b (e i)) (hQ : ∀ s, Inv X pins σ H s → Q ((List.range zs.length).any e) s) :
    wpAny (model X.prog X.w) X.A (contains (.ref l) (.ref b)) Q X.xe s := by
  refine GB.contains_J (stands_list hl) (e := e) (fun i h s' I' => ?_) (fun s' I' => by simpa using hQ s' I') I
  have h' : i < zs.length := by simpa using h
  have hz : (zs.map Value.ref).toArray[i] = Value.ref zs[i] := by simp
  rw [hz]
  exact eqb_own F hb hx O ((⟨hr, rfl⟩ : Sub X (n + 1) X.A).in1) I' (he i _ (List.getElem?_eq_getElem h'))
theorem op_inOwn (F : FnOk X.prog X.w X.K X.mg X.base CX n f fd ps sp) (hb : Binds X.K fd ps []) (hx : Passes CX X E) (O : OwnEqual X.K C f) (hr : Room (n + 1) X.A) : OpR X (compareOp .In) (rInOwn false X.K C sp E) := by
  rintro pins s σ H x y v u Q I rx ry ⟨b, l, zs, e, rfl, rfl, hl, he, q⟩
  cases rx
  cases ry
  show wpAny _ _ (do return Value.bool (← contains (.ref l) (.ref b))) _ _ _
  refine wpAny_bind (contains_own F hb hx O hr I hl he fun s' I' => wpAny_pure ?_)
  exact ⟨_, H, I', (show L2.RelV (.bl _) (.bool _) from rfl), by simpa using q⟩
theorem op_notInOwn (F : FnOk X.prog X.w X.K X.mg X.base CX n f fd ps sp) (hb : Binds X.K fd ps []) (hx : Passes CX X E) (O : OwnEqual X.K C f) (hr : Room (n + 1) X.A) : OpR X (compareOp .NotIn) (rInOwn true X.K C sp E) := by
  rintro pins s σ H x y v u Q I rx ry ⟨b, l, zs, e, rfl, rfl, hl, he, q⟩
  cases rx
  cases ry
  show wpAny _ _ (do return Value.bool (!(← contains (.ref l) (.ref b)))) _ _ _
  refine wpAny_bind (contains_own F hb hx O hr I hl he fun s' I' => wpAny_pure ?_)
  exact ⟨_, H, I', (show L2.RelV (.bl _) (.bool _) from rfl), by simpa using q⟩
/-- xs == ys, two tuples of own things -/
def rEqTO (K : PySem.W.Frag) (C : Addr) (sp : Sp) (E : XK) : R2 := fun x y H Q => ∃ (a b : Addr) (zs ts : List Addr) (e : Nat → Bool), x = .ref a ∧ y = .ref b ∧ SqT K H a (zs.map V.ref) ∧ SqT K H b (ts.map V.ref) ∧
  (∀ i z t, zs[i]? = some z → ts[i]? = some t → Answ K C sp E H z t (e i)) ∧ Q (.bl ((List.range (min zs.length ts.length)).all e && zs.length == ts.length)) H
theorem op_eqTO (F : FnOk X.prog X.w X.K X.mg X.base CX n f fd ps sp) (hb : Binds X.K fd ps []) (hx : Passes CX X E) (O : OwnEqual X.K C f) (hr : Room (n + 1) X.A) : OpR X (compareOp .Eq) (rEqTO X.K C sp E) := by
  rintro pins s σ H x y v u Q I rx ry ⟨a, b, zs, ts, e, rfl, rfl, ha, hb', he, q⟩
  cases rx
  cases ry
  show wpAny _ _ (richCompare .Eq _ _) _ _ _
  refine GB.rc_tupJ (e := e) hr.units0 (stands_tup ha) (stands_tup hb') (fun i h1 h2 s' I' => ?_) (fun s' I' => ?_) I
  · have k1 : i < zs.length := by simpa using h1
    have k2 : i < ts.length := by simpa using h2
    have e1 : (zs.map Value.ref).toArray[i] = Value.ref zs[i] := by simp
    have e2 : (ts.map Value.ref).toArray[i] = Value.ref ts[i] := by simp
    rw [e1, e2]
    exact eqb_own F hb hx O ((⟨hr, rfl⟩ : Sub X (n + 1) X.A).in1) I' (he i _ _ (List.getElem?_eq_getElem k1) (List.getElem?_eq_getElem k2))
  · exact ⟨_, H, I', (show L2.RelV (.bl _) (.bool _) from rfl), by simpa using q⟩
end
end Wp
set_option Elab.async false
set_option linter.all false
set_option maxRecDepth 100000
set_option maxHeartbeats 4000000
namespace Wh
open PySem PySem.Spec PyProof.Rows L2
open Wp hiding Same.refl Same.trans same_new boot_all run_own
open W8 (Ev Rp Kp Mono same_new take_snoc rW rB mW mB ev_words ev_words_eq ev_bools_eq lc_sieve)
/-! ## houses of the same rows are equal -/
structure EqM (P : Program) (w : World) (K : PySem.W.Frag) (mg : Str → Option Value) (base : Heap) (C : Addr) (n : Nat) (sp : Sp) (f : Addr) (fd : FuncData) : Prop where
  ok : FnOk P w K mg base CX0 n f fd ["self", "other"] sp
  bi : Binds K fd ["self", "other"] []
  own : OwnEqual K C f
  nf : PySem.W.notFirst K C (.ref C) = true
theorem refs_of {α : Type} {R : Rp α} {H : Hp} (rf : ∀ v c, R H v c → ∃ a, v = .ref a) : ∀ {xs : List V} {cs : List α}, Ev R H xs cs → ∃ zs : List Addr, xs = zs.map V.ref ∧ zs.length = cs.length ∧ ∀ (i : Nat) z c, zs[i]? = some z → cs[i]? = some c → R H (.ref z) c := by
  intro xs
  induction xs with
  | nil =>
    intro cs e
    exact ⟨[], rfl, e.1, fun i z c h => by simp at h⟩
  | cons x xs ih =>
    intro cs e
    cases cs with
    | nil => cases e.1
    | cons c cs =>
      obtain ⟨a, rfl⟩ := rf _ _ (e.2 0 x c rfl rfl)
      obtain ⟨zs, rfl, l, r⟩ := ih (cs := cs) ⟨by have := e.1; simp at this; simpa using this, fun i x c a b => e.2 (i + 1) x c (by simpa using a) (by simpa using b)⟩
      refine ⟨a :: zs, rfl, by simp [l], fun i z d h1 h2 => ?_⟩
      cases i with
      | zero =>
        simp at h1 h2
        subst h1 h2
        exact e.2 0 _ _ rfl rfl
      | succ i => exact r i z d (by simpa using h1) (by simpa using h2)
theorem all_true (n m : Nat) (e : n = m) : ((List.range (min n m)).all (fun _ => true) && n == m) = true := by
  subst e
  simp
section
variable {P : Program} {w : World} {K : PySem.W.Frag} {mg : Str → Option Value} {base : Heap} {CF CK CH : Addr}
abbrev sKT : Stmt := meth 48 1
abbrev nKT : List Str := ["self", "other"]
def spKT (K : PySem.W.Frag) (CF CK : Addr) : Sp := fun vs H Q _ => ∃ (a b : Addr) (x : KD), vs = [.ref a, .ref b] ∧ rK K CF CK H (.ref a) x ∧ rK K CF CK H (.ref b) x ∧ Q (.bl true) H
theorem scKT : FnScope nKT nKT (defScope sKT) := ⟨rfl, rfl, rfl, by decide +kernel, rfl, by decide +kernel, by decide +kernel⟩
theorem ok_KT {f fF : Addr} {fd fdF : FuncData} (F : Fun K "__eq__" "Kind.__eq__" sKT f fd) (B : Bn mg) (O : OwnC K CK) (C : PlainC K CK ["name", "fields", "base", "frozen", "heirs", "key", "registered"]) (gK : mg "Kind" = some (.ref CK)) (FE : EqM P w K mg base CF 1 (spFE K CF) fF fdF) :
    FnOk P w K mg base CX0 3 f fd nKT (spKT K CF CK) := by
  refine F.ok scKT (fun vs H Q E h => ?_) (fun cdv A outer s H vs Q E hr h => ?_)
  · obtain ⟨a, b, x, rfl, _⟩ := h
    rfl
  · obtain ⟨a, b, x, rfl, ⟨_, dx, tf, e1, ha, us, hus, eu⟩, ⟨_, dy, tg, e2, hb, ws, hws, ew⟩, k⟩ := h
    cases e1
    cases e2
    refine ⟨_, 
      (pss_one (ps_ret (pe_and (pe_callB call_isi (by rfl) B.isi boot_isi (pa_cons (pv 1) (pa_cons (pe_glob (v := .ref CK) (by rfl) gK rfl) pa_nil))) (pe_and (pe_cmpR op_eq (pe_fld (pv 0) rfl) (pe_fld (pv 1) rfl) (nomark _)) (pe_and (pe_cmpR (show OpR _ (compareOp .Eq) (rEqTO K CF (spFE K CF) E0) from op_eqTO FE.ok FE.bi pass0 FE.own (hr.mono (by decide))) (pe_fld (pv 0) rfl) (pe_fld (pv 1) rfl) (nomark _)) (pe_and (pe_cmpR op_eq (pe_fld (pv 0) rfl) (pe_fld (pv 1) rfl) (nomark _)) (pe_and (pe_cmpR op_eq (pe_fld (pv 0) rfl) (pe_fld (pv 1) rfl) (nomark _)) (pe_and (pe_cmpR op_eq (pe_fld (pv 0) rfl) (pe_fld (pv 1) rfl) (nomark _)) (pe_and (pe_cmpR op_eq (pe_fld (pv 0) rfl) (pe_fld (pv 1) rfl) (nomark _)) (pe_one (pe_cmpR op_eq (pe_fld (pv 0) rfl) (pe_fld (pv 1) rfl) (nomark _)))))))))))), ?_⟩
    refine ⟨_, rfl, .ref b, .ref CK, .ref CK, .ref CK, true, rfl, .own CK, O.ty hb, O.self, _, rfl, iteT ?_⟩
    refine ⟨_, rfl, a, CK, dx, _, _, rfl, ha, C.cl, C.no _ (by simp), (lk_ks _ _ _ _ _ _ _).1, _, rfl, b, CK, dy, _, _, rfl, hb, C.cl, C.no _ (by simp), (lk_ks _ _ _ _ _ _ _).1, rfl, _, rfl, ?_⟩
    rw [decide_eq_true rfl]
    refine iteT ⟨_, rfl, a, CK, dx, _, _, rfl, ha, C.cl, C.no _ (by simp), (lk_ks _ _ _ _ _ _ _).2.1, _, rfl, b, CK, dy, _, _, rfl, hb, C.cl, C.no _ (by simp), (lk_ks _ _ _ _ _ _ _).2.1, ?_⟩
    obtain ⟨zs, rfl, lz, rz⟩ := refs_of (R := rF K CF) (fun v c ⟨a, e, _⟩ => ⟨a, e⟩) eu
    obtain ⟨ts, rfl, lt, rt⟩ := refs_of (R := rF K CF) (fun v c ⟨a, e, _⟩ => ⟨a, e⟩) ew
    refine ⟨tf, tg, zs, ts, fun _ => true, rfl, rfl, hus, hws, fun i z t h1 h2 => ?_, ?_⟩
    · have li : i < x.fs.length := by
        have := (List.getElem?_eq_some_iff.mp h1).1
        omega
      obtain ⟨_, e1, fz⟩ := rz i z _ h1 (List.getElem?_eq_getElem li)
      obtain ⟨_, e2, ft⟩ := rt i t _ h2 (List.getElem?_eq_getElem li)
      cases e1
      cases e2
      obtain ⟨d1, w1, hz, _⟩ := fz.ex
      obtain ⟨d2, w2, ht, _⟩ := ft.ex
      refine ⟨_, _, _, _, _, hz, ht, FE.nf, fun _ => rfl, z, .ref t, _, rfl, fz, .inl ⟨t, _, rfl, ft, by rw [decide_eq_true rfl], rfl⟩⟩
    · rw [all_true _ _ (lz.trans lt.symm)]
      refine ⟨_, rfl, iteT ?_⟩
      refine ⟨_, rfl, a, CK, dx, _, _, rfl, ha, C.cl, C.no _ (by simp), (lk_ks _ _ _ _ _ _ _).2.2.1, _, rfl, b, CK, dy, _, _, rfl, hb, C.cl, C.no _ (by simp), (lk_ks _ _ _ _ _ _ _).2.2.1, scal_tv _ _, _, rfl, ?_⟩
      rw [decide_eq_true rfl]
      refine iteT ⟨_, rfl, a, CK, dx, _, _, rfl, ha, C.cl, C.no _ (by simp), (lk_ks _ _ _ _ _ _ _).2.2.2.1, _, rfl, b, CK, dy, _, _, rfl, hb, C.cl, C.no _ (by simp), (lk_ks _ _ _ _ _ _ _).2.2.2.1, rfl, _, rfl, ?_⟩
      rw [decide_eq_true rfl]
      refine iteT ⟨_, rfl, a, CK, dx, _, _, rfl, ha, C.cl, C.no _ (by simp), (lk_ks _ _ _ _ _ _ _).2.2.2.2.1, _, rfl, b, CK, dy, _, _, rfl, hb, C.cl, C.no _ (by simp), (lk_ks _ _ _ _ _ _ _).2.2.2.2.1, rfl, _, rfl, ?_⟩
      rw [decide_eq_true rfl]
      refine iteT ⟨_, rfl, a, CK, dx, _, _, rfl, ha, C.cl, C.no _ (by simp), (lk_ks _ _ _ _ _ _ _).2.2.2.2.2.1, _, rfl, b, CK, dy, _, _, rfl, hb, C.cl, C.no _ (by simp), (lk_ks _ _ _ _ _ _ _).2.2.2.2.2.1, scal_tv _ _, _, rfl, ?_⟩
      rw [decide_eq_true rfl]
      refine iteT ⟨_, rfl, a, CK, dx, _, _, rfl, ha, C.cl, C.no _ (by simp), (lk_ks _ _ _ _ _ _ _).2.2.2.2.2.2, _, rfl, b, CK, dy, _, _, rfl, hb, C.cl, C.no _ (by simp), (lk_ks _ _ _ _ _ _ _).2.2.2.2.2.2, rfl, ?_⟩
      rw [decide_eq_true rfl]
      exact k
abbrev sHE : Stmt := meth 53 3
abbrev nHE : List Str := ["self", "other"]
def spHE (K : PySem.W.Frag) (CF CK CH : Addr) : Sp := fun vs H Q _ => ∃ (a b : Addr) (r : Str) (ks : List KD), vs = [.ref a, .ref b] ∧ HouseAt K CF CK CH H a r ks ∧ HouseAt K CF CK CH H b r ks ∧ Q (.bl true) H
theorem scHE : FnScope nHE nHE (defScope sHE) := ⟨rfl, rfl, rfl, by decide +kernel, rfl, by decide +kernel, by decide +kernel⟩
theorem ok_HE {f fF : Addr} {fd fdF : FuncData} (F : Fun K "__eq__" "House.__eq__" sHE f fd) (B : Bn mg) (O : OwnC K CH) (HC : PlainC K CH houseAt) (gH : mg "House" = some (.ref CH)) (KE : EqM P w K mg base CK 3 (spKT K CF CK) fF fdF) :
    FnOk P w K mg base CX0 5 f fd nHE (spHE K CF CK CH) := by
  refine F.ok scHE (fun vs H Q E h => ?_) (fun cdv A outer s H vs Q E hr h => ?_)
  · obtain ⟨a, b, r, ks, rfl, _⟩ := h
    rfl
  · obtain ⟨a, b, r, ks, rfl, h1, h2, k⟩ := h
    obtain ⟨dx, _, t1, _, _, _, _, ha, _, ⟨us, hus, eu⟩, _⟩ := h1.ex
    obtain ⟨dy, _, t2, _, _, _, _, hb, _, ⟨ws, hws, ew⟩, _⟩ := h2.ex
    refine ⟨_, 
      (pss_one (ps_ret (pe_and (pe_callB call_isi (by rfl) B.isi boot_isi (pa_cons (pv 1) (pa_cons (pe_glob (v := .ref CH) (by rfl) gH rfl) pa_nil))) (pe_and (pe_cmpR op_eq (pe_fld (pv 0) rfl) (pe_fld (pv 1) rfl) (nomark _)) (pe_one (pe_cmpR (show OpR _ (compareOp .Eq) (rEqTO K CK (spKT K CF CK) E0) from op_eqTO KE.ok KE.bi pass0 KE.own (hr.mono (by decide))) (pe_fld (pv 0) rfl) (pe_fld (pv 1) rfl) (nomark _))))))), ?_⟩
    refine ⟨_, rfl, .ref b, .ref CH, .ref CH, .ref CH, true, rfl, .own CH, O.ty hb, O.self, _, rfl, iteT ?_⟩
    refine ⟨_, rfl, a, CH, dx, _, _, rfl, ha, HC.cl, HC.no _ (by simp), (lk_h _ _ _ _ _ _ _).1, _, rfl, b, CH, dy, _, _, rfl, hb, HC.cl, HC.no _ (by simp), (lk_h _ _ _ _ _ _ _).1, rfl, _, rfl, ?_⟩
    rw [decide_eq_true rfl]
    refine iteT ⟨_, rfl, a, CH, dx, _, _, rfl, ha, HC.cl, HC.no _ (by simp), (lk_h _ _ _ _ _ _ _).2.2.1, _, rfl, b, CH, dy, _, _, rfl, hb, HC.cl, HC.no _ (by simp), (lk_h _ _ _ _ _ _ _).2.2.1, ?_⟩
    obtain ⟨zs, rfl, lz, rz⟩ := refs_of (R := rK K CF CK) (fun v c ⟨a, _, _, e, _⟩ => ⟨a, e⟩) eu
    obtain ⟨ts, rfl, lt, rt⟩ := refs_of (R := rK K CF CK) (fun v c ⟨a, _, _, e, _⟩ => ⟨a, e⟩) ew
    refine ⟨t1, t2, zs, ts, fun _ => true, rfl, rfl, hus, hws, fun i z t h1 h2 => ?_, ?_⟩
    · have li : i < ks.length := by
        have := (List.getElem?_eq_some_iff.mp h1).1
        omega
      have r1 := rz i z _ h1 (List.getElem?_eq_getElem li)
      have r2 := rt i t _ h2 (List.getElem?_eq_getElem li)
      obtain ⟨_, d1, w1, e1, hz, _⟩ := id r1
      obtain ⟨_, d2, w2, e2, ht, _⟩ := id r2
      cases e1
      cases e2
      exact ⟨_, _, _, _, _, hz, ht, KE.nf, fun _ => rfl, z, t, _, rfl, r1, r2, rfl, rfl⟩
    · rw [all_true _ _ (lz.trans lt.symm)]
      exact k
end
end Wh
set_option Elab.async false
set_option linter.all false
set_option maxRecDepth 100000
set_option maxHeartbeats 4000000
namespace Wh
open PySem PySem.Spec PyProof.Rows L2
open Wp hiding Same.refl Same.trans same_new boot_all
/-! ## the houses that the law draws: three kinds in some turn, and an heir of the first -/
structure Plan where
  k0 : Str
  k1 : Str
  k2 : Str
  k3 : Str
  op : Bool
  fixed : Bool
  kf : Bool
  booked : Bool
  chief : Str
  rot : Nat
structure Plan.Ok (p : Plan) : Prop where
  n01 : p.k0 ≠ p.k1
  n02 : p.k0 ≠ p.k2
  n03 : p.k0 ≠ p.k3
  n12 : p.k1 ≠ p.k2
  n13 : p.k1 ≠ p.k3
  n23 : p.k2 ≠ p.k3
  a1 : p.k1 ≠ "any"
namespace Plan
variable (p : Plan) (f1 f2 f3 f4 : List FV)
def first : KD := ⟨p.k0, f1, none, false, p.op, none, false⟩
def keyed : KD := ⟨p.k1, f2, none, p.kf, false, some p.chief, p.booked⟩
def plain : KD := ⟨p.k2, f3, none, p.fixed, false, none, false⟩
def heir : KD := ⟨p.k3, f4, some p.k0, false, false, none, false⟩
def three : List KD := match p.rot with
  | 0 => [p.first f1, p.keyed f2, p.plain f3]
  | 1 => [p.keyed f2, p.plain f3, p.first f1]
  | _ => [p.plain f3, p.first f1, p.keyed f2]
def rows : List KD := p.three f1 f2 f3 ++ if p.op = true then [p.heir f4] else []
end Plan
/-- what the fields of the rows keep -/
structure Fits (p : Plan) (f1 f2 f3 f4 : List FV) : Prop where
  l1 : f1.length ≤ 3
  l2 : f2.length ≤ 3
  l3 : f3.length ≤ 3
  l4 : (f1 ++ f4).length ≤ 6
  d1 : (f1.map (·.n)).Nodup
  d2 : (f2.map (·.n)).Nodup
  d3 : (f3.map (·.n)).Nodup
  d4 : ((f1 ++ f4).map (·.n)).Nodup
  t1 : ∀ g ∈ f1 ++ f4, slotB g = true → ∃ t, g.t = some t ∧ (t = "any" ∨ t = p.k0 ∨ t = p.k1 ∨ t = p.k2)
  t2 : ∀ g ∈ f2, slotB g = false
  t3 : ∀ g ∈ f3, slotB g = true → g.t = some p.k1
  ch : p.chief ∈ f2.map (·.n)
section
variable {p : Plan} {f1 f2 f3 f4 : List FV}
theorem three_mem {x : KD} : x ∈ p.three f1 f2 f3 ↔ x = p.first f1 ∨ x = p.keyed f2 ∨ x = p.plain f3 := by
  unfold Plan.three
  split <;> simp <;> constructor <;> rintro (h | h | h) <;> simp [h]
theorem rows_mem {x : KD} : x ∈ p.rows f1 f2 f3 f4 ↔ x = p.first f1 ∨ x = p.keyed f2 ∨ x = p.plain f3 ∨ (p.op = true ∧ x = p.heir f4) := by
  unfold Plan.rows
  rw [List.mem_append, three_mem]
  by_cases h : p.op = true <;> simp [h, or_assoc]
theorem three_len : (p.three f1 f2 f3).length = 3 := by
  unfold Plan.three
  split <;> rfl
theorem name_mem {n : Str} (h : n = p.k0 ∨ n = p.k1 ∨ n = p.k2) : n ∈ (p.rows f1 f2 f3 f4).map (·.n) := by
  rcases h with rfl | rfl | rfl
  · exact List.mem_map.mpr ⟨p.first f1, rows_mem.mpr (.inl rfl), rfl⟩
  · exact List.mem_map.mpr ⟨p.keyed f2, rows_mem.mpr (.inr (.inl rfl)), rfl⟩
  · exact List.mem_map.mpr ⟨p.plain f3, rows_mem.mpr (.inr (.inr (.inl rfl))), rfl⟩
theorem rows_nd (o : p.Ok) : ((p.rows f1 f2 f3 f4).map (·.n)).Nodup := by
  obtain ⟨a, b, c, d, e, f, _⟩ := o
  have a' := Ne.symm a
  have b' := Ne.symm b
  have d' := Ne.symm d
  unfold Plan.rows Plan.three
  by_cases h : p.op = true
  · rw [if_pos h]
    split <;> simp [Plan.first, Plan.keyed, Plan.plain, Plan.heir, a, b, c, d, e, f, a', b', d']
  · rw [if_neg h]
    split <;> simp [Plan.first, Plan.keyed, Plan.plain, Plan.heir, a, b, c, d, e, f, a', b', d']
theorem rows_at (o : p.Ok) {x : KD} (mx : x ∈ p.rows f1 f2 f3 f4) : atName (p.rows f1 f2 f3 f4) x.n = some x := by
  obtain ⟨i, hi, e⟩ := List.getElem_of_mem mx
  exact find_at (rows_nd o) (by rw [List.getElem?_eq_getElem hi, e])
theorem new_of_nd {ks : List KD} (nd : (ks.map (·.n)).Nodup) {i : Nat} {x : KD} (h : ks[i]? = some x) : x.n ∉ (ks.take i).map (·.n) := fun hm => by
  obtain ⟨y, my, ey⟩ := List.mem_map.mp hm
  obtain ⟨j, hj, e⟩ := List.mem_iff_getElem.mp my
  rw [List.length_take] at hj
  rw [List.getElem_take] at e
  have h1 : (ks.map (·.n))[j]? = some y.n := by rw [List.getElem?_map, List.getElem?_eq_getElem (by omega), e]; rfl
  have h2 : (ks.map (·.n))[i]? = some x.n := by rw [List.getElem?_map, h]; rfl
  have := (List.getElem?_inj (i := j) (j := i) (by rw [List.length_map]; omega) nd).mp (h1.trans (by rw [ey]; exact h2.symm))
  omega
theorem base_of {es : List KD} (nd : (es.map (·.n)).Nodup) (m : p.first f1 ∈ es) : baseFs es p.k0 = f1 := by
  obtain ⟨i, hi, e⟩ := List.getElem_of_mem m
  have := find_at nd (i := i) (e := p.first f1) (by rw [List.getElem?_eq_getElem hi, e])
  unfold baseFs
  rw [show (es.find? fun e => decide (e.n = p.k0)) = some (p.first f1) from this]
  rfl
theorem heir_at (o : p.Ok) {i : Nat} (h : (p.rows f1 f2 f3 f4)[i]? = some (p.heir f4)) : p.first f1 ∈ (p.rows f1 f2 f3 f4).take i := by
  have i3 : 3 ≤ i := by
    refine Nat.le_of_not_lt fun lt => ?_
    unfold Plan.rows at h
    rw [List.getElem?_append_left (by rw [three_len]; exact lt)] at h
    have := three_mem.mp (List.mem_of_getElem? h)
    rcases this with e | e | e
    · exact o.n03 (congrArg KD.n e).symm
    · exact o.n13 (congrArg KD.n e).symm
    · exact o.n23 (congrArg KD.n e).symm
  unfold Plan.rows
  rw [List.take_append]
  refine List.mem_append_left _ ?_
  rw [List.take_of_length_le (by rw [three_len]; exact i3)]
  exact three_mem.mpr (.inl rfl)
theorem rows_alone (o : p.Ok) (f : Fits p f1 f2 f3 f4) (i : Nat) (x : KD) (h : (p.rows f1 f2 f3 f4)[i]? = some x) : Alone ((p.rows f1 f2 f3 f4).take i) ((p.rows f1 f2 f3 f4).map (·.n)) x := by
  have new := new_of_nd (rows_nd o) h
  have aim : ∀ g : FV, (∃ t : Str, g.t = some t ∧ (t = "any" ∨ t = p.k0 ∨ t = p.k1 ∨ t = p.k2)) → ∃ t : Str, g.t = some t ∧ (t = "any" ∨ t ∈ (p.rows f1 f2 f3 f4).map (·.n)) := fun g ⟨t, e, h⟩ => ⟨t, e, h.imp id name_mem⟩
  rcases rows_mem.mp (List.mem_of_getElem? h) with rfl | rfl | rfl | ⟨op, rfl⟩
  · exact ⟨new, fun b e => (by cases e), Nat.le_trans f.l1 (by decide), f.d1, fun g mg sg => aim g (f.t1 g (List.mem_append_left _ mg) sg), fun k e => (by cases e)⟩
  · refine ⟨new, fun b e => (by cases e), Nat.le_trans f.l2 (by decide), f.d2, fun g mg sg => ?_, fun k e => ?_⟩
    · rw [f.t2 g mg] at sg
      cases sg
    · cases e
      exact ⟨f.t2, f.ch⟩
  · exact ⟨new, fun b e => (by cases e), Nat.le_trans f.l3 (by decide), f.d3, fun g mg sg => ⟨_, f.t3 g mg sg, .inr (name_mem (.inr (.inl rfl)))⟩, fun k e => (by cases e)⟩
  · have m := heir_at o h
    have nd : (((p.rows f1 f2 f3 f4).take i).map (·.n)).Nodup := (rows_nd o).sublist (List.Sublist.map _ (List.take_sublist i _))
    have ea : allF ((p.rows f1 f2 f3 f4).take i) (p.heir f4) = f1 ++ f4 := by
      show baseFs _ p.k0 ++ f4 = _
      rw [base_of nd m]
    refine ⟨new, fun b e => ?_, ?_, ?_, fun g mg sg => ?_, fun k e => (by cases e)⟩
    · cases e
      exact ⟨_, m, rfl, op⟩
    · rw [ea]
      exact Nat.le_trans f.l4 (by decide)
    · rw [ea]
      exact f.d4
    · rw [ea] at mg
      exact aim g (f.t1 g mg sg)
theorem lead_at (o : p.Ok) {x : KD} (mx : x ∈ p.rows f1 f2 f3 f4) : leadOf (p.rows f1 f2 f3 f4) x.n = ledBy (p.rows f1 f2 f3 f4) x := by
  unfold leadOf
  rw [rows_at o mx]
  rfl
theorem keyed_leads (o : p.Ok) (f : Fits p f1 f2 f3 f4) : leadOf (p.rows f1 f2 f3 f4) p.k1 = [] := by
  have e := lead_at (f1 := f1) (f2 := f2) (f3 := f3) (f4 := f4) (x := p.keyed f2) o (rows_mem.mpr (.inr (.inl rfl)))
  refine (show leadOf _ p.k1 = _ from e).trans ?_
  have na : aims (allF (p.rows f1 f2 f3 f4) (p.keyed f2)) = [] := by
    show (f2.filter slotB).map _ = []
    rw [List.filter_eq_nil_iff.mpr fun g mg => by rw [f.t2 g mg]; exact Bool.false_ne_true]
    rfl
  unfold ledBy
  rw [na]
  exact List.filter_eq_nil_iff.mpr fun _ _ => Bool.false_ne_true
theorem rows_base {n b : Str} (h : baseOf (p.rows f1 f2 f3 f4) n = some b) : b = p.k0 := by
  unfold baseOf at h
  cases e : (p.rows f1 f2 f3 f4).find? fun e => decide (e.n = n) with
  | none => rw [e] at h; cases h
  | some x =>
    rw [e] at h
    rcases rows_mem.mp (List.mem_of_find?_eq_some e) with rfl | rfl | rfl | ⟨_, rfl⟩
    · cases h
    · cases h
    · cases h
    · exact (Option.some.inj h).symm
theorem plain_leads (o : p.Ok) (f : Fits p f1 f2 f3 f4) {m : Str} (h : m ∈ leadOf (p.rows f1 f2 f3 f4) p.k2) : m = p.k1 := by
  have e := lead_at (f1 := f1) (f2 := f2) (f3 := f3) (f4 := f4) (x := p.plain f3) o (rows_mem.mpr (.inr (.inr (.inl rfl))))
  rw [show leadOf _ p.k2 = _ from e] at h
  have h2 := (List.mem_filter.mp h).2
  rw [List.any_map, List.any_eq_true] at h2
  obtain ⟨t, mt, lt⟩ := h2
  have et : t = p.k1 := by
    obtain ⟨g, mg, rfl⟩ := List.mem_map.mp mt
    obtain ⟨m1, m2⟩ := List.mem_filter.mp mg
    rw [f.t3 g m1 m2]
    rfl
  subst et
  have lt : letB (p.rows f1 f2 f3 f4) p.k1 m = true := lt
  unfold letB at lt
  rw [decide_eq_false o.a1, Bool.false_or, Bool.or_eq_true, decide_eq_true_eq, decide_eq_true_eq] at lt
  rcases lt with lt | lt
  · exact lt.symm
  · exact absurd (rows_base lt.symm).symm o.n01
theorem far_rch {ks : List KD} {n m : Str} (h : m ∈ farK ks n) : Rch (leadOf ks) n m := by
  unfold farK farOf at h
  have q := (List.mem_filter.mp h).2
  simpa using q
theorem rows_ok (o : p.Ok) (f : Fits p f1 f2 f3 f4) : HouseOk p.k0 (p.rows f1 f2 f3 f4) := by
  have len : (p.rows f1 f2 f3 f4).length = 3 ∨ (p.rows f1 f2 f3 f4).length = 4 := by
    unfold Plan.rows
    rw [List.length_append, three_len]
    by_cases h : p.op = true
    · rw [if_pos h]
      exact .inr rfl
    · rw [if_neg h]
      exact .inl rfl
  refine ⟨by omega, by omega, rows_alone o f, fun x mx xf => ?_, ⟨_, rows_mem.mpr (.inl rfl), rfl, rfl⟩⟩
  have k0 : ∀ m, ¬ Rch (leadOf (p.rows f1 f2 f3 f4)) p.k1 m := fun m h => by
    induction h with
    | one h => rw [keyed_leads o f] at h; cases h
    | more _ _ ih => exact ih
  have k2 : ∀ m, Rch (leadOf (p.rows f1 f2 f3 f4)) p.k2 m → m = p.k1 := fun m h => by
    induction h with
    | one h => exact plain_leads o f h
    | more _ h2 ih =>
      rw [ih, keyed_leads o f] at h2
      cases h2
  rcases rows_mem.mp mx with rfl | rfl | rfl | ⟨_, rfl⟩
  · cases xf
  · exact ⟨fun h => k0 _ (far_rch h), fun m h => (k0 _ (far_rch h)).elim⟩
  · refine ⟨fun h => o.n12 (k2 _ (far_rch h)).symm, fun m h => ?_⟩
    rw [k2 _ (far_rch h)]
    have := rows_at (x := p.keyed f2) (f1 := f1) (f3 := f3) (f4 := f4) o (rows_mem.mpr (.inr (.inl rfl)))
    unfold heirB
    rw [show (p.rows f1 f2 f3 f4).find? (fun e => decide (e.n = p.k1)) = some (p.keyed f2) from this]
    rfl
  · cases xf
end
end Wh
set_option Elab.async false
set_option linter.all false
set_option maxRecDepth 100000
set_option maxHeartbeats 4000000
namespace Wh
open PySem PySem.Spec PyProof.Rows L2
open Wp hiding Same.refl Same.trans same_new boot_all
/-! ## fields and kinds that are right are taken -/
theorem small_low : ∀ c ∈ smallS.cps.toList, c < 0x110000 := by
  have : smallS.cps.toList.all (fun c => decide (c < 0x110000)) = true := by decide +kernel
  exact fun c hc => of_decide_eq_true (List.all_eq_true.mp this c hc)
theorem large_low : ∀ c ∈ largeS.cps.toList, c < 0x110000 := by
  have : largeS.cps.toList.all (fun c => decide (c < 0x110000)) = true := by decide +kernel
  exact fun c hc => of_decide_eq_true (List.all_eq_true.mp this c hc)
theorem strOk_of {x : Str} (h : ∀ c ∈ x.cps.toList, c < 0x110000) : PyData.strOk x = true := by
  unfold PyData.strOk
  rw [← Array.all_toList, List.all_eq_true]
  exact fun c hc => decide_eq_true (h c hc)
theorem field_ok {x : Str} (h : isFieldName (.str x) = true) : PyData.strOk x = true ∧ x.length ≤ 8 := by
  unfold isFieldName isWordN lettersIn at h
  rw [Bool.and_eq_true, Bool.and_eq_true, decide_eq_true_eq, decide_eq_true_eq, List.all_eq_true] at h
  exact ⟨strOk_of fun c hc => small_low c (of_decide_eq_true (h.2 c hc)), by have := h.1.2; omega⟩
theorem kind_ok {x : Str} (h : isKindName (.str x) = true) : PyData.strOk x = true ∧ x.length ≤ 8 := by
  unfold isKindName at h
  simp only at h
  cases e : x.cps.toList with
  | nil => rw [e] at h; cases h
  | cons c r =>
    rw [e] at h
    simp only [Bool.and_eq_true, decide_eq_true_eq, List.all_eq_true] at h
    refine ⟨strOk_of fun y hy => ?_, h.1.1⟩
    rw [e] at hy
    rcases List.mem_cons.mp hy with rfl | hy
    · exact large_low _ h.1.2
    · exact small_low _ (h.2 _ hy)
theorem shaped_str {x : Str} (h : PyData.strOk x = true) : SeqAt.shaped (.str x) = true := by simp [SeqAt.shaped, PyData.canLay0, PyData.depth, h]
theorem all_lay : ∀ w : List Str, (∀ x ∈ w, PyData.strOk x = true) → PyData.canLayAll0 (w.map PyData.str) = true ∧ PyData.depthAll (w.map PyData.str) ≤ 1
  | [], _ => by simp [PyData.canLayAll0, PyData.depthAll]
  | x :: w, h => by
    have q := all_lay w fun y hy => h y (List.mem_cons_of_mem _ hy)
    have hx := h x (List.mem_cons_self ..)
    simp [PyData.canLayAll0, PyData.depthAll, PyData.canLay0, PyData.depth, hx, q.1]
    exact q.2
structure RightF (g : FV) : Prop where
  n : isFieldName (.str g.n) = true
  m : (g.m = "mark" ∧ g.t = none ∧ -1000000000000 < g.d ∧ g.d < 1000000000000) ∨ ((g.m = "link" ∨ g.m = "list") ∧ g.d = 0 ∧ ∃ t, g.t = some t ∧ (t = "any" ∨ isKindName (.str t) = true))
  w2 : g.w.length ≤ 2
  wf : ∀ x ∈ g.w, isFieldName (.str x) = true
  wn : g.n ∉ g.w
  wd : g.w.Nodup
theorem any_ok : PyData.strOk "any" = true := by decide +kernel
theorem RightF.aim_ok {g : FV} (h : RightF g) : ∀ t, g.t = some t → PyData.strOk t = true ∧ t.length ≤ 8 := fun t e => by
  rcases h.m with ⟨_, e2, _⟩ | ⟨_, _, t2, e2, k⟩
  · rw [e2] at e; cases e
  · rw [e2] at e
    cases e
    rcases k with rfl | k
    · exact ⟨any_ok, by decide⟩
    · exact kind_ok k
theorem RightF.mode_ok {g : FV} (h : RightF g) : PyData.strOk g.m = true := by
  rcases h.m with ⟨e, _⟩ | ⟨e | e, _⟩ <;> rw [e] <;> decide +kernel
theorem RightF.okF {g : FV} (h : RightF g) : OkF g := ⟨h.mode_ok, fun t e => (h.aim_ok t e).1⟩
theorem RightF.good {g : FV} (h : RightF g) : GoodF g := by
  obtain ⟨n1, n2⟩ := field_ok h.n
  have ws : ∀ x ∈ g.w, PyData.strOk x = true := fun x hx => (field_ok (h.wf x hx)).1
  obtain ⟨w1, w2⟩ := all_lay g.w ws
  refine ⟨?_, shaped_str n1, shaped_str h.mode_ok, ?_, ?_, (by show g.n.length ≤ 1000; omega), ?_, fun ds e x hx => ?_⟩
  · unfold fieldRight
    have wr : wasRight g.n (.tuple (g.w.map .str)) = true := by
      show (decide ((g.w.map PyData.str).length ≤ 2) && (g.w.map PyData.str).all isFieldName && !(txts (g.w.map PyData.str)).contains g.n && decide (txts (g.w.map PyData.str)).Nodup) = true
      rw [txts_map, List.length_map, decide_eq_true h.w2, decide_eq_true h.wd, List.all_map]
      rw [show (g.w.all (isFieldName ∘ PyData.str)) = true from List.all_eq_true.mpr fun x hx => h.wf x hx]
      simp [h.wn]
    have fm : fitsMode (.str g.m) (tvD g.t) (.int g.d) = true := by
      unfold fitsMode
      rcases h.m with ⟨e1, e2, d0, d1⟩ | ⟨e1, d0, t, e2, k⟩
      · rw [e1, e2]
        simp [isTxt, Wp.isNon, tvD, isDefault, d0, d1]
      · rw [e2, d0]
        have k2 : (isTxt (.str t) "any" || isKindName (.str t)) = true := by
          rcases k with rfl | k
          · simp [isTxt]
          · rw [k, Bool.or_true]
        rcases e1 with e1 | e1
        · rw [e1]
          simp only [tvD, k2]
          rw [if_neg (by decide +kernel)]
          decide +kernel
        · rw [e1]
          simp only [tvD, k2]
          rw [if_neg (by decide +kernel)]
          decide +kernel
    rw [h.n, fm]
    exact wr
  · cases e : g.t with
    | none => rfl
    | some t => exact shaped_str (h.aim_ok t e).1
  · simp [SeqAt.shaped, PyData.canLay0, PyData.depth, w1]
    omega
  · cases e : g.t with
    | none => trivial
    | some t =>
      have := (h.aim_ok t e).2
      show t.length ≤ 1000
      omega
  · cases e
    obtain ⟨y, hy, rfl⟩ := List.mem_map.mp hx
    have := (field_ok (h.wf y hy)).2
    show y.length ≤ 1000
    omega
theorem areF {fs : List FV} (l : fs.length ≤ 10) (nd : (fs.map (·.n)).Nodup) : areFields (fs.map .f) = true := by
  unfold areFields
  rw [List.length_map, decide_eq_true l]
  have e1 : (fs.map Item.f).all isF = true := by
    rw [List.all_map, List.all_eq_true]
    intro _ _
    rfl
  have e2 : (fs.map Item.f).map nameOf = fs.map (·.n) := by
    rw [List.map_map]
    rfl
  rw [e1, e2, decide_eq_true nd]
  rfl
theorem good_of {x : KD} (fs : ∀ g ∈ x.fs, RightF g) (l : x.fs.length ≤ 10) (nd : (x.fs.map (·.n)).Nodup) (kn : isKindName (.str x.n) = true) (bn : ∀ b, x.b = some b → isKindName (.str b) = true ∧ x.n ≠ b) (ky : ∀ k, x.k = some k → isFieldName (.str k) = true)
    (cb : canBe (tvD x.b) (.bool x.f) (.bool x.h) (tvD x.k) (.bool x.r) = true) : GoodK x := by
  obtain ⟨n1, n2⟩ := kind_ok kn
  refine ⟨fun g mg => (fs g mg).good, ?_, shaped_str n1, ?_, ?_, (by show x.n.length ≤ 1000; omega), ?_, ?_, by omega⟩
  · unfold kindRight
    have e1 : namedOk (.str x.n) (tvD x.k) = true := by
      unfold namedOk
      rw [kn, Bool.true_and]
      cases e : x.k with
      | none => rfl
      | some k =>
        show (_ || isFieldName (.str k)) = true
        rw [ky k e, Bool.or_true]
    have e2 : basedOk (.str x.n) (tvD x.b) = true := by
      unfold basedOk
      cases e : x.b with
      | none => rfl
      | some b =>
        obtain ⟨b1, b2⟩ := bn b e
        show (_ || (isKindName (.str b) && !decide (x.n = b))) = true
        rw [b1, decide_eq_false b2]
        simp
    rw [e1, e2, show fieldsOk (some (x.fs.map .f)) = true from areF l nd, cb]
    rfl
  · cases e : x.b with
    | none => rfl
    | some b => exact shaped_str (kind_ok (bn b e).1).1
  · cases e : x.k with
    | none => rfl
    | some k => exact shaped_str (field_ok (ky k e)).1
  · cases e : x.b with
    | none => trivial
    | some b =>
      have := (kind_ok (bn b e).1).2
      show b.length ≤ 1000
      omega
  · cases e : x.k with
    | none => trivial
    | some k =>
      have := (field_ok (ky k e)).2
      show k.length ≤ 1000
      omega
theorem rows_good {p : Plan} {f1 f2 f3 f4 : List FV} (o : p.Ok) (f : Fits p f1 f2 f3 f4) (kn : ∀ n, n = p.k0 ∨ n = p.k1 ∨ n = p.k2 ∨ n = p.k3 → isKindName (.str n) = true) (r1 : ∀ g ∈ f1, RightF g) (r2 : ∀ g ∈ f2, RightF g) (r3 : ∀ g ∈ f3, RightF g) (r4 : ∀ g ∈ f4, RightF g) :
    ∀ x ∈ p.rows f1 f2 f3 f4, GoodK x := by
  intro x mx
  rcases rows_mem.mp mx with rfl | rfl | rfl | ⟨_, rfl⟩
  · exact good_of r1 (Nat.le_trans f.l1 (by decide)) f.d1 (kn _ (.inl rfl)) (fun b e => by cases e) (fun k e => by cases e) (by show canBe .none (.bool false) (.bool p.op) .none (.bool false) = true; cases p.op <;> rfl)
  · refine good_of r2 (Nat.le_trans f.l2 (by decide)) f.d2 (kn _ (.inr (.inl rfl))) (fun b e => by cases e) (fun k e => ?_) (by show canBe .none (.bool p.kf) (.bool false) (.str p.chief) (.bool p.booked) = true; cases p.kf <;> cases p.booked <;> rfl)
    cases e
    obtain ⟨g, mg, e⟩ := List.mem_map.mp f.ch
    rw [← e]
    exact (r2 g mg).n
  · exact good_of r3 (Nat.le_trans f.l3 (by decide)) f.d3 (kn _ (.inr (.inr (.inl rfl)))) (fun b e => by cases e) (fun k e => by cases e) (by show canBe .none (.bool p.fixed) (.bool false) .none (.bool false) = true; cases p.fixed <;> rfl)
  · refine good_of r4 ?_ ?_ (kn _ (.inr (.inr (.inr rfl)))) (fun b e => ?_) (fun k e => by cases e) rfl
    · have := f.l4
      rw [List.length_append] at this
      show f4.length ≤ 10
      omega
    · have := f.d4
      rw [List.map_append] at this
      exact (List.nodup_append.mp this).2.1
    · cases e
      exact ⟨kn _ (.inl rfl), Ne.symm o.n03⟩
end Wh
set_option Elab.async false
set_option linter.all false
set_option maxRecDepth 100000
set_option maxHeartbeats 4000000
namespace Wh
open PySem PySem.Spec PyProof.Rows L2
open Wp hiding Same.refl Same.trans same_new boot_all
/-! ## what is kept from the drawn rows to their editions -/
structure Sheet (p : Plan) (S : List Str) (f1 f2 f3 f4 : List FV) : Prop where
  ok : p.Ok
  fits : Fits p f1 f2 f3 f4
  kn : ∀ n, n = p.k0 ∨ n = p.k1 ∨ n = p.k2 ∨ n = p.k3 → isKindName (.str n) = true
  r1 : ∀ g ∈ f1, RightF g
  r2 : ∀ g ∈ f2, RightF g
  r3 : ∀ g ∈ f3, RightF g
  r4 : ∀ g ∈ f4, RightF g
  new : ∀ s ∈ S, ∀ g, g ∈ f1 ∨ g ∈ f2 ∨ g ∈ f3 ∨ g ∈ f4 → s ≠ g.n ∧ s ∉ g.w
  l4 : f4.length ≤ 3
theorem Sheet.less {p : Plan} {S S' : List Str} {f1 f2 f3 f4 : List FV} (h : Sheet p S f1 f2 f3 f4) (l : ∀ s ∈ S', s ∈ S) : Sheet p S' f1 f2 f3 f4 := ⟨h.ok, h.fits, h.kn, h.r1, h.r2, h.r3, h.r4, fun s hs => h.new s (l s hs), h.l4⟩
theorem Sheet.good {p : Plan} {S : List Str} {f1 f2 f3 f4 : List FV} (h : Sheet p S f1 f2 f3 f4) : ∀ x ∈ p.rows f1 f2 f3 f4, GoodK x := rows_good h.ok h.fits h.kn h.r1 h.r2 h.r3 h.r4
theorem Sheet.house {p : Plan} {S : List Str} {f1 f2 f3 f4 : List FV} (h : Sheet p S f1 f2 f3 f4) : HouseOk p.k0 (p.rows f1 f2 f3 f4) := rows_ok h.ok h.fits
theorem Sheet.right {p : Plan} {S : List Str} {f1 f2 f3 f4 : List FV} (h : Sheet p S f1 f2 f3 f4) : ∀ x ∈ p.rows f1 f2 f3 f4, ∀ g ∈ x.fs, RightF g := fun x mx g mg => by
  rcases rows_mem.mp mx with rfl | rfl | rfl | ⟨_, rfl⟩
  · exact h.r1 g mg
  · exact h.r2 g mg
  · exact h.r3 g mg
  · exact h.r4 g mg
theorem Sheet.fresh {p : Plan} {S : List Str} {f1 f2 f3 f4 : List FV} (h : Sheet p S f1 f2 f3 f4) : ∀ x ∈ p.rows f1 f2 f3 f4, ∀ g ∈ x.fs, ∀ s ∈ S, s ≠ g.n ∧ s ∉ g.w := fun x mx g mg s hs => by
  rcases rows_mem.mp mx with rfl | rfl | rfl | ⟨_, rfl⟩
  · exact h.new s hs g (.inl mg)
  · exact h.new s hs g (.inr (.inl mg))
  · exact h.new s hs g (.inr (.inr (.inl mg)))
  · exact h.new s hs g (.inr (.inr (.inr mg)))
theorem Sheet.small {p : Plan} {S : List Str} {f1 f2 f3 f4 : List FV} (h : Sheet p S f1 f2 f3 f4) : ∀ x ∈ p.rows f1 f2 f3 f4, x.fs.length ≤ 3 := fun x mx => by
  rcases rows_mem.mp mx with rfl | rfl | rfl | ⟨_, rfl⟩
  · exact h.fits.l1
  · exact h.fits.l2
  · exact h.fits.l3
  · exact h.l4
/-- a name is one of the spare names, or stood in a field -/
def From (N : List Str) (fs : List FV) (s : Str) : Prop := s ∈ N ∨ ∃ o ∈ fs, s = o.n ∨ s ∈ o.w
/-- the own fields of a kind in another edition -/
structure Chg (N : List Str) (x : KD) (gs : List FV) : Prop where
  len : gs.length ≤ 3
  nd : (gs.map (·.n)).Nodup
  right : ∀ g ∈ gs, RightF g
  like : ∀ g ∈ gs, slotB g = true → ∃ o ∈ x.fs, slotB o = true ∧ o.t = g.t
  frm : ∀ g ∈ gs, From N x.fs g.n ∧ ∀ w ∈ g.w, From N x.fs w
  key : ∀ k, x.k = some k → k ∈ x.fs.map (·.n) → k ∈ gs.map (·.n)
/-- an heir's fields beside those of its base -/
def cutF (above gs : List FV) : List FV := (gs.filter fun g => decide (g.n ∉ above.map (·.n))).take (6 - above.length)
theorem cutF_mem {a gs : List FV} {g : FV} (h : g ∈ cutF a gs) : g ∈ gs ∧ g.n ∉ a.map (·.n) := by
  unfold cutF at h
  have := List.mem_filter.mp (List.mem_of_mem_take h)
  exact ⟨this.1, of_decide_eq_true this.2⟩
theorem From.new {N S' : List Str} {fs : List FV} {s w : Str} (h : From N fs w) (hs : s ∈ S') (nd : ∀ a ∈ N, ∀ b ∈ S', a ≠ b) (new : ∀ g ∈ fs, s ≠ g.n ∧ s ∉ g.w) : s ≠ w := by
  rintro rfl
  rcases h with h | ⟨o, mo, h | h⟩
  · exact nd _ h _ hs rfl
  · exact (new o mo).1 h
  · exact (new o mo).2 h
theorem Sheet.step {p : Plan} {N S' : List Str} {f1 f2 f3 f4 g1 g2 g3 h4 : List FV} (h : Sheet p (N ++ S') f1 f2 f3 f4) (nd : (N ++ S').Nodup) (c1 : Chg N (p.first f1) g1) (c2 : (p.booked = true → g2 = f2) ∧ (p.booked = false → Chg N (p.keyed f2) g2)) (c3 : Chg N (p.plain f3) g3) (c4 : p.op = true → Chg N (p.heir f4) h4) :
    Sheet p S' g1 g2 g3 (if p.op = true then cutF g1 h4 else []) := by
  have dj : ∀ a ∈ N, ∀ b ∈ S', a ≠ b := fun a ha b hb e => (List.nodup_append.mp nd).2.2 a ha b hb e
  have m1 : g1.length ≤ 3 := c1.len
  have F := h.fits
  have nw : ∀ s ∈ S', ∀ g, g ∈ f1 ∨ g ∈ f2 ∨ g ∈ f3 ∨ g ∈ f4 → s ≠ g.n ∧ s ∉ g.w := fun s hs => h.new s (List.mem_append_right _ hs)
  have fin : ∀ {x : KD} {gs : List FV}, Chg N x gs → (∀ g ∈ x.fs, g ∈ f1 ∨ g ∈ f2 ∨ g ∈ f3 ∨ g ∈ f4) → ∀ s ∈ S', ∀ g ∈ gs, s ≠ g.n ∧ s ∉ g.w := fun {x gs} c sub s hs g mg =>
    ⟨(c.frm g mg).1.new hs dj fun o mo => nw s hs o (sub o mo), fun mw => ((c.frm g mg).2 _ mw).new hs dj (fun o mo => nw s hs o (sub o mo)) rfl⟩
  refine ⟨h.ok, ⟨m1, ?_, ?_, ?_, c1.nd, ?_, c3.nd, ?_, ?_, ?_, ?_, ?_⟩, h.kn, c1.right, ?_, c3.right, ?_, ?_, ?_⟩
  · cases e : p.booked with
    | true => rw [c2.1 e]; exact F.l2
    | false => exact (c2.2 e).len
  · exact c3.len
  · rw [List.length_append]
    split
    · unfold cutF
      rw [List.length_take]
      omega
    · show g1.length + 0 ≤ 6
      omega
  · cases e : p.booked with
    | true => rw [c2.1 e]; exact F.d2
    | false => exact (c2.2 e).nd
  · split
    · rename_i o
      rw [List.map_append]
      refine List.nodup_append.mpr ⟨c1.nd, ?_, fun a ha b hb e => ?_⟩
      · refine (c4 o).nd.sublist (List.Sublist.map _ ?_)
        exact (List.take_sublist _ _).trans List.filter_sublist
      · obtain ⟨g, mg, rfl⟩ := List.mem_map.mp hb
        exact (cutF_mem mg).2 (e ▸ ha)
    · rw [List.append_nil]
      exact c1.nd
  · intro g mg sg
    rcases List.mem_append.mp mg with mg | mg
    · obtain ⟨o, mo, so, eo⟩ := c1.like g mg sg
      obtain ⟨t, et, q⟩ := F.t1 o (List.mem_append_left _ mo) so
      exact ⟨t, eo ▸ et, q⟩
    · split at mg
      · rename_i op
        obtain ⟨o, mo, so, eo⟩ := (c4 op).like g (cutF_mem mg).1 sg
        obtain ⟨t, et, q⟩ := F.t1 o (List.mem_append_right _ mo) so
        exact ⟨t, eo ▸ et, q⟩
      · cases mg
  · intro g mg
    cases e : p.booked with
    | true => exact F.t2 g (c2.1 e ▸ mg)
    | false =>
      cases sg : slotB g with
      | false => rfl
      | true =>
        obtain ⟨o, mo, so, _⟩ := (c2.2 e).like g mg sg
        rw [F.t2 o mo] at so
        cases so
  · intro g mg sg
    obtain ⟨o, mo, so, eo⟩ := c3.like g mg sg
    rw [← eo]
    exact F.t3 o mo so
  · cases e : p.booked with
    | true => rw [c2.1 e]; exact F.ch
    | false => exact (c2.2 e).key _ rfl F.ch
  · cases e : p.booked with
    | true => rw [c2.1 e]; exact h.r2
    | false => exact (c2.2 e).right
  · intro g mg
    split at mg
    · rename_i op
      exact (c4 op).right g (cutF_mem mg).1
    · cases mg
  · intro s hs g mg
    rcases mg with mg | mg | mg | mg
    · exact fin c1 (fun o mo => .inl mo) s hs g mg
    · cases e : p.booked with
      | true => exact nw s hs g (.inr (.inl (c2.1 e ▸ mg)))
      | false => exact fin (c2.2 e) (fun o mo => .inr (.inl mo)) s hs g mg
    · exact fin c3 (fun o mo => .inr (.inr (.inl mo))) s hs g mg
    · split at mg
      · rename_i op
        exact fin (c4 op) (fun o mo => .inr (.inr (.inr mo))) s hs g (cutF_mem mg).1
      · cases mg
  · split
    · rename_i op
      exact Nat.le_trans ((List.take_sublist _ _).trans List.filter_sublist).length_le (c4 op).len
    · exact Nat.zero_le _
/-! ## rows with other fields -/
def setF (x : KD) (gs : List FV) : KD := { x with fs := gs }
def zipF (ks : List KD) (gs : List (List FV)) : List KD := List.zipWith setF ks gs
theorem zipF_len {ks : List KD} {gs : List (List FV)} (l : gs.length = ks.length) : (zipF ks gs).length = ks.length := by
  unfold zipF
  rw [List.length_zipWith]
  omega
theorem zipF_snoc {ks : List KD} {gs : List (List FV)} {j : Nat} {x : KD} {g : List FV} (hx : ks[j]? = some x) (l : gs.length = j) : zipF (ks.take (j + 1)) (gs ++ [g]) = zipF (ks.take j) gs ++ [setF x g] := by
  have hj : j < ks.length := (List.getElem?_eq_some_iff.mp hx).1
  unfold zipF
  rw [W8.take_snoc hx, List.zipWith_append (by rw [List.length_take]; omega)]
  rfl
/-- rows of the plan whose fields are others -/
theorem rows_zip {p : Plan} {f1 f2 f3 f4 : List FV} {gs : List (List FV)} (l : gs.length = (p.rows f1 f2 f3 f4).length) :
    ∃ g1 g2 g3 g4, zipF (p.rows f1 f2 f3 f4) gs = p.rows g1 g2 g3 g4 ∧ (∀ R : List KD → KD → List FV → Prop, (∀ (i : Nat) x g, (p.rows f1 f2 f3 f4)[i]? = some x → gs[i]? = some g → R (zipF ((p.rows f1 f2 f3 f4).take i) (gs.take i)) x g) →
      (∃ es, R es (p.first f1) g1) ∧ (∃ es, R es (p.keyed f2) g2) ∧ (∃ es, R es (p.plain f3) g3) ∧ (p.op = true → R (p.three g1 g2 g3) (p.heir f4) g4)) ∧ (p.op = false → g4 = []) := by
  have l3 : gs.length = 3 + (if p.op = true then 1 else 0) := by
    rw [l]
    unfold Plan.rows
    rw [List.length_append, three_len]
    by_cases o : p.op = true
    · rw [if_pos o, if_pos o]; rfl
    · rw [if_neg o, if_neg o]; rfl
  obtain ⟨a, b, c, rest, rfl⟩ : ∃ a b c rest, gs = a :: b :: c :: rest := by
    match gs, l3 with
    | a :: b :: c :: rest, _ => exact ⟨a, b, c, rest, rfl⟩
    | [], h => simp at h; omega
    | [_], h => simp at h; omega
    | [_, _], h => simp at h; omega
  have lr : rest.length = if p.op = true then 1 else 0 := by simp at l3; omega
  obtain ⟨d, rfl, dn⟩ : ∃ d, rest = (if p.op = true then [d] else []) ∧ (p.op = false → d = []) := by
    by_cases o : p.op = true
    · rw [if_pos o] at lr
      match rest, lr with
      | [d], _ => exact ⟨d, by rw [if_pos o], fun e => by rw [o] at e; cases e⟩
    · rw [if_neg o] at lr
      exact ⟨[], by rw [if_neg o]; exact List.eq_nil_of_length_eq_zero lr, fun _ => rfl⟩
  have ea : ∀ x y z : KD, zipF ([x, y, z] ++ (if p.op = true then [p.heir f4] else [])) (a :: b :: c :: (if p.op = true then [d] else [])) = [setF x a, setF y b, setF z c] ++ (if p.op = true then [p.heir d] else []) := fun x y z => by
    by_cases o : p.op = true
    · rw [if_pos o, if_pos o, if_pos o]; rfl
    · rw [if_neg o, if_neg o, if_neg o]; rfl
  have er : ∀ {T : List KD} {g1 g2 g3 : List FV} {R : List KD → KD → List FV → Prop}, T.length = 3 → zipF T [a, b, c] = p.three g1 g2 g3 → (∀ (i : Nat) x g, (T ++ (if p.op = true then [p.heir f4] else []))[i]? = some x → (a :: b :: c :: (if p.op = true then [d] else []))[i]? = some g → R (zipF ((T ++ (if p.op = true then [p.heir f4] else [])).take i) ((a :: b :: c :: (if p.op = true then [d] else [])).take i)) x g) → p.op = true → R (p.three g1 g2 g3) (p.heir f4) d := fun {T g1 g2 g3 R} lT eT hR o => by
    have := hR 3 (p.heir f4) d (by rw [if_pos o, List.getElem?_append_right (by omega), lT]; rfl) (by rw [if_pos o]; rfl)
    rw [List.take_append, lT] at this
    have e2 : (a :: b :: c :: (if p.op = true then [d] else [])).take 3 = [a, b, c] := by simp
    rw [e2, List.take_of_length_le (Nat.le_of_eq lT)] at this
    simp at this
    rwa [eT] at this
  obtain ⟨k0, k1, k2, k3, op, fixed, kf, booked, chief, rot⟩ := p
  match rot with
  | 0 => exact ⟨a, b, c, d, ea _ _ _, fun R hR => ⟨⟨_, hR 0 _ _ rfl rfl⟩, ⟨_, hR 1 _ _ rfl rfl⟩, ⟨_, hR 2 _ _ rfl rfl⟩, er (T := [_, _, _]) rfl rfl hR⟩, dn⟩
  | 1 => exact ⟨c, a, b, d, ea _ _ _, fun R hR => ⟨⟨_, hR 2 _ _ rfl rfl⟩, ⟨_, hR 0 _ _ rfl rfl⟩, ⟨_, hR 1 _ _ rfl rfl⟩, er (T := [_, _, _]) rfl rfl hR⟩, dn⟩
  | _ + 2 => exact ⟨b, c, a, d, ea _ _ _, fun R hR => ⟨⟨_, hR 1 _ _ rfl rfl⟩, ⟨_, hR 2 _ _ rfl rfl⟩, ⟨_, hR 0 _ _ rfl rfl⟩, er (T := [_, _, _]) rfl rfl hR⟩, dn⟩
end Wh
set_option Elab.async false
set_option linter.all false
set_option maxRecDepth 100000
set_option maxHeartbeats 4000000
namespace Wh
open PySem PySem.Spec PyProof.Rows L2
open Wp hiding Same.refl Same.trans same_new boot_all
open W8 (Ev Rp Kp Mono same_new take_snoc rW rB mW mB ev_words ev_words_eq ev_bools_eq lc_sieve)
/-! ## comprehensions that draw -/
theorem but_free {p : Addr} {n : Nat} {H H' : Hp} {D : Addr} (b : But p H H') (pt : Pot p n H') (h : H' D = none) : H D = none := by
  cases e : H D with
  | none => rfl
  | some o =>
    rw [b _ _ (pt.at_ h) e] at h
    cases h
theorem Pot.upd {p : Addr} {n : Nat} {H : Hp} {D : Addr} {o : HO} (h : Pot p n H) (ne : p ≠ D) : Pot p n (upd H D o) := by
  obtain ⟨a, b, c, e, r⟩ := h
  exact ⟨a, b, c, by rw [upd_ne ne]; exact e, r⟩
/-- [e for k in range(m)], e draws (at most c numbers) and makes new things -/
theorem lc_drawn {α : Type} {R : Rp α} (stay : ∀ {H H' : Hp} {v : V} {x : α}, Stay H H' → R H v x → R H' v x) (A : Nat → α → Prop) (c : Nat) {lo : Int} {p : Addr} {n N : Nat} {te : TE} {i : Nat} {σ : L2.St} {H : Hp} {D : Addr} {Q : Hp → Prop}
    (few : N ≤ 1000) (new : H D = none) (pt : Pot p n H)
    (elt : ∀ (j : Nat) (H1 : Hp) (Rq : VK), j < N → But p H H1 → Pot p (n + c * j) H1 → (∀ y x H2, But p H1 H2 → Pot p (n + c * j + c) H2 → A j x → R H2 y x → Rq y H2) → te ((σ.set i none).set i (some (.int (lo + (j : Int))))) H1 Rq)
    (k : ∀ H' ys (xs : List α), But p H H' → Pot p (n + c * N) H' → H' D = some (.lst ys) → Ev R H' ys xs → xs.length = N → (∀ (j : Nat) x, xs[j]? = some x → A j x) → Q H') :
    ∃ W : Nat → Nat → Hp → Prop, (∃ m, W 0 m (upd H D (.lst []))) ∧ ∀ j m H, W j m H →
      ((Itr lo N).stop j H ∧ Q H) ∨ ((Itr lo N).go j H ∧ ∃ Nx : Hp → Prop, (∀ H', Nx H' → ∃ m', m' < m ∧ W (j + 1) m' H') ∧ ∀ x H', (Itr lo N).yld j H x H' → gName i x (wipe σ [i]) H' fun σ2 H2 => wipe σ2 [i] = wipe σ [i] ∧ tYes σ2 H2 fun b H3 =>
        if b = true then te σ2 H3 fun y H4 => ∃ acc, H4 D = some (.lst acc) ∧ acc.length < sizeLine ∧ Nx (upd H4 D (.lst (acc ++ [y]))) else Nx H3) := by
  have pD : p ≠ D := Ne.symm (pt.at_ new)
  refine lc_it walk_range (fun j H' => But p H H' ∧ Pot p (n + c * j) H' ∧ ∃ ys xs, H' D = some (.lst ys) ∧ Ev R H' ys xs ∧ xs.length = j ∧ ∀ (q : Nat) x, xs[q]? = some x → A q x) ⟨but_of (same_new new), pt.upd pD, [], [], upd_same, Ev.nil, rfl, by simp⟩ (fun _ _ _ _ => trivial) ?_ ?_
  · rintro j y H1 H2 hj ⟨b1, pt1, ys, xs, eD, ev, lx, ha⟩ ⟨rfl, rfl⟩
    refine ⟨by simp [wipe, List.set_set], ?_⟩
    dsimp only [tYes]
    rw [if_pos rfl]
    refine elt j _ _ (by omega) b1 pt1 fun y x H3 b3 pt3 ax rx => ?_
    have eD3 := b3 _ _ (Ne.symm pD) eD
    have ly : ys.length = j := by rw [ev.1, lx]
    refine ⟨ys, eD3, by rw [ly, sizeLine_eq]; omega, fun b o nb e => ?_, (pt3.upd pD).le (by rw [Nat.mul_succ]; omega), ys ++ [y], xs ++ [x], upd_same, ?_, by simp [lx], fun q z hz => ?_⟩
    · rw [upd_ne (ne_of_none e new)]
      exact b3 _ _ nb (b1 _ _ nb e)
    · have off : ∀ {v : V} {z : α}, R H3 v z → R (upd H3 D (.lst (ys ++ [y]))) v z := fun r => stay (.kp fun b o nl e => by
        rw [upd_ne fun z => by
          rw [z, eD3] at e
          exact nl _ (Option.some.inj e).symm]
        exact e) r
      refine ⟨by simp [ev.1], fun q v z h1 h2 => ?_⟩
      by_cases hq : q < ys.length
      · rw [List.getElem?_append_left hq] at h1
        rw [List.getElem?_append_left (by omega)] at h2
        exact off (stay (pt1.stay b3) (ev.2 q v z h1 h2))
      · have e2 : q = ys.length := by
          have := (List.getElem?_eq_some_iff.mp h1).1
          simp at this
          omega
        subst e2
        rw [List.getElem?_append_right (Nat.le_refl _), Nat.sub_self] at h1
        rw [show ys.length = xs.length by omega, List.getElem?_append_right (Nat.le_refl _), Nat.sub_self] at h2
        cases h1
        cases h2
        exact off rx
    · by_cases hq : q < xs.length
      · rw [List.getElem?_append_left hq] at hz
        exact ha q z hz
      · have e2 : q = xs.length := by
          have := (List.getElem?_eq_some_iff.mp hz).1
          simp at this
          omega
        rw [e2, List.getElem?_append_right (Nat.le_refl _), Nat.sub_self] at hz
        cases hz
        rw [e2, lx]
        exact ax
  · rintro H1 ⟨b1, pt1, ys, xs, eD, ev, lx, ha⟩
    exact k H1 ys xs b1 pt1 eD ev lx ha
/-! ## a list of rows that grows -/
theorem Ev.stay {K : PySem.W.Frag} {H H' : Hp} {us : List V} {fs : List FV} (e : Ev (rLF K) H us fs) (y : Stay H H') : Ev (rLF K) H' us fs := ⟨e.1, fun i u c a d => rLF_stay y (e.2 i u c a d)⟩
def rLKn (K : PySem.W.Frag) (l : Addr) : Rp KD := fun H v x => ∃ t lf us, v = .ref t ∧ SqT K H t [.str x.n, tv x.b, .bl x.f, .bl x.h, tv x.k, .bl x.r, .ref lf] ∧ H lf = some (.lst us) ∧ Ev (rLF K) H us x.fs ∧ lf ≠ l
theorem rLKn.row {K : PySem.W.Frag} {l : Addr} {H : Hp} {v : V} {x : KD} (h : rLKn K l H v x) : rLK K H v x := let ⟨t, lf, us, e, h1, h2, h3, _⟩ := h; ⟨t, lf, us, e, h1, h2, h3⟩
theorem rLKn.but {K : PySem.W.Frag} {l p : Addr} {n : Nat} {H H' : Hp} {v : V} {x : KD} (pt : Pot p n H) (b : But p H H') (h : rLKn K l H v x) : rLKn K l H' v x := by
  obtain ⟨t, lf, us, e, h1, h2, h3, h4⟩ := h
  have y := pt.stay b
  refine ⟨t, lf, us, e, y.sqT h1, b _ _ (fun z => ?_) h2, Ev.stay h3 y, h4⟩
  obtain ⟨a1, a2, a3, ep, _⟩ := pt
  rw [z, ep] at h2
  cases h2
  obtain ⟨c, _, t2, wt, e2, _⟩ := h3.at (i := 0) rfl
  cases e2
theorem rLKn.same {K : PySem.W.Frag} {l : Addr} {H H' : Hp} {v : V} {x : KD} (s : Same H H') (h : rLKn K l H v x) : rLKn K l H' v x := let ⟨t, lf, us, e, h1, h2, h3, h4⟩ := h; ⟨t, lf, us, e, s.sqT h1, s _ _ h2, h3.same (mLF K) s, h4⟩
def RowsN (K : PySem.W.Frag) (H : Hp) (l : Addr) (ks : List KD) : Prop := ∃ us, H l = some (.lst us) ∧ us.length = ks.length ∧ ∀ (i : Nat) v x, us[i]? = some v → ks[i]? = some x → rLKn K l H v x
theorem RowsN.rows {K : PySem.W.Frag} {H : Hp} {l : Addr} {ks : List KD} (h : RowsN K H l ks) : Rows K H l ks := let ⟨us, e, n, r⟩ := h; ⟨us, e, n, fun i v x a b => (r i v x a b).row⟩
theorem RowsN.but {K : PySem.W.Frag} {p : Addr} {n : Nat} {H H' : Hp} {l : Addr} {ks : List KD} (pt : Pot p n H) (ne : l ≠ p) (h : RowsN K H l ks) (b : But p H H') : RowsN K H' l ks := let ⟨us, e, n, r⟩ := h; ⟨us, b _ _ ne e, n, fun i v x a c => (r i v x a c).but pt b⟩
theorem RowsN.same {K : PySem.W.Frag} {H H' : Hp} {l : Addr} {ks : List KD} (h : RowsN K H l ks) (s : Same H H') : RowsN K H' l ks := let ⟨us, e, n, r⟩ := h; ⟨us, s _ _ e, n, fun i v x a b => (r i v x a b).same s⟩
theorem Rows.but {K : PySem.W.Frag} {p : Addr} {n : Nat} {H H' : Hp} {l : Addr} {ks : List KD} (pt : Pot p n H) (ne : l ≠ p) (h : Rows K H l ks) (b : But p H H') : Rows K H' l ks := let ⟨us, e, n, r⟩ := h; ⟨us, b _ _ ne e, n, fun i v x a c => rLK_but pt b (r i v x a c)⟩
theorem RowsN.snoc {K : PySem.W.Frag} {H : Hp} {l : Addr} {ks : List KD} {us : List V} {v : V} {x : KD} (h : RowsN K H l ks) (e : H l = some (.lst us)) (r : rLKn K l H v x) : us.length = ks.length ∧ RowsN K (upd H l (.lst (us ++ [v]))) l (ks ++ [x]) := by
  obtain ⟨us0, e0, n, rr⟩ := h
  rw [e] at e0
  cases e0
  have y : Stay H (upd H l (.lst (us ++ [v]))) := .kp fun b o nl e2 => by
    rw [upd_ne fun z => by
      rw [z, e] at e2
      exact nl _ (Option.some.inj e2).symm]
    exact e2
  have off : ∀ {v2 : V} {x2 : KD}, rLKn K l H v2 x2 → rLKn K l (upd H l (.lst (us ++ [v]))) v2 x2 := fun {v2 x2} ⟨t, lf, ws, e1, h1, h2, h3, h4⟩ => ⟨t, lf, ws, e1, y.sqT h1, by rw [upd_ne h4]; exact h2, Ev.stay h3 y, h4⟩
  refine ⟨n, us ++ [v], upd_same, by simp [n], fun i w z h1 h2 => ?_⟩
  by_cases hi : i < us.length
  · rw [List.getElem?_append_left hi] at h1
    rw [List.getElem?_append_left (by omega)] at h2
    exact off (rr i w z h1 h2)
  · have e2 : i = us.length := by
      have := (List.getElem?_eq_some_iff.mp h1).1
      simp at this
      omega
    subst e2
    rw [List.getElem?_append_right (Nat.le_refl _), Nat.sub_self] at h1
    rw [n, List.getElem?_append_right (Nat.le_refl _), Nat.sub_self] at h2
    cases h1
    cases h2
    exact off r
theorem twin {pl : Plan} {f1 f2 f3 f4 e1 e2 e3 e4 : List FV} (o : pl.Ok) {x : KD} (mx : x ∈ pl.rows f1 f2 f3 f4) : ∃ xe ∈ pl.rows e1 e2 e3 e4, xe.n = x.n ∧ atName (pl.rows e1 e2 e3 e4) x.n = some xe := by
  have q : ∃ xe ∈ pl.rows e1 e2 e3 e4, xe.n = x.n := by
    rcases rows_mem.mp mx with rfl | rfl | rfl | ⟨op, rfl⟩
    · exact ⟨_, rows_mem.mpr (.inl rfl), rfl⟩
    · exact ⟨_, rows_mem.mpr (.inr (.inl rfl)), rfl⟩
    · exact ⟨_, rows_mem.mpr (.inr (.inr (.inl rfl))), rfl⟩
    · exact ⟨_, rows_mem.mpr (.inr (.inr (.inr ⟨op, rfl⟩))), rfl⟩
  obtain ⟨xe, m, e⟩ := q
  exact ⟨xe, m, e, e ▸ rows_at o m⟩
theorem HouseOk.at_base {root : Str} {ks : List KD} (h : HouseOk root ks) {x : KD} (mx : x ∈ ks) : ∀ b, x.b = some b → ∃ y, atName ks b = some y := fun b eb => by
  obtain ⟨y, my, ey⟩ := List.mem_map.mp (h.base mx eb)
  exact ⟨y, ey ▸ h.atN my⟩
theorem allF_mem {ks : List KD} {x : KD} {g : FV} (mx : x ∈ ks) (mg : g ∈ allF ks x) : ∃ y ∈ ks, g ∈ y.fs := by
  unfold allF at mg
  cases eb : x.b with
  | none =>
    rw [eb] at mg
    exact ⟨x, mx, mg⟩
  | some b =>
    rw [eb] at mg
    rcases List.mem_append.mp mg with mg | mg
    · unfold baseFs at mg
      cases e : ks.find? fun e => decide (e.n = b) with
      | none => rw [e] at mg; cases mg
      | some y =>
        rw [e] at mg
        exact ⟨y, List.mem_of_find?_eq_some e, mg⟩
    · exact ⟨x, mx, mg⟩
theorem find_fv {fs : List FV} (nd : (fs.map (·.n)).Nodup) {i : Nat} {g : FV} (h : fs[i]? = some g) : (fs.find? fun z => decide (z.n = g.n)) = some g := by
  induction fs generalizing i with
  | nil => simp at h
  | cons x fs ih =>
    rw [List.map_cons, List.nodup_cons] at nd
    cases i with
    | zero =>
      simp at h
      subst h
      simp
    | succ i =>
      have h' : fs[i]? = some g := by simpa using h
      have ne : ¬ x.n = g.n := fun z => nd.1 (by rw [z]; exact List.mem_map_of_mem (List.mem_of_getElem? h'))
      rw [List.find?_cons, decide_eq_false ne]
      exact ih nd.2 h'
theorem HouseOk.fnd {root : Str} {ks : List KD} (h : HouseOk root ks) {x : KD} (mx : x ∈ ks) : ((allF ks x).map (·.n)).Nodup := by
  obtain ⟨i, e⟩ := HouseOk.at_mem mx
  rw [← h.all e]
  exact (h.alone i x e).diff
theorem small_large : ∀ c ∈ smallS.cps.toList, c ∉ largeS.cps.toList := by
  have : smallS.cps.toList.all (fun c => decide (c ∉ largeS.cps.toList)) = true := by decide +kernel
  exact fun c hc => of_decide_eq_true (List.all_eq_true.mp this c hc)
theorem kind_head {x : Str} (h : isKindName (.str x) = true) : ∃ c r, x.cps.toList = c :: r ∧ c ∈ largeS.cps.toList := by
  unfold isKindName at h
  simp only at h
  cases e : x.cps.toList with
  | nil => rw [e] at h; cases h
  | cons c r =>
    rw [e] at h
    simp only [Bool.and_eq_true, decide_eq_true_eq, List.all_eq_true] at h
    exact ⟨c, r, rfl, h.1.2⟩
theorem field_kind {x : Str} (h : isFieldName (.str x) = true) (h2 : isKindName (.str x) = true) : False := by
  obtain ⟨c, r, e, m⟩ := kind_head h2
  unfold isFieldName isWordN lettersIn at h
  rw [Bool.and_eq_true, List.all_eq_true] at h
  have := of_decide_eq_true (h.2 c (by rw [e]; exact List.mem_cons_self))
  exact small_large c this m
theorem kind_pos {x : Str} (h : isKindName (.str x) = true) : 1 ≤ x.length := by
  obtain ⟨c, r, e, _⟩ := kind_head h
  show 1 ≤ x.cps.size
  rw [← Array.length_toList, e]
  exact Nat.succ_le_succ (Nat.zero_le _)
theorem app_len (a b : Str) : (a ++ b).length = a.length + b.length := by
  show (a.cps ++ b.cps).size = a.cps.size + b.cps.size
  exact Array.size_append
theorem app_ok {a b : Str} (ha : PyData.strOk a = true) (hb : PyData.strOk b = true) : PyData.strOk (a ++ b) = true := by
  refine strOk_of fun c hc => ?_
  have e : (a ++ b).cps.toList = a.cps.toList ++ b.cps.toList := by
    show (a.cps ++ b.cps).toList = _
    exact Array.toList_append
  rw [e] at hc
  have q : ∀ {x : Str}, PyData.strOk x = true → ∀ c ∈ x.cps.toList, c < 0x110000 := fun {x} h c hc => by
    unfold PyData.strOk at h
    rw [← Array.all_toList, List.all_eq_true] at h
    exact of_decide_eq_true (h c hc)
  rcases List.mem_append.mp hc with hc | hc
  · exact q ha c hc
  · exact q hb c hc
theorem not_in {ks : List KD} (kn : ∀ x ∈ ks, isKindName (.str x.n) = true) {w : Str} (h : ¬ isKindName (.str w) = true) : inHouse ks (.str w) = false := by
  refine decide_eq_false fun m => h ?_
  obtain ⟨x, mx, e⟩ := List.mem_map.mp m
  exact e ▸ kn x mx
theorem stay_lst {H : Hp} {D : Addr} {xs ys : List V} (h : H D = some (.lst xs)) : Stay H (upd H D (.lst ys)) := .kp fun b o nl e => by
  rw [upd_ne fun z => by
    rw [z, h] at e
    exact nl _ (Option.some.inj e).symm]
  exact e
end Wh
set_option Elab.async false
set_option linter.all false
set_option maxRecDepth 100000
set_option maxHeartbeats 4000000
namespace Wh
open PySem PySem.Spec PyProof.Rows L2
open Wp hiding Same.refl Same.trans same_new boot_all
open W8 (Ev Rp Kp Mono same_new take_snoc rW rB mW mB ev_words ev_words_eq ev_bools_eq lc_sieve)
/-! ## what things hold -/
inductive Wv where
  | non
  | int (i : Int)
  | lst (l : List Int)
deriving DecidableEq
def rWv : Rp Wv := fun H v x => match x with
  | .non => v = .non
  | .int i => v = .int i
  | .lst l => ∃ a, v = .ref a ∧ H a = some (.lst (l.map V.int))
theorem rWv_to {H H' : Hp} {v : V} {x : Wv} (s : ∀ b xs, H b = some (.lst xs) → H' b = some (.lst xs)) (h : rWv H v x) : rWv H' v x := by
  cases x with
  | non => exact h
  | int i => exact h
  | lst l =>
    obtain ⟨a, e, h⟩ := h
    exact ⟨a, e, s _ _ h⟩
theorem dWv : MonoD rWv := fun _ _ _ _ s h => rWv_to (fun b xs e => s _ _ (fun _ z => by cases z) e) h
def bigM : Int := 1000000000000000000000000000000
/-- a value that a field of a web may hold; adm: whether a target lets a number in, of n -/
def fitV (adm : Str → Nat → Bool) (n : Nat) (g : FV) : Wv → Bool
  | .non => decide (g.m = "link")
  | .int i => if g.m = "mark" then decide (-bigM < i ∧ i < bigM) else decide (g.m = "link") && decide (0 ≤ i ∧ i < n) && adm (g.t.getD "") i.toNat
  | .lst l => decide (g.m = "list") && decide (l.length ≤ 200) && l.all fun i => decide (0 ≤ i ∧ i < n) && adm (g.t.getD "") i.toNat
def defV (g : FV) : Wv := if g.m = "mark" then .int g.d else if g.m = "link" then .non else .lst []
def lookV (ns : List Str) (vs : List Wv) (n : Str) : Option Wv := ((ns.zip vs).find? fun p => decide (p.1 = n)).map (·.2)
def fullV (fs : List FV) (ns : List Str) (vs : List Wv) : List Wv := fs.map fun g => (lookV ns vs g.n).getD (defV g)
section
variable {P : Program} {w : World} {K : PySem.W.Frag} {mg : Str → Option Value} {base : Heap}
abbrev sIx : Stmt := top 17
abbrev nIx : List Str := ["value", "count"]
def spIx : Sp := fun vs H Q _ => ∃ i n : Int, vs = [.int i, .int n] ∧ Q (.bl (decide (0 ≤ i ∧ i < n))) H
theorem scIx : FnScope nIx ["value", "count"] (defScope sIx) := ⟨rfl, rfl, rfl, by decide +kernel, rfl, by decide +kernel, by decide +kernel⟩
theorem ok_Ix {f fW : Addr} {fd fdW : FuncData} (F : Fun K "is_index" "is_index" sIx f fd) (IN : Known P w K mg base CX0 1 "is_integer" ["value"] (spIsInt K) fW fdW) : FnOk P w K mg base CX0 2 f fd ["value", "count"] spIx := by
  refine F.ok scIx (fun vs H Q E h => ?_) (fun cdv A outer s H vs Q E hr h => ?_)
  · obtain ⟨i, n, rfl, _⟩ := h
    rfl
  · obtain ⟨i, n, rfl, k⟩ := h
    refine ⟨_, 
      (pss_one (ps_ret (pe_and (pe_call IN.ok (hr.mono (by decide)) rfl IN.mg IN.kp IN.bi .nil pass0 (pa_cons (pv 0) pa_nil)) (pe_one (pe_chain op_le op_lt pe_int (pv 0) (pv 1)))))), ?_⟩
    refine ⟨_, rfl, .int i, .int i, rfl, .dat (.int i) rfl, _, rfl, iteT ?_⟩
    refine ⟨_, rfl, _, _, rfl, rfl, _, rfl, ?_⟩
    by_cases h0 : 0 ≤ i
    · rw [decide_eq_true h0]
      refine iteT ⟨_, rfl, _, _, rfl, rfl, ?_⟩
      rw [show decide (0 ≤ i ∧ i < n) = decide (i < n) by simp [h0]] at k
      exact k
    · rw [decide_eq_false h0]
      rw [show decide (0 ≤ i ∧ i < n) = false by simp [h0]] at k
      exact iteF k
abbrev sMv : Stmt := top 21
abbrev nMv : List Str := ["value"]
def spMv : Sp := fun vs H Q _ => ∃ i : Int, vs = [.int i] ∧ Q (.bl (decide (-bigM < i ∧ i < bigM))) H
theorem scMv : FnScope nMv ["value"] (defScope sMv) := ⟨rfl, rfl, rfl, by decide +kernel, rfl, by decide +kernel, by decide +kernel⟩
theorem ok_Mv {f fW : Addr} {fd fdW : FuncData} (F : Fun K "is_mark_value" "is_mark_value" sMv f fd) (MB : ∃ u, mg "MARK_BOUND" = some u ∧ RelV (.int bigM) u) (IN : Known P w K mg base CX0 1 "is_integer" ["value"] (spIsInt K) fW fdW) : FnOk P w K mg base CX0 2 f fd ["value"] spMv := by
  refine F.ok scMv (fun vs H Q E h => ?_) (fun cdv A outer s H vs Q E hr h => ?_)
  · obtain ⟨i, rfl, _⟩ := h
    rfl
  · obtain ⟨i, rfl, k⟩ := h
    refine ⟨_, 
      (pss_one (ps_ret (pe_and (pe_call IN.ok (hr.mono (by decide)) rfl IN.mg IN.kp IN.bi .nil pass0 (pa_cons (pv 0) pa_nil)) (pe_one (pe_chain op_lt op_lt (pe_un un_neg (pe_cn (by rfl) MB)) (pv 0) (pe_cn (by rfl) MB)))))), ?_⟩
    refine ⟨_, rfl, .int i, .int i, rfl, .dat (.int i) rfl, _, rfl, iteT ?_⟩
    refine ⟨_, rfl, _, rfl, _, _, rfl, rfl, _, rfl, ?_⟩
    by_cases h0 : -bigM < i
    · rw [decide_eq_true h0]
      refine iteT ⟨_, _, rfl, rfl, ?_⟩
      rw [show decide (-bigM < i ∧ i < bigM) = decide (i < bigM) by simp [h0]] at k
      exact k
    · rw [decide_eq_false h0]
      rw [show decide (-bigM < i ∧ i < bigM) = false by simp [h0]] at k
      exact iteF k
end
end Wh
set_option Elab.async false
set_option linter.all false
set_option maxRecDepth 100000
set_option maxHeartbeats 4000000
namespace Wh
open PySem PySem.Spec PyProof.Rows L2
open Wp hiding Same.refl Same.trans same_new boot_all
open W8 (Ev Rp Kp Mono same_new take_snoc rW rB mW mB ev_words ev_words_eq ev_bools_eq lc_sieve)
section
variable {X : Cx} {CX : CXT} {n : Nat} {C f : Addr} {fd : FuncData} {ps : List Str} {sp : Sp} {E : XK}
theorem op_ownIn (F : FnOk X.prog X.w X.K X.mg X.base CX n f fd ps sp) (hb : Binds X.K fd ps []) (hx : Passes CX X E) (hs : PySem.W.findIn X.K (.ref C) "__contains__" = some (some (.ref f))) (hf : PySem.W.isFn X.K (.ref f) = true) (room : Room n X.A) :
    OpR X (compareOp .In) (rOwnHas false C sp E) := by
  rintro pins s σ H y x v u Q I ry rx ⟨a, dx, fs, rfl, ha, p⟩
  cases rx
  obtain ⟨ox, od, J⟩ : ∃ ox od, PySem.W.InstAt s.heap a ox C od := by
    obtain ⟨mA, J, _⟩ := ins_get I.hok ha
    obtain ⟨od, J, _⟩ := J.look
    exact ⟨_, od, J⟩
  obtain ⟨m, fr⟩ := I.fr
  refine PySem.W.in_K fr I.ok.mod.kin J hs hf ?_
  refine wpAny_mono (run_own F hb hx room rfl I (ys := [.ref a, y]) (.cons (show L2.RelV (.ref a) (.ref a) from rfl) (.cons ry .nil)) p) ?_ fun _ _ e => e
  rintro z s2 ⟨v, H2, I2, rz, c, rfl, q⟩
  obtain rfl := rz
  exact wpAny_truthy_bool ⟨.bl c, H2, I2, rfl, q⟩
end
section
variable {P : Program} {w : World} {K : PySem.W.Frag} {mg : Str → Option Value} {base : Heap} {CF CK CH : Addr}
/-- what stands behind a name -/
theorem get_kind {H : Hp} {ks : List KD} {x : KD} {d : Addr} (h : Dc (rK K CF CK) H d (ks.map (·.n)) ks) (nd : (ks.map (·.n)).Nodup) (mx : x ∈ ks) : ∃ v, DGet H d (.str x.n) (some v) ∧ rK K CF CK H v x := by
  obtain ⟨i, u, z, hi, hz, r, g⟩ := h.get (List.mem_map_of_mem mx)
  obtain ⟨j, hj, ej⟩ := List.getElem_of_mem mx
  have q : (ks.map (·.n))[j]? = some x.n := by rw [List.getElem?_map, List.getElem?_eq_getElem hj, ej]; rfl
  have := (List.getElem?_inj (i := i) (j := j) (List.getElem?_eq_some_iff.mp hi).1 nd).mp (hi.trans q.symm)
  subst this
  rw [List.getElem?_eq_getElem hj, ej] at hz
  cases hz
  exact ⟨u, g, r⟩
abbrev sKd : Stmt := meth 53 10
abbrev nKd : List Str := ["self", "kind"]
def spKd (K : PySem.W.Frag) (CF CK CH : Addr) : Sp := fun vs H Q _ => ∃ (s : Addr) (root : Str) (ks : List KD) (x : KD), vs = [.ref s, .str x.n] ∧ HouseAt K CF CK CH H s root ks ∧ Dq K H (.str x.n) (.str x.n) ∧ x ∈ ks ∧ ∀ v, rK K CF CK H v x → Q v H
theorem scKd : FnScope nKd nKd (defScope sKd) := ⟨rfl, rfl, rfl, by decide +kernel, rfl, by decide +kernel, by decide +kernel⟩
theorem ok_Kd {f f1 CU : Addr} {fd fd1 : FuncData} (F : Fun K "kind_named" "House.kind_named" sKd f fd) (HC : PlainC K CH houseAt) (CK0 : KMt P w K mg base CH (L2N.CX P w) 3 "_check" nCk (spCk K CF CK CH CU) f1 fd1) : FnOk P w K mg base (L2N.CX P w) 4 f fd nKd (spKd K CF CK CH) := by
  refine fun_okC F scKd (fun vs H Q E h => ?_) (fun cdv A outer s0 H vs Q E hr h => ?_)
  · obtain ⟨s, root, ks, x, rfl, _⟩ := h
    rfl
  · obtain ⟨s, root, ks, x, rfl, ha, q, mx, k⟩ := h
    have hu := hu_of hr
    refine ⟨_, 
      (pss_cons (ps_expr (pe_meth (pv 0) HC.cl CK0.mt CK0.ok (hr.mono (by decide)) CK0.bi .nil (L2N.passes_call (L2N.takes_of rfl rfl rfl rfl) (fun _ _ _ _ h => h)) (pa_cons (pv 1) pa_nil)))
      (pss_one (ps_ret (pe_dget hu (pe_fld (pv 0) rfl) (pv 1) (fun _ _ => rfl))))), ?_⟩
    obtain ⟨dx, tn, tk, dd, df, dl, dr, hs, _, _, hd, _, _⟩ := ha.ex
    obtain ⟨v, g, r⟩ := get_kind hd ha.ok.nd mx
    refine ⟨_, rfl, s, dx, _, rfl, hs, rfl, _, rfl, s, .str x.n, .str x.n, root, ks, rfl, ha, q, fun _ => ?_, fun e => ?_⟩
    · exact ⟨_, rfl, s, CH, dx, _, _, rfl, hs, HC.cl, HC.no _ (by simp), (lk_h _ _ _ _ _ _ _).2.2.2.1, _, rfl, dd, _, rfl, g, k v r⟩
    · rw [in_house mx] at e
      cases e
abbrev sHl : Stmt := meth 53 4
abbrev nHl : List Str := ["self"]
def spHl (K : PySem.W.Frag) (CF CK CH : Addr) : Sp := fun vs H Q _ => ∃ (s : Addr) (root : Str) (ks : List KD), vs = [.ref s] ∧ HouseAt K CF CK CH H s root ks ∧ Q (.int (ks.length : Nat)) H
theorem scHl : FnScope nHl nHl (defScope sHl) := ⟨rfl, rfl, rfl, by decide +kernel, rfl, by decide +kernel, by decide +kernel⟩
theorem ok_Hl {f : Addr} {fd : FuncData} (F : Fun K "__len__" "House.__len__" sHl f fd) (B : Bn mg) (HC : PlainC K CH houseAt) : FnOk P w K mg base CX0 1 f fd nHl (spHl K CF CK CH) := by
  refine F.ok scHl (fun vs H Q E h => ?_) (fun cdv A outer s0 H vs Q E hr h => ?_)
  · obtain ⟨s, root, ks, rfl, _⟩ := h
    rfl
  · obtain ⟨s, root, ks, rfl, ha, k⟩ := h
    refine ⟨_, 
      (pss_one (ps_ret (pe_callB call_len_seq (by rfl) B.len PySem.boot_len (pa_cons (pe_fld (pv 0) rfl) pa_nil)))), ?_⟩
    obtain ⟨dx, tn, tk, dd, df, dl, dr, hs, hn, _⟩ := ha.ex
    rw [show ((ks.length : Nat) : Int) = ((ks.map (·.n)).map V.str).length by rw [List.length_map, List.length_map]] at k
    exact ⟨_, rfl, s, CH, dx, _, _, rfl, hs, HC.cl, HC.no _ (by simp), (lk_h _ _ _ _ _ _ _).2.1, tn, _, rfl, .inr hn, k⟩
abbrev sAm : Stmt := meth 53 22
abbrev nAm : List Str := ["self", "target", "name"]
def admK (ks : List KD) (t : Str) : List Str := (ks.map (·.n)).filter fun n => letB ks t n
def spAm (K : PySem.W.Frag) (CF CK CH : Addr) : Sp := fun vs H Q _ => ∃ (s : Addr) (t root : Str) (ks : List KD), vs = [.ref s, .str t] ∧ HouseAt K CF CK CH H s root ks ∧ (t = "any" ∨ t ∈ ks.map (·.n)) ∧ PyData.strOk t = true ∧ ∀ D H', H D = none → Same H H' → H' D = some (.lst ((admK ks t).map V.str)) → Q (.ref D) H'
theorem scAm : FnScope nAm ["self", "target"] (defScope sAm) := ⟨rfl, rfl, rfl, by decide +kernel, rfl, by decide +kernel, by decide +kernel⟩
theorem ok_Am {f f1 f2 : Addr} {fd fd1 fd2 : FuncData} (F : Fun K "admitted" "House.admitted" sAm f fd) (B : Bn mg) (HC : PlainC K CH houseAt) (gA : ∃ u, mg "ANY" = some u ∧ RelV (.str "any") u) (LT : KMt P w K mg base CH CX0 1 "_lets" nLt (spLt K CF CK CH) f1 fd1)
    (HS : KMt P w K mg base CH CX0 1 "__contains__" nHas (spHas K CF CK CH) f2 fd2) (hasIn : PySem.W.findIn K (.ref CH) "__contains__" = some (some (.ref f2))) (hasFn : PySem.W.isFn K (.ref f2) = true) : FnOk P w K mg base CX0 2 f fd ["self", "target"] (spAm K CF CK CH) := by
  refine F.ok scAm (fun vs H Q E h => ?_) (fun cdv A outer s0 H vs Q E hr h => ?_)
  · obtain ⟨s, t, root, ks, rfl, _⟩ := h
    rfl
  · obtain ⟨s, t, root, ks, rfl, ha, ht, ok, k⟩ := h
    refine ⟨_, 
      (pss_cons (ps_if (PW.pt (pw_and (pt_cmpR op_ne (pv 1) (pe_cn (by rfl) gA) (nomark _)) (pw_and1 (pt_cmpR (op_ownNotIn HS.ok HS.bi pass0 hasIn hasFn (hr.mono (by decide))) (pv 1) (pv 0) (by rfl))))) 
        (pss_one ps_dead) pss_nil)
      (pss_one (ps_ret (pe_lc (own := [("name", 2)]) (g := gName 2) (te := tVar 2) rfl scAm.nd (pi_tup (pe_fld (pv 0) rfl)) (blkOk_by (N := nAm) (sc := defScope sAm) (by decide +kernel)) (fun _ _ _ _ _ => pg_name (i := 2) scAm.nd rfl (Or.inl rfl)) (fun _ _ _ _ _ => pts_one (pt_val (pe_meth (pv 0) HC.cl LT.mt LT.ok (hr.mono (by decide)) LT.bi .nil pass0 (pa_cons (pv 1) (pa_cons (pv 2) pa_nil))))) (fun _ _ _ _ _ => (pv 2)))))), ?_⟩
    obtain ⟨dx, tn, tk, dd, df, dl, dr, hs, hn, _, hd, _⟩ := ha.ex
    have test : ∀ (D : Addr) (x : V) (c : Str) (H1 : Hp) (Rq : Bool → Hp → Prop), c ∈ ks.map (·.n) → Same H H1 → rW H1 x c → (∀ H2, Same H1 H2 → Rq (letB ks t c) H2) →
        (tB (tMeth CH "_lets" (spLt K CF CK CH) [] E0 (tVar 0) (tCons (tVar 1) (tCons (tVar 2) tNil)))) ((List.set (L2.start nAm [V.ref s, V.str t]) 2 none).set 2 (some x)) H1 Rq := by
      rintro D _ c H1 Rq mc s1 rfl kk
      exact ⟨_, rfl, s, dx, _, rfl, s1 _ _ hs, rfl, _, rfl, _, rfl, s, t, c, dx, dd, _, ks, rfl, s1 _ _ hs, (lk_h _ _ _ _ _ _ _).2.2.2.1, hd.same (dK K CF CK) s1, ha.ok.nd, mc, _, rfl, kk _ (Same.refl _)⟩
    have fin : ∀ D, H D = none → ∀ H' ys, Same H H' → H' D = some (.lst ys) → Ev rW H' ys (((ks.map (·.n)).filter fun n => letB ks t n).map id) → Q (.ref D) H' := fun D hD H' ys s1 e ev => by
      rw [List.map_id] at ev
      cases ev_words_eq ev
      exact k D H' hD s1 e
    refine ⟨_, rfl, rfl, _, rfl, ?_⟩
    rw [dec_s]
    by_cases e : t = ("any" : Str)
    · rw [decide_eq_true e]
      refine iteF (iteF ?_)
      refine ⟨_, rfl, s, CH, dx, _, _, rfl, hs, HC.cl, HC.no _ (by simp), (lk_h _ _ _ _ _ _ _).2.1, tn, rfl, ⟨_, hn⟩, fun D hD => lc_sieve mW mW (fun n => letB ks t n) id walk_tup (by rw [List.length_map]; have := ha.ok.n12; omega) (fun H' s9 => s9.sqT hn) hD (ev_words _) (test D) (fun v c H2 Rq _ _ _ r kk => ⟨_, rfl, kk _ _ (Same.refl _) r⟩) (fin D hD)⟩
    · rw [decide_eq_false e]
      refine iteT ⟨_, rfl, _, rfl, s, dx, _, rfl, hs, s, .str t, .str t, root, ks, rfl, ha, .dat (.str _) (shaped_str ok), _, rfl, _, rfl, ?_⟩
      rw [show inHouse ks (.str t) = true from decide_eq_true (ht.resolve_left e)]
      refine iteF ?_
      refine ⟨_, rfl, s, CH, dx, _, _, rfl, hs, HC.cl, HC.no _ (by simp), (lk_h _ _ _ _ _ _ _).2.1, tn, rfl, ⟨_, hn⟩, fun D hD => lc_sieve mW mW (fun n => letB ks t n) id walk_tup (by rw [List.length_map]; have := ha.ok.n12; omega) (fun H' s9 => s9.sqT hn) hD (ev_words _) (test D) (fun v c H2 Rq _ _ _ r kk => ⟨_, rfl, kk _ _ (Same.refl _) r⟩) (fin D hD)⟩
end
end Wh
set_option Elab.async false
set_option linter.all false
set_option maxRecDepth 100000
set_option maxHeartbeats 4000000
namespace Wh
open PySem PySem.Spec PyProof.Rows L2
open Wp hiding Same.refl Same.trans same_new boot_all
open W8 (Ev Rp Kp Mono same_new take_snoc rW rB mW mB ev_words ev_words_eq ev_bools_eq lc_sieve)
def rLenQ (K : PySem.W.Frag) : List V → Hp → VK → Prop := fun xs H Q => ∃ p ys, xs = [.ref p] ∧ (SqL K H p ys ∨ SqT K H p ys) ∧ Q (.int ys.length) H
def rI : Rp Int := fun _ v i => v = .int i
theorem mI : Mono rI := fun _ _ _ _ _ h => h
theorem ev_ints {H : Hp} : ∀ l : List Int, Ev rI H (l.map V.int) l
  | [] => Ev.nil
  | i :: l => Ev.cons rfl (ev_ints l)
/-- kinds of things, and whom a target lets in by number -/
def admB (ks : List KD) (kn : List Str) (t : Str) (i : Nat) : Bool := letB ks t (kn.getD i "")
structure AimOk (ks : List KD) (g : FV) : Prop where
  aim : slotB g = true → ∃ t, g.t = some t ∧ (t = "any" ∨ t ∈ ks.map (·.n)) ∧ PyData.strOk t = true
section
variable {P : Program} {w : World} {K : PySem.W.Frag} {mg : Str → Option Value} {base : Heap} {CF CK CH CW : Addr}
abbrev sAa : Stmt := top 27
abbrev nAa : List Str := ["house", "field", "numbers", "kinds", "admitted", "number"]
def spAa (K : PySem.W.Frag) (CF CK CH : Addr) : Sp := fun vs H Q _ => ∃ (s nl lk : Addr) (v : V) (root t : Str) (ks : List KD) (g : FV) (l : List Int) (kn : List Str), vs = [.ref s, v, .ref nl, .ref lk] ∧ HouseAt K CF CK CH H s root ks ∧ rF K CF H v g ∧ g.t = some t ∧ (t = "any" ∨ t ∈ ks.map (·.n)) ∧ PyData.strOk t = true ∧ H nl = some (.lst (l.map V.int)) ∧ l.length ≤ 1000 ∧ H lk = some (.lst (kn.map V.str)) ∧ (∀ n ∈ kn, n ∈ ks.map (·.n)) ∧
  ∀ H', Same H H' → Q (.bl (l.all fun i => decide (0 ≤ i ∧ i < (kn.length : Nat)) && admB ks kn t i.toNat)) H'
theorem scAa : FnScope nAa ["house", "field", "numbers", "kinds"] (defScope sAa) := ⟨rfl, rfl, rfl, by decide +kernel, rfl, by decide +kernel, by decide +kernel⟩
theorem ok_Aa {f f1 f2 : Addr} {fd fd1 fd2 : FuncData} (F : Fun K "_are_admitted" "_are_admitted" sAa f fd) (B : Bn mg) (HC : PlainC K CH houseAt) (CFc : PlainC K CF ["name", "mode", "target", "default", "was"]) (AM : KMt P w K mg base CH CX0 2 "admitted" ["self", "target"] (spAm K CF CK CH) f1 fd1)
    (IX : Known P w K mg base CX0 2 "is_index" ["value", "count"] spIx f2 fd2) : FnOk P w K mg base CX0 3 f fd ["house", "field", "numbers", "kinds"] (spAa K CF CK CH) := by
  refine F.ok scAa (fun vs H Q E h => ?_) (fun cdv A outer s0 H vs Q E hr h => ?_)
  · obtain ⟨s, nl, lk, v, root, t, ks, g, l, kn, rfl, _⟩ := h
    rfl
  · obtain ⟨s, nl, lk, v, root, t, ks, g, l, kn, rfl, ha, rg, et, ht, ok, hnl, ll, hlk, hkn, k⟩ := h
    refine ⟨_, 
      (pss_cons (ps_set (i := 4) scAa.nd rfl (.inr rfl) (pe_meth (pv 0) HC.cl AM.mt AM.ok (hr.mono (by decide)) AM.bi .nil pass0 (pa_cons (pe_fld (pv 1) rfl) pa_nil)))
      (pss_one (ps_ret (pe_callB (cr_all rfl) (by rfl) B.all boot_all (pa_cons (pe_lc (own := [("number", 5)]) (g := gName 5) (tt := tYes) (te := tAndV (tCall spIx [] E0 (tCons (tVar 5) (tCons (tCB (rLenQ K) (tCons (tVar 3) tNil)) tNil))) (tOp (rIn K false) (tOp (rIxL K) (tVar 3) (tVar 5)) (tVar 4))) rfl scAa.nd (pi_list (pv 2)) (blkOk_by (N := nAa) (sc := defScope sAa) (by decide +kernel)) (fun _ _ _ _ _ => pg_name (i := 5) scAa.nd rfl (Or.inl rfl)) (fun _ _ _ _ _ => pts_nil) (fun _ _ _ _ _ => (pe_and (pe_call IX.ok (hr.mono (by decide)) rfl IX.mg IX.kp IX.bi .nil pass0 (pa_cons (pv 5) (pa_cons (pe_callB (show CallR _ (.builtin "len") (rLenQ K) from call_len_seq) (by rfl) B.len PySem.boot_len (pa_cons (pv 3) pa_nil)) pa_nil))) (pe_one (pe_cmpR (show OpR _ (compareOp .In) (rIn K false) from op_in_seq) (pe_ix ix_list (pv 3) (pv 5) (fun _ _ => rfl)) (pv 4) (by rfl)))))) pa_nil))))), ?_⟩
    obtain ⟨b, rfl, ⟨dy, tw, hb, _⟩, _⟩ := id rg
    obtain ⟨dx, tn, tk, dd, df, dl, dr, hs, _⟩ := ha.ex
    rw [et] at hb
    refine ⟨_, rfl, s, dx, _, rfl, hs, rfl, _, rfl, b, CF, dy, _, _, rfl, hb, CFc.cl, CFc.no _ (by simp), (lk_fs _ _ _ _ _).2.2.1, s, t, root, ks, rfl, ha, ht, ok, fun A1 H1 hA1 s1 eA1 => ?_⟩
    refine ⟨_, rfl, nl, rfl, ⟨_, SqL.of (s1 _ _ hnl)⟩, fun D hD => ?_⟩
    refine lc_sieve mI mB (fun _ => true) (fun i : Int => decide (0 ≤ i ∧ i < (kn.length : Nat)) && admB ks kn t i.toNat) walk_list ll (fun H' s9 => SqL.of (s9 _ _ (s1 _ _ hnl))) hD (ev_ints l) (fun v c H2 Rq _ _ _ kk => kk _ (Same.refl _)) ?_ ?_
    · rintro _ i H2 Rq _ _ s2 rfl kk
      have hlk2 := s2 _ _ (s1 _ _ hlk)
      have e1 : ((kn.map V.str).length : Int) = (kn.length : Nat) := by rw [List.length_map]
      refine ⟨_, rfl, _, rfl, lk, kn.map V.str, rfl, .inl (SqL.of hlk2), i, _, rfl, _, rfl, ?_⟩
      rw [e1]
      by_cases hi : 0 ≤ i ∧ i < (kn.length : Nat)
      · rw [decide_eq_true hi, Bool.true_and] at kk
        rw [decide_eq_true hi]
        obtain ⟨iN, rfl⟩ := Int.eq_ofNat_of_zero_le hi.1
        have hlt : iN < kn.length := by omega
        have hx : (kn.map V.str)[iN]? = some (V.str kn[iN]) := by
          rw [List.getElem?_map, List.getElem?_eq_getElem hlt]
          rfl
        have mx := hkn _ (List.getElem_mem hlt)
        have ea : admB ks kn t (iN : Int).toNat = decide (kn[iN] ∈ admK ks t) := by
          unfold admB admK
          rw [Int.toNat_natCast, List.getD_eq_getElem?_getD, List.getElem?_eq_getElem hlt]
          show letB ks t kn[iN] = _
          rw [Bool.eq_iff_iff, decide_eq_true_eq, List.mem_filter]
          exact ⟨fun h => ⟨mx, h⟩, fun h => h.2⟩
        rw [ea] at kk
        refine iteT ⟨_, rfl, _, rfl, lk, _, _, _, rfl, rfl, SqL.of hlk2, atI_nat hx, _, rfl, A1, _, rfl, .inl (SqL.of (s2 _ _ eA1)), rfl, flat_strs _, ?_⟩
        show Rq (.bl (inV (.str kn[iN]) _)) H2
        rw [mem_in]
        exact kk _ _ (Same.refl _) rfl
      · rw [decide_eq_false hi, Bool.false_and] at kk
        rw [decide_eq_false hi]
        exact iteF (kk _ _ (Same.refl _) rfl)
    intro H2 bs s2 hbs eb
    rw [filter_all] at eb
    cases ev_bools_eq eb
    have e2 : (l.map fun i : Int => decide (0 ≤ i ∧ i < (kn.length : Nat)) && admB ks kn t i.toNat).all id = l.all fun i => decide (0 ≤ i ∧ i < (kn.length : Nat)) && admB ks kn t i.toNat := by
      rw [List.all_map]
      rfl
    refine ⟨D, _, rfl, SqL.of hbs, ?_⟩
    rw [e2]
    exact k _ (s1.trans s2)
abbrev sCh : Stmt := top 26
abbrev nCh : List Str := ["house", "field", "value", "kinds"]
def spCh (K : PySem.W.Frag) (CF CK CH : Addr) : Sp := fun vs H Q _ => ∃ (s lk : Addr) (v y : V) (root : Str) (ks : List KD) (g : FV) (x : Wv) (kn : List Str), vs = [.ref s, v, y, .ref lk] ∧ HouseAt K CF CK CH H s root ks ∧ rF K CF H v g ∧ AimOk ks g ∧ rWv H y x ∧ H lk = some (.lst (kn.map V.str)) ∧ (∀ n ∈ kn, n ∈ ks.map (·.n)) ∧
  (g.m = "mark" ∨ g.m = "link" ∨ g.m = "list") ∧ fitV (admB ks kn) kn.length g x = true ∧ ∀ H', Same H H' → Q (.bl true) H'
theorem scCh : FnScope nCh ["house", "field", "value", "kinds"] (defScope sCh) := ⟨rfl, rfl, rfl, by decide +kernel, rfl, by decide +kernel, by decide +kernel⟩
theorem ok_Ch {f f1 f2 : Addr} {fd fd1 fd2 : FuncData} {mc u200 : Value} (F : Fun K "_can_hold" "_can_hold" sCh f fd) (B : Bn mg) (CFc : PlainC K CF ["name", "mode", "target", "default", "was"]) (MV_ : Known P w K mg base CX0 2 "is_mark_value" ["value"] spMv f1 fd1)
    (AA : Known P w K mg base CX0 3 "_are_admitted" ["house", "field", "numbers", "kinds"] (spAa K CF CK CH) f2 fd2) (gWb : mg "Web" = some (.ref CW)) (cr : ClX.CRead K CW mc) (cv : ClX.CVal K CW mc "PLACES" (.int 200) u200) : FnOk P w K mg base CX0 4 f fd ["house", "field", "value", "kinds"] (spCh K CF CK CH) := by
  refine F.ok scCh (fun vs H Q E h => ?_) (fun cdv A outer s0 H vs Q E hr h => ?_)
  · obtain ⟨s, lk, v, y, root, ks, g, x, kn, rfl, _⟩ := h
    rfl
  · obtain ⟨s, lk, v, y, root, ks, g, x, kn, rfl, ha, rg, ai, ry, hlk, hkn, gm, fit, k⟩ := h
    refine ⟨_, 
      (pss_cons (ps_if (pt_cmpR op_eq (pe_fld (pv 1) rfl) pe_str (nomark _)) 
        (pss_one (ps_ret (pe_call MV_.ok (hr.mono (by decide)) rfl MV_.mg MV_.kp MV_.bi .nil pass0 (pa_cons (pv 2) pa_nil)))) pss_nil)
      (pss_cons (ps_if (pt_cmpR op_eq (pe_fld (pv 1) rfl) pe_str (nomark _)) 
        (pss_one (ps_ret (pe_or (pe_cmp (pc_isN (pv 2)) rfl) (pe_one (pe_call AA.ok (hr.mono (by decide)) rfl AA.mg AA.kp AA.bi .nil pass0 (pa_cons (pv 0) (pa_cons (pv 1) (pa_cons (pe_lst (pa_cons (pv 2) pa_nil)) (pa_cons (pv 3) pa_nil))))))))) pss_nil)
      (pss_cons (ps_if (PW.pt (pw_or (pt_not (pt_val (pe_callB call_isiT (by rfl) B.isi boot_isi (pa_cons (pv 2) (pa_cons (pe_tup (pa_cons (pe_bltn (v := .ty "list") (by rfl) B.list PyProof.Rows.boot_list rfl) (pa_cons (pe_bltn (v := .ty "tuple") (by rfl) B.tuple boot_ttuple rfl) pa_nil))) pa_nil))))) (pw_or1 (pt_cmpR op_gt (pe_callB call_len_seq (by rfl) B.len PySem.boot_len (pa_cons (pv 2) pa_nil)) (ClX.pe_cval (pe_glob (v := .ref CW) (by rfl) gWb rfl)) (nomark _))))) 
        (pss_one (ps_ret pe_bl)) pss_nil)
      (pss_one (ps_ret (pe_call AA.ok (hr.mono (by decide)) rfl AA.mg AA.kp AA.bi .nil pass0 (pa_cons (pv 0) (pa_cons (pv 1) (pa_cons (pv 2) (pa_cons (pv 3) pa_nil)))))))))), ?_⟩
    obtain ⟨b, rfl, ⟨dy, tw, hb, _⟩, _⟩ := id rg
    have m1 : ("mark" : Str) ≠ "link" := by decide +kernel
    have m2 : ("mark" : Str) ≠ "list" := by decide +kernel
    have m3 : ("link" : Str) ≠ "list" := by decide +kernel
    refine ⟨_, rfl, b, CF, dy, _, _, rfl, hb, CFc.cl, CFc.no _ (by simp), (lk_fs _ _ _ _ _).2.2.2.1, rfl, _, rfl, ?_⟩
    rw [dec_s]
    rcases gm with gm | gm | gm
    · rw [decide_eq_true gm]
      refine iteT ?_
      cases x with
      | non => simp [fitV, gm, m1] at fit
      | int i =>
        cases ry
        refine ⟨_, rfl, i, rfl, ?_⟩
        rw [show decide (-bigM < i ∧ i < bigM) = true by simpa [fitV, gm] using fit]
        exact k _ (Same.refl _)
      | lst l => simp [fitV, gm, m2] at fit
    · have sl : slotB g = true := by unfold slotB; rw [gm]; decide +kernel
      obtain ⟨t, et, ht, ok⟩ := ai.aim sl
      rw [decide_eq_false (show ¬ g.m = "mark" by rw [gm]; exact Ne.symm m1)]
      refine iteF ⟨_, rfl, b, CF, dy, _, _, rfl, hb, CFc.cl, CFc.no _ (by simp), (lk_fs _ _ _ _ _).2.2.2.1, rfl, _, rfl, ?_⟩
      rw [dec_s, decide_eq_true gm]
      refine iteT ?_
      cases x with
      | non =>
        cases ry
        exact ⟨_, rfl, _, rfl, iteT (k _ (Same.refl _))⟩
      | int i =>
        cases ry
        refine ⟨_, rfl, _, rfl, iteF ⟨_, rfl, _, rfl, _, rfl, by show 1 ≤ sizeLine; decide, fun L hL => ?_⟩⟩
        have sL := same_new (o := .lst [.int i]) hL
        refine ⟨_, rfl, s, L, lk, .ref b, root, t, ks, g, [i], kn, rfl, ha.same sL, rF_stay (.kp (.of sL)) rg, et, ht, ok, upd_same, by show 1 ≤ 1000; decide, sL _ _ hlk, hkn, fun H1 s1 => ?_⟩
        have : (([i] : List Int).all fun i => decide (0 ≤ i ∧ i < (kn.length : Nat)) && admB ks kn t i.toNat) = true := by
          simp only [fitV, gm, et] at fit
          rw [if_neg (Ne.symm m1)] at fit
          simpa using fit
        rw [this]
        exact k _ (sL.trans s1)
      | lst l => simp [fitV, gm, m3] at fit
    · have sl : slotB g = true := by unfold slotB; rw [gm]; decide +kernel
      obtain ⟨t, et, ht, ok⟩ := ai.aim sl
      rw [decide_eq_false (show ¬ g.m = "mark" by rw [gm]; exact Ne.symm m2)]
      refine iteF ⟨_, rfl, b, CF, dy, _, _, rfl, hb, CFc.cl, CFc.no _ (by simp), (lk_fs _ _ _ _ _).2.2.2.1, rfl, _, rfl, ?_⟩
      rw [dec_s, decide_eq_false (show ¬ g.m = "link" by rw [gm]; exact Ne.symm m3)]
      refine iteF ?_
      cases x with
      | non => simp [fitV, gm, Ne.symm m3] at fit
      | int i => simp [fitV, gm, Ne.symm m2, Ne.symm m3] at fit
      | lst l =>
        obtain ⟨a, rfl, hl⟩ := ry
        have fl : l.length ≤ 200 ∧ (l.all fun i => decide (0 ≤ i ∧ i < (kn.length : Nat)) && admB ks kn t i.toNat) = true := by
          simp only [fitV, gm, et, Bool.and_eq_true, decide_eq_true_eq] at fit
          exact ⟨fit.1.2, fit.2⟩
        refine ⟨_, rfl, by show 2 ≤ sizeLine; decide, fun T hT => ?_⟩
        have sT := same_new (o := .tup [.ty "list", .ty "tuple"]) hT
        refine ⟨.ref a, T, [.ty "list", .ty "tuple"], _, [.type "list", .type "tuple"], _, rfl, upd_same, .cons (.ty _) (.cons (.ty _) .nil), Wp.SqL.ty (SqL.of (sT _ _ hl)), kit_seqv (.inl rfl), _, rfl, iteF ?_⟩
        refine ⟨_, rfl, a, l.map V.int, rfl, .inl (SqL.of (sT _ _ hl)), CW, _, _, _, rfl, cr, cv, _, _, rfl, rfl, _, rfl, ?_⟩
        rw [show decide ((200 : Int) < ((l.map V.int).length : Nat)) = false from decide_eq_false (by rw [List.length_map]; omega)]
        refine iteF ⟨_, rfl, _, rfl, _, rfl, _, rfl, s, a, lk, .ref b, root, t, ks, g, l, kn, rfl, ha.same sT, rF_stay (.kp (.of sT)) rg, et, ht, ok, sT _ _ hl, by omega, sT _ _ hlk, hkn, fun H1 s1 => ?_⟩
        rw [fl.2]
        exact k _ (sT.trans s1)
end
end Wh
set_option Elab.async false
set_option linter.all false
set_option maxRecDepth 100000
set_option maxHeartbeats 4000000
/-! Dict comprehensions over any walk; dicts while they are walked. -/
namespace Wh
open PySem PySem.Spec PyProof.Rows L2
open W8 (Ev Rp Kp Mono same_new take_snoc rW ev_words)
theorem dc_it {J : It} {n : Nat} {G : Hp → Prop} {Y : Nat → Hp → V → Hp → Prop} (w : Walk J n G Y) {g : TG} {tt : TT} {tk tv : TE} {vs : List Nat} {σ : L2.St} {H1 : Hp} {D : Addr} {Qd : Hp → Prop} (Pv : Nat → Hp → Prop) (h0 : Pv 0 (upd H1 D (.dK []))) (hG : ∀ i H, i ≤ n → Pv i H → G H)
    (hs : ∀ i x H H', i < n → Pv i H → Y i H x H' → g x (wipe σ vs) H' fun σ2 H2 => wipe σ2 vs = wipe σ vs ∧ tt σ2 H2 fun b H3 =>
      if b = true then tk σ2 H3 fun y H4 => tv σ2 H4 fun z H5 => ∃ kvs k, y = kV k ∧ H5 D = some (.dK kvs) ∧ kvs.length < sizeLine ∧ Pv (i + 1) (upd H5 D (.dK (putK kvs k z))) else Pv (i + 1) H3) (hd : ∀ H, Pv n H → Qd H) :
    ∃ W : Nat → Nat → Hp → Prop, (∃ m, W 0 m (upd H1 D (.dK []))) ∧ ∀ i m H, W i m H →
      (J.stop i H ∧ Qd H) ∨ (J.go i H ∧ ∃ Nx : Hp → Prop, (∀ H', Nx H' → ∃ m', m' < m ∧ W (i + 1) m' H') ∧ ∀ x H', J.yld i H x H' → g x (wipe σ vs) H' fun σ2 H2 => wipe σ2 vs = wipe σ vs ∧ tt σ2 H2 fun b H3 =>
        if b = true then tk σ2 H3 fun y H4 => tv σ2 H4 fun z H5 => ∃ kvs k, y = kV k ∧ H5 D = some (.dK kvs) ∧ kvs.length < sizeLine ∧ Nx (upd H5 D (.dK (putK kvs k z))) else Nx H3) := by
  refine ⟨fun i m H => m = n - i ∧ i ≤ n ∧ Pv i H, ⟨n, by simp, Nat.zero_le _, h0⟩, ?_⟩
  rintro i m H ⟨rfl, hi, p⟩
  have q := hG i H hi p
  by_cases hlt : i < n
  · exact .inr ⟨w.goes i H hlt q, Pv (i + 1), fun H' p' => ⟨n - (i + 1), by omega, rfl, hlt, p'⟩, fun x H' y => hs i x H H' hlt p (w.yields i H x H' hlt q y)⟩
  · have e : i = n := by omega
    subst e
    exact .inl ⟨w.stops H q, hd H p⟩
/-- {n(x): e(x) for x in xs if t}, the names different -/
theorem dc_walk {α β : Type} {R : Rp α} {R2 : Rp β} (mR : Mono R) (mR2 : MonoD R2) (p : α → Bool) (kf : α → Str) (f : α → β) {J : It} {G : Hp → Prop} {xs : List V} {cs : List α} {tt : TT} {tk tv : TE} {i : Nat} {σ : L2.St} {H : Hp} {D : Addr} {Q : Hp → Prop}
    (w : Walk J xs.length G (YAt xs)) (few : cs.length ≤ 1000) (hG : ∀ H', Same H H' → G H') (new : H D = none) (ev : Ev R H xs cs) (nd : (cs.map kf).Nodup)
    (test : ∀ (x : V) (c : α) (H1 : Hp) (Rq : Bool → Hp → Prop), c ∈ cs → Same H H1 → R H1 x c → (∀ H2, Same H1 H2 → Rq (p c) H2) → tt ((σ.set i none).set i (some x)) H1 Rq)
    (elt : ∀ (x : V) (c : α) (H1 : Hp) (Rq : V → V → Hp → Prop), c ∈ cs → p c = true → Same H H1 → R H1 x c → (∀ y H2, Same H1 H2 → R2 H2 y (f c) → Rq (.str (kf c)) y H2) → tk ((σ.set i none).set i (some x)) H1 fun u H2 => tv ((σ.set i none).set i (some x)) H2 fun z H3 => Rq u z H3)
    (k : ∀ H', Same H H' → Dc R2 H' D ((cs.filter p).map kf) ((cs.filter p).map f) → Q H') :
    ∃ W : Nat → Nat → Hp → Prop, (∃ m, W 0 m (upd H D (.dK []))) ∧ ∀ j m H, W j m H →
      (J.stop j H ∧ Q H) ∨ (J.go j H ∧ ∃ Nx : Hp → Prop, (∀ H', Nx H' → ∃ m', m' < m ∧ W (j + 1) m' H') ∧ ∀ x H', J.yld j H x H' → gName i x (wipe σ [i]) H' fun σ2 H2 => wipe σ2 [i] = wipe σ [i] ∧ tt σ2 H2 fun b H3 =>
        if b = true then tk σ2 H3 fun y H4 => tv σ2 H4 fun z H5 => ∃ kvs k, y = kV k ∧ H5 D = some (.dK kvs) ∧ kvs.length < sizeLine ∧ Nx (upd H5 D (.dK (putK kvs k z))) else Nx H3) := by
  refine dc_it w (fun j H' => Same H H' ∧ Dc R2 H' D (((cs.take j).filter p).map kf) (((cs.take j).filter p).map f)) ⟨same_new new, Dc.nil upd_same⟩ (fun j H' _ q => hG H' q.1) ?_ fun H' q => ?_
  · rintro j x H1 H2 hj ⟨sm, dc⟩ ⟨rfl, hx⟩
    obtain ⟨c, hc, r⟩ := ev.at hx
    have mc : c ∈ cs := List.mem_of_getElem? hc
    have rc := mR _ _ _ _ (.of sm) r
    refine ⟨by simp [wipe, List.set_set], test x c H2 _ mc sm rc fun H3 s3 => ?_⟩
    cases hp : p c with
    | false =>
      rw [if_neg Bool.false_ne_true]
      refine ⟨sm.trans s3, ?_⟩
      rw [take_snoc hc, List.filter_append, List.filter_cons, if_neg (by rw [hp]; exact Bool.false_ne_true), List.filter_nil, List.append_nil]
      exact dc.same mR2 s3
    | true =>
      rw [if_pos rfl]
      refine elt x c H3 _ mc hp (sm.trans s3) (mR _ _ _ _ (.of s3) rc) fun y H4 s4 r4 => ?_
      have s5 := s3.trans s4
      obtain ⟨ys, hD, l, ey⟩ := dc.same mR2 s5
      have hnew : kf c ∉ ((cs.take j).filter p).map kf := fun z => by
        obtain ⟨o, mo, eo⟩ := List.mem_map.mp z
        obtain ⟨q, hq, e⟩ := List.getElem_of_mem (List.mem_filter.mp mo).1
        rw [List.length_take] at hq
        rw [List.getElem_take] at e
        have hj2 : j < cs.length := (List.getElem?_eq_some_iff.mp hc).1
        have k1 : (cs.map kf)[q]? = some (kf c) := by rw [List.getElem?_map, List.getElem?_eq_getElem (by omega), e, ← eo]; rfl
        have k2 : (cs.map kf)[j]? = some (kf c) := by rw [List.getElem?_map, hc]; rfl
        have := (List.getElem?_inj (i := q) (j := j) (by rw [List.length_map]; omega) nd).mp (k1.trans k2.symm)
        omega
      have few2 : (((cs.take j).filter p).map kf).length ≤ 1000 := by
        rw [List.length_map]
        have := List.length_filter_le p (cs.take j)
        have : (cs.take j).length ≤ cs.length := by simp; omega
        omega
      refine ⟨_, Sum.inr (kf c), rfl, hD, by rw [kvz_length _ _ l, sizeLine_eq]; omega, (sm.trans s5).over new, ys ++ [y], ?_, by simp [l, take_snoc hc, List.filter_append, hp], ?_⟩
      · rw [upd_same, put_new l hnew, take_snoc hc, List.filter_append, List.filter_cons, if_pos hp, List.filter_nil, List.map_append]
        rfl
      · rw [take_snoc hc, List.filter_append, List.filter_cons, if_pos hp, List.filter_nil, List.map_append]
        exact mR2.ev (ey.append (Ev.cons r4 Ev.nil)) (.dct hD)
  · obtain ⟨sm, dc⟩ := q
    have e : cs.take xs.length = cs := by rw [ev.1]; exact List.take_length
    rw [e] at dc
    exact k H' sm dc
/-- a dict by names that is being walked -/
def DcF {α : Type} (R : Rp α) (H : Hp) (d : Addr) (o : Obj) (ns : List Str) (cs : List α) : Prop := ∃ xs, H d = some (.frz o (.dK (kvz ns xs))) ∧ xs.length = ns.length ∧ Ev R H xs cs
theorem DcF.get {α : Type} {R : Rp α} {H : Hp} {d : Addr} {o : Obj} {ns : List Str} {cs : List α} {n : Str} (h : DcF R H d o ns cs) (hn : n ∈ ns) : ∃ (i : Nat) (x : V) (c : α), ns[i]? = some n ∧ cs[i]? = some c ∧ R H x c ∧ DGet H d (.str n) (some x) := by
  obtain ⟨xs, e, l, v⟩ := h
  rcases valV_kvz ns xs n l with ⟨h1, _⟩ | ⟨i, h1, h2, x, h3⟩
  · exact absurd hn h1
  · obtain ⟨c, hc, r⟩ := v.at h3
    have q : DGet H d (kV (Sum.inr n)) (valV (kvz ns xs) (Sum.inr n)) := .inl ⟨_, _, .inr ⟨o, e⟩, rfl, rfl⟩
    rw [h2, h3] at q
    exact ⟨i, x, c, h1, hc, r, q⟩
end Wh
set_option Elab.async false
set_option linter.all false
set_option maxRecDepth 100000
set_option maxHeartbeats 4000000
/-! name = {k: v for ..} on one line, the name a local. -/
namespace L2
open PySem PySem.Spec PyProof.Rows
variable {X : Cx}
theorem ps_setDc {i : Nat} {y : Str} {py : Pos} {kx vx tg iter : Expr} {ifs : List Expr} {scope : Scope} {own : List (Str × Nat)} {pos spos : Pos} {wi : TI} {g : TG} {tt : TT} {tk tv : TE} (hc : X.calm = true) (hN : X.N.Nodup) (hy : X.N[i]? = some y) (hyl : X.env.scope.names.lookup y = some .local)
    (hsw : swapsWith (.DictComp kx vx [⟨tg, iter, ifs, 0⟩] scope pos) (some (.Name y py)) spos.line X.env = pure true) (hi : PI X tg iter wi) (ok : BlkOk X.N X.env.scope scope own)
    (hg : ∀ (s : Shared) (H : Hp) (C : Addr) (cl : List (Str × Addr)) (fp : List Addr), PG (X.blk s H scope (compEnvC scope cl C X.env) fp) tg g) (ht : ∀ (s : Shared) (H : Hp) (C : Addr) (cl : List (Str × Addr)) (fp : List Addr), PTs (X.blk s H scope (compEnvC scope cl C X.env) fp) ifs tt)
    (hk : ∀ (s : Shared) (H : Hp) (C : Addr) (cl : List (Str × Addr)) (fp : List Addr), PE (X.blk s H scope (compEnvC scope cl C X.env) fp) kx tk)
    (he : ∀ (s : Shared) (H : Hp) (C : Addr) (cl : List (Str × Addr)) (fp : List Addr), PE (X.blk s H scope (compEnvC scope cl C X.env) fp) vx tv) (hs : ∀ x, foldedSetIterable iter X.env x = pure x := by intro _; rfl) :
    PS X (.Assign [.Name y py] (.DictComp kx vx [⟨tg, iter, ifs, 0⟩] scope pos) spos) (tAsg (tDc wi g tt tk tv (own.map (·.2))) (gName i)) := by
  refine ⟨fun pins s σ H D I h => ?_⟩
  rw [exec_Assign_Name_used _ _ _ _ hsw]
  refine wpAny_bind (wpAny_standAt (wpAny_bind ?_))
  show wpAny _ X.A (do let _ ← comprehension (.DictComp kx vx [⟨tg, iter, ifs, 0⟩] scope pos) scope X.env (firstIterPos [⟨tg, iter, ifs, 0⟩] pos) newDict false (eval iter X.env) (some (assign (.Name y py) X.env))) _ _ s
  have h : tDc wi g tt tk tv (own.map (·.2)) σ H (fun x H1 => gName i x σ H1 D.nx) := h
  refine wpAny_bind (thn (dc_core (Qf := fun _ s' => SP X pins D .next s') hc hN I hi ok hg ht hk he hs h fun L C s' m H' I' q hn f => ?_) fun _ s' hq => wpAny_pure (wpAny_pure hq))
  show wpAny _ _ (assign (.Name y py) X.env (.ref L)) _ _ _
  refine wpAny_assign_Name (store_ok2 (v := V.ref L) I' hN hy (.inl hyl) rfl (fun s2 I2 ⟨a, sb, ha⟩ => ?_) (.inr hyl))
  obtain ⟨f0, f1, f2, f3, f4, f5⟩ := f
  have haC : C ≠ a := by
    rcases ha with z | z
    · rw [z]; exact f1
    · exact fun e => f4 y a z e.symm
  refine ⟨m, hn.sameBut sb haC, fun h3 sb3 => ?_⟩
  exact ⟨_, H', I2.turned (t' := s2.toks) (fun b o hb e => (sb3.2 b hb).trans e) f0 f1 f3 f4 f5, q⟩
theorem sw_trueD {kx vx : Expr} {gs : List Comprehension} {scope : Scope} {pos py : Pos} {y : Str} {l : Nat} {env : Env} (hk : env.scope.kind = .function) (hy : env.scope.names.lookup y = some .local) (hl : (py.line == pos.line) = true)
    (ha : (scope.names.any fun (n, k) => n == y && (k == .local || k == .cell)) = false) : swapsWith (.DictComp kx vx gs scope pos) (some (.Name y py)) l env = pure true := by
  have ky : env.kindOf y = some .local := hy
  have hb : env.blockKind = .function := by unfold Env.blockKind; rw [hk]; rfl
  unfold swapsWith
  simp only [hb, ky, ha, Expr.pos, hl]
  rfl
end L2
set_option Elab.async false
set_option linter.all false
set_option maxRecDepth 100000
set_option maxHeartbeats 4000000
namespace Wh
open PySem PySem.Spec PyProof.Rows L2
open Wp hiding Same.refl Same.trans same_new boot_all
open W8 (Ev Rp Kp Mono same_new take_snoc rW rB mW mB ev_words ev_words_eq ev_bools_eq lc_sieve)
/-! ## things as they are given -/
structure Th where
  k : Str
  ns : List Str
  vs : List Wv
def rTh (K : PySem.W.Frag) : Rp Th := fun H v x => ∃ t d, v = .ref t ∧ SqT K H t [.str x.k, .ref d] ∧ Dc rWv H d x.ns x.vs
/-- a thing that a web may have: its fields by name, right values -/
structure ThOk (ks : List KD) (kn : List Str) (x : Th) : Prop where
  kd : ∃ y ∈ ks, y.n = x.k
  len : x.vs.length = x.ns.length
  nd : x.ns.Nodup
  few : x.ns.length ≤ 1000
  fit : ∀ y ∈ ks, y.n = x.k → ∀ (i : Nat) n v, x.ns[i]? = some n → x.vs[i]? = some v → ∃ g, fieldNamed (allF ks y) (.str n) = some g ∧ fitV (admB ks kn) kn.length g v = true
theorem boot_tdict : bootBuiltins "dict" = some (.type "dict") := by decide +kernel
theorem kit_tup {K : PySem.W.Frag} : PySem.W.kitOne K (.type "tuple") (.type "tuple") = some true := kit_ty (b := "tuple") (r := true) (by decide +kernel)
theorem kit_dct {K : PySem.W.Frag} : PySem.W.kitOne K (.type "dict") (.type "dict") = some true := kit_ty (b := "dict") (r := true) (by decide +kernel)
theorem named_mem {fs : List FV} {n : Str} {g : FV} (h : fieldNamed fs (.str n) = some g) : g ∈ fs ∧ g.n = n := by
  have h : (fs.find? fun g => decide (g.n = n)) = some g := h
  exact ⟨List.mem_of_find?_eq_some h, of_decide_eq_true (List.find?_some (p := fun g : FV => decide (g.n = n)) h)⟩
theorem kvz_at {ns : List Str} {xs : List V} {i : Nat} {n : Str} {x : V} (h1 : ns[i]? = some n) (h2 : xs[i]? = some x) : (kvz ns xs)[i]? = some (Sum.inr n, x) := by
  unfold kvz
  rw [List.getElem?_zipWith, h1, h2]
  rfl
theorem dF (K : PySem.W.Frag) (CF : Addr) : MonoD (rF K CF) := fun _ _ _ _ s => rF_stay (.kd s)
theorem Kd.dct2 {H : Hp} {D : Addr} {ys : List (Key × V)} {o : HO} (h : H D = some (.dK ys)) : Kd H (upd H D o) := fun b q n e => by
  rw [upd_ne fun z => by
    rw [z, h] at e
    exact n _ (Option.some.inj e).symm]
  exact e
theorem kvz_ne {ns ms : List Str} {xs ys : List V} (l : xs.length = ns.length) (l2 : ys.length = ms.length) (ne : ms ≠ []) (h : ∀ n ∈ ns, n ∉ ms) : kvz ns xs ≠ kvz ms ys := fun e => by
  cases ms with
  | nil => exact ne rfl
  | cons m ms =>
    cases ys with
    | nil => cases l2
    | cons y ys =>
      cases ns with
      | nil => cases xs <;> cases e
      | cons n ns =>
        cases xs with
        | nil => cases l
        | cons x xs =>
          have e1 := (List.cons.inj e).1
          have e2 : n = m := Sum.inr.inj (Prod.mk.inj e1).1
          exact h n List.mem_cons_self (by rw [e2]; exact List.mem_cons_self)
theorem HouseAt.frz {K : PySem.W.Frag} {CF CK CH : Addr} {H : Hp} {s d : Addr} {root : Str} {ks : List KD} {ns : List Str} {xs : List V} {o : HO} (h : HouseAt K CF CK CH H s root ks) (hd : H d = some (.dK (kvz ns xs))) (l : xs.length = ns.length) (off : ∀ n ∈ ns, n ∉ ks.map (·.n)) : HouseAt K CF CK CH (upd H d o) s root ks := by
  obtain ⟨⟨dx, tn, tk, d1, df, dl, dr, h1, h2, ⟨ys, h3, h3e⟩, h4, h5, h6, h7⟩, ok⟩ := h
  have sk := Kd.dct2 (o := o) hd
  have y : Stay H (upd H d o) := .kd sk
  have nn : ks.map (·.n) ≠ [] := fun e => by
    have := ok.n1
    rw [← List.length_map (f := fun x : KD => x.n), e] at this
    cases this
  have dk : ∀ {α : Type} {R : Rp α} {b : Addr} {cs : List α}, MonoD R → Dc R H b (ks.map (·.n)) cs → Dc R (upd H d o) b (ks.map (·.n)) cs := fun {α R b cs} m ⟨zs, e, lz, v⟩ => ⟨zs, by
    rw [upd_ne fun z => by
      rw [z, hd] at e
      exact kvz_ne l lz nn off (HO.dK.inj (Option.some.inj e))]
    exact e, lz, m.ev v sk⟩
  exact ⟨⟨dx, tn, tk, d1, df, dl, dr, y.i _ _ _ _ h1, y.sqT h2, ⟨ys, y.sqT h3, h3e.1, fun i x c a q => rK_stay y (h3e.2 i x c a q)⟩, dk (dK K CF CK) h4, dk (dTF K CF) h5, dk dL h6, dk dL h7⟩, ok⟩
section
variable {P : Program} {w : World} {K : PySem.W.Frag} {mg : Str → Option Value} {base : Heap} {CF CK CH CW : Addr}
abbrev sEk : Stmt := top 25
abbrev nEk : List Str := ["house", "entry"]
def spEk (K : PySem.W.Frag) (CF CK CH : Addr) : Sp := fun vs H Q _ => ∃ (s t : Addr) (y : V) (k root : Str) (ks : List KD), vs = [.ref s, .ref t] ∧ HouseAt K CF CK CH H s root ks ∧ SqT K H t [.str k, y] ∧ k ∈ ks.map (·.n) ∧ PyData.strOk k = true ∧ Q (.str k) H
theorem scEk : FnScope nEk ["house", "entry"] (defScope sEk) := ⟨rfl, rfl, rfl, by decide +kernel, rfl, by decide +kernel, by decide +kernel⟩
theorem ok_Ek {f f2 : Addr} {fd fd2 : FuncData} (F : Fun K "_entry_kind" "_entry_kind" sEk f fd) (B : Bn mg) (HS : KMt P w K mg base CH CX0 1 "__contains__" nHas (spHas K CF CK CH) f2 fd2) (hasIn : PySem.W.findIn K (.ref CH) "__contains__" = some (some (.ref f2))) (hasFn : PySem.W.isFn K (.ref f2) = true) :
    FnOk P w K mg base CX0 2 f fd ["house", "entry"] (spEk K CF CK CH) := by
  refine F.ok scEk (fun vs H Q E h => ?_) (fun cdv A outer s0 H vs Q E hr h => ?_)
  · obtain ⟨s, t, y, k, root, ks, rfl, _⟩ := h
    rfl
  · obtain ⟨s, t, y, k, root, ks, rfl, ha, ht, mk, ok, q⟩ := h
    refine ⟨_, 
      (pss_cons (ps_if (PW.pt (pw_and (pt_val (pe_callB call_isi (by rfl) B.isi boot_isi (pa_cons (pv 1) (pa_cons (pe_bltn (v := .ty "tuple") (by rfl) B.tuple boot_ttuple rfl) pa_nil)))) (pw_and (pt_cmpR op_eq (pe_callB call_len_seq (by rfl) B.len PySem.boot_len (pa_cons (pv 1) pa_nil)) pe_int (nomark _)) (pw_and1 (pt_cmpR (op_ownIn HS.ok HS.bi pass0 hasIn hasFn (hr.mono (by decide))) (pe_ix ix_tup (pv 1) pe_int (fun _ _ => rfl)) (pv 0) (by rfl)))))) 
        (pss_one (ps_ret (pe_ix ix_tup (pv 1) pe_int (fun _ _ => rfl)))) pss_nil)
      (pss_one (ps_ret pe_non))), ?_⟩
    obtain ⟨dx, tn, tk, dd, df, dl, dr, hs, _⟩ := ha.ex
    refine ⟨_, rfl, .ref t, .ty "tuple", _, _, _, rfl, .ty "tuple", Wp.SqT.ty ht, kit_tup, _, rfl, iteT ?_⟩
    refine ⟨_, rfl, t, _, rfl, .inr ht, rfl, _, rfl, iteT ?_⟩
    refine ⟨_, rfl, t, _, _, _, rfl, rfl, ht, atI_nat (j := 0) rfl, _, rfl, s, dx, _, rfl, hs, s, .str k, .str k, root, ks, rfl, ha, .dat (.str _) (shaped_str ok), _, rfl, _, rfl, ?_⟩
    rw [show inHouse ks (.str k) = true from decide_eq_true mk]
    exact iteT ⟨_, rfl, t, _, _, _, rfl, rfl, ht, atI_nat (j := 0) rfl, q⟩
abbrev sIe : Stmt := top 28
abbrev nIe : List Str := ["house", "entry", "kinds", "kind", "fields", "name", "value", "field"]
def spIe (K : PySem.W.Frag) (CF CK CH : Addr) : Sp := fun vs H Q _ => ∃ (s lk : Addr) (v : V) (root : Str) (ks : List KD) (x : Th) (kn : List Str), vs = [.ref s, v, .ref lk] ∧ HouseAt K CF CK CH H s root ks ∧ rTh K H v x ∧ ThOk ks kn x ∧ H lk = some (.lst (kn.map V.str)) ∧ (∀ n ∈ kn, n ∈ ks.map (·.n)) ∧ (∀ y ∈ ks, ∀ g ∈ y.fs, RightF g) ∧ (∀ y ∈ ks, isKindName (.str y.n) = true) ∧
  ∀ H', Same H H' → Q (.bl true) H'
theorem scIe : FnScope nIe ["house", "entry", "kinds"] (defScope sIe) := ⟨rfl, rfl, rfl, by decide +kernel, rfl, by decide +kernel, by decide +kernel⟩
theorem ok_Ie {f f1 f2 f3 : Addr} {fd fd1 fd2 fd3 : FuncData} (F : Fun K "_is_entry" "_is_entry" sIe f fd) (B : Bn mg) (HC : PlainC K CH houseAt) (CFc : PlainC K CF ["name", "mode", "target", "default", "was"]) (gD : mg "dict" = none) (EK : Known P w K mg base CX0 2 "_entry_kind" ["house", "entry"] (spEk K CF CK CH) f1 fd1)
    (CAN : Known P w K mg base CX0 4 "_can_hold" ["house", "field", "value", "kinds"] (spCh K CF CK CH) f2 fd2) (FO : KMt P w K mg base CH (L2N.CX P w) 4 "fields_of" nFo (spFo K CF CK CH) f3 fd3) : FnOk P w K mg base CX0 5 f fd ["house", "entry", "kinds"] (spIe K CF CK CH) := by
  refine F.ok scIe (fun vs H Q E h => ?_) (fun cdv A outer s0 H vs Q E hr h => ?_)
  · obtain ⟨s, lk, v, root, ks, x, kn, rfl, _⟩ := h
    rfl
  · obtain ⟨s, lk, v, root, ks, x, kn, rfl, ha, ⟨t, d, rfl, ht, hd⟩, th, hlk, hkn, rf, kk, k⟩ := h
    have hu := hu_of hr
    refine ⟨_, 
      (pss_cons (ps_set (i := 3) scIe.nd rfl (.inl rfl) (pe_call EK.ok (hr.mono (by decide)) rfl EK.mg EK.kp EK.bi .nil pass0 (pa_cons (pv 0) (pa_cons (pv 1) pa_nil))))
      (pss_cons (ps_if (PW.pt (pw_or (pt_cmp (pc_isN (pv 3))) (pw_or1 (pt_not (pt_val (pe_callB call_isi (by rfl) B.isi boot_isi (pa_cons (pe_ix ix_tup (pv 1) pe_int (fun _ _ => rfl)) (pa_cons (pe_bltn (v := .ty "dict") (by rfl) gD boot_tdict rfl) pa_nil)))))))) 
        (pss_one (ps_ret pe_bl)) pss_nil)
      (pss_cons (ps_setDc (i := 4) (own := [("field", 7)]) (g := gName 7) (tt := tYes) (tk := tFld K (tVar 7) "name") (tv := tVar 7) rfl scIe.nd rfl rfl (sw_trueD rfl rfl rfl (by decide +kernel)) (pi_list (pe_meth (pv 0) HC.cl FO.mt FO.ok (hr.mono (by decide)) FO.bi .nil passLN (pa_cons (pv 3) pa_nil))) (blkOk_by (N := nIe) (sc := defScope sIe) (by decide +kernel)) (fun _ _ _ _ _ => pg_name (i := 7) scIe.nd rfl (Or.inl rfl)) (fun _ _ _ _ _ => pts_nil) (fun _ _ _ _ _ => (pe_fld (pv 7) rfl)) (fun _ _ _ _ _ => (pv 7)))
      (pss_cons (ps_lock (ps_for PassesOwn.never rfl (pi_items (pe_ix ix_tup (pv 1) pe_int (fun _ _ => rfl))) (pg_tup rfl (pgs_cons (pg_name (i := 5) scIe.nd rfl (Or.inl rfl)) (pgs_cons (pg_name (i := 6) scIe.nd rfl (Or.inl rfl)) pgs_nil))) 
        (pss_one (ps_if (PW.pt (pw_or (pt_cmp (pc_dnotin hu (pv 5) (pv 4))) (pw_or1 (pt_not (pt_val (pe_call CAN.ok (hr.mono (by decide)) rfl CAN.mg CAN.kp CAN.bi .nil pass0 (pa_cons (pv 0) (pa_cons (pe_dget hu (pv 4) (pv 5) (fun _ _ => rfl)) (pa_cons (pv 6) (pa_cons (pv 2) pa_nil)))))))))) 
          (pss_one (ps_ret pe_bl)) pss_nil))))
      (pss_one (ps_ret pe_bl)))))), ?_⟩
    obtain ⟨xk, ns, ws⟩ := x
    obtain ⟨y0, my0, rfl⟩ := th.kd
    obtain ⟨xs, edd, lxs, evx⟩ := id hd
    have th_len : ws.length = ns.length := th.len
    have lxs : xs.length = ns.length := lxs
    have edd : H d = some (.dK (kvz ns xs)) := edd
    have evx : Ev rWv H xs ws := evx
    have kx := kk y0 my0
    obtain ⟨dx, tn, tk, dd, df, dl, dr, hs, _⟩ := ha.ex
    refine ⟨_, rfl, _, rfl, s, t, .ref d, y0.n, root, ks, rfl, ha, ht, List.mem_map_of_mem my0, (kind_ok kx).1, ?_⟩
    refine ⟨_, rfl, _, rfl, iteF ⟨_, rfl, t, _, _, _, rfl, rfl, ht, atI_nat (j := 1) rfl, .ref d, .ty "dict", _, _, _, rfl, .ty "dict", .base (.dK edd), kit_dct, _, rfl, iteF ?_⟩⟩
    have few := ha.ok.few my0
    have fnd := ha.ok.fnd my0
    refine ⟨_, rfl, s, dx, _, rfl, hs, rfl, _, rfl, s, root, ks, y0, rfl, ha, .dat (.str _) (shaped_str (kind_ok kx).1), my0, fun D H1 us s1 eD ev => ⟨D, rfl, ⟨us, SqL.of eD⟩, fun Fd hFd => ?_⟩⟩
    have hFd0 : H Fd = none := s1.free hFd
    refine dc_walk (mF K CF) (dF K CF) (fun _ => true) (·.n) id walk_list (by omega) (fun H' s9 => SqL.of (s9 _ _ eD)) hFd ev fnd (fun v c H2 Rq _ _ _ kk => kk _ (Same.refl _)) ?_ ?_
    · rintro v g H2 Rq _ _ s2 r kk
      obtain ⟨b, rfl, ⟨dy, tw, hb, _⟩, _⟩ := id r
      exact ⟨_, rfl, b, CF, dy, _, _, rfl, hb, CFc.cl, CFc.no _ (by simp), (lk_fs _ _ _ _ _).2.2.2.2, _, rfl, kk _ _ (Same.refl _) r⟩
    intro H2 s2 dcF
    rw [filter_all, List.map_id] at dcF
    have s12 := s1.trans s2
    have ed2 := s12 _ _ edd
    have fitAt : ∀ (i : Nat) n v, ns[i]? = some n → ws[i]? = some v → ∃ g, g ∈ allF ks y0 ∧ g.n = n ∧ fieldNamed (allF ks y0) (.str n) = some g ∧ fitV (admB ks kn) kn.length g v = true := fun i n v h1 h2 => by
      obtain ⟨g, hg, f⟩ := th.fit y0 my0 rfl i n v h1 h2
      exact ⟨g, (named_mem hg).1, (named_mem hg).2, hg, f⟩
    have right : ∀ g ∈ allF ks y0, RightF g := fun g mg => by
      obtain ⟨y9, my9, mg9⟩ := allF_mem my0 mg
      exact rf y9 my9 g mg9
    have off : ∀ n ∈ ns, n ∉ ks.map (·.n) := fun n hn m => by
      obtain ⟨i, hi, e⟩ := List.getElem_of_mem hn
      have hi2 : i < ws.length := by rw [th_len]; exact hi
      obtain ⟨g, mg, eg, _⟩ := fitAt i n ws[i] (by rw [List.getElem?_eq_getElem hi, e]) (List.getElem?_eq_getElem hi2)
      obtain ⟨z, mz, ez⟩ := List.mem_map.mp m
      exact field_kind (eg ▸ (right g mg).n) (ez ▸ kk z mz)
    have ha2 := ha.same s12
    have lit : ∀ (H' : Hp) (od : Obj), Same (upd H2 d (.frz od (.dK (kvz ns xs)))) H' → Same H (upd H' d (.dK (kvz ns xs))) := fun H' od sm b o e => by
      by_cases eb : b = d
      · rw [eb] at e ⊢
        rw [edd] at e
        rw [upd_same]
        exact e
      · rw [upd_ne eb]
        refine sm _ _ ?_
        rw [upd_ne eb]
        exact s12 _ _ e
    refine ⟨d, _, ed2, trivial, fun od => ⟨_, rfl, t, [.str y0.n, .ref d], _, _, rfl, rfl, (Stay.kd (Kd.dct2 ed2)).sqT (s12.sqT ht), atI_nat (j := 1) rfl, d, od, kvz ns xs, rfl, upd_same, ?_⟩⟩
    have haF : HouseAt K CF CK CH (upd H2 d (.frz od (.dK (kvz ns xs)))) s root ks := ha2.frz ed2 lxs off
    have kdF : Kd H2 (upd H2 d (.frz od (.dK (kvz ns xs)))) := Kd.dct2 ed2
    refine for_it walk_items (fun i σ H' => ∃ v5 v6, σ = [some (.ref s), some (.ref t), some (.ref lk), some (.str y0.n), some (.ref Fd), v5, v6, none] ∧ Same (upd H2 d (.frz od (.dK (kvz ns xs)))) H') ⟨none, none, rfl, Same.refl _⟩ (fun i σ H' _ ⟨_, _, _, sm⟩ => sm _ _ upd_same) ?_ ?_
    · rintro i x σ H3 H4 hi ⟨v5, v6, rfl, s3⟩ ⟨T, a, b, rfl, hT, rfl, ea, eb⟩
      rw [kvz_length _ _ lxs] at hi
      have hn : ns[i]? = some ns[i] := List.getElem?_eq_getElem hi
      have hx : xs[i]? = some (xs[i]'(by omega)) := List.getElem?_eq_getElem (by omega)
      have hw : ws[i]? = some (ws[i]'(by omega)) := List.getElem?_eq_getElem (by omega)
      have rw0 := evx.2 i _ _ hx hw
      dsimp only at ea eb
      rw [kvz_at hn hx] at ea eb
      cases ea
      cases eb
      obtain ⟨g, mg, eg, hg, fit⟩ := fitAt i _ _ hn hw
      generalize ws[i]'(by omega) = wv at rw0 fit
      generalize xs[i]'(by omega) = xv at rw0
      generalize ns[i] = n at eg hg
      have sT := same_new (o := .tup [.str n, xv]) hT
      have s4 := s3.trans sT
      refine ⟨T, _, rfl, SqT.of upd_same, rfl, _, _, rfl, _, _, rfl, rfl, ?_⟩
      have ho : ∀ {b : Addr} {xs : List V}, H b = some (.lst xs) → (upd H3 T (.tup [.str n, xv])) b = some (.lst xs) := fun {b xs} e => s4 _ _ (kdF _ _ (fun _ z => by cases z) (s12 _ _ e))
      have dF4 : Dc (rF K CF) (upd H3 T (.tup [.str n, xv])) Fd ((allF ks y0).map (·.n)) (allF ks y0) := by
        have nFd : Fd ≠ d := fun e => by rw [e, edd] at hFd0; cases hFd0
        obtain ⟨zs, ez, lz, vz⟩ := dcF
        exact ⟨zs, s4 _ _ (by rw [upd_ne nFd]; exact ez), lz, (vz.1), fun i x c a b => rF_stay (Stay.kp (.of s4)) (rF_stay (.kd kdF) (vz.2 i x c a b))⟩
      have mn : n ∈ (allF ks y0).map (·.n) := eg ▸ List.mem_map_of_mem mg
      obtain ⟨q, fv, g2, hq1, hq2, rg, gt⟩ := dF4.get mn
      have eg2 : g2 = g := by
        have e1 := find_fv fnd hq2
        have e2 : g2.n = n := by rw [List.getElem?_map, hq2] at hq1; exact Option.some.inj hq1
        rw [e2] at e1
        exact Option.some.inj (e1.symm.trans hg)
      rw [eg2] at rg
      have rgm : g.m = "mark" ∨ g.m = "link" ∨ g.m = "list" := by
        rcases (right g mg).m with h | h
        · exact .inl h.1
        · exact .inr h.1
      have aim : AimOk ks g := ⟨fun sl => by
        obtain ⟨j, hj⟩ := HouseOk.at_mem my0
        have al := ha.ok.alone j y0 hj
        obtain ⟨tt, et, ht⟩ := al.aim g (by rw [ha.ok.all hj]; exact mg) sl
        exact ⟨tt, et, ht, ((right g mg).aim_ok tt et).1⟩⟩
      refine ⟨_, rfl, _, rfl, Fd, _, rfl, gt, _, rfl, iteF ?_⟩
      refine ⟨_, rfl, _, rfl, _, rfl, Fd, _, rfl, gt, _, rfl, _, rfl, s, lk, fv, xv, root, ks, g, wv, kn, rfl, haF.same s4, rg, aim, rWv_to (fun b l e => ho e) rw0, ho hlk, hkn, rgm, fit, fun H5 s5 => ⟨_, rfl, iteF ⟨_, _, rfl, s4.trans s5⟩⟩⟩
    · rintro σ H3 ⟨v5, v6, rfl, s3⟩
      exact ⟨s3 _ _ upd_same, k _ (lit H3 od s3)⟩
end
end Wh
set_option Elab.async false
set_option linter.all false
set_option maxRecDepth 100000
set_option maxHeartbeats 4000000
namespace Wh
open PySem PySem.Spec PyProof.Rows L2
open Wp hiding Same.refl Same.trans same_new boot_all
open W8 (Ev Rp Kp Mono same_new take_snoc rW rB mW mB ev_words ev_words_eq ev_bools_eq lc_sieve)
/-! ## all values of a thing -/
theorem look_at {ns : List Str} {ws : List Wv} (nd : ns.Nodup) {i : Nat} {n : Str} {c : Wv} (h1 : ns[i]? = some n) (h2 : ws[i]? = some c) : lookV ns ws n = some c := by
  unfold lookV
  induction ns generalizing ws i with
  | nil => simp at h1
  | cons m ns ih =>
    rw [List.nodup_cons] at nd
    cases ws with
    | nil => simp at h2
    | cons w ws =>
      cases i with
      | zero =>
        simp at h1 h2
        subst h1 h2
        simp
      | succ i =>
        have h1' : ns[i]? = some n := by simpa using h1
        have h2' : ws[i]? = some c := by simpa using h2
        have ne : ¬ m = n := fun e => nd.1 (by rw [e]; exact List.mem_of_getElem? h1')
        rw [List.zip_cons_cons, List.find?_cons, decide_eq_false ne]
        exact ih nd.2 h1' h2'
theorem look_no {ns : List Str} {ws : List Wv} {n : Str} (h : n ∉ ns) : lookV ns ws n = none := by
  unfold lookV
  rw [Option.map_eq_none_iff, List.find?_eq_none]
  rintro ⟨a, b⟩ hp e
  exact h ((of_decide_eq_true e : a = n) ▸ (List.of_mem_zip hp).1)
theorem Dc.look {H : Hp} {d : Addr} {ns : List Str} {ws : List Wv} (h : Dc rWv H d ns ws) (nd : ns.Nodup) (n : Str) : ∃ o, DGet H d (.str n) o ∧ ((lookV ns ws n = none ∧ o = none) ∨ ∃ v x, lookV ns ws n = some v ∧ o = some x ∧ rWv H x v) := by
  by_cases hn : n ∈ ns
  · obtain ⟨i, x, c, h1, h2, r, g⟩ := h.get hn
    exact ⟨_, g, .inr ⟨c, x, look_at nd h1 h2, rfl, r⟩⟩
  · exact ⟨_, h.no hn, .inl ⟨look_no hn, rfl⟩⟩
theorem Dc.isD {α : Type} {R : Rp α} {H : Hp} {d : Addr} {ns : List Str} {ws : List α} (h : Dc R H d ns ws) : IsD H d := by
  obtain ⟨xs, e, _⟩ := h
  exact .inl ⟨_, .inl e⟩
/-- a value whose list is new since H0 -/
def rWn (H0 : Hp) : Rp Wv := fun H v x => rWv H v x ∧ ∀ a, v = .ref a → H0 a = none
theorem dWn (H0 : Hp) : MonoD (rWn H0) := fun _ _ _ _ s h => ⟨dWv _ _ _ _ s h.1, h.2⟩
theorem Dc.old {H0 H : Hp} {d : Addr} {ns : List Str} {ws : List Wv} (h : Dc (rWn H0) H d ns ws) : Dc rWv H d ns ws := let ⟨xs, e, l, v⟩ := h; ⟨xs, e, l, v.1, fun i x c a b => (v.2 i x c a b).1⟩
theorem fit_iff {adm : Str → Nat → Bool} {n : Nat} {g : FV} {v : Wv} (h : fitV adm n g v = true) : (∃ l, v = .lst l) ↔ g.m = "list" := by
  have m2 : ("mark" : Str) ≠ "list" := by decide +kernel
  have m3 : ("link" : Str) ≠ "list" := by decide +kernel
  cases v with
  | non =>
    have : g.m = "link" := by simpa [fitV] using h
    exact ⟨fun ⟨l, e⟩ => (by cases e), fun e => absurd (this.symm.trans e) m3⟩
  | int i =>
    refine ⟨fun ⟨l, e⟩ => (by cases e), fun e => ?_⟩
    simp only [fitV] at h
    rw [if_neg (show ¬ g.m = "mark" by rw [e]; exact Ne.symm m2)] at h
    have : g.m = "link" := by
      simp only [Bool.and_eq_true, decide_eq_true_eq] at h
      exact h.1.1
    exact absurd (this.symm.trans e) m3
  | lst l =>
    simp only [fitV, Bool.and_eq_true, decide_eq_true_eq] at h
    exact ⟨fun _ => h.1.1, fun _ => ⟨l, rfl⟩⟩
section
variable {P : Program} {w : World} {K : PySem.W.Frag} {mg : Str → Option Value} {base : Heap} {CF CK CH : Addr}
abbrev sFv : Stmt := top 29
abbrev nFv : List Str := ["house", "kind", "given", "values", "field"]
def spFv (K : PySem.W.Frag) (CF CK CH : Addr) : Sp := fun vs H Q _ => ∃ (s d : Addr) (root : Str) (ks : List KD) (y : KD) (ns : List Str) (ws : List Wv), vs = [.ref s, .str y.n, .ref d] ∧ HouseAt K CF CK CH H s root ks ∧ y ∈ ks ∧ PyData.strOk y.n = true ∧ Dc rWv H d ns ws ∧ ns.Nodup ∧ (∀ g ∈ allF ks y, (g.m = "mark" ∨ g.m = "link" ∨ g.m = "list") ∧ (∀ v, lookV ns ws g.n = some v → ((∃ l, v = .lst l) ↔ g.m = "list"))) ∧
  ∀ (D : Addr) H', H D = none → Same H H' → Dc (rWn H) H' D ((allF ks y).map (·.n)) (fullV (allF ks y) ns ws) → Q (.ref D) H'
theorem scFv : FnScope nFv ["house", "kind", "given"] (defScope sFv) := ⟨rfl, rfl, rfl, by decide +kernel, rfl, by decide +kernel, by decide +kernel⟩
theorem ok_Fv {f f3 : Addr} {fd fd3 : FuncData} (F : Fun K "full_values" "full_values" sFv f fd) (B : Bn mg) (HC : PlainC K CH houseAt) (CFc : PlainC K CF ["name", "mode", "target", "default", "was"]) (FO : KMt P w K mg base CH (L2N.CX P w) 4 "fields_of" nFo (spFo K CF CK CH) f3 fd3) : FnOk P w K mg base CX0 5 f fd ["house", "kind", "given"] (spFv K CF CK CH) := by
  refine F.ok scFv (fun vs H Q E h => ?_) (fun cdv A outer s0 H vs Q E hr h => ?_)
  · obtain ⟨s, d, root, ks, y, ns, ws, rfl, _⟩ := h
    rfl
  · obtain ⟨s, d, root, ks, y, ns, ws, rfl, ha, my, ok, hd, nd, fm, k⟩ := h
    have hu := hu_of hr
    refine ⟨_, 
      (pss_cons (ps_set (i := 3) scFv.nd rfl (.inl rfl) pe_dnewK)
      (pss_cons (ps_for PassesOwn.never rfl (pi_list (pe_meth (pv 0) HC.cl FO.mt FO.ok (hr.mono (by decide)) FO.bi .nil passLN (pa_cons (pv 1) pa_nil))) (pg_name (i := 4) scFv.nd rfl (Or.inl rfl)) 
        (pss_one (ps_if (pt_cmpR op_eq (pe_fld (pv 4) rfl) pe_str (nomark _)) 
          (pss_one (ps_dput hu (pv 3) (pe_fld (pv 4) rfl) (pe_dget2 hu (pv 2) (pe_fld (pv 4) rfl) (pe_fld (pv 4) rfl) ⟨rfl, rfl, rfl, rfl⟩) rfl)) 
          (pss_one (ps_if (pt_cmpR op_eq (pe_fld (pv 4) rfl) pe_str (nomark _)) 
            (pss_one (ps_dput hu (pv 3) (pe_fld (pv 4) rfl) (pe_dget1 hu (pv 2) (pe_fld (pv 4) rfl) ⟨rfl, rfl, rfl, rfl⟩) rfl)) 
            (pss_one (ps_dput hu (pv 3) (pe_fld (pv 4) rfl) (pe_callTy call_list_of (by rfl) B.list PyProof.Rows.boot_list (pa_cons (pe_dget2 hu (pv 2) (pe_fld (pv 4) rfl) (pe_lst pa_nil) ⟨rfl, rfl, rfl, rfl⟩) pa_nil)) rfl)))))))
      (pss_one (ps_ret (pv 3))))), ?_⟩
    obtain ⟨dx, tn, tk, dd, df, dl, dr, hs, _⟩ := ha.ex
    have few := ha.ok.few my
    have fnd := ha.ok.fnd my
    intro Vd hVd
    have sV := same_new (o := .dK []) hVd
    refine ⟨_, rfl, s, dx, _, rfl, sV _ _ hs, rfl, _, rfl, s, root, ks, y, rfl, ha.same sV, .dat (.str _) (shaped_str ok), my, fun D H1 us s1 eD ev => ⟨D, rfl, ⟨us, SqL.of eD⟩, ?_⟩⟩
    generalize allF ks y = gs at few fnd ev fm k
    refine for_it walk_list (fun j σ H' => ∃ v4, σ = [some (.ref s), some (.str y.n), some (.ref d), some (.ref Vd), v4] ∧ Same H H' ∧ H' D = some (.lst us) ∧ Ev (rF K CF) H' us gs ∧ Dc (rWn H) H' Vd ((gs.take j).map (·.n)) (fullV (gs.take j) ns ws))
      ⟨none, rfl, sV.trans s1, eD, ev, (Dc.nil (R := rWn H) upd_same).same (dWn H) s1⟩ (fun i σ H' _ ⟨_, _, _, e, _⟩ => SqL.of e) ?_ ?_
    · rintro j v σ _ H2 hj ⟨v4, rfl, s2, eD2, ev2, dc⟩ ⟨rfl, hv⟩
      obtain ⟨g, hg, b, rfl, ⟨dy, tw, hb, hw⟩, sh⟩ := ev2.at hv
      have mg := List.mem_of_getElem? hg
      obtain ⟨gm, gl⟩ := fm g mg
      have tk : gs.take (j + 1) = gs.take j ++ [g] := take_snoc hg
      have hn : g.n ∉ (gs.take j).map (·.n) := fun z => by
        obtain ⟨o, mo, eo⟩ := List.mem_map.mp z
        obtain ⟨q, hq, e⟩ := List.getElem_of_mem mo
        rw [List.length_take] at hq
        rw [List.getElem_take] at e
        have k1 : (gs.map (·.n))[q]? = some g.n := by rw [List.getElem?_map, List.getElem?_eq_getElem (by omega), e, ← eo]; rfl
        have k2 : (gs.map (·.n))[j]? = some g.n := by rw [List.getElem?_map, hg]; rfl
        have := (List.getElem?_inj (i := q) (j := j) (by rw [List.length_map]; omega) fnd).mp (k1.trans k2.symm)
        omega
      have fin : ∀ {H3 : Hp} {x : V}, Same H2 H3 → rWn H H3 x ((lookV ns ws g.n).getD (defV g)) → ∃ H4, DPut H3 Vd (.str g.n) x H4 ∧ ∃ v4, ([some (.ref s), some (.str y.n), some (.ref d), some (.ref Vd), some (.ref b)] : L2.St) = [some (.ref s), some (.str y.n), some (.ref d), some (.ref Vd), v4] ∧ Same H H4 ∧ H4 D = some (.lst us) ∧ Ev (rF K CF) H4 us gs ∧ Dc (rWn H) H4 Vd ((gs.take (j + 1)).map (·.n)) (fullV (gs.take (j + 1)) ns ws) := fun {H3 x} s3 rx => by
        have dc3 := dc.same (dWn H) s3
        have kd : ∀ {H4 : Hp}, (∀ b o, b ≠ Vd → H3 b = some o → H4 b = some o) → Kd H3 H4 := fun {H4} off b o no e => off b o (fun z => by
          obtain ⟨zs, ez, _⟩ := dc3
          rw [z, ez] at e
          exact no _ (Option.some.inj e).symm) e
        obtain ⟨H4, put, dc4, off⟩ := dc3.put (dWn H) hn (by rw [List.length_map, List.length_take]; omega) rx
        refine ⟨H4, put, _, rfl, fun b o e => off b o (ne_of_none e hVd) (s3 _ _ (s2 _ _ e)), kd off _ _ (fun _ z => by cases z) (s3 _ _ eD2), ?_, ?_⟩
        · exact ⟨ev2.1, fun i x c a q => rF_stay (.kd (kd off)) (rF_stay (.kp (.of s3)) (ev2.2 i x c a q))⟩
        · have e1 : fullV (gs.take (j + 1)) ns ws = fullV (gs.take j) ns ws ++ [(lookV ns ws g.n).getD (defV g)] := by
            rw [tk]
            unfold fullV
            rw [List.map_append]
            rfl
          rw [e1, tk, List.map_append]
          exact dc4
      have hd2 := hd.same dWv s2
      obtain ⟨o, gt, lo⟩ := hd2.look nd g.n
      have m1 : ("mark" : Str) ≠ "link" := by decide +kernel
      have m2 : ("mark" : Str) ≠ "list" := by decide +kernel
      have m3 : ("link" : Str) ≠ "list" := by decide +kernel
      refine ⟨_, rfl, b, CF, dy, _, _, rfl, hb, CFc.cl, CFc.no _ (by simp), (lk_fs _ _ _ _ _).2.2.2.1, rfl, _, rfl, ?_⟩
      rw [dec_s]
      rcases gm with gm | gm | gm
      · rw [decide_eq_true gm]
        obtain ⟨H4, put, nx⟩ := fin (x := o.getD (.int g.d)) (Same.refl _) (by
          rcases lo with ⟨l1, rfl⟩ | ⟨v, x, l1, rfl, r⟩
          · rw [l1]
            show rWn _ _ (.int g.d) (defV g)
            unfold defV
            rw [if_pos gm]
            exact ⟨rfl, fun a e => by cases e⟩
          · rw [l1]
            refine ⟨r, fun a e => ?_⟩
            have nl : ¬ ∃ l, v = .lst l := fun q => m2 (gm.symm.trans ((gl v l1).mp q))
            cases v with
            | non => cases r; cases e
            | int i => cases r; cases e
            | lst l => exact absurd ⟨l, rfl⟩ nl)
        exact iteT ⟨_, rfl, d, rfl, hd2.isD, _, rfl, b, CF, dy, _, _, rfl, hb, CFc.cl, CFc.no _ (by simp), (lk_fs _ _ _ _ _).2.2.2.2, _, rfl, b, CF, dy, _, _, rfl, hb, CFc.cl, CFc.no _ (by simp), (lk_fs _ _ _ _ _).2.1, o, gt, _, rfl, _, rfl, b, CF, dy, _, _, rfl, hb, CFc.cl, CFc.no _ (by simp), (lk_fs _ _ _ _ _).2.2.2.2, Vd, H4, rfl, put, nx⟩
      · rw [decide_eq_false (show ¬ g.m = "mark" by rw [gm]; exact Ne.symm m1)]
        refine iteF ⟨_, rfl, b, CF, dy, _, _, rfl, hb, CFc.cl, CFc.no _ (by simp), (lk_fs _ _ _ _ _).2.2.2.1, rfl, _, rfl, ?_⟩
        rw [dec_s, decide_eq_true gm]
        obtain ⟨H4, put, nx⟩ := fin (x := o.getD .non) (Same.refl _) (by
          rcases lo with ⟨l1, rfl⟩ | ⟨v, x, l1, rfl, r⟩
          · rw [l1]
            show rWn _ _ .non (defV g)
            unfold defV
            rw [if_neg (show ¬ g.m = "mark" by rw [gm]; exact Ne.symm m1), if_pos gm]
            exact ⟨rfl, fun a e => by cases e⟩
          · rw [l1]
            refine ⟨r, fun a e => ?_⟩
            have nl : ¬ ∃ l, v = .lst l := fun q => m3 (gm.symm.trans ((gl v l1).mp q))
            cases v with
            | non => cases r; cases e
            | int i => cases r; cases e
            | lst l => exact absurd ⟨l, rfl⟩ nl)
        exact iteT ⟨_, rfl, d, rfl, hd2.isD, _, rfl, b, CF, dy, _, _, rfl, hb, CFc.cl, CFc.no _ (by simp), (lk_fs _ _ _ _ _).2.2.2.2, o, gt, _, rfl, _, rfl, b, CF, dy, _, _, rfl, hb, CFc.cl, CFc.no _ (by simp), (lk_fs _ _ _ _ _).2.2.2.2, Vd, H4, rfl, put, nx⟩
      · rw [decide_eq_false (show ¬ g.m = "mark" by rw [gm]; exact Ne.symm m2)]
        refine iteF ⟨_, rfl, b, CF, dy, _, _, rfl, hb, CFc.cl, CFc.no _ (by simp), (lk_fs _ _ _ _ _).2.2.2.1, rfl, _, rfl, ?_⟩
        rw [dec_s, decide_eq_false (show ¬ g.m = "link" by rw [gm]; exact Ne.symm m3)]
        refine iteF ⟨_, rfl, d, rfl, hd2.isD, _, rfl, b, CF, dy, _, _, rfl, hb, CFc.cl, CFc.no _ (by simp), (lk_fs _ _ _ _ _).2.2.2.2, by show 0 ≤ sizeLine; decide, fun E0 hE => ?_⟩
        have sE := same_new (o := .lst []) hE
        have hb3 := sE _ _ hb
        obtain ⟨o3, gt3, lo3⟩ := (hd2.same dWv sE).look nd g.n
        obtain ⟨l, e1, e2⟩ : ∃ (l : List Int) (a : Addr), o3.getD (.ref E0) = .ref a ∧ (upd H2 E0 (.lst [])) a = some (.lst (l.map V.int)) ∧ (lookV ns ws g.n).getD (defV g) = .lst l := by
          rcases lo3 with ⟨l1, rfl⟩ | ⟨v, x, l1, rfl, r⟩
          · refine ⟨[], E0, rfl, upd_same, ?_⟩
            rw [l1]
            show defV g = _
            unfold defV
            rw [if_neg (show ¬ g.m = "mark" by rw [gm]; exact Ne.symm m2), if_neg (show ¬ g.m = "link" by rw [gm]; exact Ne.symm m3)]
          · obtain ⟨l, rfl⟩ := (gl v l1).mpr gm
            obtain ⟨a, rfl, ha⟩ := r
            exact ⟨l, a, rfl, ha, by rw [l1]; rfl⟩
        obtain ⟨e3, e4, e5⟩ := e2
        refine ⟨o3, gt3, e1, _, by rw [e3], .inl (SqL.of e4), fun L hL => ?_⟩
        have sL := same_new (o := .lst (l.map V.int)) hL
        obtain ⟨H4, put, nx⟩ := fin (H3 := upd (upd H2 E0 (.lst [])) L (.lst (l.map V.int))) (x := .ref L) (sE.trans sL) (by rw [e5]; exact ⟨⟨L, rfl, upd_same⟩, fun a e => by cases e; exact (s2.trans sE).free hL⟩)
        have hb := sL _ _ hb3
        exact ⟨_, rfl, _, rfl, b, CF, dy, _, _, rfl, hb, CFc.cl, CFc.no _ (by simp), (lk_fs _ _ _ _ _).2.2.2.2, Vd, H4, rfl, put, nx⟩
    · rintro σ H2 ⟨v4, rfl, s2, eD2, ev2, dc⟩
      have e : gs.take us.length = gs := by rw [ev.1]; exact List.take_length
      rw [e] at dc
      exact ⟨_, rfl, k Vd H2 hVd s2 dc⟩
end
end Wh
set_option Elab.async false
set_option linter.all false
set_option maxRecDepth 100000
set_option maxHeartbeats 4000000
namespace Wh
open PySem PySem.Spec PyProof.Rows L2
open Wp hiding Same.refl Same.trans same_new boot_all
open W8 (Ev Rp Kp Mono same_new take_snoc rW rB mW mB ev_words ev_words_eq ev_bools_eq lc_sieve)
/-! ## a web as it stands -/
theorem HouseAt.kh {K : PySem.W.Frag} {CF CK CH CW : Addr} {H H' : Hp} {s : Addr} {root : Str} {ks : List KD} (nF : CF ≠ CW) (nK : CK ≠ CW) (nH : CH ≠ CW) (y : Kh CW H H') (h : HouseAt K CF CK CH H s root ks) : HouseAt K CF CK CH H' s root ks := by
  obtain ⟨⟨dx, tn, tk, d1, df, dl, dr, h1, h2, ⟨ys, h3, h3e⟩, h4, h5, h6, h7⟩, ok⟩ := h
  exact ⟨⟨dx, tn, tk, d1, df, dl, dr, y _ _ (fun _ _ z => nH (by cases z; rfl)) h1, y.sqT h2, ⟨ys, y.sqT h3, h3e.1, fun i x c a q => rK_kh nF nK y (h3e.2 i x c a q)⟩, h4.kh (fun _ _ => rK_kh nF nK y) y, h5.kh (fun _ _ => rTF_kh nF y) y, h6.kh (fun _ _ => rL_kh y) y, h7.kh (fun _ _ => rL_kh y) y⟩, ok⟩
def ovV : Option Nat → V
  | none => .non
  | some i => .int (i : Nat)
def fsW (house here old kinds values : V) : List (Str × V) := [("house", house), ("here", here), ("old", old), ("_kinds", kinds), ("_values", values)]
abbrev webAt : List Str := ["house", "here", "old", "_kinds", "_values"]
def allN (ks : List KD) (k : Str) : List FV := ((atName ks k).map (allF ks)).getD []
/-- a thing with all its values -/
def fullT (ks : List KD) (x : Th) : Th := ⟨x.k, (allN ks x.k).map (·.n), fullV (allN ks x.k) x.ns x.vs⟩
def rVal : Rp Th := fun H v x => ∃ d, v = .ref d ∧ Dc rWv H d x.ns x.vs
structure WebAt (K : PySem.W.Frag) (CF CK CH CW : Addr) (H : Hp) (s hs : Addr) (root : Str) (ks : List KD) (here : Nat) (old : Option Nat) (ts : List Th) : Prop where
  ex : ∃ (dx lk lv : Addr) (us : List V), H s = some (.ins CW dx (fsW (.ref hs) (.int (here : Nat)) (ovV old) (.ref lk) (.ref lv))) ∧ H lk = some (.lst ((ts.map (·.k)).map V.str)) ∧ H lv = some (.lst us) ∧ Ev rVal H us ts
  house : HouseAt K CF CK CH H hs root ks
theorem lk_w (a b c d e : V) : List.lookup ("house" : Str) (fsW a b c d e) = some a ∧ List.lookup ("here" : Str) (fsW a b c d e) = some b ∧ List.lookup ("old" : Str) (fsW a b c d e) = some c ∧ List.lookup ("_kinds" : Str) (fsW a b c d e) = some d ∧ List.lookup ("_values" : Str) (fsW a b c d e) = some e := ⟨rfl, rfl, rfl, rfl, rfl⟩
theorem pw1 (a b : V) : putF "here" b ([("house", a)] : List (Str × V)) = ([("house", a), ("here", b)] : List (Str × V)) := rfl
theorem pw2 (a b c : V) : putF "old" c ([("house", a), ("here", b)] : List (Str × V)) = ([("house", a), ("here", b), ("old", c)] : List (Str × V)) := rfl
theorem pw3 (a b c d : V) : putF "_kinds" d ([("house", a), ("here", b), ("old", c)] : List (Str × V)) = ([("house", a), ("here", b), ("old", c), ("_kinds", d)] : List (Str × V)) := rfl
theorem pw4 (a b c d e : V) : putF "_values" e ([("house", a), ("here", b), ("old", c), ("_kinds", d)] : List (Str × V)) = fsW a b c d e := rfl
theorem rTh_kh {K : PySem.W.Frag} {CW : Addr} {H H' : Hp} {v : V} {x : Th} (y : Kh CW H H') (h : rTh K H v x) : rTh K H' v x := by
  obtain ⟨t, d, e, ht, hd⟩ := h
  exact ⟨t, d, e, y.sqT ht, hd.kh (fun _ _ r => rWv_to (fun b xs e => y _ _ (fun _ _ z => by cases z) e) r) y⟩
theorem rTh_same {K : PySem.W.Frag} {H H' : Hp} {v : V} {x : Th} (y : Same H H') (h : rTh K H v x) : rTh K H' v x := by
  obtain ⟨t, d, e, ht, hd⟩ := h
  exact ⟨t, d, e, y.sqT ht, hd.same dWv y⟩
theorem ev_thk {K : PySem.W.Frag} {CW : Addr} {H H' : Hp} {us : List V} {ts : List Th} (y : Kh CW H H') (h : Ev (rTh K) H us ts) : Ev (rTh K) H' us ts := ⟨h.1, fun i u c a b => rTh_kh y (h.2 i u c a b)⟩
theorem ev_ths {K : PySem.W.Frag} {H H' : Hp} {us : List V} {ts : List Th} (y : Same H H') (h : Ev (rTh K) H us ts) : Ev (rTh K) H' us ts := ⟨h.1, fun i u c a b => rTh_same y (h.2 i u c a b)⟩
def rTk (K : PySem.W.Frag) : Rp Th := fun H v x => ∃ t d, v = .ref t ∧ SqT K H t [.str x.k, .ref d]
theorem mTk (K : PySem.W.Frag) : Mono (rTk K) := fun _ _ _ _ s ⟨t, d, e, h⟩ => ⟨t, d, e, (Stay.kp s).sqT h⟩
theorem ev_tk {K : PySem.W.Frag} {H : Hp} {us : List V} {ts : List Th} (h : Ev (rTh K) H us ts) : Ev (rTk K) H us ts := ⟨h.1, fun i u c a b => let ⟨t, d, e, ht, _⟩ := h.2 i u c a b; ⟨t, d, e, ht⟩⟩
theorem look_some {ns : List Str} {ws : List Wv} {n : Str} {v : Wv} (h : lookV ns ws n = some v) : ∃ i : Nat, ns[i]? = some n ∧ ws[i]? = some v := by
  unfold lookV at h
  obtain ⟨⟨a, b⟩, hp, rfl⟩ := Option.map_eq_some_iff.mp h
  have ea : a = n := of_decide_eq_true (List.find?_some (p := fun p : Str × Wv => decide (p.1 = n)) hp)
  obtain ⟨i, hi, e⟩ := List.getElem_of_mem (List.mem_of_find?_eq_some hp)
  rw [List.getElem_zip] at e
  have l1 : i < ns.length := by rw [List.length_zip] at hi; omega
  have l2 : i < ws.length := by rw [List.length_zip] at hi; omega
  refine ⟨i, ?_, ?_⟩
  · rw [List.getElem?_eq_getElem l1]
    exact congrArg some ((Prod.mk.inj e).1.trans ea)
  · rw [List.getElem?_eq_getElem l2]
    exact congrArg some (Prod.mk.inj e).2
theorem ThOk.iff {ks : List KD} {kn : List Str} {x : Th} {root : Str} (h : ThOk ks kn x) (ok : HouseOk root ks) {y : KD} (my : y ∈ ks) (ey : y.n = x.k) {g : FV} (mg : g ∈ allF ks y) : ∀ v, lookV x.ns x.vs g.n = some v → ((∃ l, v = .lst l) ↔ g.m = "list") := fun v hv => by
  obtain ⟨i, h1, h2⟩ := look_some hv
  obtain ⟨g2, hg, fit⟩ := h.fit y my ey i g.n v h1 h2
  obtain ⟨j, hj, e⟩ := List.getElem_of_mem mg
  have e1 := find_fv (ok.fnd my) (i := j) (g := g) (by rw [List.getElem?_eq_getElem hj, e])
  have e2 : g2 = g := Option.some.inj (hg.symm.trans e1)
  exact e2 ▸ fit_iff fit
theorem Kh.same_of {C s dx : Addr} {H H' : Hp} {fs : List (Str × V)} (hs : H s = some (.ins C dx fs)) (b : Wp.But s H H') : Kh C H H' := fun q o n e => b q o (fun z => by
  rw [z, hs] at e
  exact n _ _ (Option.some.inj e).symm) e
theorem rVal_old {H : Hp} {Dv d : Addr} {ys ys' : List V} {r : List V} {v : V} {x : Th} (e : H Dv = some (.lst ys)) (nr : ys = .ref d :: r) (h : rVal H v x) : rVal (upd H Dv (.lst ys')) v x := by
  obtain ⟨b, rfl, xs, e2, l, ev⟩ := h
  refine ⟨b, rfl, xs, ?_, l, ev.1, fun i u c a q => ?_⟩
  · rw [upd_ne fun z => by rw [z, e] at e2; cases e2]
    exact e2
  · have := ev.2 i u c a q
    cases c with
    | non => exact this
    | int i => exact this
    | lst l =>
      obtain ⟨a, ea, ha⟩ := this
      refine ⟨a, ea, ?_⟩
      rw [upd_ne fun z => by
        rw [z, e, nr] at ha
        cases l <;> cases ha]
      exact ha
theorem rVal_new {H0 H : Hp} {Dv b : Addr} {ys ys' : List V} {o : HO} {x : Th} (e0 : H0 Dv = some o) (e : H Dv = some (.lst ys)) (h : Dc (rWn H0) H b x.ns x.vs) : rVal (upd H Dv (.lst ys')) (.ref b) x := by
  obtain ⟨xs, e2, l, ev⟩ := h
  refine ⟨b, rfl, xs, ?_, l, ev.1, fun i u c a q => ?_⟩
  · rw [upd_ne fun z => by rw [z, e] at e2; cases e2]
    exact e2
  · obtain ⟨h1, h2⟩ := ev.2 i u c a q
    cases c with
    | non => exact h1
    | int i => exact h1
    | lst l =>
      obtain ⟨a, ea, ha⟩ := h1
      refine ⟨a, ea, ?_⟩
      rw [upd_ne fun z => by
        have := h2 a ea
        rw [z, e0] at this
        cases this]
      exact ha
section
variable {P : Program} {w : World} {K : PySem.W.Frag} {mg : Str → Option Value} {base : Heap} {CF CK CH CW : Addr}
abbrev sWI : Stmt := meth 31 2
abbrev nWI : List Str := ["self", "house", "things", "here", "old", "kinds", "at", "entry", "kind", "given"]
structure ThingsOk (ks : List KD) (ts : List Th) : Prop where
  n1 : 1 ≤ ts.length
  few : ts.length ≤ 1000
  ok : ∀ x ∈ ts, ThOk ks (ts.map (·.k)) x
structure KindsOk (ks : List KD) : Prop where
  right : ∀ y ∈ ks, ∀ g ∈ y.fs, RightF g
  kn : ∀ y ∈ ks, isKindName (.str y.n) = true
def spWI (K : PySem.W.Frag) (CF CK CH CW : Addr) : Sp := fun vs H Q _ => ∃ (s dx hs l : Addr) (root : Str) (ks : List KD) (here : Nat) (old : Option Nat) (us : List V) (ts : List Th), vs = [.ref s, .ref hs, .ref l, .int (here : Nat), ovV old] ∧ H s = some (.ins CW dx []) ∧ HouseAt K CF CK CH H hs root ks ∧ KindsOk ks ∧ H l = some (.lst us) ∧ Ev (rTh K) H us ts ∧ ThingsOk ks ts ∧ here < ts.length ∧ (∀ i, old = some i → i < ts.length) ∧
  ∀ H', But s H H' → WebAt K CF CK CH CW H' s hs root ks here old (ts.map (fullT ks)) → Q .non H'
theorem scWI : FnScope nWI ["self", "house", "things", "here", "old"] (defScope sWI) := ⟨rfl, rfl, rfl, by decide +kernel, rfl, by decide +kernel, by decide +kernel⟩
theorem ok_WI {params : Arguments} {f f1 f2 f3 f4 : Addr} {fd fd1 fd2 fd3 fd4 : FuncData} {kws : List (Str × V)} {mc u4 : Value} (F : FunD K "__init__" "Web.__init__" params (defBody sWI) (defScope sWI) [] kws f fd) (B : Bn mg) (gE : mg "enumerate" = none) (WC : PlainC K CW webAt) (nF : CF ≠ CW) (nK : CK ≠ CW) (nH : CH ≠ CW) (gWb : mg "Web" = some (.ref CW)) (cr : ClX.CRead K CW mc) (cv : ClX.CVal K CW mc "THINGS" (.int 4000) u4)
    (EK : Known P w K mg base CX0 2 "_entry_kind" ["house", "entry"] (spEk K CF CK CH) f1 fd1) (IE : Known P w K mg base CX0 5 "_is_entry" ["house", "entry", "kinds"] (spIe K CF CK CH) f2 fd2) (IX : Known P w K mg base CX0 2 "is_index" ["value", "count"] spIx f3 fd3) (FV_ : Known P w K mg base CX0 5 "full_values" ["house", "kind", "given"] (spFv K CF CK CH) f4 fd4) :
    FnOk P w K mg base CX0 6 f fd ["self", "house", "things", "here", "old"] (spWI K CF CK CH CW) := by
  refine F.ok scWI (fun vs H Q E h => ?_) (fun cdv A outer s0 H vs Q E hr h => ?_)
  · obtain ⟨s, dx, hs, l, root, ks, here, old, us, ts, rfl, _⟩ := h
    rfl
  · obtain ⟨s, dx, hs, l, root, ks, here, old, us, ts, rfl, hS, ha, ko, hl, ev, to, hh, ho, k⟩ := h
    have hu := hu_of hr
    refine ⟨_, 
      (pss_cons (ps_if (PW.pt (pw_or (pt_not (pt_val (pe_callB call_isiT (by rfl) B.isi boot_isi (pa_cons (pv 2) (pa_cons (pe_tup (pa_cons (pe_bltn (v := .ty "list") (by rfl) B.list PyProof.Rows.boot_list rfl) (pa_cons (pe_bltn (v := .ty "tuple") (by rfl) B.tuple boot_ttuple rfl) pa_nil))) pa_nil))))) (pw_or1 (pt_not (pt_chain op_le op_le pe_int (pe_callB call_len_seq (by rfl) B.len PySem.boot_len (pa_cons (pv 2) pa_nil)) (ClX.pe_cval (pe_glob (v := .ref CW) (by rfl) gWb rfl))))))) 
        (pss_one ps_dead) pss_nil)
      (pss_cons (ps_setLc (i := 5) (own := [("entry", 7)]) (g := gName 7) (tt := tYes) (te := tCall (spEk K CF CK CH) [] E0 (tCons (tVar 1) (tCons (tVar 7) tNil))) rfl scWI.nd rfl rfl (sw_true rfl rfl rfl (by decide +kernel)) (pi_list (pv 2)) (blkOk_by (N := nWI) (sc := defScope sWI) (by decide +kernel)) (fun _ _ _ _ _ => pg_name (i := 7) scWI.nd rfl (Or.inl rfl)) (fun _ _ _ _ _ => pts_nil) (fun _ _ _ _ _ => (pe_call EK.ok (hr.mono (by decide)) rfl EK.mg EK.kp EK.bi .nil pass0 (pa_cons (pv 1) (pa_cons (pv 7) pa_nil)))))
      (pss_cons (ps_for PassesOwn.leaving rfl (pi_enum (by rfl) gE (pa_cons (pv 2) pa_nil)) (pg_tup rfl (pgs_cons (pg_name (i := 6) scWI.nd rfl (Or.inl rfl)) (pgs_cons (pg_name (i := 7) scWI.nd rfl (Or.inl rfl)) pgs_nil))) 
        (pss_one (ps_if (pt_not (pt_val (pe_call IE.ok (hr.mono (by decide)) rfl IE.mg IE.kp IE.bi .nil pass0 (pa_cons (pv 1) (pa_cons (pv 7) (pa_cons (pv 5) pa_nil)))))) 
          (pss_one ps_dead) pss_nil)))
      (pss_cut (ps_if (PW.pt (pw_or (pt_not (pt_val (pe_call IX.ok (hr.mono (by decide)) rfl IX.mg IX.kp IX.bi .nil pass0 (pa_cons (pv 3) (pa_cons (pe_callB call_len_seq (by rfl) B.len PySem.boot_len (pa_cons (pv 2) pa_nil)) pa_nil))))) (pw_or1 (pt_not (PW.pt (pw_or (pt_cmp (pc_isN (pv 4))) (pw_or1 (pt_val (pe_call IX.ok (hr.mono (by decide)) rfl IX.mg IX.kp IX.bi .nil pass0 (pa_cons (pv 4) (pa_cons (pe_callB call_len_seq (by rfl) B.len PySem.boot_len (pa_cons (pv 2) pa_nil)) pa_nil))))))))))) 
        (pss_one ps_dead) pss_nil)
      (pss_cons (ps_fld (pv 0) (pv 1) rfl)
      (pss_cons (ps_fld (pv 0) (pv 3) rfl)
      (pss_cons (ps_fld (pv 0) (pv 4) rfl)
      (pss_cons (ps_fld (pv 0) (pv 5) rfl)
      (pss_one (ps_fld (pv 0) (pe_lc (own := [("kind", 8), ("given", 9)]) (g := gTup K 2 (gCons (gName 8) (gCons (gName 9) gNil))) (tt := tYes) (te := tCall (spFv K CF CK CH) [] E0 (tCons (tVar 1) (tCons (tVar 8) (tCons (tVar 9) tNil)))) rfl scWI.nd (pi_list (pv 2)) (blkOk_by (N := nWI) (sc := defScope sWI) (by decide +kernel)) (fun _ _ _ _ _ => pg_tup rfl (pgs_cons (pg_name (i := 8) scWI.nd rfl (Or.inl rfl)) (pgs_cons (pg_name (i := 9) scWI.nd rfl (Or.inl rfl)) pgs_nil))) (fun _ _ _ _ _ => pts_nil) (fun _ _ _ _ _ => (pe_call FV_.ok (hr.mono (by decide)) rfl FV_.mg FV_.kp FV_.bi .nil pass0 (pa_cons (pv 1) (pa_cons (pv 8) (pa_cons (pv 9) pa_nil)))))) rfl)))))))))), ?_⟩
    have n4 : us.length = ts.length := ev.1
    have okn := to.n1
    have okf := to.few
    have kin : ∀ n ∈ ts.map (·.k), n ∈ ks.map (·.n) := fun n hn => by
      obtain ⟨x, mx, rfl⟩ := List.mem_map.mp hn
      obtain ⟨y, my, ey⟩ := (to.ok x mx).kd
      exact ey ▸ List.mem_map_of_mem my
    have kok : ∀ x ∈ ts, PyData.strOk x.k = true := fun x mx => by
      obtain ⟨y, my, ey⟩ := (to.ok x mx).kd
      exact ey ▸ (kind_ok (ko.kn y my)).1
    refine ⟨_, rfl, by show 2 ≤ sizeLine; decide, fun T hT => ?_⟩
    have sT := same_new (o := .tup [.ty "list", .ty "tuple"]) hT
    refine ⟨.ref l, T, [.ty "list", .ty "tuple"], _, [.type "list", .type "tuple"], _, rfl, upd_same, .cons (.ty _) (.cons (.ty _) .nil), Wp.SqL.ty (SqL.of (sT _ _ hl)), kit_seqv (.inl rfl), _, rfl, iteF ?_⟩
    have e1 : decide ((1 : Int) ≤ (us.length : Nat)) = true := decide_eq_true (by omega)
    have e2 : decide (((us.length : Nat) : Int) ≤ 4000) = true := decide_eq_true (by omega)
    refine ⟨_, rfl, l, us, rfl, .inl (SqL.of (sT _ _ hl)), _, _, rfl, rfl, _, rfl, ?_⟩
    rw [e1]
    refine iteT ⟨CW, _, _, _, rfl, cr, cv, _, _, rfl, rfl, _, rfl, ?_⟩
    rw [e2]
    refine iteF ?_
    have ha1 := ha.same sT
    have ev1 := ev_ths sT ev
    have hl1 := sT _ _ hl
    generalize upd H T (.tup [.ty "list", .ty "tuple"]) = H1 at sT ha1 ev1 hl1 ⊢
    refine ⟨_, rfl, l, rfl, ⟨us, SqL.of hl1⟩, fun lk hlk => ?_⟩
    refine lc_sieve (mTk K) mW (fun _ => true) (·.k) walk_list okf (fun H' s9 => SqL.of (s9 _ _ hl1)) hlk (ev_tk ev1) (fun v c H2 Rq _ _ _ kk => kk _ (Same.refl _)) ?_ ?_
    · rintro _ x H2 Rq mx _ s2 ⟨t, d, rfl, ht⟩ kk
      exact ⟨_, rfl, _, rfl, hs, t, .ref d, x.k, root, ks, rfl, ha1.same s2, ht, kin _ (List.mem_map_of_mem mx), kok x mx, kk _ _ (Same.refl _) rfl⟩
    intro H2 ws s2 hws ew
    rw [filter_all] at ew
    cases ev_words_eq ew
    have s02 := sT.trans s2
    refine ⟨_, rfl, l, us, rfl, SqL.of (s2 _ _ hl1), ?_⟩
    refine for_it walk_enum (fun i σ H' => ∃ v6 v7, σ = [some (.ref s), some (.ref hs), some (.ref l), some (.int (here : Nat)), some (ovV old), some (.ref lk), v6, v7, none, none] ∧ Same H2 H') ⟨none, none, rfl, Same.refl _⟩ (fun i σ H' _ ⟨_, _, _, sm⟩ => SqL.of (sm _ _ (s2 _ _ hl1))) ?_ ?_
    · rintro i v σ H3 H4 hi ⟨v6, v7, rfl, s3⟩ ⟨T2, a, b, rfl, hT2, rfl, ea, eb⟩
      cases ea
      have sT2 := same_new (o := .tup [.int (i : Nat), b]) hT2
      have s4 := s3.trans sT2
      obtain ⟨x, hx, r⟩ := ev.at eb
      have mx := List.mem_of_getElem? hx
      refine ⟨T2, _, rfl, SqT.of upd_same, rfl, _, _, rfl, _, _, rfl, rfl, ?_⟩
      refine ⟨_, rfl, _, rfl, _, rfl, hs, lk, b, root, ks, x, ts.map (·.k), rfl, ha.same (s02.trans s4), rTh_same (s02.trans s4) r, to.ok x mx, s4 _ _ hws, kin, ko.right, ko.kn, fun H5 s5 => ⟨_, rfl, iteF ⟨_, _, rfl, s4.trans s5⟩⟩⟩
    rintro σ H4 ⟨v6, v7, rfl, s4⟩
    have s24 := s02.trans s4
    have hl4 := s24 _ _ hl
    refine ⟨fun σ H' => σ = [some (.ref s), some (.ref hs), some (.ref l), some (.int (here : Nat)), some (ovV old), some (.ref lk), v6, v7, none, none] ∧ H' = H4, ?_, ?_⟩
    · refine ⟨_, rfl, _, rfl, l, us, rfl, .inl (SqL.of hl4), _, _, rfl, _, rfl, ?_⟩
      rw [show decide (0 ≤ ((here : Nat) : Int) ∧ ((here : Nat) : Int) < (us.length : Nat)) = true from decide_eq_true (by omega)]
      refine iteF ⟨_, rfl, _, rfl, ?_⟩
      cases old with
      | none => exact iteT (iteF ⟨rfl, rfl⟩)
      | some o =>
        have := ho o rfl
        refine iteF ⟨_, rfl, _, rfl, l, us, rfl, .inl (SqL.of hl4), _, _, rfl, _, rfl, ?_⟩
        rw [show decide (0 ≤ ((o : Nat) : Int) ∧ ((o : Nat) : Int) < (us.length : Nat)) = true from decide_eq_true (by omega)]
        exact iteF ⟨rfl, rfl⟩
    rintro _ H9 ⟨rfl, eH⟩
    obtain rfl := eH.symm
    have hS4 := s24 _ _ hS
    refine ⟨_, rfl, _, rfl, s, CW, dx, _, rfl, hS4, WC.cl, WC.no _ (by simp), (by show 0 < 1000; decide), ?_⟩
    refine ⟨_, rfl, _, rfl, s, CW, dx, _, rfl, upd_same, WC.cl, WC.no _ (by simp), (by show 1 < 1000; decide), ?_⟩
    refine ⟨_, rfl, _, rfl, s, CW, dx, _, rfl, upd_same, WC.cl, WC.no _ (by simp), (by show 2 < 1000; decide), ?_⟩
    refine ⟨_, rfl, _, rfl, s, CW, dx, _, rfl, upd_same, WC.cl, WC.no _ (by simp), (by show 3 < 1000; decide), ?_⟩
    rw [show putF "house" (V.ref hs) [] = ([("house", V.ref hs)] : List (Str × V)) from rfl, pw1, pw2, pw3, upd_upd, upd_upd, upd_upd]
    have b5 : But s H4 (upd H4 s (.ins CW dx [("house", .ref hs), ("here", .int (here : Nat)), ("old", ovV old), ("_kinds", .ref lk)])) := fun b o n e => by rw [upd_ne n]; exact e
    have hS5 : (upd H4 s (.ins CW dx [("house", .ref hs), ("here", .int (here : Nat)), ("old", ovV old), ("_kinds", .ref lk)])) s = some (.ins CW dx [("house", .ref hs), ("here", .int (here : Nat)), ("old", ovV old), ("_kinds", .ref lk)]) := upd_same
    generalize upd H4 s (.ins CW dx [("house", .ref hs), ("here", .int (here : Nat)), ("old", ovV old), ("_kinds", .ref lk)]) = H5 at b5 hS5 ⊢
    have y5 : Kh CW H4 H5 := Kh.same_of hS4 b5
    have ha5 := (ha.same s24).kh nF nK nH y5
    have ev5 := ev_thk y5 (ev_ths s24 ev)
    have hl5 : H5 l = some (.lst us) := y5 _ _ (fun _ _ z => by cases z) hl4
    have hlk5 : H5 lk = some (.lst ((ts.map (·.k)).map V.str)) := y5 _ _ (fun _ _ z => by cases z) (s4 _ _ hws)
    refine ⟨_, rfl, l, rfl, ⟨us, SqL.of hl5⟩, fun Dv hDv => ?_⟩
    refine lc_it walk_list (fun j H' => Same H5 H' ∧ ∃ ys, H' Dv = some (.lst ys) ∧ Ev rVal H' ys ((ts.take j).map (fullT ks))) ⟨same_new hDv, [], upd_same, Ev.nil⟩ (fun j H' _ q => SqL.of (q.1 _ _ hl5)) ?_ ?_
    · rintro j v H6 H7 hj ⟨s6, ys, eD, ey⟩ ⟨rfl, hv⟩
      obtain ⟨x, hx, t, d, rfl, ht, hd⟩ := ev5.at hv
      have mx := List.mem_of_getElem? hx
      have th := to.ok x mx
      obtain ⟨y, my, eyn⟩ := th.kd
      have ay : allN ks x.k = allF ks y := by
        unfold allN
        rw [← eyn, ha.ok.atN my]
        rfl
      refine ⟨t, _, rfl, s6.sqT ht, rfl, _, _, rfl, _, _, rfl, rfl, by simp [wipe, List.set_set], ?_⟩
      dsimp only [tYes]
      rw [if_pos rfl]
      refine ⟨_, rfl, _, rfl, _, rfl, hs, d, root, ks, y, x.ns, x.vs, by rw [eyn]; rfl, ha5.same s6, my, (kind_ok (ko.kn y my)).1, hd.same dWv s6, th.nd, fun g mg => ⟨?_, th.iff ha.ok my eyn mg⟩, fun D H8 hD s8 dc => ?_⟩
      · obtain ⟨y9, my9, mg9⟩ := allF_mem my mg
        rcases (ko.right y9 my9 g mg9).m with h | h
        · exact .inl h.1
        · exact .inr h.1
      have eD8 := s8 _ _ eD
      have ly : ys.length = j := by rw [ey.1, List.length_map, List.length_take]; omega
      have tk : ts.take (j + 1) = ts.take j ++ [x] := take_snoc hx
      have r8 : ∀ {v x}, rVal H7 v x → rVal H8 v x := fun {v x} ⟨b, e, h⟩ => ⟨b, e, h.same dWv s8⟩
      refine ⟨ys, eD8, by rw [ly, sizeLine_eq]; omega, (s6.trans s8).over hDv, ys ++ [.ref D], upd_same, ?_⟩
      rw [tk, List.map_append]
      refine ⟨by simp [ey.1], fun i u c h1 h2 => ?_⟩
      by_cases hi : i < ys.length
      · rw [List.getElem?_append_left hi] at h1
        rw [List.getElem?_append_left (by rw [← ey.1]; exact hi)] at h2
        cases ys with
        | nil => cases hi
        | cons y0 yr =>
          have l0 : 0 < ((ts.take j).map (fullT ks)).length := by rw [← ey.1]; exact Nat.zero_lt_succ _
          obtain ⟨d0, e0, _⟩ := ey.2 0 y0 _ rfl (List.getElem?_eq_getElem l0)
          exact rVal_old eD8 (by rw [e0]) (r8 (ey.2 i u c h1 h2))
      · have e2 : i = ys.length := by
          have := (List.getElem?_eq_some_iff.mp h1).1
          simp at this
          omega
        subst e2
        rw [List.getElem?_append_right (Nat.le_refl _), Nat.sub_self] at h1
        rw [ey.1, List.getElem?_append_right (Nat.le_refl _), Nat.sub_self] at h2
        cases h1
        cases h2
        refine rVal_new eD eD8 ?_
        show Dc (rWn H7) H8 D ((allN ks x.k).map (·.n)) (fullV (allN ks x.k) x.ns x.vs)
        rw [ay]
        exact dc
    · rintro H6 ⟨s6, ys, eD, ey⟩
      have e9 : ts.take us.length = ts := by rw [n4, List.take_length]
      rw [e9] at ey
      refine ⟨_, rfl, s, CW, dx, _, rfl, s6 _ _ hS5, WC.cl, WC.no _ (by simp), (by show 4 < 1000; decide), ?_⟩
      rw [pw4]
      have b6 : But s H6 (upd H6 s (.ins CW dx (fsW (.ref hs) (.int (here : Nat)) (ovV old) (.ref lk) (.ref Dv)))) := fun b o n e => by rw [upd_ne n]; exact e
      have y6 : Kh CW H6 (upd H6 s (.ins CW dx (fsW (.ref hs) (.int (here : Nat)) (ovV old) (.ref lk) (.ref Dv)))) := Kh.same_of (s6 _ _ hS5) b6
      refine k _ (fun b o n e => b6 _ _ n (s6 _ _ (b5 _ _ n (s24 _ _ e)))) ⟨⟨dx, lk, Dv, ys, upd_same, ?_, y6 _ _ (fun _ _ z => by cases z) eD, ?_⟩, (ha5.same s6).kh nF nK nH y6⟩
      · rw [show (ts.map (fullT ks)).map (fun x : Th => x.k) = ts.map (fun x : Th => x.k) by rw [List.map_map]; rfl]
        exact y6 _ _ (fun _ _ z => by cases z) (s6 _ _ hlk5)
      · exact ⟨ey.1, fun i x c a q => by
          obtain ⟨d, e, h⟩ := ey.2 i x c a q
          exact ⟨d, e, h.kh (fun _ _ r => rWv_to (fun b xs e => y6 _ _ (fun _ _ z => by cases z) e) r) y6⟩⟩
end
end Wh
set_option Elab.async false
set_option linter.all false
set_option maxRecDepth 100000
set_option maxHeartbeats 4000000
namespace Wh
open PySem PySem.Spec PyProof.Rows L2
open Wp hiding Same.refl Same.trans same_new boot_all
open W8 (Ev Rp Kp Mono same_new take_snoc rW rB mW mB ev_words ev_words_eq ev_bools_eq lc_sieve)
/-! ## a[b] by the class's own word -/
section
variable {X : Cx} {CX : CXT} {n : Nat} {C f : Addr} {fd : FuncData} {ps : List Str} {sp : Sp} {E : XK} {a b : Expr} {ta tb : TE} {pos : Pos}
def rIxO (C : Addr) (sp : Sp) (E : XK) : R2 := fun x y H Q => ∃ q dx fs, x = .ref q ∧ H q = some (.ins C dx fs) ∧ sp [.ref q, y] H Q E
theorem pe_ownIx (F : FnOk X.prog X.w X.K X.mg X.base CX n f fd ps sp) (hb : Binds X.K fd ps []) (hx : Passes CX X E) (hs : PySem.W.findIn X.K (.ref C) "__getitem__" = some (some (.ref f))) (hf : PySem.W.fnIn X.K f = true) (hfn : PySem.W.isFn X.K (.ref f) = true) (room : Room (n + 1) X.A)
    (ha : PE X a ta) (hi : PE X b tb) (hsl : ∀ q i, subscripted b true (.ref q) i = runValue (.builtin "lifetime.subscript" ⟨[.ref q, i], []⟩) := by intro _ _; with_unfolding_all rfl) : PE X (.Subscript a b pos) (tOp (rIxO C sp E) ta tb) := by
  refine ⟨fun pins s σ H Q I h => Subscript_ (binT ha hi I h fun v u s2 x y H2 I2 rx ry q => ?_)⟩
  obtain ⟨p, dx, fs, rfl, hp, q⟩ := q
  cases rx
  obtain ⟨ox, od, J⟩ : ∃ ox od, PySem.W.InstAt s2.heap p ox C od := by
    obtain ⟨mA, J, _⟩ := ins_get I2.hok hp
    obtain ⟨od, J, _⟩ := J.look
    exact ⟨_, od, J⟩
  obtain ⟨m, fr⟩ := I2.fr
  exact PySem.W.sub_K fr I2.ok.mod.kin J hs hf hfn (run_own F hb hx ((⟨room, rfl⟩ : Sub X (n + 1) X.A).in1).room ((⟨room, rfl⟩ : Sub X (n + 1) X.A).in1).fr I2 (ys := [.ref p, y]) (.cons (show L2.RelV (.ref p) (.ref p) from rfl) (.cons ry .nil)) q) (hsl _ _)
end
section
variable {P : Program} {w : World} {K : PySem.W.Frag} {mg : Str → Option Value} {base : Heap} {CF CK CH CW : Addr}
/-! ## a web is asked -/
abbrev sWl : Stmt := meth 31 4
abbrev nWl : List Str := ["self"]
/-- a dict that may be walked at the time -/
def DcG {α : Type} (R : Rp α) (H : Hp) (d : Addr) (ns : List Str) (cs : List α) : Prop := Dc R H d ns cs ∨ ∃ o, DcF R H d o ns cs
theorem DcG.get {α : Type} {R : Rp α} {H : Hp} {d : Addr} {ns : List Str} {cs : List α} {n : Str} (h : DcG R H d ns cs) (hn : n ∈ ns) : ∃ (i : Nat) (x : V) (c : α), ns[i]? = some n ∧ cs[i]? = some c ∧ R H x c ∧ DGet H d (.str n) (some x) := by
  rcases h with h | ⟨o, h⟩
  · exact h.get hn
  · exact h.get hn
theorem DcG.same {α : Type} {R : Rp α} {H H' : Hp} {d : Addr} {ns : List Str} {cs : List α} (m : MonoD R) (h : DcG R H d ns cs) (s : Same H H') : DcG R H' d ns cs := by
  rcases h with h | ⟨o, xs, e, l, v⟩
  · exact .inl (h.same m s)
  · exact .inr ⟨o, xs, s _ _ e, l, m.ev v (Kd.of s)⟩
def rValG : Rp Th := fun H v x => ∃ d, v = .ref d ∧ DcG rWv H d x.ns x.vs
/-- a web whose dicts may be walked at the time -/
structure WebG (K : PySem.W.Frag) (CF CK CH CW : Addr) (H : Hp) (s hs : Addr) (root : Str) (ks : List KD) (here : Nat) (old : Option Nat) (ts : List Th) : Prop where
  ex : ∃ (dx lk lv : Addr) (us : List V), H s = some (.ins CW dx (fsW (.ref hs) (.int (here : Nat)) (ovV old) (.ref lk) (.ref lv))) ∧ H lk = some (.lst ((ts.map (·.k)).map V.str)) ∧ H lv = some (.lst us) ∧ Ev rValG H us ts
theorem WebAt.gen {H : Hp} {s hs : Addr} {root : Str} {ks : List KD} {here : Nat} {old : Option Nat} {ts : List Th} (h : WebAt K CF CK CH CW H s hs root ks here old ts) : WebG K CF CK CH CW H s hs root ks here old ts := by
  obtain ⟨⟨dx, lk, lv, us, h1, h2, h3, h4⟩, _⟩ := h
  exact ⟨⟨dx, lk, lv, us, h1, h2, h3, h4.1, fun i u c a b => let ⟨d, e, q⟩ := h4.2 i u c a b; ⟨d, e, .inl q⟩⟩⟩
theorem WebG.same {H H' : Hp} {s hs : Addr} {root : Str} {ks : List KD} {here : Nat} {old : Option Nat} {ts : List Th} (h : WebG K CF CK CH CW H s hs root ks here old ts) (e : Same H H') : WebG K CF CK CH CW H' s hs root ks here old ts := by
  obtain ⟨dx, lk, lv, us, h1, h2, h3, h4⟩ := h
  exact ⟨⟨dx, lk, lv, us, e _ _ h1, e _ _ h2, e _ _ h3, h4.1, fun i u c a b => let ⟨d, ed, q⟩ := h4.2 i u c a b; ⟨d, ed, q.same dWv e⟩⟩⟩
theorem webG_vals {H : Hp} {ts : List Th} {us : List V} (ev : Ev rValG H us ts) {i : Nat} {x : Th} (hx : ts[i]? = some x) : ∃ d, us[i]? = some (.ref d) ∧ DcG rWv H d x.ns x.vs := by
  have hi : i < us.length := by rw [ev.1]; exact (List.getElem?_eq_some_iff.mp hx).1
  obtain ⟨d, e, h⟩ := ev.2 i _ x (List.getElem?_eq_getElem hi) hx
  exact ⟨d, by rw [List.getElem?_eq_getElem hi, e], h⟩
/-- a thing's values -/
theorem WebAt.vals {H : Hp} {s hs : Addr} {root : Str} {ks : List KD} {here : Nat} {old : Option Nat} {ts : List Th} {lv : Addr} {us : List V} (ev : Ev rVal H us ts) {i : Nat} {x : Th} (hx : ts[i]? = some x) : ∃ d, us[i]? = some (.ref d) ∧ Dc rWv H d x.ns x.vs := by
  have hi : i < us.length := by rw [ev.1]; exact (List.getElem?_eq_some_iff.mp hx).1
  obtain ⟨d, e, h⟩ := ev.2 i _ x (List.getElem?_eq_getElem hi) hx
  exact ⟨d, by rw [List.getElem?_eq_getElem hi, e], h⟩
def spWl (K : PySem.W.Frag) (CF CK CH CW : Addr) : Sp := fun vs H Q _ => ∃ (s hs : Addr) (root : Str) (ks : List KD) (here : Nat) (old : Option Nat) (ts : List Th), vs = [.ref s] ∧ WebG K CF CK CH CW H s hs root ks here old ts ∧ Q (.int (ts.length : Nat)) H
theorem scWl : FnScope nWl nWl (defScope sWl) := ⟨rfl, rfl, rfl, by decide +kernel, rfl, by decide +kernel, by decide +kernel⟩
theorem ok_Wl {f : Addr} {fd : FuncData} (F : Fun K "__len__" "Web.__len__" sWl f fd) (B : Bn mg) (WC : PlainC K CW webAt) : FnOk P w K mg base CX0 1 f fd nWl (spWl K CF CK CH CW) := by
  refine F.ok scWl (fun vs H Q E h => ?_) (fun cdv A outer s0 H vs Q E hr h => ?_)
  · obtain ⟨s, hs, root, ks, here, old, ts, rfl, _⟩ := h
    rfl
  · obtain ⟨s, hs, root, ks, here, old, ts, rfl, wa, k⟩ := h
    refine ⟨_, 
      (pss_one (ps_ret (pe_callB call_len_seq (by rfl) B.len PySem.boot_len (pa_cons (pe_fld (pv 0) rfl) pa_nil)))), ?_⟩
    obtain ⟨dx, lk, lv, us, h1, h2, h3, h4⟩ := wa.ex
    rw [show ((ts.length : Nat) : Int) = ((ts.map (·.k)).map V.str).length by rw [List.length_map, List.length_map]] at k
    exact ⟨_, rfl, s, CW, dx, _, _, rfl, h1, WC.cl, WC.no _ (by simp), (lk_w _ _ _ _ _).2.2.2.1, lk, _, rfl, .inl (SqL.of h2), k⟩
abbrev sWc : Stmt := meth 31 5
abbrev nWc : List Str := ["self", "x"]
def spWc (K : PySem.W.Frag) (CF CK CH CW : Addr) : Sp := fun vs H Q _ => ∃ (s hs : Addr) (i : Int) (root : Str) (ks : List KD) (here : Nat) (old : Option Nat) (ts : List Th), vs = [.ref s, .int i] ∧ WebG K CF CK CH CW H s hs root ks here old ts ∧ Q (.bl (decide (0 ≤ i ∧ i < (ts.length : Nat)))) H
theorem scWc : FnScope nWc nWc (defScope sWc) := ⟨rfl, rfl, rfl, by decide +kernel, rfl, by decide +kernel, by decide +kernel⟩
theorem ok_Wc {f f1 : Addr} {fd fd1 : FuncData} (F : Fun K "__contains__" "Web.__contains__" sWc f fd) (B : Bn mg) (WC : PlainC K CW webAt) (IX : Known P w K mg base CX0 2 "is_index" ["value", "count"] spIx f1 fd1) : FnOk P w K mg base CX0 3 f fd nWc (spWc K CF CK CH CW) := by
  refine F.ok scWc (fun vs H Q E h => ?_) (fun cdv A outer s0 H vs Q E hr h => ?_)
  · obtain ⟨s, hs, i, root, ks, here, old, ts, rfl, _⟩ := h
    rfl
  · obtain ⟨s, hs, i, root, ks, here, old, ts, rfl, wa, k⟩ := h
    refine ⟨_, 
      (pss_one (ps_ret (pe_call IX.ok (hr.mono (by decide)) rfl IX.mg IX.kp IX.bi .nil pass0 (pa_cons (pv 1) (pa_cons (pe_callB call_len_seq (by rfl) B.len PySem.boot_len (pa_cons (pe_fld (pv 0) rfl) pa_nil)) pa_nil))))), ?_⟩
    obtain ⟨dx, lk, lv, us, h1, h2, h3, h4⟩ := wa.ex
    rw [show ((ts.length : Nat) : Int) = ((ts.map (·.k)).map V.str).length by rw [List.length_map, List.length_map]] at k
    exact ⟨_, rfl, _, rfl, s, CW, dx, _, _, rfl, h1, WC.cl, WC.no _ (by simp), (lk_w _ _ _ _ _).2.2.2.1, lk, _, rfl, .inl (SqL.of h2), i, _, rfl, k⟩
abbrev sWk : Stmt := meth 31 8
abbrev nWk : List Str := ["self", "thing"]
def spWk (K : PySem.W.Frag) (CF CK CH CW : Addr) : Sp := fun vs H Q _ => ∃ (s hs : Addr) (i : Nat) (root : Str) (ks : List KD) (here : Nat) (old : Option Nat) (ts : List Th), vs = [.ref s, .int (i : Nat)] ∧ WebG K CF CK CH CW H s hs root ks here old ts ∧ i < ts.length ∧ Q .non H
theorem scWk : FnScope nWk nWk (defScope sWk) := ⟨rfl, rfl, rfl, by decide +kernel, rfl, by decide +kernel, by decide +kernel⟩
theorem ok_Wk {f f1 : Addr} {fd fd1 : FuncData} (F : Fun K "_check" "Web._check" sWk f fd) (HAS : KMt P w K mg base CW CX0 3 "__contains__" nWc (spWc K CF CK CH CW) f1 fd1) (hasIn : PySem.W.findIn K (.ref CW) "__contains__" = some (some (.ref f1))) (hasFn : PySem.W.isFn K (.ref f1) = true) : FnOk P w K mg base CX0 4 f fd nWk (spWk K CF CK CH CW) := by
  refine F.ok scWk (fun vs H Q E h => ?_) (fun cdv A outer s0 H vs Q E hr h => ?_)
  · obtain ⟨s, hs, i, root, ks, here, old, ts, rfl, _⟩ := h
    rfl
  · obtain ⟨s, hs, i, root, ks, here, old, ts, rfl, wa, hi, k⟩ := h
    refine ⟨_, 
      (pss_one (ps_if (pt_cmpR (op_ownNotIn HAS.ok HAS.bi pass0 hasIn hasFn (hr.mono (by decide))) (pv 1) (pv 0) (by rfl)) 
        (pss_one ps_dead) pss_nil)), ?_⟩
    obtain ⟨dx, lk, lv, us, h1, h2, h3, h4⟩ := wa.ex
    refine ⟨_, rfl, _, rfl, s, dx, _, rfl, h1, s, hs, i, root, ks, here, old, ts, rfl, wa, _, rfl, _, rfl, ?_⟩
    rw [show decide (0 ≤ ((i : Nat) : Int) ∧ ((i : Nat) : Int) < (ts.length : Nat)) = true from decide_eq_true (by omega)]
    exact iteF k
abbrev sWko : Stmt := meth 31 10
abbrev nWko : List Str := ["self", "thing"]
def spWko (K : PySem.W.Frag) (CF CK CH CW : Addr) : Sp := fun vs H Q _ => ∃ (s hs : Addr) (i : Nat) (root : Str) (ks : List KD) (here : Nat) (old : Option Nat) (ts : List Th) (x : Th), vs = [.ref s, .int (i : Nat)] ∧ WebG K CF CK CH CW H s hs root ks here old ts ∧ ts[i]? = some x ∧ Q (.str x.k) H
theorem scWko : FnScope nWko nWko (defScope sWko) := ⟨rfl, rfl, rfl, by decide +kernel, rfl, by decide +kernel, by decide +kernel⟩
theorem ok_Wko {f f1 : Addr} {fd fd1 : FuncData} (F : Fun K "kind_of" "Web.kind_of" sWko f fd) (WC : PlainC K CW webAt) (CKW : KMt P w K mg base CW CX0 4 "_check" nWk (spWk K CF CK CH CW) f1 fd1) : FnOk P w K mg base CX0 5 f fd nWko (spWko K CF CK CH CW) := by
  refine F.ok scWko (fun vs H Q E h => ?_) (fun cdv A outer s0 H vs Q E hr h => ?_)
  · obtain ⟨s, hs, i, root, ks, here, old, ts, x, rfl, _⟩ := h
    rfl
  · obtain ⟨s, hs, i, root, ks, here, old, ts, x, rfl, wa, hx, k⟩ := h
    refine ⟨_, 
      (pss_cons (ps_expr (pe_meth (pv 0) WC.cl CKW.mt CKW.ok (hr.mono (by decide)) CKW.bi .nil pass0 (pa_cons (pv 1) pa_nil)))
      (pss_one (ps_ret (pe_ix ix_list (pe_fld (pv 0) rfl) (pv 1) (fun _ _ => rfl))))), ?_⟩
    obtain ⟨dx, lk, lv, us, h1, h2, h3, h4⟩ := wa.ex
    have hi := (List.getElem?_eq_some_iff.mp hx).1
    refine ⟨_, rfl, s, dx, _, rfl, h1, rfl, _, rfl, s, hs, i, root, ks, here, old, ts, rfl, wa, hi, ?_⟩
    have hv : ((ts.map (·.k)).map V.str)[i]? = some (V.str x.k) := by rw [List.getElem?_map, List.getElem?_map, hx]; rfl
    exact ⟨_, rfl, s, CW, dx, _, _, rfl, h1, WC.cl, WC.no _ (by simp), (lk_w _ _ _ _ _).2.2.2.1, _, rfl, lk, _, _, _, rfl, rfl, SqL.of h2, atI_nat hv, k⟩
end
end Wh
set_option Elab.async false
set_option linter.all false
set_option maxRecDepth 100000
set_option maxHeartbeats 4000000
namespace Wh
open PySem PySem.Spec PyProof.Rows L2
open Wp hiding Same.refl Same.trans same_new boot_all
open W8 (Ev Rp Kp Mono same_new take_snoc rW rB mW mB ev_words ev_words_eq ev_bools_eq lc_sieve)
section
variable {P : Program} {w : World} {K : PySem.W.Frag} {mg : Str → Option Value} {base : Heap} {CF CK CH CW : Addr}
theorem kit_strs {K : PySem.W.Frag} : PySem.W.kitOne K (.type "str") (.type "str") = some true := kit_ty (b := "str") (r := true) (by decide +kernel)
theorem kit_lst {K : PySem.W.Frag} : PySem.W.kitOne K (.type "list") (.type "list") = some true := kit_ty (b := "list") (r := true) (by decide +kernel)
theorem kit_non {K : PySem.W.Frag} : PySem.W.kitOne K (.type "NoneType") (.type "list") = some false := kit_ty (b := "list") (r := false) (by decide +kernel)
theorem kit_ints {K : PySem.W.Frag} : PySem.W.kitOne K (.type "int") (.type "list") = some false := kit_ty (b := "list") (r := false) (by decide +kernel)
/-- a thing with all values, each in its place -/
structure FullT (ks : List KD) (x : Th) : Prop where
  ex : ∃ y ∈ ks, y.n = x.k ∧ x.ns = (allF ks y).map (·.n) ∧ x.vs.length = (allF ks y).length ∧ ∀ (j : Nat) g v, (allF ks y)[j]? = some g → x.vs[j]? = some v → ((∃ l, v = .lst l) ↔ g.m = "list")
theorem full_full {gs : List FV} (nd : (gs.map (·.n)).Nodup) {ws : List Wv} (l : ws.length = gs.length) : fullV gs (gs.map (·.n)) ws = ws := by
  unfold fullV
  apply List.ext_getElem (by simp [l])
  intro i h1 h2
  rw [List.length_map] at h1
  rw [List.getElem_map]
  have e1 : (gs.map (·.n))[i]? = some gs[i].n := by rw [List.getElem?_map, List.getElem?_eq_getElem h1]; rfl
  rw [look_at nd e1 (List.getElem?_eq_getElem h2)]
  rfl
abbrev sVa : Stmt := meth 31 9
abbrev nVa : List Str := ["self", "thing", "field"]
def spVa (K : PySem.W.Frag) (CF CK CH CW : Addr) : Sp := fun vs H Q _ => ∃ (s hs : Addr) (i j : Nat) (n root : Str) (ks : List KD) (here : Nat) (old : Option Nat) (ts : List Th) (x : Th) (v : Wv), vs = [.ref s, .int (i : Nat), .str n] ∧ WebG K CF CK CH CW H s hs root ks here old ts ∧ ts[i]? = some x ∧ x.ns.Nodup ∧ x.ns[j]? = some n ∧ x.vs[j]? = some v ∧ ∀ u, rWv H u v → Q u H
theorem scVa : FnScope nVa nVa (defScope sVa) := ⟨rfl, rfl, rfl, by decide +kernel, rfl, by decide +kernel, by decide +kernel⟩
theorem ok_Va {f f1 : Addr} {fd fd1 : FuncData} (F : Fun K "_value" "Web._value" sVa f fd) (B : Bn mg) (WC : PlainC K CW webAt) (CKW : KMt P w K mg base CW CX0 4 "_check" nWk (spWk K CF CK CH CW) f1 fd1) : FnOk P w K mg base CX0 5 f fd nVa (spVa K CF CK CH CW) := by
  refine F.ok scVa (fun vs H Q E h => ?_) (fun cdv A outer s0 H vs Q E hr h => ?_)
  · obtain ⟨s, hs, i, j, n, root, ks, here, old, ts, x, v, rfl, _⟩ := h
    rfl
  · obtain ⟨s, hs, i, j, n, root, ks, here, old, ts, x, v, rfl, wa, hx, nd, hn, hv, k⟩ := h
    have hu := hu_of hr
    refine ⟨_, 
      (pss_cons (ps_expr (pe_meth (pv 0) WC.cl CKW.mt CKW.ok (hr.mono (by decide)) CKW.bi .nil pass0 (pa_cons (pv 1) pa_nil)))
      (pss_cons (ps_if (PW.pt (pw_or (pt_not (pt_val (pe_callB call_isi (by rfl) B.isi boot_isi (pa_cons (pv 2) (pa_cons (pe_bltn (v := .ty "str") (by rfl) B.str boot_tstr rfl) pa_nil))))) (pw_or1 (pt_cmp (pc_dnotin hu (pv 2) (pe_ix ix_list (pe_fld (pv 0) rfl) (pv 1) (fun _ _ => rfl))))))) 
        (pss_one ps_dead) pss_nil)
      (pss_one (ps_ret (pe_dget hu (pe_ix ix_list (pe_fld (pv 0) rfl) (pv 1) (fun _ _ => rfl)) (pv 2) (fun _ _ => rfl)))))), ?_⟩
    obtain ⟨dx, lk, lv, us, h1, h2, h3, h4⟩ := wa.ex
    obtain ⟨d, hd, dc⟩ := webG_vals h4 hx
    have hi := (List.getElem?_eq_some_iff.mp hx).1
    obtain ⟨i2, u, c, e1, e2, r, g⟩ := dc.get (List.mem_of_getElem? hn)
    have ei : i2 = j := (List.getElem?_inj (List.getElem?_eq_some_iff.mp e1).1 nd).mp (e1.trans hn.symm)
    subst ei
    rw [hv] at e2
    cases e2
    refine ⟨_, rfl, s, dx, _, rfl, h1, rfl, _, rfl, s, hs, i, root, ks, here, old, ts, rfl, wa, hi, ?_⟩
    refine ⟨_, rfl, .str n, .ty "str", _, _, _, rfl, .ty "str", .base (.str n), kit_strs, _, rfl, iteF ?_⟩
    refine ⟨_, rfl, _, rfl, s, CW, dx, _, _, rfl, h1, WC.cl, WC.no _ (by simp), (lk_w _ _ _ _ _).2.2.2.2, _, rfl, lv, _, _, _, rfl, rfl, SqL.of h3, atI_nat hd, d, _, rfl, g, _, rfl, iteF ?_⟩
    exact ⟨_, rfl, s, CW, dx, _, _, rfl, h1, WC.cl, WC.no _ (by simp), (lk_w _ _ _ _ _).2.2.2.2, _, rfl, lv, _, _, _, rfl, rfl, SqL.of h3, atI_nat hd, _, rfl, d, _, rfl, g, k u r⟩
abbrev sGi : Stmt := meth 31 6
abbrev nGi : List Str := ["self", "at", "thing", "field", "value"]
def spGi (K : PySem.W.Frag) (CF CK CH CW : Addr) : Sp := fun vs H Q _ => ∃ (s hs T : Addr) (i j : Nat) (n root : Str) (ks : List KD) (here : Nat) (old : Option Nat) (ts : List Th) (x : Th) (v : Wv), vs = [.ref s, .ref T] ∧ SqT K H T [.int (i : Nat), .str n] ∧ WebG K CF CK CH CW H s hs root ks here old ts ∧ ts[i]? = some x ∧ x.ns.Nodup ∧ x.ns[j]? = some n ∧ x.vs[j]? = some v ∧ ∀ u H', Same H H' → rWn H H' u v → Q u H'
theorem scGi : FnScope nGi ["self", "at"] (defScope sGi) := ⟨rfl, rfl, rfl, by decide +kernel, rfl, by decide +kernel, by decide +kernel⟩
theorem ok_Gi {f f1 : Addr} {fd fd1 : FuncData} (F : Fun K "__getitem__" "Web.__getitem__" sGi f fd) (B : Bn mg) (WC : PlainC K CW webAt) (VAL : KMt P w K mg base CW CX0 5 "_value" nVa (spVa K CF CK CH CW) f1 fd1) : FnOk P w K mg base CX0 6 f fd ["self", "at"] (spGi K CF CK CH CW) := by
  refine F.ok scGi (fun vs H Q E h => ?_) (fun cdv A outer s0 H vs Q E hr h => ?_)
  · obtain ⟨s, hs, T, i, j, n, root, ks, here, old, ts, x, v, rfl, _⟩ := h
    rfl
  · obtain ⟨s, hs, T, i, j, n, root, ks, here, old, ts, x, v, rfl, hT, wa, hx, nd, hn, hv, k⟩ := h
    refine ⟨_, 
      (pss_cons (ps_asg (pv 1) (pg_tup rfl (pgs_cons (pg_name (i := 2) scGi.nd rfl (Or.inl rfl)) (pgs_cons (pg_name (i := 3) scGi.nd rfl (Or.inl rfl)) pgs_nil))))
      (pss_cons (ps_set (i := 4) scGi.nd rfl (.inl rfl) (pe_meth (pv 0) WC.cl VAL.mt VAL.ok (hr.mono (by decide)) VAL.bi .nil pass0 (pa_cons (pv 2) (pa_cons (pv 3) pa_nil))))
      (pss_one (ps_ret (pe_ifExp (pt_val (pe_callB call_isi (by rfl) B.isi boot_isi (pa_cons (pv 4) (pa_cons (pe_bltn (v := .ty "list") (by rfl) B.list PyProof.Rows.boot_list rfl) pa_nil)))) (pe_callTy call_list_of (by rfl) B.list PyProof.Rows.boot_list (pa_cons (pv 4) pa_nil)) (pv 4)))))), ?_⟩
    obtain ⟨dx, lk, lv, us, h1, h2, h3, h4⟩ := wa.ex
    refine ⟨_, rfl, T, _, rfl, hT, rfl, _, _, rfl, _, _, rfl, rfl, ?_⟩
    refine ⟨_, rfl, s, dx, _, rfl, h1, rfl, _, rfl, _, rfl, s, hs, i, j, n, root, ks, here, old, ts, x, v, rfl, wa, hx, nd, hn, hv, fun u r => ?_⟩
    cases v with
    | non =>
      cases r
      exact ⟨_, rfl, .non, .ty "list", _, _, _, rfl, .ty "list", .base .non, kit_non, _, rfl, iteF ⟨_, rfl, k _ H (Same.refl _) ⟨rfl, fun a e => by cases e⟩⟩⟩
    | int z =>
      cases r
      exact ⟨_, rfl, .int z, .ty "list", _, _, _, rfl, .ty "list", .base (.int z), kit_ints, _, rfl, iteF ⟨_, rfl, k _ H (Same.refl _) ⟨rfl, fun a e => by cases e⟩⟩⟩
    | lst l =>
      obtain ⟨a, rfl, ha⟩ := r
      refine ⟨_, rfl, .ref a, .ty "list", _, _, _, rfl, .ty "list", Wp.SqL.ty (SqL.of ha), kit_lst, _, rfl, iteT ⟨_, rfl, a, _, rfl, .inl (SqL.of ha), fun L hL => ?_⟩⟩
      exact k _ _ (same_new hL) ⟨⟨L, rfl, upd_same⟩, fun b e => by cases e; exact hL⟩
def rThN (K : PySem.W.Frag) (H0 : Hp) : Rp Th := fun H v x => ∃ t d, v = .ref t ∧ SqT K H t [.str x.k, .ref d] ∧ Dc (rWn H0) H d x.ns x.vs
theorem rWn_off {H0 H : Hp} {D : Addr} {o : HO} {ys ys' : List V} {v : V} {x : Wv} (e0 : H0 D = some o) (e : H D = some (.lst ys)) (h : rWn H0 H v x) : rWn H0 (upd H D (.lst ys')) v x := by
  obtain ⟨h1, h2⟩ := h
  refine ⟨?_, h2⟩
  cases x with
  | non => exact h1
  | int i => exact h1
  | lst l =>
    obtain ⟨a, ea, ha⟩ := h1
    refine ⟨a, ea, ?_⟩
    rw [upd_ne fun z => by
      have := h2 a ea
      rw [z, e0] at this
      cases this]
    exact ha
theorem rThN_off {H0 H : Hp} {D : Addr} {o : HO} {ys ys' : List V} {v : V} {x : Th} (e0 : H0 D = some o) (e : H D = some (.lst ys)) (h : rThN K H0 H v x) : rThN K H0 (upd H D (.lst ys')) v x := by
  obtain ⟨t, d, ev, ht, xs, e2, l, evx⟩ := h
  refine ⟨t, d, ev, (stay_lst e).sqT ht, xs, ?_, l, evx.1, fun i u c a q => rWn_off e0 e (evx.2 i u c a q)⟩
  rw [upd_ne fun z => by rw [z, e] at e2; cases e2]
  exact e2
theorem rThN_same {H0 H H' : Hp} {v : V} {x : Th} (s : Same H H') (h : rThN K H0 H v x) : rThN K H0 H' v x := let ⟨t, d, e, ht, hd⟩ := h; ⟨t, d, e, s.sqT ht, hd.same (dWn H0) s⟩
theorem rThN_le {H0 H1 H : Hp} {v : V} {x : Th} (s : Same H0 H1) (h : rThN K H1 H v x) : rThN K H0 H v x := let ⟨t, d, e, ht, xs, e2, l, ev⟩ := h; ⟨t, d, e, ht, xs, e2, l, ev.1, fun i u c a q => ⟨(ev.2 i u c a q).1, fun b eb => s.free ((ev.2 i u c a q).2 b eb)⟩⟩
theorem rThN.old {H0 H : Hp} {v : V} {x : Th} (h : rThN K H0 H v x) : rTh K H v x := let ⟨t, d, e, ht, hd⟩ := h; ⟨t, d, e, ht, hd.old⟩
abbrev sTs : Stmt := meth 31 11
abbrev nTs : List Str := ["self", "kind", "values"]
def spTs (K : PySem.W.Frag) (CF CK CH CW : Addr) : Sp := fun vs H Q _ => ∃ (s hs : Addr) (root : Str) (ks : List KD) (here : Nat) (old : Option Nat) (ts : List Th), vs = [.ref s] ∧ WebAt K CF CK CH CW H s hs root ks here old ts ∧ (∀ x ∈ ts, FullT ks x) ∧ KindsOk ks ∧ ts.length ≤ 1000 ∧
  ∀ (D : Addr) (us : List V) H', H D = none → Same H H' → H' D = some (.lst us) → Ev (rThN K H) H' us ts → Q (.ref D) H'
theorem scTs : FnScope nTs ["self"] (defScope sTs) := ⟨rfl, rfl, rfl, by decide +kernel, rfl, by decide +kernel, by decide +kernel⟩
theorem ok_Ts {f f1 : Addr} {fd fd1 : FuncData} (F : Fun K "things" "Web.things" sTs f fd) (B : Bn mg) (gZ : mg "zip" = none) (WC : PlainC K CW webAt) (FV_ : Known P w K mg base CX0 5 "full_values" ["house", "kind", "given"] (spFv K CF CK CH) f1 fd1) : FnOk P w K mg base CX0 6 f fd ["self"] (spTs K CF CK CH CW) := by
  refine F.ok scTs (fun vs H Q E h => ?_) (fun cdv A outer s0 H vs Q E hr h => ?_)
  · obtain ⟨s, hs, root, ks, here, old, ts, rfl, _⟩ := h
    rfl
  · obtain ⟨s, hs, root, ks, here, old, ts, rfl, wa, full, ko, few, k⟩ := h
    refine ⟨_, 
      (pss_one (ps_ret (pe_lc (own := [("kind", 1), ("values", 2)]) (g := gTup K 2 (gCons (gName 1) (gCons (gName 2) gNil))) (tt := tYes) (te := tTup (tCons (tVar 1) (tCons (tCall (spFv K CF CK CH) [] E0 (tCons (tFld K (tVar 0) "house") (tCons (tVar 1) (tCons (tVar 2) tNil)))) tNil))) rfl scTs.nd (pi_zip (by rfl) gZ (pa_cons (pe_fld (pv 0) rfl) (pa_cons (pe_fld (pv 0) rfl) pa_nil))) (blkOk_by (N := nTs) (sc := defScope sTs) (by decide +kernel)) (fun _ _ _ _ _ => pg_tup rfl (pgs_cons (pg_name (i := 1) scTs.nd rfl (Or.inl rfl)) (pgs_cons (pg_name (i := 2) scTs.nd rfl (Or.inl rfl)) pgs_nil))) (fun _ _ _ _ _ => pts_nil) (fun _ _ _ _ _ => (pe_tup (pa_cons (pv 1) (pa_cons (pe_call FV_.ok (hr.mono (by decide)) rfl FV_.mg FV_.kp FV_.bi .nil pass0 (pa_cons (pe_fld (pv 0) rfl) (pa_cons (pv 1) (pa_cons (pv 2) pa_nil)))) pa_nil))))))), ?_⟩
    obtain ⟨dx, lk, lv, us, h1, h2, h3, h4⟩ := wa.ex
    have lu : us.length = ts.length := h4.1
    refine ⟨_, rfl, s, CW, dx, _, _, rfl, h1, WC.cl, WC.no _ (by simp), (lk_w _ _ _ _ _).2.2.2.1, _, rfl, s, CW, dx, _, _, rfl, h1, WC.cl, WC.no _ (by simp), (lk_w _ _ _ _ _).2.2.2.2, lk, lv, _, us, rfl, SqL.of h2, SqL.of h3, fun D hD => ?_⟩
    have sD := same_new (o := .lst []) hD
    have e0 : (upd H D (.lst [])) D = some (.lst []) := upd_same
    have hmin : min ((ts.map (·.k)).map V.str).length us.length = ts.length := by rw [List.length_map, List.length_map, lu, Nat.min_self]
    refine lc_it (walk_zip hmin.symm) (fun j H' => Same (upd H D (.lst [])) (upd H' D (.lst [])) ∧ Same H H' ∧ ∃ zs, H' D = some (.lst zs) ∧ Ev (rThN K (upd H D (.lst []))) H' zs (ts.take j)) ⟨by rw [upd_upd]; exact Same.refl _, sD, [], upd_same, Ev.nil⟩ (fun j H' _ q => ⟨SqL.of (q.2.1 _ _ h2), SqL.of (q.2.1 _ _ h3)⟩) ?_ ?_
    · rintro j v H6 H7 hj ⟨s5, s6, zs, eD, ez⟩ ⟨T, a, b, rfl, hT, rfl, ea, eb⟩
      have hx : ts[j]? = some ts[j] := List.getElem?_eq_getElem hj
      have mx : ts[j] ∈ ts := List.getElem_mem hj
      generalize ts[j] = x at hx mx
      obtain ⟨d, hd, dc⟩ := WebAt.vals (root := root) (ks := ks) (here := here) (old := old) (s := s) (hs := hs) (lv := lv) h4 hx
      have ea : ((ts.map (·.k)).map V.str)[j]? = some a := ea
      have eb : us[j]? = some b := eb
      rw [List.getElem?_map, List.getElem?_map, hx] at ea
      rw [hd] at eb
      cases ea
      cases eb
      have sT := same_new (o := .tup [.str x.k, .ref d]) hT
      have s7 := s6.trans sT
      obtain ⟨y, my, ey, ens, lvs, iff⟩ := (full x mx).ex
      have ndy := wa.house.ok.fnd my
      refine ⟨T, _, rfl, SqT.of upd_same, rfl, _, _, rfl, _, _, rfl, rfl, rfl, ?_⟩
      dsimp only [tYes]
      rw [if_pos rfl]
      refine ⟨_, rfl, _, rfl, s, CW, dx, _, _, rfl, s7 _ _ h1, WC.cl, WC.no _ (by simp), (lk_w _ _ _ _ _).1, _, rfl, _, rfl, hs, d, root, ks, y, x.ns, x.vs, by rw [ey]; rfl, wa.house.same s7, my, (kind_ok (ko.kn y my)).1, dc.same dWv s7, by rw [ens]; exact ndy, fun g mg => ⟨?_, fun v hv => ?_⟩, fun D2 H8 hD2 s8 dc8 => ?_⟩
      · obtain ⟨y9, my9, mg9⟩ := allF_mem my mg
        rcases (ko.right y9 my9 g mg9).m with h | h
        · exact .inl h.1
        · exact .inr h.1
      · obtain ⟨q, hq1, hq2⟩ := look_some hv
        obtain ⟨q2, hq3, e3⟩ := List.getElem_of_mem mg
        have e4 : (allF ks y)[q2]? = some g := by rw [List.getElem?_eq_getElem hq3, e3]
        have e5 : x.ns[q2]? = some g.n := by rw [ens, List.getElem?_map, e4]; rfl
        have eq : q = q2 := (List.getElem?_inj (List.getElem?_eq_some_iff.mp hq1).1 (by rw [ens]; exact ndy)).mp (hq1.trans e5.symm)
        subst eq
        exact iff q g v e4 hq2
      refine ⟨by show 2 ≤ sizeLine; decide, fun T2 hT2 => ?_⟩
      have sT2 := same_new (o := .tup [.str x.k, .ref D2]) hT2
      have s9 := s8.trans sT2
      have s69 := sT.trans s9
      have lz : zs.length = j := by rw [ez.1, List.length_take]; omega
      have tk : ts.take (j + 1) = ts.take j ++ [x] := take_snoc hx
      have eD9 := s69 _ _ eD
      rw [ens, full_full ndy lvs] at dc8
      have new : rThN K (upd H D (.lst [])) _ (.ref T2) x := ⟨T2, D2, rfl, SqT.of upd_same, by
        rw [ens]
        obtain ⟨xs, q1, q2, q3⟩ := dc8.same (dWn _) sT2
        exact ⟨xs, q1, q2, q3.1, fun i u c a q => ⟨(q3.2 i u c a q).1, fun b eb => by
          have f7 := (q3.2 i u c a q).2 b eb
          by_cases ebd : b = D
          · rw [ebd] at f7
            have := sT _ _ eD
            rw [f7] at this
            cases this
          · rw [upd_ne ebd]
            exact s7.free f7⟩⟩⟩
      refine ⟨zs, eD9, by rw [lz, sizeLine_eq]; omega, fun b o e => ?_, (s6.trans s69).over hD, zs ++ [.ref T2], upd_same, ?_⟩
      · by_cases ebd : b = D
        · rw [ebd, upd_same] at e ⊢
          exact e
        · rw [upd_ne ebd] at e ⊢
          rw [upd_ne ebd]
          exact s69 _ _ (s6 _ _ e)
      · rw [tk]
        refine ⟨by simp [ez.1], fun i u c h1 h2 => ?_⟩
        by_cases hi : i < zs.length
        · rw [List.getElem?_append_left hi] at h1
          rw [List.getElem?_append_left (by rw [← ez.1]; exact hi)] at h2
          exact rThN_off e0 eD9 (rThN_same s69 (ez.2 i u c h1 h2))
        · have e2 : i = zs.length := by
            have := (List.getElem?_eq_some_iff.mp h1).1
            simp at this
            omega
          subst e2
          rw [List.getElem?_append_right (Nat.le_refl _), Nat.sub_self] at h1
          rw [ez.1, List.getElem?_append_right (Nat.le_refl _), Nat.sub_self] at h2
          cases h1
          cases h2
          exact rThN_off e0 eD9 new
    · rintro H6 ⟨s5, s6, zs, eD, ez⟩
      rw [List.take_length] at ez
      exact k D zs H6 hD s6 eD ⟨ez.1, fun i u c h1 h2 => rThN_le sD (ez.2 i u c h1 h2)⟩
end
end Wh
set_option Elab.async false
set_option linter.all false
set_option maxRecDepth 100000
set_option maxHeartbeats 4000000
/-! Two lists of own things that are equal item by item; how often a list of texts and Nones holds a text. -/
namespace Wp
open PySem PySem.Spec PyProof.Rows L2
open PySem.W (InstAt Looks findIn isFn mroIn notFirst)
open SeqAt
section
variable {X : Cx} {CX : CXT} {n : Nat} {C f : Addr} {fd : FuncData} {ps : List Str} {sp : Sp} {E : XK}
/-- xs == ys, two lists of own things, equal item by item -/
def rEqLO (K : PySem.W.Frag) (C : Addr) (sp : Sp) (E : XK) : R2 := fun x y H Q => ∃ (a b : Addr) (zs ts : List Addr), x = .ref a ∧ y = .ref b ∧ H a = some (.lst (zs.map V.ref)) ∧ H b = some (.lst (ts.map V.ref)) ∧ zs.length = ts.length ∧
  (∀ (i : Nat) z t, zs[i]? = some z → ts[i]? = some t → Answ K C sp E H z t true) ∧ Q (.bl true) H
theorem op_eqLO (F : FnOk X.prog X.w X.K X.mg X.base CX n f fd ps sp) (hb : Binds X.K fd ps []) (hx : Passes CX X E) (O : OwnEqual X.K C f) (hr : Room (n + 1) X.A) : OpR X (compareOp .Eq) (rEqLO X.K C sp E) := by
  rintro pins s σ H x y v u Q I rx ry ⟨a, b, zs, ts, rfl, rfl, ha, hb', hl, he, q⟩
  cases rx
  cases ry
  show wpAny _ _ (richCompare .Eq _ _) _ _ _
  refine GQ.rc_listG (N := zs.length) hr.units0 (fun _ s' => Inv X pins σ H s') (fun i s' I1 => ?_) (fun s' I1 => ⟨.bl true, H, I1, (show L2.RelV (.bl true) (.bool true) from rfl), q⟩) I
  obtain ⟨z, its, k, r, e⟩ := I1.hok a _ ha
  obtain ⟨z2, its2, k2, r2, e2⟩ := I1.hok b _ hb'
  have q1 := vals_refs r
  have q2 := vals_refs r2
  subst q1 q2
  refine ⟨_, _, k, k2, e, e2, by simp, by simp [hl], fun h1 h2 => ?_⟩
  have k1 : i < zs.length := by simpa using h1
  have k2 : i < ts.length := by simpa using h2
  have e1 : (zs.map Value.ref).toArray[i] = Value.ref zs[i] := by simp
  have e2 : (ts.map Value.ref).toArray[i] = Value.ref ts[i] := by simp
  rw [e1, e2]
  exact eqb_own F hb hx O ((⟨hr, rfl⟩ : Sub X (n + 1) X.A).in1) I1 (he i _ _ (List.getElem?_eq_getElem k1) (List.getElem?_eq_getElem k2))
end
section
variable {X : Cx}
def oT : Option Str → V
  | none => .non
  | some x => .str x
theorem eqs_gives {k : Str} {t : Tok} {A : Around} {s : Shared} : ∀ {us : List Value} {os : List (Option Str)}, Vals (os.map oT) us → ∀ y ∈ us, SeqAt.EqAt A s y (.str k t) (PyProof.Rows.isStrOf k y)
  | _, [], .nil => fun y hy => by cases hy
  | _, o :: os, .cons r h => fun y hy => by
    rcases List.mem_cons.mp hy with e | e
    · rw [e]
      have q := eqAt_V (A := A) (s := s) (x := .str k) (v := .str k t) r ⟨t, rfl⟩ (by cases o <;> rfl) rfl
      cases o with
      | none =>
        cases r
        exact q
      | some n =>
        obtain ⟨tn, rfl⟩ := r
        exact q
    · exact eqs_gives h y e
theorem eqs_count {k : Str} : ∀ {us : List Value} {os : List (Option Str)}, Vals (os.map oT) us → us.countP (PyProof.Rows.isStrOf k) = os.count (some k)
  | _, [], .nil => rfl
  | _, o :: os, .cons r h => by
    have ih := eqs_count (k := k) h
    rw [List.countP_cons, List.count_cons, ih]
    cases o with
    | none =>
      cases r
      rfl
    | some n =>
      obtain ⟨tn, rfl⟩ := r
      rfl
def rCntT (K : PySem.W.Frag) : V → List V → Hp → VK → Prop := fun x xs H Q => ∃ (p : Addr) (os : List (Option Str)) (k : Str), x = .ref p ∧ xs = [.str k] ∧ SqL K H p (os.map oT) ∧ Q (.int (os.count (some k) : Nat)) H
theorem mt_lcountT : MtR X "list.count" (rCntT X.K) := by
  intro pins s σ H x xs v us Q I rx rxs h
  obtain ⟨p, os, k, rfl, rfl, hs, q⟩ := h
  cases rx
  obtain ⟨u, rfl, ru⟩ := rxs.one
  obtain ⟨t, rfl⟩ := ru
  obtain ⟨its, rv, ⟨⟨cls, dd, data, sl⟩, n, ho, hc, hdn, hd⟩, hlen⟩ := I.list hs
  simp only at hc hd
  subst hc hd
  refine call_meets PySem.F.slot_list_count ⟨_, ho, rfl⟩ PySem.F.entry_list_count (PySem.F.args_list_count_2 _ _)
    (SeqAt.list_countAt p its.toArray n dd sl (.str k t) (PyProof.Rows.isStrOf k)) ⟨ho, fun y hy => eqs_gives rv y (by simpa using hy), ?_⟩
  have ec : its.toArray.toList.countP (PyProof.Rows.isStrOf k) = os.count (some k) := eqs_count rv
  refine ⟨.int (os.count (some k) : Nat), H, I.tok _, ⟨s.toks, ?_⟩, q⟩
  show Value.int ((its.toArray.toList.countP (PyProof.Rows.isStrOf k) : Nat) : Int) s.toks = Value.int ((os.count (some k) : Nat) : Int) s.toks
  rw [ec]
end
end Wp
set_option Elab.async false
set_option linter.all false
set_option maxRecDepth 100000
set_option maxHeartbeats 4000000
namespace Wq
open PySem PySem.Spec PyProof.Rows L2
/-! ## enumerate(tuple) -/
/-- the tuple at a as it stands at each turn, each item in a new pair -/
def IteT (K : PySem.W.Frag) (a : Addr) : It :=
  ⟨fun i H => ∃ (xs : List V) (x : V), SqT K H a xs ∧ xs[i]? = some x, fun i H v H' => ∃ T x, v = .ref T ∧ H T = none ∧ H' = upd H T (.tup [.int (i : Nat), x]) ∧ ∀ xs, SqT K H a xs → xs[i]? = some x, fun i H => ∃ xs : List V, SqT K H a xs ∧ xs.length = i⟩
theorem turn_enumT {P : Program} {w : World} {K : PySem.W.Frag} {elts : List Expr} {kk : Nat} {tpos : Pos} (a e it : Addr) (hae : a ≠ e) (hai : a ≠ it) :
    Turn P w K (.Tuple elts kk tpos) (IteT K a) [e, it] e (fun i h => (∃ old, IsEnum h e it ((i : Nat) : Int) old) ∧ h.IsTupleIter it a i ∧ e ≠ it) where
  mem := by simp
  obj := fun i h st b hb => by
    obtain ⟨⟨old, he⟩, ⟨o, ho, hc, hd⟩, _⟩ := st
    have e' : b = e ∨ b = it := by simpa using hb
    rcases e' with z | z
    · rw [z]; exact ⟨_, he, fun v q => nomatch q⟩
    · rw [z]; exact ⟨o, ho, fun v q => by rw [hd] at q; cases q⟩
  keep := fun i h h' st k => let ⟨⟨old, he⟩, hi, hne⟩ := st; ⟨⟨old, k e (by simp) _ he⟩, hi.at fun o q => k it (by simp) o q, hne⟩
  item := by
    intro X hP hw hK hc i pins s σ H E I hf st hg
    subst hP hw hK
    obtain ⟨⟨old, he⟩, hit, hne⟩ := st
    obtain ⟨xs, x, hq, hx⟩ := hg
    obtain ⟨its, rv, p, hz⟩ := I.tuple hq
    obtain ⟨u, hu, ru⟩ := rv.get hx
    have hel : e < s.heap.objs.size := Heap.lt_size he
    have hil : it < s.heap.objs.size := by obtain ⟨_, q, _⟩ := hit; exact Heap.lt_size q
    have hlt : i < its.toArray.size := by
      have : its.toArray[i]? = some u := by simpa using hu
      exact (Array.getElem?_eq_some_iff.mp this).1
    refine wpAny_pyNext_enum_itemC (c := (i : Int)) (Draws.tuple (prog := X.prog) (w := X.w) (A := X.A.in1) (show X.A.in1.handled = none from I.ok.hd hc) it a hai its.toArray) he ⟨hit, p⟩ hlt hne (by simp [hne, Ne.symm hae]) fun x1 h' tk hx1 ho hit' hT hsz hk => ?_
    have ex : x1 = u := by
      have q : its.toArray[i]? = some x1 := hx1
      have q2 : its.toArray[i]? = some u := by simpa using hu
      exact Option.some.inj (q.symm.trans q2)
    subst ex
    refine ⟨_, rfl, wpAny_letOwnedTupleGo_enum (s := { s with heap := h', toks := tk + 1 }) ho fun h'' he' sb => ?_⟩
    have hT2 : h''.get? s.heap.objs.size = some { cls := .type "tuple", data := .seq #[.int i tk, x1] } := (sb.2 _ (Nat.ne_of_gt hel)).trans hT
    have new : ObjOk X.prog X.w (upd H s.heap.objs.size (.tup [.int (i : Nat), x])) h'' s.heap.objs.size (.tup [.int (i : Nat), x]) :=
      ⟨by show 2 ≤ sizeLine; decide, [.int i tk, x1], .cons ⟨_, rfl⟩ (.cons ru .nil), ⟨_, hT2, rfl, _, rfl⟩⟩
    have I1 : Inv X pins σ (upd H s.heap.objs.size (.tup [.int (i : Nat), x])) { s with heap := h'', toks := tk + 1 } :=
      I.turnedNew (ch := [e, it]) (fun b ob hb q => (sb.2 b (fun z => hb (by simp [z]))).trans (hk b ob (fun z => hb (by simp [z])) (fun z => hb (by simp [z])) q)) hf (Nat.le_refl _) new
    refine ⟨.ref s.heap.objs.size, _, I1, rfl, ⟨_, x, rfl, I.hok.fresh (Nat.le_refl _), rfl, fun ys hy => by rw [I.tuple_inj hy hq]; exact hx⟩, ⟨⟨x1, ?_⟩, hit'.1.at fun o q => (sb.2 it (Ne.symm hne)).trans q, hne⟩, fun b hb => ?_⟩
    · have e1 : ((i + 1 : Nat) : Int) = (i : Int) + 1 := by omega
      rw [e1]; exact he'
    · have hb' : b < s.heap.objs.size := by
        have e' : b = e ∨ b = it := by simpa using hb
        rcases e' with z | z
        · rw [z]; exact hel
        · rw [z]; exact hil
      rw [upd_ne (Nat.ne_of_lt hb')]
      exact (hf b hb).1
  done := by
    intro X hP hw hK hc i pins s σ H E I hf st hg
    subst hP hw hK
    obtain ⟨⟨old, he⟩, hit, hne⟩ := st
    obtain ⟨xs, hq, hx⟩ := hg
    obtain ⟨its, rv, p, hz⟩ := I.tuple hq
    obtain ⟨f0, f1, f2, f3, f4, f5⟩ := hf it (by simp)
    have hl := rv.length
    have hi : i = its.toArray.size := by
      rw [List.size_toArray]
      omega
    subst hi
    exact wpAny_pyNext_enum_endD (Draws.tuple (prog := X.prog) (w := X.w) (A := X.A.in1) (show X.A.in1.handled = none from I.ok.hd hc) it a hai its.toArray) he ⟨hit, p⟩ fun h' eb => ⟨rfl, I.turned (t' := s.toks) (fun b o hb q => eb b o hb q) f0 f1 f3 f4 f5⟩
  self := fun A i s Q E st h => let ⟨⟨_, he⟩, _⟩ := st; wpAny_pyIter_enum he h
set_option maxHeartbeats 1000000 in
theorem meets_enumerate_newB1 {v : Value} {o : Obj} {H : Heap → Prop} (B : Begins v o H) :
    Meets (Builtin.«enumerate.__new__» ⟨[.type "enumerate", v], []⟩) (fun _ R s => H s.heap ∧
      R (.ok (.ret (.ref (s.heap.push o).objs.size))) { s with heap := (s.heap.push o).push { cls := .type "enumerate", data := .fields #[.none, .bool false, .ref s.heap.objs.size, rawInt 0, .none, .none] } }) :=
  .of_wp fun prog w A R s h => by
    obtain ⟨hp, g, d, tk, os⟩ := s; obtain ⟨h1, h⟩ := h
    have hsub := sub_enumerate
    have q1 : ∀ {A' : Around} {E : Value → Shared → Prop} {Q : Value → Shared → Prop}, Q (.ref hp.objs.size) ⟨hp.push o, g, d, tk, os⟩ → wpAny (model prog w) A' (pyIter v) Q E ⟨hp, g, d, tk, os⟩ :=
      fun q => B.iter prog w _ _ ⟨hp, g, d, tk, os⟩ _ h1 q
    wp_walk using q1
    refine wpAny_stack_any fun st => wpAny_pure ?_
    split
    · rename_i c _ _ _ _ _
      cases (c == Value.type "enumerate")
      · wp_walk using q1
        exact ⟨_, rfl, h⟩
      · wp_walk using q1
        exact ⟨_, rfl, h⟩
    · wp_walk using q1
      exact ⟨_, rfl, h⟩
section
variable {prog : Program} {w : World} {A : Around} {E : Value → Shared → Prop} {s : Shared}
theorem enum_begins1 {v : Value} {o : Obj} {H : Heap → Prop} {Q : Value → Shared → Prop} (B : Begins v o H) (h1 : H s.heap)
    (h : ∀ h', IsEnum h' (s.heap.objs.size + 1) s.heap.objs.size 0 .none → h'.get? s.heap.objs.size = some o → h'.objs.size = s.heap.objs.size + 2 →
      (∀ b o, s.heap.get? b = some o → h'.get? b = some o) → Q (.ref (s.heap.objs.size + 1)) { s with heap := h' }) :
    wpAny (model prog w) A (call (.type "enumerate") [v]) Q E s := by
  refine callType_new F.called_enumerate (by decide) (F.typeCall_enumerate_1 _) (F.newCall_enumerate_1 _) (fun obj => F.args_object_init_2 obj _) F.entry_enumerate_new
    (meets_enumerate_newB1 B) ⟨h1, ?_⟩
  have hz : (s.heap.push o).objs.size = s.heap.objs.size + 1 := Heap.size_push ..
  show _ ∧ _
  rw [hz]
  have he : IsEnum ((s.heap.push o).push { cls := .type "enumerate", data := .fields #[.none, .bool false, .ref s.heap.objs.size, rawInt 0, .none, .none] }) (s.heap.objs.size + 1) s.heap.objs.size 0 .none := by
    have := Heap.get?_push_size (s.heap.push o) (o := { cls := .type "enumerate", data := .fields #[.none, .bool false, .ref s.heap.objs.size, rawInt 0, .none, .none] }) rfl
    rw [hz] at this; exact this
  refine ⟨⟨_, he, rfl⟩, h _ he (Heap.get?_push_of_some _ (Heap.get?_push_size _ B.free)) (by rw [Heap.size_push, hz]) fun b o x => Heap.get?_push_of_some _ (Heap.get?_push_of_some _ x)⟩
end
def iEnumT (K : PySem.W.Frag) (ta : TA) : TI := fun σ H R => ta σ H fun vs H1 => ∃ a xs, vs = [.ref a] ∧ SqT K H1 a xs ∧ R (IteT K a) H1
theorem pi_enumT {X : Cx} {e : Expr} {ta : TA} {p pos tpos : Pos} {elts : List Expr} {kk : Nat} (hg : Gl X "enumerate") (hm : X.mg "enumerate" = none) (ha : PA X [e] ta) (hs : starEach [e] X.env = [(false, eval e X.env)] := by rfl) :
    PI X (.Tuple elts kk tpos) (.Call (.Name "enumerate" p) [e] [] pos) (iEnumT X.K ta) := by
  refine ⟨fun pins s σ H R I h => ?_⟩
  refine Call_ (ld_blt I hg hm boot_enumerate (PyProof.Rows.callWith_type1 (thn (ha.run pos pins s σ H _ I h) fun us s1 ⟨vs, H1, I1, r1, q1⟩ => ?_) hs rfl))
  obtain ⟨a, xs, ex, hq, q⟩ := q1
  subst ex
  cases r1 with
  | cons r rr =>
    cases rr
    cases r
    obtain ⟨its, rv, p', hz⟩ := I1.tuple hq
    obtain ⟨o1, ho1, _⟩ := id p'
    have la : a < s1.heap.objs.size := Heap.lt_size ho1
    refine enum_begins1 (begins_tuple a its.toArray) p' fun h' he hit hsz hk => wpAny_pyIter_enum he ?_
    have I2 : Inv X pins σ H1 { s1 with heap := h' } := I1.kept (t' := s1.toks) hk
    refine ⟨s1.heap.objs.size + 1, [s1.heap.objs.size + 1, s1.heap.objs.size], _, _, H1, rfl, I2, turn_enumT a (s1.heap.objs.size + 1) s1.heap.objs.size (Nat.ne_of_lt (Nat.lt_succ_of_lt la)) (Nat.ne_of_lt la), ⟨⟨.none, he⟩, ⟨_, hit, rfl, rfl⟩, Nat.succ_ne_self _⟩, fun b hb => ?_, q⟩
    have e' : b = s1.heap.objs.size + 1 ∨ b = s1.heap.objs.size := by simpa using hb
    have hle : s1.heap.objs.size ≤ b := by
      rcases e' with z | z
      · rw [z]; exact Nat.le_add_right _ _
      · rw [z]; exact Nat.le_refl _
    exact I1.fpOk hle (I1.hok.fresh hle)
/-- a loop over enumerate of a tuple -/
theorem for_enumT {K : PySem.W.Frag} {a : Addr} {xs : List V} {g : TG} {tb : TS} {D : Ends} {σ : L2.St} {H : Hp} (Pv : Nat → L2.St → Hp → Prop) (h0 : Pv 0 σ H) (hq : ∀ i σ H, Pv i σ H → SqT K H a xs)
    (hs : ∀ (i : Nat) (x : V) (T : Addr) (σ : L2.St) (H : Hp), xs[i]? = some x → Pv i σ H → H T = none → g (.ref T) σ (upd H T (.tup [.int (i : Nat), x])) fun σ2 H2 => tb { D with nx := Pv (i + 1), ct := Pv (i + 1), bk := D.nx } σ2 H2) (hd : ∀ σ H, Pv xs.length σ H → D.nx σ H) :
    ∃ W : Nat → Nat → L2.St → Hp → Prop, (∃ m, W 0 m σ H) ∧ ∀ i m σ H, W i m σ H →
      ((IteT K a).stop i H ∧ D.nx σ H) ∨ ((IteT K a).go i H ∧ ∃ N : L2.St → Hp → Prop, (∀ σ' H', N σ' H' → ∃ m', m' < m ∧ W (i + 1) m' σ' H') ∧ ∀ v H', (IteT K a).yld i H v H' → g v σ H' fun σ2 H2 => tb { D with nx := N, ct := N, bk := D.nx } σ2 H2) := by
  refine ⟨fun i m σ H => m = xs.length - i ∧ i ≤ xs.length ∧ Pv i σ H, ⟨xs.length, rfl, Nat.zero_le _, h0⟩, ?_⟩
  rintro i m σ H ⟨rfl, hi, p⟩
  have qx := hq i σ H p
  by_cases hlt : i < xs.length
  · have hx : xs[i]? = some xs[i] := List.getElem?_eq_getElem hlt
    refine .inr ⟨⟨xs, _, qx, hx⟩, Pv (i + 1), fun σ' H' p' => ⟨xs.length - (i + 1), by omega, rfl, hlt, p'⟩, fun v H' y => ?_⟩
    obtain ⟨T, x', rfl, hT, rfl, f1⟩ := y
    exact hs i x' T σ H (f1 xs qx) p hT
  · have e : i = xs.length := by omega
    subst e
    exact .inl ⟨⟨xs, qx, rfl⟩, hd σ H p⟩
end Wq
set_option Elab.async false
set_option linter.all false
set_option maxRecDepth 100000
set_option maxHeartbeats 4000000
namespace Wh
open PySem PySem.Spec PyProof.Rows L2
open Wp hiding Same.refl Same.trans same_new boot_all run_own
open W8 (Ev Rp Kp Mono same_new take_snoc rW rB mW mB ev_words ev_words_eq ev_bools_eq lc_sieve)
/-! ## a reader without a fault -/
section
variable {P : Program} {w : World} {K : PySem.W.Frag} {mg : Str → Option Value} {base : Heap} {CF CK CH CW : Addr}
/-- the reader keeps the kind x as y -/
structure KeepK (ks1 ks2 : List KD) (x y : KD) : Prop where
  n : x.n = y.n
  b : x.b = y.b
  k : x.k = y.k
  f : x.f = y.f
  h : x.h = y.h
  r : x.r = y.r
  a : x.r = true → allF ks1 x = allF ks2 y
theorem ne_same {a b : V} (e : a = b) : (!decide (a = b)) = false := by
  rw [decide_eq_true e]
  rfl
abbrev sIk : Stmt := top 35
abbrev nIk : List Str := ["writer", "reader", "name", "other", "kind", "new"]
def spIk (K : PySem.W.Frag) (CF CK CH : Addr) : Sp := fun vs H Q _ => ∃ (s1 s2 : Addr) (r1 r2 : Str) (ks1 ks2 : List KD) (x y : KD), vs = [.ref s1, .ref s2, .str x.n, .str y.n] ∧ HouseAt K CF CK CH H s1 r1 ks1 ∧ HouseAt K CF CK CH H s2 r2 ks2 ∧ Dq K H (.str x.n) (.str x.n) ∧ x ∈ ks1 ∧ y ∈ ks2 ∧ KeepK ks1 ks2 x y ∧ ∀ H', Same H H' → Q (.bl true) H'
theorem scIk : FnScope nIk ["writer", "reader", "name", "other"] (defScope sIk) := ⟨rfl, rfl, rfl, by decide +kernel, rfl, by decide +kernel, by decide +kernel⟩
theorem ok_Ik {f f1 f2 fF : Addr} {fd fd1 fd2 fdF : FuncData} (F : Fun K "_is_kept" "_is_kept" sIk f fd) (HC : PlainC K CH houseAt) (KC : PlainC K CK ["name", "fields", "base", "frozen", "heirs", "key", "registered"]) (KN : KMt P w K mg base CH (L2N.CX P w) 4 "kind_named" nKd (spKd K CF CK CH) f1 fd1) (FO : KMt P w K mg base CH (L2N.CX P w) 4 "fields_of" nFo (spFo K CF CK CH) f2 fd2) (FE : EqM P w K mg base CF 1 (spFE K CF) fF fdF) : FnOk P w K mg base CX0 5 f fd ["writer", "reader", "name", "other"] (spIk K CF CK CH) := by
  refine F.ok scIk (fun vs H Q E h => ?_) (fun cdv A outer s0 H vs Q E hr h => ?_)
  · obtain ⟨s1, s2, r1, r2, ks1, ks2, x, y, rfl, _⟩ := h
    rfl
  · obtain ⟨s1, s2, r1, r2, ks1, ks2, x, y, rfl, h1, h2, q, mx, my, kp, k⟩ := h
    refine ⟨_, 
      (pss_cons (ps_set (i := 4) scIk.nd rfl (.inl rfl) (pe_meth (pv 0) HC.cl KN.mt KN.ok (hr.mono (by decide)) KN.bi .nil passLN (pa_cons (pv 2) pa_nil)))
      (pss_cons (ps_set (i := 5) scIk.nd rfl (.inl rfl) (pe_meth (pv 1) HC.cl KN.mt KN.ok (hr.mono (by decide)) KN.bi .nil passLN (pa_cons (pv 3) pa_nil)))
      (pss_cons (ps_if (PW.pt (pw_or (pt_cmpR op_ne (pe_fld (pv 4) rfl) (pe_fld (pv 5) rfl) (nomark _)) (pw_or (pt_cmpR op_ne (pe_fld (pv 4) rfl) (pe_fld (pv 5) rfl) (nomark _)) (pw_or1 (pt_cmpR op_ne (pe_fld (pv 4) rfl) (pe_fld (pv 5) rfl) (nomark _)))))) 
        (pss_one (ps_ret pe_bl)) pss_nil)
      (pss_cons (ps_if (PW.pt (pw_or (pt_cmpR op_ne (pe_fld (pv 4) rfl) (pe_fld (pv 5) rfl) (nomark _)) (pw_or (pt_cmpR op_ne (pe_fld (pv 4) rfl) (pe_fld (pv 5) rfl) (nomark _)) (pw_or1 (pt_cmpR op_ne (pe_fld (pv 4) rfl) (pe_fld (pv 5) rfl) (nomark _)))))) 
        (pss_one (ps_ret pe_bl)) pss_nil)
      (pss_one (ps_ret (pe_or (pe_not (pe_fld (pv 4) rfl)) (pe_one (pe_cmpR (show OpR _ (compareOp .Eq) (rEqLO K CF (spFE K CF) E0) from op_eqLO FE.ok FE.bi pass0 FE.own (hr.mono (by decide))) (pe_meth (pv 0) HC.cl FO.mt FO.ok (hr.mono (by decide)) FO.bi .nil passLN (pa_cons (pv 2) pa_nil)) (pe_meth (pv 1) HC.cl FO.mt FO.ok (hr.mono (by decide)) FO.bi .nil passLN (pa_cons (pv 2) pa_nil)) (nomark _)))))))))), ?_⟩
    obtain ⟨dx, _, _, _, _, _, _, hs1, _⟩ := h1.ex
    obtain ⟨dy, _, _, _, _, _, _, hs2, _⟩ := h2.ex
    have q2 : Dq K H (.str y.n) (.str y.n) := by
      rw [← kp.n]
      exact q
    refine ⟨_, rfl, s1, dx, _, rfl, hs1, rfl, _, rfl, s1, r1, ks1, x, rfl, h1, q, mx, fun v rv => ?_⟩
    refine ⟨_, rfl, s2, dy, _, rfl, hs2, rfl, _, rfl, s2, r2, ks2, y, rfl, h2, q2, my, fun u ru => ?_⟩
    obtain ⟨a, da, tf, rfl, ha, _⟩ := id rv
    obtain ⟨b, db, tg, rfl, hb, _⟩ := id ru
    refine ⟨_, rfl, a, CK, da, _, _, rfl, ha, KC.cl, KC.no _ (by simp), (lk_ks _ _ _ _ _ _ _).1, _, rfl, b, CK, db, _, _, rfl, hb, KC.cl, KC.no _ (by simp), (lk_ks _ _ _ _ _ _ _).1, rfl, _, rfl, ?_⟩
    rw [ne_same (congrArg V.str kp.n)]
    refine iteF ?_
    refine ⟨_, rfl, a, CK, da, _, _, rfl, ha, KC.cl, KC.no _ (by simp), (lk_ks _ _ _ _ _ _ _).2.2.1, _, rfl, b, CK, db, _, _, rfl, hb, KC.cl, KC.no _ (by simp), (lk_ks _ _ _ _ _ _ _).2.2.1, scal_tv _ _, _, rfl, ?_⟩
    rw [ne_same (congrArg tv kp.b)]
    refine iteF ?_
    refine ⟨_, rfl, a, CK, da, _, _, rfl, ha, KC.cl, KC.no _ (by simp), (lk_ks _ _ _ _ _ _ _).2.2.2.2.2.1, _, rfl, b, CK, db, _, _, rfl, hb, KC.cl, KC.no _ (by simp), (lk_ks _ _ _ _ _ _ _).2.2.2.2.2.1, scal_tv _ _, _, rfl, ?_⟩
    rw [ne_same (congrArg tv kp.k)]
    refine iteF ?_
    refine ⟨_, rfl, a, CK, da, _, _, rfl, ha, KC.cl, KC.no _ (by simp), (lk_ks _ _ _ _ _ _ _).2.2.2.1, _, rfl, b, CK, db, _, _, rfl, hb, KC.cl, KC.no _ (by simp), (lk_ks _ _ _ _ _ _ _).2.2.2.1, rfl, _, rfl, ?_⟩
    rw [ne_same (congrArg V.bl kp.f)]
    refine iteF ?_
    refine ⟨_, rfl, a, CK, da, _, _, rfl, ha, KC.cl, KC.no _ (by simp), (lk_ks _ _ _ _ _ _ _).2.2.2.2.1, _, rfl, b, CK, db, _, _, rfl, hb, KC.cl, KC.no _ (by simp), (lk_ks _ _ _ _ _ _ _).2.2.2.2.1, rfl, _, rfl, ?_⟩
    rw [ne_same (congrArg V.bl kp.h)]
    refine iteF ?_
    refine ⟨_, rfl, a, CK, da, _, _, rfl, ha, KC.cl, KC.no _ (by simp), (lk_ks _ _ _ _ _ _ _).2.2.2.2.2.2, _, rfl, b, CK, db, _, _, rfl, hb, KC.cl, KC.no _ (by simp), (lk_ks _ _ _ _ _ _ _).2.2.2.2.2.2, rfl, _, rfl, ?_⟩
    rw [ne_same (congrArg V.bl kp.r)]
    refine iteF ?_
    refine ⟨_, rfl, a, CK, da, _, _, rfl, ha, KC.cl, KC.no _ (by simp), (lk_ks _ _ _ _ _ _ _).2.2.2.2.2.2, _, rfl, ?_⟩
    cases er : x.r with
    | false => exact ⟨true, rfl, iteT (k H (Same.refl _))⟩
    | true =>
      refine ⟨false, rfl, iteF ?_⟩
      refine ⟨_, rfl, s1, dx, _, rfl, hs1, rfl, _, rfl, s1, r1, ks1, x, rfl, h1, q, mx, fun D H1 us e1 hD eu => ?_⟩
      refine ⟨_, rfl, s2, dy, _, rfl, e1 _ _ hs2, rfl, _, rfl, s2, r2, ks2, y, by rw [← kp.n]; rfl, h2.same e1, (q2.same e1), my, fun D2 H2 ws e2 hD2 ew => ?_⟩
      rw [kp.a er] at eu
      have eu2 := eu.same (mF K CF) e2
      obtain ⟨zs, rfl, lz, rz⟩ := refs_of (R := rF K CF) (fun v c ⟨a, e, _⟩ => ⟨a, e⟩) eu2
      obtain ⟨ts, rfl, lt, rt⟩ := refs_of (R := rF K CF) (fun v c ⟨a, e, _⟩ => ⟨a, e⟩) ew
      refine ⟨D, D2, zs, ts, rfl, rfl, e2 _ _ hD, hD2, lz.trans lt.symm, fun i z t h1 h2 => ?_, k _ (e1.trans e2)⟩
      have li : i < (allF ks2 y).length := by
        have := (List.getElem?_eq_some_iff.mp h1).1
        omega
      obtain ⟨_, e1, fz⟩ := rz i z _ h1 (List.getElem?_eq_getElem li)
      obtain ⟨_, e2, ft⟩ := rt i t _ h2 (List.getElem?_eq_getElem li)
      cases e1
      cases e2
      obtain ⟨d1, w1, hz, _⟩ := fz.ex
      obtain ⟨d2, w2, ht, _⟩ := ft.ex
      exact ⟨_, _, _, _, _, hz, ht, FE.nf, fun _ => rfl, z, .ref t, _, rfl, fz, .inl ⟨t, _, rfl, ft, by rw [decide_eq_true rfl], rfl⟩⟩
end
end Wh
set_option Elab.async false
set_option linter.all false
set_option maxRecDepth 100000
set_option maxHeartbeats 4000000
namespace Wh
open PySem PySem.Spec PyProof.Rows L2
open Wp hiding Same.refl Same.trans same_new boot_all run_own
open W8 (Ev Rp Kp Mono same_new take_snoc rW rB mW mB ev_words ev_words_eq ev_bools_eq lc_sieve)
section
variable {P : Program} {w : World} {K : PySem.W.Frag} {mg : Str → Option Value} {base : Heap} {CF CK CH CW CU CV : Addr}
theorem tv_oT : tv = oT := by
  funext o
  cases o <;> rfl
theorem src_call {H : Hp} {s1 s2 : Addr} {r1 r2 : Str} {ks1 ks2 : List KD} {x y : KD} {g : FV} {Q : VK} {E : XK} (h1 : HouseAt K CF CK CH H s1 r1 ks1) (h2 : HouseAt K CF CK CH H s2 r2 ks2) (o2 : KindsOk ks2) (mx : x ∈ ks1) (my : y ∈ ks2) (en : x.n = y.n) (mg : g ∈ allF ks2 y)
    (k : ∀ H', Same H H' → Q (tv (srcOf (allF ks1 x) g)) H') : spSf K CF CK CH CU CV [.ref s1, .ref s2, .str y.n, .str g.n] H Q E := by
  obtain ⟨i, hg⟩ := List.getElem?_of_mem mg
  have fnm : fieldNamed (allF ks2 y) (.str g.n) = some g := find_fv (h2.ok.fnd my) hg
  have rg : RightF g := by
    obtain ⟨y9, my9, mg9⟩ := allF_mem my mg
    exact o2.right y9 my9 g mg9
  refine ⟨s1, s2, .str y.n, .str g.n, .str y.n, .str g.n, r1, r2, ks1, ks2, rfl, h1, h2, .dat (.str _) (shaped_str (kind_ok (o2.kn y my)).1), .dat (.str _) rg.good.n, fun _ => rfl, fun bad => ?_, fun z mz ez => ?_⟩
  · rw [in_house my] at bad
    cases bad
  have e2 : z = y := by
    have en : y.n = z.n := PyData.str.inj ez
    have a1 := h2.ok.atN mz
    rw [← en, h2.ok.atN my] at a1
    exact (Option.some.inj a1).symm
  subst e2
  refine ⟨fun no => ?_, fun g2 eg => ?_⟩
  · rw [fnm] at no
    cases no
  rw [fnm] at eg
  cases eg
  exact ⟨x, mx, en, by have := rg.w2; omega, k⟩
/-- what the fields of a kind are filled from -/
def srcs (ks1 : List KD) (x : KD) (gs : List FV) : List (Option Str) := gs.map (srcOf (allF ks1 x))
def rO : Rp (Option Str) := fun _ v o => v = tv o
theorem mO : Mono rO := fun _ _ _ _ _ h => h
theorem ev_os {H : Hp} : ∀ {us : List V} {os : List (Option Str)}, Ev rO H us os → us = os.map tv := fun {us os} h => by
  apply List.ext_getElem?
  intro i
  rcases Nat.lt_or_ge i us.length with q | q
  · obtain ⟨c, hc, r⟩ := h.at (List.getElem?_eq_getElem q)
    rw [List.getElem?_map, hc, List.getElem?_eq_getElem q, r]
    rfl
  · rw [List.getElem?_eq_none q, List.getElem?_eq_none (by rw [List.length_map, ← h.1]; exact q)]
theorem ev_mk {H : Hp} (os : List (Option Str)) : Ev rO H (os.map tv) os := ⟨by simp, fun i u c a b => by
  rw [List.getElem?_map, b] at a
  cases a
  rfl⟩
abbrev sTt : Stmt := top 36
abbrev nTt : List Str := ["writer", "reader", "kind", "taken", "field", "name"]
def spTt (K : PySem.W.Frag) (CF CK CH : Addr) : Sp := fun vs H Q _ => ∃ (s1 s2 : Addr) (r1 r2 : Str) (ks1 ks2 : List KD) (x y : KD), vs = [.ref s1, .ref s2, .str y.n] ∧ HouseAt K CF CK CH H s1 r1 ks1 ∧ HouseAt K CF CK CH H s2 r2 ks2 ∧ KindsOk ks2 ∧ x ∈ ks1 ∧ y ∈ ks2 ∧ x.n = y.n ∧ (∀ n, (srcs ks1 x (allF ks2 y)).count (some n) ≤ 1) ∧ ∀ H', Same H H' → Q (.bl false) H'
theorem scTt : FnScope nTt ["writer", "reader", "kind"] (defScope sTt) := ⟨rfl, rfl, rfl, by decide +kernel, rfl, by decide +kernel, by decide +kernel⟩
theorem ok_Tt {f f1 f2 : Addr} {fd fd1 fd2 : FuncData} (F : Fun K "_takes_twice" "_takes_twice" sTt f fd) (B : Bn mg) (an : mg "any" = none) (HC : PlainC K CH houseAt) (CFc : PlainC K CF ["name", "mode", "target", "default", "was"]) (FO : KMt P w K mg base CH (L2N.CX P w) 4 "fields_of" nFo (spFo K CF CK CH) f1 fd1) (SF : Known P w K mg base (L2N.CX P w) 5 "source_field" ["writer", "reader", "kind", "field"] (spSf K CF CK CH CU CV) f2 fd2) : FnOk P w K mg base CX0 6 f fd ["writer", "reader", "kind"] (spTt K CF CK CH) := by
  refine F.ok scTt (fun vs H Q E h => ?_) (fun cdv A outer s0 H vs Q E hr h => ?_)
  · obtain ⟨s1, s2, r1, r2, ks1, ks2, x, y, rfl, _⟩ := h
    rfl
  · obtain ⟨s1, s2, r1, r2, ks1, ks2, x, y, rfl, h1, h2, o2, mx, my, en, one, k⟩ := h
    refine ⟨_, 
      (pss_cons (ps_set (i := 3) scTt.nd rfl (.inr rfl) (pe_lc (own := [("field", 4)]) (g := gName 4) (tt := tYes) (te := (tCall (spSf K CF CK CH CU CV) [] E0 (tCons (tVar 0) (tCons (tVar 1) (tCons (tVar 2) (tCons (tFld K (tVar 4) "name") tNil)))))) rfl scTt.nd (pi_list (pe_meth (pv 1) HC.cl FO.mt FO.ok (hr.mono (by decide)) FO.bi .nil passLN (pa_cons (pv 2) pa_nil))) (blkOk_by (N := nTt) (sc := defScope sTt) (by decide +kernel)) (fun _ _ _ _ _ => pg_name (i := 4) scTt.nd rfl (Or.inl rfl)) (fun _ _ _ _ _ => pts_nil) (fun _ _ _ _ _ => (pe_call SF.ok (hr.mono (by decide)) rfl SF.mg SF.kp SF.bi .nil passLN (pa_cons (pv 0) (pa_cons (pv 1) (pa_cons (pv 2) (pa_cons (pe_fld (pv 4) rfl) pa_nil))))))))
      (pss_one (ps_ret (pe_callB (cr_any rfl) (by rfl) an boot_any (pa_cons (pe_lc (own := [("name", 5)]) (g := gName 5) (te := (tGt (tBM K "list" (rCntT K) (tVar 3) (tCons (tVar 5) tNil)) (tC (.int 1)))) (tt := (tTest (tNotN (tVar 5)))) rfl scTt.nd (pi_list (pv 3)) (blkOk_by (N := nTt) (sc := defScope sTt) (by decide +kernel)) (fun _ _ _ _ _ => pg_name (i := 5) scTt.nd rfl (Or.inl rfl)) (fun _ _ _ _ _ => pts_one (pt_cmp (pc_notN (pv 5)))) (fun _ _ _ _ _ => (pe_cmpR op_gt (pe_bm PySem.F.plainAttrs_list PySem.F.slot_list_count PySem.F.type_list_count mt_lcountT (pv 3) (pa_cons (pv 5) pa_nil)) pe_int (nomark _)))) pa_nil))))), ?_⟩
    obtain ⟨dy, _, _, _, _, _, _, hs2, _⟩ := h2.ex
    have fw := h2.ok.few my
    refine ⟨_, rfl, s2, dy, _, rfl, hs2, rfl, _, rfl, s2, r2, ks2, y, rfl, h2, .dat (.str _) (shaped_str (kind_ok (o2.kn y my)).1), my, fun A1 H1 us e1 hA1 eu => ⟨A1, rfl, ⟨us, SqL.of hA1⟩, fun D hD => ?_⟩⟩
    refine lc_sieve (mF K CF) mO (fun _ => true) (srcOf (allF ks1 x)) walk_list (by omega) (fun H' s9 => SqL.of (s9 _ _ hA1)) hD eu (fun v c H2 Rq _ _ _ kk => kk _ (Same.refl _)) ?_ ?_
    · intro v g H2 Rq mg _ e2 rg kk
      obtain ⟨a, rfl, ⟨da, tw, ha, _⟩, _⟩ := id rg
      refine ⟨_, rfl, _, rfl, _, rfl, _, rfl, a, CF, da, _, _, rfl, ha, CFc.cl, CFc.no _ (by simp), (lk_fs _ _ _ _ _).2.2.2.2, ?_⟩
      exact src_call (h1.same (e1.trans e2)) (h2.same (e1.trans e2)) o2 mx my en mg fun H3 e3 => kk _ _ e3 rfl
    intro H2 ys e2 hD2 ey
    rw [filter_all] at ey
    have := ev_os ey
    subst this
    rw [tv_oT] at hD2
    refine ⟨_, rfl, D, rfl, ⟨_, SqL.of hD2⟩, fun D2 hN => ?_⟩
    have ev2 : Ev rO H2 (((allF ks2 y).map (srcOf (allF ks1 x))).map oT) ((allF ks2 y).map (srcOf (allF ks1 x))) := by
      rw [← tv_oT]
      exact ev_mk _
    refine lc_sieve mO mB (fun o => o.isSome) (fun _ => false) walk_list (by rw [List.length_map]; omega) (fun H' s9 => SqL.of (s9 _ _ hD2)) hN ev2 ?_ ?_ ?_
    · intro v o H3 Rq mo e3 ro kk
      cases ro
      cases o with
      | none => exact ⟨_, rfl, false, rfl, kk _ (Same.refl _)⟩
      | some n => exact ⟨_, rfl, true, rfl, kk _ (Same.refl _)⟩
    · intro v o H3 Rq mo so e3 ro kk
      cases ro
      cases o with
      | none => cases so
      | some n =>
        refine ⟨_, rfl, .inl ⟨rfl, _, SqL.of (e3 _ _ hD2)⟩, _, rfl, D, _, n, rfl, rfl, SqL.of (e3 _ _ hD2), _, _, rfl, rfl, ?_⟩
        have h1 := one n
        unfold srcs at h1
        show Rq (.bl (decide ((1 : Int) < ((((allF ks2 y).map (srcOf (allF ks1 x))).count (some n) : Nat) : Int)))) H3
        rw [decide_eq_false (by omega)]
        exact kk _ _ (Same.refl _) rfl
    intro H3 bs e3 hN3 eb
    cases ev_bools_eq eb
    refine ⟨D2, _, rfl, SqL.of hN3, ?_⟩
    rw [show ((((allF ks2 y).map (srcOf (allF ks1 x))).filter fun o => o.isSome).map fun _ => false).any id = false from by
      rw [List.any_eq_false]
      intro b hb
      rw [List.mem_map] at hb
      obtain ⟨_, _, rfl⟩ := hb
      simp]
    exact k _ (e1.trans (e2.trans e3))
end
end Wh
set_option Elab.async false
set_option linter.all false
set_option maxRecDepth 100000
set_option maxHeartbeats 4000000
/-! None asked of a dict whose keys are tuples. -/
namespace Wk
open PySem PySem.Spec PyProof.Rows L2
section
variable {prog : Program} {w : World} {A : Around} {E : Value → Shared → Prop} {s : Shared} {d : Addr} {xs : List (NestedKey × Addr × Value)}
theorem eq_keyNone {k : NestedKey} {a : Addr} (hu : A.units + 8 < cLine) (k0 : (nestedKind prog w).is s.heap k a) : SeqAt.EqAt A s (.ref a) .none false := by
  have z := eqAt_key k .none A s (.ref a) .none k0.1 .none (by
    have := k0.2
    show A.units + min k.depth 0 < cLine
    omega)
  have e0 : NestedKey.beq k .none = false := by
    have k1 := k0.1
    generalize k = kk at k1
    cases k1
    rfl
  rw [e0] at z
  exact z
theorem none_find {o : Obj} {es ep} {hh : Int} {Q : Option Nat → Shared → Prop} (hu : A.units + 8 < cLine) (ho : s.heap.get? d = some o) (hd : o.data = .dict es ep) (he : es.toList = xs.map (entryOfKey (nestedKind prog w)))
    (his : ∀ x ∈ xs, (nestedKind prog w).is s.heap x.1 x.2.1) (q : Q none s) : wpAny (model prog w) A (dictFind d .none hh) Q E s := by
  have hmem : ∀ e ∈ es, ∃ x ∈ xs, e = entryOfKey (nestedKind prog w) x := by
    intro e hin
    have : e ∈ xs.map (entryOfKey (nestedKind prog w)) := he ▸ Array.mem_toList_iff.mpr hin
    obtain ⟨x, hx, rfl⟩ := List.mem_map.mp this
    exact ⟨x, hx, rfl⟩
  have hst : ∀ v ∈ (placesWithHash es.size (fun i => es[i]?.map (·.hash)) hh).filterMap (fun i => es[i]?.map (·.key)), ∃ k' b, v = .ref b ∧ (nestedKind prog w).is s.heap k' b := by
    intro v hv
    obtain ⟨i, _, hi⟩ := List.mem_filterMap.mp hv
    cases hei : es[i]? with
    | none => rw [hei] at hi; cases hi
    | some e =>
      rw [hei] at hi
      obtain rfl : e.key = v := by simpa using hi
      obtain ⟨x, hx, rfl⟩ := hmem e (Array.mem_of_getElem? hei)
      exact ⟨x.1, x.2.1, rfl, his x hx⟩
  have step : ∀ (i : Nat) (e : DictEntry), es[i]? = some e → SeqAt.EqAt A s e.key .none false := by
    intro i e hei
    obtain ⟨x, hx, rfl⟩ := hmem e (Array.mem_of_getElem? hei)
    exact eq_keyNone hu (his x hx)
  unfold dictFind
  try with_reducible refine wpAny_holding ?_
  refine wpAny_bind (wpAny_dictEntries ho hd ?_)
  dsimp only
  generalize hpl : placesWithHash es.size (fun i => es[i]?.map (·.hash)) hh = places at hst ⊢
  cases hstored : places.filterMap (fun i => es[i]?.map (·.key)) with
  | nil =>
    have no : ∀ i ∈ places, es[i]? = none := by
      intro i hi
      cases e : es[i]? with
      | none => rfl
      | some x =>
        have := List.filterMap_eq_nil_iff.mp hstored i hi
        rw [e] at this
        cases this
    rw [if_pos (by rfl)]
    unfold dictWalkPlain
    try refine wpAny_bind ?_
    try refine wpAny_bind ?_
    refine wpAny_forIn_list _ (fun rest b s' => s' = s ∧ b = (none, ()) ∧ ∀ i ∈ rest, i ∈ places) _ ?_ ?_ _ _ ⟨rfl, rfl, fun _ h => h⟩
    · rintro x rest b s' ⟨rfl, rfl, hr⟩
      rw [no x (hr x List.mem_cons_self)]
      exact wpAny_pure ⟨rfl, rfl, fun i hi => hr i (List.mem_cons_of_mem _ hi)⟩
    · rintro b s' ⟨rfl, rfl, _⟩
      first
        | exact wpAny_pure q
        | exact wpAny_pure (wpAny_pure q)
  | cons v0 vr =>
    obtain ⟨k0, b0, ev0, hk0⟩ := hst v0 (by rw [hstored]; exact List.mem_cons_self)
    rw [if_neg (by rw [ev0]; simp [carriedByValue])]
    rw [if_neg (by rw [ev0]; simp)]
    rw [hstored] at hst
    have tell : ∀ Q' : Bool → Shared → Prop, Q' false s → wpAny (model prog w) A (tableMayTell .none (v0 :: vr)) Q' E s := by
      intro Q' h
      unfold tableMayTell
      rw [if_neg (by simp)]
      refine wpAny_bind (QuietAt.byValue (n := 8) (v := .none) rfl A E _ ?_)
      simp only [Bool.not_true, Bool.false_eq_true, if_false]
      refine wpAny_bind ?_
      refine wpAny_forIn_list _ (fun rest r s' => s' = s ∧ r = (none, ()) ∧ ∀ v ∈ rest, ∃ k' b, v = .ref b ∧ (nestedKind prog w).is s.heap k' b) _ ?_ ?_ _ _ ⟨rfl, rfl, hst⟩
      · rintro x rest r s' ⟨rfl, rfl, hr⟩
        obtain ⟨k', b, rfl, hb⟩ := hr x List.mem_cons_self
        refine wpAny_bind ((nestedKind prog w).quiet hb ?_)
        simp only [Bool.not_true, Bool.false_eq_true, if_false]
        exact wpAny_pure ⟨rfl, rfl, fun v hv => hr v (List.mem_cons_of_mem _ hv)⟩
      · rintro r s' ⟨rfl, rfl, _⟩
        exact wpAny_pure h
    refine wpAny_bind (tell _ ?_)
    rw [if_neg (by simp)]
    refine wpAny_bind ?_
    refine wpAny_forIn_list _ (fun rest b s' => s' = s ∧ b = (none, none)) _ ?_ ?_ _ _ ⟨rfl, rfl⟩
    · rintro x rest b s' ⟨rfl, rfl⟩
      cases hei : es[x]? with
      | none => exact wpAny_pure ⟨rfl, rfl⟩
      | some e =>
        dsimp only
        split
        · refine wpAny_bind (wpAny_dictEpoch ho hd (wpAny_bind (step x e hei prog w E _ (wpAny_bind (wpAny_dictEpoch ho hd ?_)))))
          rw [if_neg (by simp)]
          simp only [Bool.false_eq_true, if_false]
          refine wpAny_bind (wpAny_rule ?_)
          first | rw [if_neg (by simp)] | skip
          first
            | exact wpAny_pure ⟨rfl, rfl⟩
            | exact wpAny_bind (wpAny_pure (wpAny_pure ⟨rfl, rfl⟩))
        · exact wpAny_pure ⟨rfl, rfl⟩
    · rintro b s' ⟨rfl, rfl⟩
      exact wpAny_pure q
end
end Wk
set_option Elab.async false
set_option linter.all false
set_option maxRecDepth 100000
set_option maxHeartbeats 4000000
/-! A dict whose keys are the tuples of a memo, at the hand layer. -/
namespace Wk
open PySem PySem.Spec PyProof.Rows L2
section
variable {prog : Program} {w : World} {A : Around} {E : Value → Shared → Prop} {s : Shared} {d : Addr} {xs : List (NestedKey × Addr × Value)}
theorem none_get {Q : Option Value → Shared → Prop} (hu : A.units + 8 < cLine) (hm : s.heap.DictOfH (nestedKind prog w) d xs) (h : Q none { s with toks := s.toks + 1 }) : wpAny (model prog w) A (dictGet d .none) Q E s := by
  obtain ⟨o, es, ep, ho, _, hd, he, his, hn⟩ := hm
  unfold dictGet
  try with_reducible refine wpAny_holding ?_
  refine wpAny_bind (pyHash_key (w := w) .none .none A s _ .none (show A.units + 0 < cLine by omega) (wpAny_bind (none_find (s := { s with toks := s.toks + 1 }) (o := o) hu ho hd he his ?_)))
  exact wpAny_pure h
theorem none_in {Q : Value → Shared → Prop} (hu : A.in1.units + 8 < cLine) (hd : (d == sysModules) = false) (hm : s.heap.DictOfH (nestedKind prog w) d xs) (h : Q (.bool false) { s with toks := s.toks + 1 }) :
    wpAny (model prog w) A (compareOp .In .none (.ref d)) Q E s := by
  show wpAny _ _ (do return .bool (← contains (.ref d) .none)) Q E s
  refine wpAny_bind (wpAny_contains_slot hm.typeIs PySem.F.slot_dict_contains ?_)
  refine call_meetsIn PySem.F.slot_dict_contains hm.typeIs PySem.F.entry_dict_contains (PySem.F.args_dict_contains_2 _ _) (S := fun A' R s' => A' = A ∧ s' = s ∧ R (.ok (.ret (.bool false))) { s with toks := s.toks + 1 }) (.of_wp fun A' R s' hS => ?_) ⟨rfl, rfl, wpAny_truthy_bool (wpAny_pure h)⟩
  obtain ⟨rfl, rfl, hq⟩ := hS
  show wpAny _ _ (dictGet d .none >>= _) _ _ _
  refine wpAny_bind (none_get hu hm ?_)
  show wpAny _ _ (Builtin.Dict.pendingKey? d .none >>= _) _ _ _
  exact wpAny_bind (wpAny_pendingKey_other hd (wpAny_pure ⟨_, rfl, hq⟩))
theorem none_getm {Q : Value → Shared → Prop} (hu : A.in1.units + 8 < cLine) (hd : (d == sysModules) = false) (hm : s.heap.DictOfH (nestedKind prog w) d xs) (h : Q .none { s with toks := s.toks + 1 }) :
    wpAny (model prog w) A (call (.builtin "dict.get") [.ref d, .none]) Q E s := by
  refine call_meetsIn PySem.F.slot_dict_get hm.typeIs PySem.F.entry_dict_get (PySem.F.args_dict_get_2 _ _) (S := fun A' R s' => A' = A ∧ s' = s ∧ R (.ok (.ret .none)) { s with toks := s.toks + 1 }) (.of_wp fun A' R s' hS => ?_) ⟨rfl, rfl, h⟩
  obtain ⟨rfl, rfl, hq⟩ := hS
  show wpAny _ _ (dictGet d .none >>= _) _ _ _
  refine wpAny_bind (none_get hu hm ?_)
  show wpAny _ _ (Builtin.Dict.missed d .none >>= _) _ _ _
  exact wpAny_bind (wpAny_missed_other hd (wpAny_pure ⟨.none, rfl, hq⟩))
end
/-! ## the dict of a memo -/
/-- an entry: the key, where its tuple stands, the number -/
abbrev Ent := NestedKey × Addr × Int
def EntR (e : Ent) (x : NestedKey × Addr × Value) : Prop := x.1 = e.1 ∧ x.2.1 = e.2.1 ∧ ∃ t, x.2.2 = .int e.2.2 t
def memoD (P : Program) (w : World) (d : Addr) (l : List Ent) : HO := .ext fun h => (d == sysModules) = false ∧ l.length ≤ 1000 ∧ ∃ xs, Paired EntR l xs ∧
  ∃ o es ep, h.get? d = some o ∧ o.ExactDict ∧ o.data = .dict es ep ∧ es.toList = xs.map (entryOfKey (nestedKind P w)) ∧ (xs.map (·.1)).Nodup
/-- the tuple of a key -/
inductive KeyAt (H : Hp) : NestedKey → Addr → Prop
  | its {a : Addr} {n : Int} : H a = some (.tup [.str "itself", .int n]) → KeyAt H (.tup [.text "itself", .num n]) a
  | mks {a q : Addr} {z : Str} {ns : List Int} : H a = some (.tup [.str "marks", .str z, .ref q]) → H q = some (.tup (ns.map V.int)) → KeyAt H (.tup [.text "marks", .text z, .tup (ns.map .num)]) a
def KeysAt (H : Hp) (l : List Ent) : Prop := ∀ e ∈ l, KeyAt H e.1 e.2.1
theorem KeyAt.keeps {H H' : Hp} {k : NestedKey} {a : Addr} (h : KeyAt H k a) (t : ∀ b xs, H b = some (.tup xs) → H' b = some (.tup xs)) : KeyAt H' k a := by
  cases h with
  | its e => exact .its (t _ _ e)
  | mks e e2 => exact .mks (t _ _ e) (t _ _ e2)
theorem KeysAt.keeps {H H' : Hp} {l : List Ent} (h : KeysAt H l) (t : ∀ b xs, H b = some (.tup xs) → H' b = some (.tup xs)) : KeysAt H' l := fun e he => (h e he).keeps t
theorem nums_all {h : Heap} : ∀ {ns : List Int} {us : List Value}, Vals (ns.map V.int) us → NestedAll h (ns.map NestedKey.num) us
  | [], _, .nil => .nil
  | n :: ns, _, .cons r t => by
    obtain ⟨k, rfl⟩ := r
    exact .cons (.int n k) (nums_all t)
theorem nums_flat : ∀ ns : List Int, NestedKey.depthAll (ns.map NestedKey.num) = 0
  | [] => rfl
  | n :: ns => by
    show max 0 (NestedKey.depthAll (ns.map NestedKey.num)) = 0
    rw [nums_flat ns]
    rfl
theorem key_is {P : Program} {w : World} {H : Hp} {h : Heap} {k : NestedKey} {a : Addr} (ok : HOk P w H h) (x : KeyAt H k a) : (nestedKind P w).is h k a := by
  cases x with
  | its e =>
    obtain ⟨_, its, r, o, h1, h2, n, h3⟩ := (show ObjOk P w H h a (.tup _) from ok a _ e)
    cases r with
    | cons r1 r =>
      cases r with
      | cons r2 r =>
        cases r
        obtain ⟨t1, rfl⟩ := r1
        obtain ⟨t2, rfl⟩ := r2
        exact ⟨.tup h1 h2 h3 (.cons (.text _ _) (.cons (.int _ _) .nil)), by show 0 + 1 ≤ 8; decide⟩
  | @mks _ q z ns e e2 =>
    obtain ⟨_, its, r, o, h1, h2, n, h3⟩ := (show ObjOk P w H h a (.tup _) from ok a _ e)
    obtain ⟨_, jts, rr, o2, g1, g2, n2, g3⟩ := (show ObjOk P w H h q (.tup _) from ok q _ e2)
    cases r with
    | cons r1 r =>
      cases r with
      | cons r2 r =>
        cases r with
        | cons r3 r =>
          cases r
          obtain ⟨t1, rfl⟩ := r1
          obtain ⟨t2, rfl⟩ := r2
          cases r3
          refine ⟨.tup h1 h2 h3 (.cons (.text _ _) (.cons (.text _ _) (.cons (.tup g1 g2 g3 (nums_all rr)) .nil))), ?_⟩
          show max 0 (max 0 (max (NestedKey.depthAll (ns.map NestedKey.num) + 1) 0)) + 1 ≤ 8
          rw [nums_flat]
          decide
theorem memo_at {P : Program} {w : World} {H : Hp} {h : Heap} {d : Addr} {l : List Ent} (ok : HOk P w H h) (e : H d = some (memoD P w d l)) (hk : KeysAt H l) :
    ∃ xs, (d == sysModules) = false ∧ l.length ≤ 1000 ∧ Paired EntR l xs ∧ h.DictOfH (nestedKind P w) d xs := by
  obtain ⟨⟨hd, hl, xs, r, o, es, ep, h1, h2, h3, h4, h5⟩, _⟩ := (show ObjOk P w H h d (memoD P w d l) from ok d _ e)
  refine ⟨xs, hd, hl, r, o, es, ep, h1, h2, h3, h4, ?_, h5⟩
  have all : ∀ {l : List Ent} {m : List (NestedKey × Addr × Value)}, Paired EntR l m → KeysAt H l → ∀ x ∈ m, (nestedKind P w).is h x.1 x.2.1 := by
    intro l m q
    induction q with
    | nil => intro _ x hx; exact nomatch hx
    | @cons p q ps qs hq t ih =>
      intro hk x hx
      rcases List.mem_cons.mp hx with e | hx
      · subst e
        rw [hq.1, hq.2.1]
        exact key_is ok (hk p List.mem_cons_self)
      · exact ih (fun e he => hk e (List.mem_cons_of_mem _ he)) x hx
  exact all r hk
theorem memo_new {P : Program} {w : World} {H' : Hp} {h' : Heap} {d : Addr} {l : List Ent} {xs : List (NestedKey × Addr × Value)} (hd : (d == sysModules) = false) (hl : l.length ≤ 1000) (r : Paired EntR l xs)
    (dd : h'.DictOfH (nestedKind P w) d xs) : ObjOk P w H' h' d (memoD P w d l) := by
  obtain ⟨o, es, ep, h1, h2, h3, h4, _, h5⟩ := dd
  refine ⟨⟨hd, hl, xs, r, o, es, ep, h1, h2, h3, h4, h5⟩, ⟨o, h1⟩, ?_⟩
  rintro g1 g2 ⟨hd, hl, xs, r, o, es, ep, h1, h2, h3, h4, h5⟩ k
  exact ⟨hd, hl, xs, r, o, es, ep, k o h1, h2, h3, h4, h5⟩
/-- the number that is kept for a key -/
def findE : List Ent → NestedKey → Option Int
  | [], _ => none
  | e :: l, k => if e.1 = k then some e.2.2 else findE l k
theorem find_at {l : List Ent} {xs : List (NestedKey × Addr × Value)} (r : Paired EntR l xs) (k : NestedKey) :
    (∃ n t, findE l k = some n ∧ (atKey xs k).map (·.2) = some (.int n t)) ∨ (findE l k = none ∧ atKey xs k = none) := by
  induction r with
  | nil => exact .inr ⟨rfl, rfl⟩
  | @cons p q ps qs hq t ih =>
    obtain ⟨e1, e2, t, e3⟩ := hq
    by_cases h : p.1 = k
    · refine .inl ⟨p.2.2, t, by simp [findE, h], ?_⟩
      simp [atKey, e1, h, e3]
    · have h1 : findE (p :: ps) k = findE ps k := by simp [findE, h]
      have h2 : atKey (q :: qs) k = atKey qs k := by simp [atKey, e1, h]
      rw [h1, h2]
      exact ih
def V.ofN : Option Int → V
  | some n => .int n
  | none => .non
end Wk
set_option Elab.async false
set_option linter.all false
set_option maxRecDepth 100000
set_option maxHeartbeats 4000000
/-! What is asked of the dict of a memo. -/
namespace Wk
open PySem PySem.Spec PyProof.Rows L2
theorem find_isSome {l : List Ent} {xs : List (NestedKey × Addr × Value)} (r : Paired EntR l xs) (k : NestedKey) : (atKey xs k).isSome = (findE l k).isSome := by
  rcases find_at r k with ⟨n, t, e1, e2⟩ | ⟨e1, e2⟩
  · rw [e1]
    cases h : atKey xs k with
    | none => rw [h] at e2; cases e2
    | some p => rfl
  · rw [e1, e2]
    rfl
section
variable {X : Cx}
/-- {} -/
def tMNew (P : Program) (w : World) : TE := fun _ H Q => ∀ p, H p = none → Q (.ref p) (upd H p (memoD P w p []))
theorem pe_mnew {pos : Pos} : PE X (.Dict [] [] pos) (tMNew X.prog X.w) := ⟨fun pins s σ H Q I h =>
  wpAny_Dict_empty ⟨.ref s.heap.objs.size, _, I.laid (a := s.heap.objs.size) (o := memoD X.prog X.w s.heap.objs.size []) (t' := s.toks) (fun _ _ q => Heap.get?_push_of_some _ q) (Nat.le_refl _)
    (memo_new (beq_eq_false_iff_ne.mpr (Ne.symm (Nat.ne_of_lt I.big))) (Nat.zero_le _) .nil (Heap.DictOfH.new _)), rfl, h _ (I.hok.fresh (Nat.le_refl _))⟩⟩
/-- the value asked for: None, or a key's tuple -/
def AskedAs (H : Hp) (y : V) (l : List Ent) (r : Option Int) : Prop := (y = .non ∧ r = none) ∨ ∃ k b, y = .ref b ∧ KeyAt H k b ∧ r = findE l k
/-- y in d -/
def rMIn (P : Program) (w : World) : R2 := fun y x H Q => ∃ a l r, x = .ref a ∧ H a = some (memoD P w a l) ∧ KeysAt H l ∧ AskedAs H y l r ∧ Q (.bl r.isSome) H
theorem op_min (hu : X.A.units + 10 < cLine) : OpR X (compareOp .In) (rMIn X.prog X.w) := by
  rintro pins s σ H y x v u Q I ry rx ⟨a, l, r, rfl, ha, hk, as, q⟩
  cases rx
  obtain ⟨xs, hd, hl, rel, dd⟩ := memo_at I.hok ha hk
  rcases as with ⟨rfl, rfl⟩ | ⟨k, b, rfl, kb, rfl⟩
  · cases ry
    exact none_in (show X.A.units + 1 + 8 < cLine by omega) hd dd ⟨.bl false, H, I.tok _, rfl, q⟩
  · cases ry
    refine wpAny_in_heap (show X.A.units + 1 + 8 < cLine by omega) (key_is I.hok kb) hd dd ?_
    rw [find_isSome rel k]
    exact ⟨.bl _, H, I.tok _, rfl, q⟩
/-- y not in d -/
def rMNotIn (P : Program) (w : World) : R2 := fun y x H Q => ∃ a l k b, x = .ref a ∧ H a = some (memoD P w a l) ∧ KeysAt H l ∧ y = .ref b ∧ KeyAt H k b ∧ Q (.bl (!(findE l k).isSome)) H
theorem op_mnotin (hu : X.A.units + 10 < cLine) : OpR X (compareOp .NotIn) (rMNotIn X.prog X.w) := by
  rintro pins s σ H y x v u Q I ry rx ⟨a, l, k, b, rfl, ha, hk, rfl, kb, q⟩
  cases rx
  cases ry
  obtain ⟨xs, hd, hl, rel, dd⟩ := memo_at I.hok ha hk
  refine wpAny_notIn_heap (show X.A.units + 1 + 8 < cLine by omega) (key_is I.hok kb) hd dd ?_
  rw [find_isSome rel k]
  exact ⟨.bl _, H, I.tok _, rfl, q⟩
/-- d.get(y) -/
def tyMemo (P : Program) (w : World) (x : V) (H : Hp) : Prop := ∃ a l, x = .ref a ∧ H a = some (memoD P w a l)
theorem ty_memo : TyOk X "dict" (tyMemo X.prog X.w) := by
  intro pins σ H s x v I r ty
  obtain ⟨a, l, rfl, ha⟩ := ty
  cases r
  obtain ⟨⟨hd, hl, xs, r, o, es, ep, h1, h2, h3, h4, h5⟩, _⟩ := (show ObjOk X.prog X.w H s.heap a (memoD X.prog X.w a l) from I.hok a _ ha)
  refine ⟨⟨_, h1, h2.1⟩, fun b e => ?_⟩
  cases e
  exact ⟨_, h1, h2.2.1⟩
def rMGet (P : Program) (w : World) : V → List V → Hp → VK → Prop := fun x ys H Q => ∃ a l y r, x = .ref a ∧ ys = [y] ∧ H a = some (memoD P w a l) ∧ KeysAt H l ∧ AskedAs H y l r ∧ Q (V.ofN r) H
theorem mt_mget (hu : X.A.units + 10 < cLine) : MtR X "dict.get" (rMGet X.prog X.w) := by
  intro pins s σ H x ys v us Q I rx rys h
  obtain ⟨a, l, y, r, rfl, rfl, ha, hk, as, q⟩ := h
  cases rx
  obtain ⟨u, rfl, ry⟩ := vals1 rys
  obtain ⟨xs, hd, hl, rel, dd⟩ := memo_at I.hok ha hk
  rcases as with ⟨rfl, rfl⟩ | ⟨k, b, rfl, kb, rfl⟩
  · cases ry
    exact none_getm (show X.A.units + 1 + 8 < cLine by omega) hd dd ⟨.non, H, I.tok _, rfl, q⟩
  · cases ry
    refine call_meetsIn PySem.F.slot_dict_get dd.typeIs PySem.F.entry_dict_get (PySem.F.args_dict_get_2 _ _) (meetsH_dict_get (nestedKind X.prog X.w) a b hd) ⟨(show X.A.units + 1 + 8 < cLine by omega), k, xs, key_is I.hok kb, dd, ?_⟩
    rcases find_at rel k with ⟨n, t, e1, e2⟩ | ⟨e1, e2⟩
    · rw [e2]
      rw [e1] at q
      exact ⟨.int n, H, I.tok _, ⟨t, rfl⟩, q⟩
    · rw [e2]
      rw [e1] at q
      exact ⟨.non, H, I.tok _, rfl, q⟩
/-- d[y] = v, where y is new -/
def sMPut (P : Program) (w : World) (td ty tv : TE) : TS := fun D σ H => tv σ H fun v H1 => td σ H1 fun x H2 => ty σ H2 fun y H3 => ∃ a l k b n, x = .ref a ∧ v = .int n ∧ H3 a = some (memoD P w a l) ∧ KeysAt H3 l ∧ l.length < 1000 ∧
  y = .ref b ∧ KeyAt H3 k b ∧ findE l k = none ∧ D.nx σ (upd H3 a (memoD P w a (l ++ [(k, b, n)])))
theorem ps_mput {o i value : Expr} {pos pos' : Pos} {td ty tv : TE} (hu : X.A.units + 10 < cLine) (ho : PE X o td) (hi : PE X i ty) (hv : PE X value tv) (hs : swapsWith value (some (.Subscript o i pos')) pos.line X.env = pure false) :
    PS X (.Assign [.Subscript o i pos'] value pos) (sMPut X.prog X.w td ty tv) := by
  refine ⟨fun pins s σ H D I h => ?_⟩
  refine wpAny_Assign_Subscript (thn (hv.run pins s σ H _ I h) fun r s1 ⟨v, H1, I1, rv, q1⟩ => thn (ho.run pins s1 σ H1 _ I1 q1) fun u s2 ⟨x, H2, I2, rx, q2⟩ => thn (hi.run pins s2 σ H2 _ I2 q2) fun iv s3 ⟨y, H3, I3, ry, a, l, k, b, n, ex, ev, ha, hk, hl, ey, kb, no, q3⟩ => ?_) hs
  subst ex ev ey
  cases rx
  cases ry
  obtain ⟨t, rfl⟩ := rv
  obtain ⟨xs, hd, _, rel, dd⟩ := memo_at I3.hok ha hk
  have no2 : atKey xs k = none := by
    rcases find_at rel k with ⟨n, t, e1, e2⟩ | ⟨e1, e2⟩
    · rw [no] at e1; cases e1
    · exact e2
  have hz : xs.length ≤ sizeLine := by
    rw [← Paired.length rel, sizeLine_eq]
    omega
  refine wpAny_setItem_heap (hsz := hz) (show X.A.units + 1 + 8 < cLine by omega) (key_is I3.hok kb) dd fun h' dd' hs => ?_
  rw [storedH_new no2] at dd'
  have he : ∃ q, h'.get? a = some q := let ⟨q, _, _, hq, _⟩ := dd'; ⟨q, hq⟩
  exact ⟨σ, _, d_write I3 (by rw [ha]; exact True.intro) hs he (memo_new hd (by rw [List.length_append]; show l.length + 1 ≤ 1000; omega) (Paired.snoc rel ⟨rfl, rfl, t, rfl⟩) dd'), q3⟩
/-- len(d) -/
def rMLen (P : Program) (w : World) : List V → Hp → VK → Prop := fun xs H Q => ∃ a l, xs = [.ref a] ∧ H a = some (memoD P w a l) ∧ KeysAt H l ∧ Q (.int ((l.length : Nat) : Int)) H
theorem call_mlen : CallR X (.builtin "len") (rMLen X.prog X.w) := by
  intro pins s σ H xs us Q I r h
  obtain ⟨a, l, rfl, ha, hk, q⟩ := h
  obtain ⟨u, rfl, rx⟩ := vals1 r
  cases rx
  obtain ⟨ys, hd, hl, rel, dd⟩ := memo_at I.hok ha hk
  have e := Paired.length rel
  refine call_len_dictH hd dd (by rw [← e]; omega) ?_
  rw [← e]
  exact ⟨.int ((l.length : Nat) : Int), H, I.tok _, ⟨_, rfl⟩, q⟩
/-- d.items() -/
def rMItems (P : Program) (w : World) : V → List V → Hp → VK → Prop := fun x xs H Q => ∃ a l, x = .ref a ∧ xs = [] ∧ H a = some (memoD P w a l) ∧ ∀ p, H p = none → Q (.ref p) (upd H p (DX.itemsO p a))
theorem mt_mitems : MtR X "dict.items" (rMItems X.prog X.w) := by
  intro pins s σ H x xs v us Q I rx rxs h
  obtain ⟨a, l, rfl, rfl, ha, q⟩ := h
  cases rx
  cases rxs
  obtain ⟨⟨hd, hl, xs, r, o, es, ep, h1, h2, h3, h4, h5⟩, _⟩ := (show ObjOk X.prog X.w H s.heap a (memoD X.prog X.w a l) from I.hok a _ ha)
  refine DT.callItems (es := es) (ep := ep) hd ⟨o, h1, h2, h3⟩ ?_
  have hf : H s.heap.objs.size = none := I.hok.fresh (Nat.le_refl _)
  exact ⟨.ref s.heap.objs.size, upd H s.heap.objs.size (DX.itemsO s.heap.objs.size a), I.laid (t' := s.toks) (fun b u e => Heap.get?_push_of_some _ e) (Nat.le_refl _) (DX.itemsO_ok (Heap.get?_push_size _ rfl)), rfl, q _ hf⟩
/-- list(d.items()) -/
def rMList (P : Program) (w : World) : List V → Hp → VK → Prop := fun xs H Q => ∃ p a l, xs = [.ref p] ∧ H p = some (DX.itemsO p a) ∧ H a = some (memoD P w a l) ∧ KeysAt H l ∧
  ∀ (H2 : Hp) (L : Addr) (bs : List Addr), (∀ b o, H b = some o → H2 b = some o) → H L = none → (∀ b ∈ bs, H b = none) → bs.length = l.length → H2 L = some (.lst (bs.map V.ref)) →
    (∀ (j : Nat) (b : Addr) (e : Ent), bs[j]? = some b → l[j]? = some e → H2 b = some (.tup [.ref e.2.1, .int e.2.2])) → Q (.ref L) H2
theorem call_mlist (hc : X.calm = true) : CallR X (.type "list") (rMList X.prog X.w) := by
  intro pins s σ H xs us Q I r h
  obtain ⟨p, a, l, rfl, hp, ha, hk, q⟩ := h
  obtain rfl := Vals.ref1 r
  have view : s.heap.IsItemsView p a := (show ObjOk X.prog X.w H s.heap p (DX.itemsO p a) from I.hok p _ hp).1
  obtain ⟨xs', hd, hl, rel, o, es, ep, ho, hx, hdat, hes, his, hn⟩ := memo_at I.hok ha hk
  have l1 := Paired.length rel
  have l2 : es.size = xs'.length := size_of_entries hes
  have hh : X.A.handled = none := I.ok.hd hc
  refine PySem.W.dil_call (es := es) (ep := ep) hh view ⟨o, ho, hx, hdat⟩ (by rw [sizeLine_eq]; omega) fun h' tk acc c as hkp hS hla hG hacc => ?_
  have nd : as.Nodup := List.Pairwise.imp (fun h => Nat.ne_of_lt h) hG.rise
  have pr : ∀ (j : Nat) (b : Addr), as[j]? = some b → ∃ (e : Ent) (t : Tok), l[j]? = some e ∧ h'.get? b = some { cls := .type "tuple", data := .seq #[Value.ref e.2.1, Value.int e.2.2 t] } := by
    intro j b hj
    obtain ⟨hje, hg⟩ := hG.pairs j b hj
    have he : es[j]? = some es[j] := Array.getElem?_eq_getElem hje
    rw [entry_at hes j] at he
    cases hxj : xs'[j]? with
    | none =>
      rw [hxj] at he
      cases he
    | some x =>
      rw [hxj] at he
      have een : entryOfKey (nestedKind X.prog X.w) x = es[j] := Option.some.inj he
      obtain ⟨e0, he0, r1, r2, t, r3⟩ := DX.pget rel hxj
      refine ⟨e0, t, he0, ?_⟩
      rw [hg, ← een]
      show some _ = some _
      rw [← r2, ← r3]
      rfl
  have hn0 : H s.heap.objs.size = none := I.hok.fresh (Nat.le_refl _)
  have I1 : Inv X pins σ H { s with heap := h', toks := tk } := I.kept (t' := tk) hkp
  have hlen : (as.map V.ref).length ≤ sizeLine := by
    rw [List.length_map, sizeLine_eq]
    omega
  have rv : Vals (as.map V.ref) acc.toList := by
    rw [hacc]
    exact vals_maps (fun z : Addr => V.ref z) (fun z => Value.ref z) as fun _ _ => rfl
  have I2 : Inv X pins σ (upd H s.heap.objs.size (.lst (as.map V.ref))) { s with heap := h', toks := tk } :=
    I1.take (h' := h') (t' := tk) (fun b ob _ e => e) (I.fpOk (Nat.le_refl _) hn0) ⟨hlen, acc.toList, c, rv, by simpa using hS⟩
  obtain ⟨H2, I3, g, qt⟩ := DX.takeT (P := fun b vs => ∃ (j : Nat) (e : Ent), as[j]? = some b ∧ l[j]? = some e ∧ vs = [.ref e.2.1, .int e.2.2]) I as _ I2 nd fun b hb => by
    obtain ⟨j, hj⟩ := List.mem_iff_getElem?.mp hb
    obtain ⟨e, t, he, hg⟩ := pr j b hj
    have hbl : s.heap.objs.size < b := hG.above b hb
    refine ⟨Nat.le_of_lt hbl, ?_, [.ref e.2.1, .int e.2.2], ⟨j, e, hj, he, rfl⟩, fun H3 => ⟨(by rw [sizeLine_eq]; show 2 ≤ 16777216; omega), [Value.ref e.2.1, Value.int e.2.2 t], .cons rfl (.cons ⟨t, rfl⟩ .nil), ⟨_, hg, rfl, 0, rfl⟩⟩⟩
    rw [upd_ne (Nat.ne_of_gt hbl)]
    exact I.hok.fresh (Nat.le_of_lt hbl)
  have gr : ∀ b o, H b = some o → H2 b = some o := fun b o e => g b o (by rw [upd_ne (ne_of_none e hn0)]; exact e)
  refine ⟨.ref s.heap.objs.size, H2, I3, rfl, q H2 s.heap.objs.size as gr hn0 (fun b hb => I.hok.fresh (Nat.le_of_lt (hG.above b hb))) (by omega) (g _ _ upd_same) fun j b e hj he => ?_⟩
  obtain ⟨vs, ⟨j', e', j1, j2, ev⟩, hH⟩ := qt b (List.mem_of_getElem? hj)
  have eij : j = j' := (List.getElem?_inj (List.getElem?_eq_some_iff.mp hj).1 nd).mp (hj.trans j1.symm)
  subst eij
  rw [he] at j2
  cases j2
  rw [ev] at hH
  exact hH
end
end Wk
set_option Elab.async false
set_option linter.all false
set_option maxRecDepth 100000
set_option maxHeartbeats 4000000
/-! Things of a class of one's own: len, in, == and != by identity. -/
namespace Wk
open PySem PySem.Spec PyProof.Rows L2
open PySem.W (InstAt Looks findIn isFn mroIn notFirst)
section
variable {prog : Program} {w : World} {A : Around} {E : Value → Shared → Prop} {s : Shared} {K : PySem.W.Frag} {x y C : Addr} {ox oy : Obj} {od odo : Option Obj} {b : Value}
theorem bound_blt {id : String} {name : Str} {T : String} {args : List Value} {Q : Option Value → Shared → Prop} (X : K.In s.heap) (I : InstAt s.heap x ox C od) (S : Slot T name id) (hs : findIn K (.ref C) name = some (some (.builtin id)))
    (h : wpAny (model prog w) A (call (.builtin id) (.ref x :: args)) (fun v => Q (some v)) E s) : wpAny (model prog w) A (callSpecialIfBound? (.ref x) name args) Q E s := by
  unfold callSpecialIfBound? bindSpecialIfBound?
  apply wpAny_holding
  apply wpAny_bind
  apply wpAny_bind
  apply wpAny_bind
  apply I.type.here
  apply (PySem.W.looks_findIn X hs).here
  apply wpAny_bind
  refine wpAny_askSetting (wpAny_ite ?_)
  have run : wpAny (model prog w) A (call (.builtin id) ([.ref x] ++ args) >>= fun v => pure (some v)) Q E s := wpAny_bind (wpAny_mono h (fun _ _ q => wpAny_pure q) fun _ _ e => e)
  split
  · exact wpAny_bind (wpAny_of_eq (S.bind _) (wpAny_pure run))
  · exact wpAny_tryCatch (wpAny_bind (wpAny_of_eq (S.bind _) (wpAny_pure run)))
theorem inst_tup (I : InstAt s.heap x ox C od) : ox.cls ≠ .type "tuple" := by
  rw [I.cls]
  intro z
  cases z
/-- object.__eq__ -/
theorem eq_obj0 {Q : Value → Shared → Prop} (X : K.In s.heap) (I : InstAt s.heap x ox C od) (hm : mroIn K C (.type "object") = some true) (hq : Q (.bool true) s) :
    wpAny (model prog w) A (call (.builtin "object.__eq__") [.ref x, .ref x]) Q E s := by
  refine wpAny_call (codeAny_call_builtin F.cmp_object.eq.plain F.cmpEntry_eq (PySem.W.check_slot F.cmpKind_eq F.cmpSplit_eq (I.type.andThen (PySem.W.looks_mroIn X hm)) (F.cmpArgs_eq _ _) ?_))
  unfold Builtin.«object.__eq__»
  repeat (first | with_reducible refine wpAny_isSame_ref_self ?_ | wp_step)
  exact hq
theorem eq_obj1 {Q : Value → Shared → Prop} (X : K.In s.heap) (I : InstAt s.heap x ox C od) (J : s.heap.get? y = some oy) (hne : x ≠ y) (hm : mroIn K C (.type "object") = some true) (hq : Q .notImplemented s) :
    wpAny (model prog w) A (call (.builtin "object.__eq__") [.ref x, .ref y]) Q E s := by
  refine wpAny_call (codeAny_call_builtin F.cmp_object.eq.plain F.cmpEntry_eq (PySem.W.check_slot F.cmpKind_eq F.cmpSplit_eq (I.type.andThen (PySem.W.looks_mroIn X hm)) (F.cmpArgs_eq _ _) ?_))
  unfold Builtin.«object.__eq__»
  repeat (first | with_reducible refine wpAny_isSame_ref_other hne I.at_ J (inst_tup I) ?_ | wp_step)
  exact hq
/-- object.__ne__ of two things -/
theorem ne_obj {Q : Value → Shared → Prop} (hu : A.in1.units < cLine) (X : K.In s.heap) (I : InstAt s.heap x ox C od) (J : s.heap.get? y = some oy) (hm : mroIn K C (.type "object") = some true) (he : findIn K (.ref C) "__eq__" = some (some (.builtin "object.__eq__")))
    (hne : x ≠ y) (hq : Q .notImplemented s) : wpAny (model prog w) A (call (.builtin "object.__ne__") [.ref x, .ref y]) Q E s := by
  refine wpAny_call (codeAny_call_builtin F.cmp_object.ne.plain F.cmpEntry_ne (PySem.W.check_slot F.cmpKind_ne F.cmpSplit_ne (I.type.andThen (PySem.W.looks_mroIn X hm)) (F.cmpArgs_ne _ _) ?_))
  unfold Builtin.«object.__ne__»
  have one : wpAny (model prog w) A.in1 (callSpecialIfBound? (.ref x) "__eq__" [.ref y]) (fun r s' => r = some .notImplemented ∧ s' = s) (fun z s' => E z s') s :=
    bound_blt X I F.cmp_object.eq he (eq_obj1 X I J hne hm ⟨rfl, rfl⟩)
  generalize callSpecialIfBound? = CS at one ⊢
  repeat (first | with_reducible refine wpAny_cRoomFor hu ?_ | with_reducible refine wpAny_mono one (fun r s1 got => ?_) (fun _ _ e => e) | wp_step)
  obtain ⟨rfl, rfl⟩ := got
  repeat wp_step
  exact hq
theorem ne_two (hu : A.units + 1 < cLine) (X : K.In s.heap) (I : InstAt s.heap x ox C od) (J : InstAt s.heap y oy C odo) (hm : mroIn K C (.type "object") = some true) (he : findIn K (.ref C) "__eq__" = some (some (.builtin "object.__eq__")))
    (hn : findIn K (.ref C) "__ne__" = some (some (.builtin "object.__ne__"))) (hne : x ≠ y) {Q : Value → Shared → Prop} (h : Q (.bool true) s) : wpAny (model prog w) A (richCompare .NotEq (.ref x) (.ref y)) Q E s := by
  have one : wpAny (model prog w) A (tryCompare (.ref x) "__ne__" (.ref y)) (fun r s' => r = none ∧ s' = s) E s := by
    unfold tryCompare
    exact wpAny_bind (bound_blt X I F.cmp_object.ne hn (ne_obj hu X I J.at_ hm he hne (wpAny_pure ⟨rfl, rfl⟩)))
  have two : wpAny (model prog w) A (tryCompare (.ref y) "__ne__" (.ref x)) (fun r s' => r = none ∧ s' = s) E s := by
    unfold tryCompare
    exact wpAny_bind (bound_blt X J F.cmp_object.ne hn (ne_obj hu X J I.at_ hm he (Ne.symm hne) (wpAny_pure ⟨rfl, rfl⟩)))
  unfold richCompare
  simp only [oneThing_ref, cmpInfo_NotEq]
  refine wpAny_holding (wpAny_bind (wpAny_cRoomFor (by omega) ?_))
  refine wpAny_bind (I.type.here ?_)
  refine wpAny_bind (J.type.here ?_)
  rw [if_neg (by simp)]
  refine wpAny_bind (wpAny_pure ?_)
  simp only [Bool.false_eq_true, if_false, Bool.not_false, if_true]
  refine wpAny_bind (m := tryCompare (.ref x) _ (.ref y)) (wpAny_mono one (fun r s1 z => ?_) fun _ _ e => e)
  obtain ⟨z1, z2⟩ := z
  subst z1 z2
  refine wpAny_bind (m := tryCompare (.ref y) _ (.ref x)) (wpAny_mono two (fun r s2 z => ?_) fun _ _ e => e)
  obtain ⟨z1, z2⟩ := z
  subst z1 z2
  exact wpAny_bind (wpAny_rule (wpAny_bind (wpAny_isSame_ref_other hne I.at_ J.at_ (inst_tup I) (wpAny_pure h))))
theorem eq_one (hu : A.units + 1 < cLine) (X : K.In s.heap) (I : InstAt s.heap x ox C od) (hm : mroIn K C (.type "object") = some true) (he : findIn K (.ref C) "__eq__" = some (some (.builtin "object.__eq__")))
    {Q : Value → Shared → Prop} (h : Q (.bool true) s) : wpAny (model prog w) A (richCompare .Eq (.ref x) (.ref x)) Q E s := by
  have one : wpAny (model prog w) A (tryCompare (.ref x) "__eq__" (.ref x)) (fun r s' => r = some (.bool true) ∧ s' = s) E s := by
    unfold tryCompare
    exact wpAny_bind (bound_blt X I F.cmp_object.eq he (eq_obj0 X I hm (wpAny_pure ⟨rfl, rfl⟩)))
  unfold richCompare
  simp only [oneThing_ref, cmpInfo_Eq]
  refine wpAny_holding (wpAny_bind (wpAny_cRoomFor (by omega) ?_))
  refine wpAny_bind (I.type.here ?_)
  refine wpAny_bind (I.type.here ?_)
  rw [if_neg (by simp)]
  refine wpAny_bind (wpAny_pure ?_)
  simp only [Bool.false_eq_true, if_false, Bool.not_false, if_true]
  refine wpAny_bind (m := tryCompare (.ref x) _ (.ref x)) (wpAny_mono one (fun r s1 z => ?_) fun _ _ e => e)
  obtain ⟨z1, z2⟩ := z
  subst z1 z2
  exact wpAny_pure h
end
end Wk
set_option Elab.async false
set_option linter.all false
set_option maxRecDepth 100000
set_option maxHeartbeats 4000000
namespace Wk
open PySem PySem.Spec PyProof.Rows L2
open PySem.W (InstAt Looks findIn isFn mroIn notFirst)
/-- a class whose == and != are those of object -/
structure IdEqual (K : PySem.W.Frag) (C : Addr) : Prop where
  top : mroIn K C (.type "object") = some true
  ne : findIn K (.ref C) "__ne__" = some (some (.builtin "object.__ne__"))
  eq : findIn K (.ref C) "__eq__" = some (some (.builtin "object.__eq__"))
section
variable {X : Cx} {CX : CXT} {n : Nat} {C f : Addr} {fd : FuncData} {ps : List Str} {sp : Sp} {E : XK}
theorem inst_of {pins : List (Addr × Obj)} {σ : L2.St} {H : Hp} {s : Shared} {a dx : Addr} {fs : List (Str × V)} (I : Inv X pins σ H s) (ha : H a = some (.ins C dx fs)) : ∃ ox od, InstAt s.heap a ox C od := by
  obtain ⟨mA, J, _⟩ := ins_get I.hok ha
  obtain ⟨od, J, _⟩ := J.look
  exact ⟨_, od, J⟩
/-- x != y, two things -/
def rIdNe (C : Addr) : R2 := fun x y H Q => ∃ a b dx dy fs gs, x = .ref a ∧ y = .ref b ∧ a ≠ b ∧ H a = some (.ins C dx fs) ∧ H b = some (.ins C dy gs) ∧ Q (.bl true) H
theorem op_idNe (hu : X.A.units + 1 < cLine) (O : IdEqual X.K C) : OpR X (compareOp .NotEq) (rIdNe C) := by
  rintro pins s σ H x y v u Q I rx ry ⟨a, b, dx, dy, fs, gs, rfl, rfl, hne, ha, hb, q⟩
  cases rx
  cases ry
  obtain ⟨ox, od, J1⟩ := inst_of I ha
  obtain ⟨oy, od2, J2⟩ := inst_of I hb
  exact ne_two hu I.kIn J1 J2 O.top O.eq O.ne hne ⟨.bl true, H, I, rfl, q⟩
/-- x == x -/
def rIdEq (C : Addr) : R2 := fun x y H Q => ∃ a dx fs, x = .ref a ∧ y = .ref a ∧ H a = some (.ins C dx fs) ∧ Q (.bl true) H
theorem op_idEq (hu : X.A.units + 1 < cLine) (O : IdEqual X.K C) : OpR X (compareOp .Eq) (rIdEq C) := by
  rintro pins s σ H x y v u Q I rx ry ⟨a, dx, fs, rfl, rfl, ha, q⟩
  cases rx
  cases ry
  obtain ⟨ox, od, J1⟩ := inst_of I ha
  exact eq_one hu I.kIn J1 O.top O.eq ⟨.bl true, H, I, rfl, q⟩
theorem run_own {A : Around} {pins : List (Addr × Obj)} {σ : L2.St} {H : Hp} {s : Shared} {Q : VK} {us : List Value} {ys : List V} (F : FnOk X.prog X.w X.K X.mg X.base CX n f fd ps sp) (hb : Binds X.K fd ps []) (hx : Passes CX X E)
    (room : Room n A) (fr : A.frames = X.A.frames) (I : Inv X pins σ H s) (r : Vals ys us) (h : sp ys H Q E) : wpAny (model X.prog X.w) A (call (.ref f) us) (EP X pins σ Q) X.xe s := by
  have lenY : ys.length = ps.length := F.len _ _ _ _ h
  have lenU : us.length = ps.length := by rw [← r.length, lenY]
  have b0 := hb s us I.kIn (by simpa using lenU)
  rw [List.append_nil] at b0
  have e0 : Env0 X.prog X.w X.K X.mg X.base A X.stack s H := { I.env0 with frames := fr.trans I.env0.frames }
  apply wpAny_call
  refine codeAny_mono (F.run A X.stack s H ⟨us, []⟩ us ys Q E room e0 b0 r h) ?_
  intro res s2 got
  rcases res with e | (_ | _ | _ | u)
  · exact hx pins σ H s e s2 I got
  · exact got.elim
  · exact got.elim
  · exact got.elim
  · exact I.after got
/-- len(x), by the class's own __len__ -/
def rOwnLen (C : Addr) (sp : Sp) (E : XK) : List V → Hp → VK → Prop := fun xs H Q => ∃ a dx fs, xs = [.ref a] ∧ H a = some (.ins C dx fs) ∧ sp [.ref a] H (fun v H' => ∃ m : Int, v = .int m ∧ 0 ≤ m ∧ m < 2 ^ 63 ∧ Q (.int m) H') E
theorem call_ownLen (F : FnOk X.prog X.w X.K X.mg X.base CX n f fd ps sp) (hb : Binds X.K fd ps []) (hx : Passes CX X E) (hs : findIn X.K (.ref C) "__len__" = some (some (.ref f))) (hf : isFn X.K (.ref f) = true) (room : Room (n + 1) X.A) :
    CallR X (.builtin "len") (rOwnLen C sp E) := by
  intro pins s σ H xs us Q I r h
  obtain ⟨a, dx, fs, rfl, ha, p⟩ := h
  obtain ⟨u, rfl, rx⟩ := vals1 r
  cases rx
  obtain ⟨ox, od, J⟩ := inst_of I ha
  obtain ⟨m, fr⟩ := I.fr
  refine PySem.W.len_K fr I.ok.mod.kin J hs hf ?_
  refine wpAny_mono (run_own F hb hx room.in1 rfl I (.cons (show L2.RelV (.ref a) (.ref a) from rfl) .nil) p) ?_ fun _ _ e => e
  rintro z s2 ⟨v, H2, I2, rz, m, rfl, m0, m1, q⟩
  obtain ⟨t, rfl⟩ := rz
  exact ⟨⟨m0, m1⟩, .int m, H2, I2.tok _, ⟨_, rfl⟩, q⟩
/-- y in x, by the class's own __contains__ -/
def rOwnIn (C : Addr) (sp : Sp) (E : XK) : R2 := fun y x H Q => ∃ a dx fs, x = .ref a ∧ H a = some (.ins C dx fs) ∧ sp [.ref a, y] H (fun v H' => ∃ c : Bool, v = .bl c ∧ Q (.bl c) H') E
theorem op_ownIn (F : FnOk X.prog X.w X.K X.mg X.base CX n f fd ps sp) (hb : Binds X.K fd ps []) (hx : Passes CX X E) (hs : findIn X.K (.ref C) "__contains__" = some (some (.ref f))) (hf : isFn X.K (.ref f) = true) (room : Room n X.A) :
    OpR X (compareOp .In) (rOwnIn C sp E) := by
  rintro pins s σ H y x v u Q I ry rx ⟨a, dx, fs, rfl, ha, p⟩
  cases rx
  obtain ⟨ox, od, J⟩ := inst_of I ha
  obtain ⟨m, fr⟩ := I.fr
  refine PySem.W.in_K fr I.ok.mod.kin J hs hf ?_
  refine wpAny_mono (run_own F hb hx room rfl I (ys := [.ref a, y]) (.cons (show L2.RelV (.ref a) (.ref a) from rfl) (.cons ry .nil)) p) ?_ fun _ _ e => e
  rintro z s2 ⟨v, H2, I2, rz, c, rfl, q⟩
  obtain rfl := rz
  exact wpAny_truthy_bool ⟨.bl c, H2, I2, rfl, q⟩
end
/-! ## == of a key's tuple and of None -/
section
variable {X : Cx}
/-- a tuple that is a key, held against a key or None -/
def rKeyEq : R2 := fun x y H Q => ∃ k a, x = .ref a ∧ KeyAt H k a ∧ ((y = .non ∧ Q (.bl false) H) ∨ ∃ k2 b, y = .ref b ∧ KeyAt H k2 b ∧ Q (.bl (decide (k = k2))) H)
theorem is_tup {h : Heap} {k : NestedKey} {a : Addr} {P : Program} {w : World} (x : (nestedKind P w).is h k a) : ∃ its, h.IsTuple a its := by
  obtain ⟨x, _⟩ := x
  cases x with
  | tup h1 h2 h3 _ => exact ⟨_, _, h1, h2, _, h3⟩
end
end Wk
set_option Elab.async false
set_option linter.all false
set_option maxRecDepth 100000
set_option maxHeartbeats 4000000
namespace Wh
open PySem PySem.Spec PyProof.Rows L2
open Wp hiding Same.refl Same.trans same_new boot_all run_own
open W8 (Ev Rp Kp Mono same_new take_snoc rW rB mW mB ev_words ev_words_eq ev_bools_eq lc_sieve)
section
variable {P : Program} {w : World} {K : PySem.W.Frag} {mg : Str → Option Value} {base : Heap} {CF CK CH CW CU CV : Addr}
theorem walk_enumT {K : PySem.W.Frag} {a : Addr} {xs : List V} : Walk (Wq.IteT K a) xs.length (fun H => SqT K H a xs) (YPair (fun i => some (.int (i : Nat))) (fun i => xs[i]?)) := by
  refine ⟨fun i _ hi q => ⟨xs, xs[i], q, by simp [hi]⟩, fun _ q => ⟨xs, q, rfl⟩, fun i H v H' _ q y => ?_⟩
  obtain ⟨T, x, h1, h2, h3, h4⟩ := y
  exact ⟨T, .int (i : Nat), x, h1, h2, h3, rfl, h4 xs q⟩
/-- the reader keeps every kind, and takes no field twice -/
structure KeptAll (ks1 ks2 : List KD) : Prop where
  len : ks1.length = ks2.length
  keep : ∀ (i : Nat) x y, ks1[i]? = some x → ks2[i]? = some y → KeepK ks1 ks2 x y
  one : ∀ (i : Nat) x y, ks1[i]? = some x → ks2[i]? = some y → ∀ n, (srcs ks1 x (allF ks2 y)).count (some n) ≤ 1
abbrev sRf : Stmt := top 37
abbrev nRf : List Str := ["writer", "reader", "at", "name"]
def spRf (K : PySem.W.Frag) (CF CK CH : Addr) : Sp := fun vs H Q _ => ∃ (s1 s2 : Addr) (r : Str) (ks1 ks2 : List KD), vs = [.ref s1, .ref s2] ∧ HouseAt K CF CK CH H s1 r ks1 ∧ HouseAt K CF CK CH H s2 r ks2 ∧ KindsOk ks1 ∧ KindsOk ks2 ∧ KeptAll ks1 ks2 ∧ ∀ H', Same H H' → Q .non H'
theorem scRf : FnScope nRf ["writer", "reader"] (defScope sRf) := ⟨rfl, rfl, rfl, by decide +kernel, rfl, by decide +kernel, by decide +kernel⟩
theorem ok_Rf2 {f f1 f2 f3 : Addr} {fd fd1 fd2 fd3 : FuncData} (F : Fun K "reader_fault" "reader_fault" sRf f fd) (B : Bn mg) (gE : mg "enumerate" = none) (HC : PlainC K CH houseAt) (HL_ : KMt P w K mg base CH CX0 1 "__len__" nHl (spHl K CF CK CH) f1 fd1) (hlS : PySem.W.findIn K (.ref CH) "__len__" = some (some (.ref f1))) (hlF : PySem.W.isFn K (.ref f1) = true) (IK : Known P w K mg base CX0 5 "_is_kept" ["writer", "reader", "name", "other"] (spIk K CF CK CH) f2 fd2) (TT_ : Known P w K mg base CX0 6 "_takes_twice" ["writer", "reader", "kind"] (spTt K CF CK CH) f3 fd3) : FnOk P w K mg base CX0 7 f fd ["writer", "reader"] (spRf K CF CK CH) := by
  refine F.ok scRf (fun vs H Q E h => ?_) (fun cdv A outer s0 H vs Q E hr h => ?_)
  · obtain ⟨s1, s2, r, ks1, ks2, rfl, _⟩ := h
    rfl
  · obtain ⟨s1, s2, r, ks1, ks2, rfl, h1, h2, o1, o2, kp, k⟩ := h
    refine ⟨_, 
      (pss_cons (ps_for PassesOwn.never rfl (Wq.pi_enumT (by rfl) gE (pa_cons (pe_fld (pv 0) rfl) pa_nil)) (pg_tup rfl (pgs_cons (pg_name (i := 2) scRf.nd rfl (Or.inl rfl)) (pgs_cons (pg_name (i := 3) scRf.nd rfl (Or.inl rfl)) pgs_nil))) 
        (pss_one (ps_if (PW.pt (pw_or (pt_cmpR op_ge (pv 2) (pe_callB (show CallR _ (.builtin "len") (Wk.rOwnLen CH (spHl K CF CK CH) E0) from Wk.call_ownLen HL_.ok HL_.bi pass0 hlS hlF (hr.mono (by decide))) (by rfl) B.len PySem.boot_len (pa_cons (pv 1) pa_nil)) (nomark _)) (pw_or1 (pt_not (pt_val (pe_call IK.ok (hr.mono (by decide)) rfl IK.mg IK.kp IK.bi .nil pass0 (pa_cons (pv 0) (pa_cons (pv 1) (pa_cons (pv 3) (pa_cons (pe_ix ix_tup (pe_fld (pv 1) rfl) (pv 2) (fun _ _ => rfl)) pa_nil)))))))))) 
          (pss_one (ps_ret (pv 3))) pss_nil)))
      (pss_cons (ps_if (pt_cmpR op_gt (pe_callB (show CallR _ (.builtin "len") (Wk.rOwnLen CH (spHl K CF CK CH) E0) from Wk.call_ownLen HL_.ok HL_.bi pass0 hlS hlF (hr.mono (by decide))) (by rfl) B.len PySem.boot_len (pa_cons (pv 1) pa_nil)) (pe_callB (show CallR _ (.builtin "len") (Wk.rOwnLen CH (spHl K CF CK CH) E0) from Wk.call_ownLen HL_.ok HL_.bi pass0 hlS hlF (hr.mono (by decide))) (by rfl) B.len PySem.boot_len (pa_cons (pv 0) pa_nil)) (nomark _)) 
        (pss_one (ps_ret (pe_ix ix_tup (pe_fld (pv 1) rfl) (pe_callB (show CallR _ (.builtin "len") (Wk.rOwnLen CH (spHl K CF CK CH) E0) from Wk.call_ownLen HL_.ok HL_.bi pass0 hlS hlF (hr.mono (by decide))) (by rfl) B.len PySem.boot_len (pa_cons (pv 0) pa_nil)) (fun _ _ => rfl)))) pss_nil)
      (pss_cons (ps_if (pt_cmpR op_ne (pe_fld (pv 1) rfl) (pe_fld (pv 0) rfl) (nomark _)) 
        (pss_one (ps_ret (pe_fld (pv 0) rfl))) pss_nil)
      (pss_cons (ps_for PassesOwn.never rfl (pi_tup (pe_fld (pv 1) rfl)) (pg_name (i := 3) scRf.nd rfl (Or.inl rfl)) 
        (pss_one (ps_if (pt_val (pe_call TT_.ok (hr.mono (by decide)) rfl TT_.mg TT_.kp TT_.bi .nil pass0 (pa_cons (pv 0) (pa_cons (pv 1) (pa_cons (pv 3) pa_nil))))) 
          (pss_one (ps_ret (pv 3))) pss_nil)))
      (pss_one (ps_ret pe_non)))))), ?_⟩
    obtain ⟨dx, n1, _, _, _, _, _, hs1, hn1, _⟩ := h1.ex
    obtain ⟨dy, n2, _, _, _, _, _, hs2, hn2, _⟩ := h2.ex
    have lk := kp.len
    have lm1 : ((ks1.map (·.n)).map V.str).length = ks1.length := by rw [List.length_map, List.length_map]
    have n12 := h1.ok.n12
    refine ⟨_, rfl, s1, CH, dx, _, _, rfl, hs1, HC.cl, HC.no _ (by simp), (lk_h _ _ _ _ _ _ _).2.1, n1, _, rfl, hn1, ?_⟩
    refine for_it walk_enumT (fun i σ H' => ∃ v2 v3, σ = [some (.ref s1), some (.ref s2), v2, v3] ∧ Same H H') ⟨none, none, rfl, Same.refl _⟩ (fun i σ H' _ ⟨_, _, _, sm⟩ => sm.sqT hn1) ?_ ?_
    · rintro i v σ H3 H4 hi ⟨v2, v3, rfl, s3⟩ ⟨T2, a, b, rfl, hT2, rfl, ea, eb⟩
      cases ea
      rw [List.length_map, List.length_map] at hi
      have eb : ((ks1.map (·.n)).map V.str)[i]? = some b := eb
      rw [List.getElem?_map, List.getElem?_map] at eb
      have hx : ks1[i]? = some ks1[i] := List.getElem?_eq_getElem hi
      have hy : ks2[i]? = some ks2[i] := List.getElem?_eq_getElem (by omega)
      generalize ks1[i] = x at hx
      generalize ks2[i] = y at hy
      rw [hx] at eb
      cases eb
      have sT2 := same_new (o := .tup [.int (i : Nat), .str x.n]) hT2
      have s4 := s3.trans sT2
      have mx := List.mem_of_getElem? hx
      have my := List.mem_of_getElem? hy
      refine ⟨T2, _, rfl, SqT.of upd_same, rfl, _, _, rfl, _, _, rfl, rfl, ?_⟩
      refine ⟨_, rfl, _, rfl, s2, dy, _, rfl, s4 _ _ hs2, s2, r, ks2, rfl, h2.same s4, _, rfl, by omega, by omega, i, _, rfl, rfl, _, rfl, ?_⟩
      rw [decide_eq_false (by omega)]
      refine iteF ⟨_, rfl, _, rfl, _, rfl, _, rfl, s2, CH, dy, _, _, rfl, s4 _ _ hs2, HC.cl, HC.no _ (by simp), (lk_h _ _ _ _ _ _ _).2.1, _, rfl, n2, _, _, _, rfl, rfl, s4.sqT hn2, atI_nat (by rw [List.getElem?_map, List.getElem?_map, hy]; rfl), ?_⟩
      refine ⟨s1, s2, r, r, ks1, ks2, x, y, rfl, h1.same s4, h2.same s4, .dat (.str _) (shaped_str (kind_ok (o1.kn x mx)).1), mx, my, kp.keep i x y hx hy, fun H5 e5 => ?_⟩
      exact ⟨_, rfl, iteF ⟨_, _, rfl, s4.trans e5⟩⟩
    rintro σ H4 ⟨v2, v3, rfl, s4⟩
    refine ⟨_, rfl, s2, dy, _, rfl, s4 _ _ hs2, s2, r, ks2, rfl, h2.same s4, _, rfl, by omega, by omega, _, rfl, s1, dx, _, rfl, s4 _ _ hs1, s1, r, ks1, rfl, h1.same s4, _, rfl, by omega, by omega, _, _, rfl, rfl, _, rfl, ?_⟩
    rw [decide_eq_false (by omega)]
    refine iteF ⟨_, rfl, s2, CH, dy, _, _, rfl, s4 _ _ hs2, HC.cl, HC.no _ (by simp), (lk_h _ _ _ _ _ _ _).1, _, rfl, s1, CH, dx, _, _, rfl, s4 _ _ hs1, HC.cl, HC.no _ (by simp), (lk_h _ _ _ _ _ _ _).1, rfl, _, rfl, ?_⟩
    rw [ne_same rfl]
    refine iteF ⟨_, rfl, s2, CH, dy, _, _, rfl, s4 _ _ hs2, HC.cl, HC.no _ (by simp), (lk_h _ _ _ _ _ _ _).2.1, n2, rfl, ⟨_, s4.sqT hn2⟩, ?_⟩
    refine for_it walk_tup (fun i σ H' => ∃ v2 v3, σ = [some (.ref s1), some (.ref s2), v2, v3] ∧ Same H H') ⟨_, _, rfl, s4⟩ (fun i σ H' _ ⟨_, _, _, sm⟩ => sm.sqT hn2) ?_ ?_
    · rintro i v σ _ H5 hi ⟨w2, w3, rfl, s5⟩ ⟨rfl, eb⟩
      rw [List.length_map, List.length_map] at hi
      rw [List.getElem?_map, List.getElem?_map] at eb
      have hy : ks2[i]? = some ks2[i] := List.getElem?_eq_getElem hi
      have hx : ks1[i]? = some ks1[i] := List.getElem?_eq_getElem (by omega)
      generalize ks1[i] = x at hx
      generalize ks2[i] = y at hy
      rw [hy] at eb
      cases eb
      have mx := List.mem_of_getElem? hx
      have my := List.mem_of_getElem? hy
      refine ⟨_, rfl, _, rfl, _, rfl, s1, s2, r, r, ks1, ks2, x, y, rfl, h1.same s5, h2.same s5, o2, mx, my, (kp.keep i x y hx hy).n, kp.one i x y hx hy, fun H6 e6 => ?_⟩
      exact ⟨_, rfl, iteF ⟨_, _, rfl, s5.trans e6⟩⟩
    rintro σ H5 ⟨w2, w3, rfl, s5⟩
    exact k _ s5
end
end Wh
set_option Elab.async false
set_option linter.all false
set_option maxRecDepth 100000
set_option maxHeartbeats 4000000
namespace Wh
open PySem PySem.Spec PyProof.Rows L2
open Wp hiding Same.refl Same.trans same_new boot_all run_own
open W8 (Ev Rp Kp Mono same_new take_snoc rW rB mW mB ev_words ev_words_eq ev_bools_eq lc_sieve)
/-! ## dicts that are walked while others are read -/
section
variable {K : PySem.W.Frag} {CF CK CH CW : Addr}
theorem Dc.locked {α : Type} {R : Rp α} {H : Hp} {t d : Addr} {od : Obj} {kvs : List (Key × V)} {ns : List Str} {cs : List α} (ht : H t = some (.dK kvs)) (st : ∀ v c, R H v c → R (upd H t (.frz od (.dK kvs))) v c) (h : Dc R H d ns cs) : DcG R (upd H t (.frz od (.dK kvs))) d ns cs := by
  obtain ⟨xs, e, l, v⟩ := h
  by_cases eq : d = t
  · subst eq
    rw [ht] at e
    cases e
    exact .inr ⟨od, xs, upd_same, l, v.1, fun i x c a b => st _ _ (v.2 i x c a b)⟩
  · exact .inl ⟨xs, by rw [upd_ne eq]; exact e, l, v.1, fun i x c a b => st _ _ (v.2 i x c a b)⟩
theorem rWv_off {H : Hp} {t : Addr} {o u : HO} (ht : H t = some o) (no : ∀ xs, o ≠ .lst xs) {v : V} {c : Wv} (h : rWv H v c) : rWv (upd H t u) v c := by
  cases c with
  | non => exact h
  | int i => exact h
  | lst l =>
    obtain ⟨a, ea, ha⟩ := h
    refine ⟨a, ea, ?_⟩
    rw [upd_ne fun z => by
      rw [z, ht] at ha
      exact no _ (Option.some.inj ha)]
    exact ha
theorem rWn_off2 {H0 H : Hp} {t : Addr} {o u : HO} (ht : H t = some o) (no : ∀ xs, o ≠ .lst xs) {v : V} {c : Wv} (h : rWn H0 H v c) : rWn H0 (upd H t u) v c := ⟨rWv_off ht no h.1, h.2⟩
/-- unlocked again -/
theorem unlock_same {H H' : Hp} {t : Addr} {od : Obj} {u : HO} (ht : H t = some u) (s : Same (upd H t (.frz od u)) H') : Same H (upd H' t u) := fun b o e => by
  by_cases eb : b = t
  · rw [eb] at e ⊢
    rw [ht] at e
    rw [upd_same]
    exact e
  · rw [upd_ne eb]
    refine s _ _ ?_
    rw [upd_ne eb]
    exact e
theorem dc_unlock {H0 H : Hp} {t d : Addr} {od : Obj} {u w : HO} {ns : List Str} {cs : List Wv} (ht : H t = some (.frz od w)) (h : Dc (rWn H0) H d ns cs) : Dc (rWn H0) (upd H t u) d ns cs := by
  obtain ⟨xs, e, l, v⟩ := h
  refine ⟨xs, ?_, l, v.1, fun i x c a b => rWn_off2 ht (fun xs z => by cases z) (v.2 i x c a b)⟩
  rw [upd_ne fun z => by
    rw [z, ht] at e
    cases e]
  exact e
theorem upd_eq {H : Hp} {a : Addr} {o : HO} (h : H a = some o) : upd H a o = H := by
  funext b
  by_cases e : b = a
  · rw [e, upd_same, h]
  · rw [upd_ne e]
theorem rThN_but {H0 H H' : Hp} {T : Addr} {o : HO} {ys ys' : List V} {v : V} {x : Th} (e0 : H0 T = some o) (e : H T = some (.lst ys)) (e' : H' T = some (.lst ys')) (b : But T H H') (h : rThN K H0 H v x) : rThN K H0 H' v x := by
  have s : Same H (upd H' T (.lst ys)) := fun c o2 q => by
    by_cases eb : c = T
    · rw [eb] at q ⊢
      rw [e] at q
      rw [upd_same]
      exact q
    · rw [upd_ne eb]
      exact b c o2 eb q
  have q := rThN_off (ys' := ys') e0 upd_same (rThN_same s h)
  rw [upd_upd, upd_eq e'] at q
  exact q
theorem srcOf_mem {gs : List FV} {g : FV} {n : Str} (h : srcOf gs g = some n) : ∃ o ∈ gs, o.n = n ∧ fitsB g o = true := by
  unfold srcOf at h
  have q := List.find?_some h
  rw [List.any_eq_true] at q
  obtain ⟨o, mo, e⟩ := q
  rw [Bool.and_eq_true, decide_eq_true_eq] at e
  exact ⟨o, mo, e⟩
theorem WebAt.same {H H' : Hp} {s hs : Addr} {root : Str} {ks : List KD} {here : Nat} {old : Option Nat} {ts : List Th} (h : WebAt K CF CK CH CW H s hs root ks here old ts) (e : Same H H') : WebAt K CF CK CH CW H' s hs root ks here old ts := by
  obtain ⟨⟨dx, lk, lv, us, h1, h2, h3, h4⟩, hh⟩ := h
  exact ⟨⟨dx, lk, lv, us, e _ _ h1, e _ _ h2, e _ _ h3, h4.1, fun i u c a b => let ⟨d, ed, q⟩ := h4.2 i u c a b; ⟨d, ed, q.same dWv e⟩⟩, hh.same e⟩
end
end Wh
set_option Elab.async false
set_option linter.all false
set_option maxRecDepth 100000
set_option maxHeartbeats 4000000
namespace Wh
open PySem PySem.Spec PyProof.Rows L2
open Wp hiding Same.refl Same.trans same_new boot_all run_own
open W8 (Ev Rp Kp Mono same_new take_snoc rW rB mW mB ev_words ev_words_eq ev_bools_eq lc_sieve)
structure MkW (P : Program) (w : World) (K : PySem.W.Frag) (mg : Str → Option Value) (base : Heap) (CF CK CH CW fI : Addr) (fdI : FuncData) : Prop where
  ok : FnOk P w K mg base CX0 6 fI fdI ["self", "house", "things", "here", "old"] (spWI K CF CK CH CW)
  made : Mk K CW fI
  gl : mg "Web" = some (.ref CW)
  kb : KBn K fdI ["self", "house", "things", "here", "old"] 3 ["here", "old"] (fun us ws => us ++ ws) (fun vs zs => vs ++ zs)
section
variable {P : Program} {w : World} {K : PySem.W.Frag} {mg : Str → Option Value} {base : Heap} {CF CK CH CW CU CV : Addr}
/-- what a reader takes of a kind -/
def keptG (ks1 ks2 : List KD) (k : Str) : List FV := (allN ks2 k).filter fun g => (srcOf (allN ks1 k) g).isSome
def ledT (ks1 ks2 : List KD) (x : Th) : Th := ⟨x.k, (keptG ks1 ks2 x.k).map (·.n), (keptG ks1 ks2 x.k).map fun g => ((srcOf (allN ks1 x.k) g).bind (lookV x.ns x.vs)).getD .non⟩
/-- what every name of a kind is filled from -/
def rTab (S : Addr) (ks1 ks2 : List KD) : Rp Str := fun H v k => ∃ d, v = .ref d ∧ d ≠ S ∧ Dc rO H d ((allN ks2 k).map (·.n)) ((allN ks2 k).map (srcOf (allN ks1 k)))
theorem dO : MonoD rO := fun _ _ _ _ _ h => h
theorem rTab_same {S : Addr} {ks1 ks2 : List KD} {H H' : Hp} (s : Same H H') {v : V} {k : Str} (h : rTab S ks1 ks2 H v k) : rTab S ks1 ks2 H' v k := let ⟨d, e, n, h⟩ := h; ⟨d, e, n, h.same dO s⟩
theorem dc_tabs {S : Addr} {ks1 ks2 : List KD} {H H' : Hp} {ns : List Str} (s : Same H H') (h : Dc (rTab S ks1 ks2) H S ns ns) : Dc (rTab S ks1 ks2) H' S ns ns := h.kh (CH := 0) (fun _ _ r => rTab_same s r) (Kh.of s)
theorem dO_but {T : Addr} {H H' : Hp} {ys : List V} {d : Addr} {ns : List Str} {os : List (Option Str)} (e : H T = some (.lst ys)) (b : But T H H') (h : Dc rO H d ns os) : Dc rO H' d ns os := by
  obtain ⟨xs, e2, l, v⟩ := h
  exact ⟨xs, b _ _ (fun z => by rw [z, e] at e2; cases e2) e2, l, v.1, fun i x c a q => v.2 i x c a q⟩
theorem dc_tabs_but {T S : Addr} {ks1 ks2 : List KD} {H H' : Hp} {ns : List Str} {ys : List V} (e : H T = some (.lst ys)) (b : But T H H') (h : Dc (rTab S ks1 ks2) H S ns ns) : Dc (rTab S ks1 ks2) H' S ns ns := by
  obtain ⟨xs, e2, l, v⟩ := h
  exact ⟨xs, b _ _ (fun z => by rw [z, e] at e2; cases e2) e2, l, v.1, fun i x c a q => let ⟨d, ed, nd, hd⟩ := v.2 i x c a q; ⟨d, ed, nd, dO_but e b hd⟩⟩
theorem dc_putT {S : Addr} {ks1 ks2 : List KD} {H : Hp} {ns : List Str} {n : Str} {x : V} (h : Dc (rTab S ks1 ks2) H S ns ns) (hn : n ∉ ns) (few : ns.length ≤ 1000) (r : rTab S ks1 ks2 H x n) :
    ∃ H', DPut H S (.str n) x H' ∧ Dc (rTab S ks1 ks2) H' S (ns ++ [n]) (ns ++ [n]) ∧ (∀ b o, b ≠ S → H b = some o → H' b = some o) := by
  obtain ⟨xs, e, l, v⟩ := h
  have st : ∀ o v k, rTab S ks1 ks2 H v k → rTab S ks1 ks2 (upd H S o) v k := fun o v k ⟨d, ev, nd, ys, e2, l2, v2⟩ => ⟨d, ev, nd, ys, by rw [upd_ne nd]; exact e2, l2, v2.1, fun i x c a b => v2.2 i x c a b⟩
  refine ⟨_, DPut.k (k := Sum.inr n) e (by rw [kvz_length _ _ l, sizeLine_eq]; omega), ⟨xs ++ [x], ?_, by simp [l], ?_⟩, fun b o nb q => by rw [upd_ne nb]; exact q⟩
  · rw [upd_same, put_new l hn]
  · have q := v.append (Ev.cons r Ev.nil)
    exact ⟨q.1, fun i x c a b => st _ _ _ (q.2 i x c a b)⟩
def rN : Rp FV := fun _ v g => v = .str g.n
theorem mN : Mono rN := fun _ _ _ _ _ h => h
theorem ev_rN {H : Hp} : ∀ gs : List FV, Ev rN H ((gs.map (·.n)).map V.str) gs
  | [] => Ev.nil
  | g :: gs => Ev.cons rfl (ev_rN gs)
theorem allN_of {root : Str} {ks : List KD} (ok : HouseOk root ks) {x : KD} (mx : x ∈ ks) : allN ks x.n = allF ks x := by
  unfold allN
  rw [ok.atN mx]
  rfl
abbrev sLd2 : Stmt := top 38
abbrev nLd2 : List Str := ["web", "reader", "wrong", "sources", "kind", "names", "things", "values", "taken", "field", "name"]
def spLd2 (K : PySem.W.Frag) (CF CK CH CW : Addr) : Sp := fun vs H Q _ => ∃ (wb rd hs : Addr) (r : Str) (ks1 ks2 : List KD) (here : Nat) (old : Option Nat) (ts : List Th), vs = [.ref wb, .ref rd] ∧ WebAt K CF CK CH CW H wb hs r ks1 here old ts ∧ HouseAt K CF CK CH H rd r ks2 ∧ KindsOk ks1 ∧ KindsOk ks2 ∧ KeptAll ks1 ks2 ∧ (∀ x ∈ ts, FullT ks1 x) ∧ ThingsOk ks2 (ts.map (ledT ks1 ks2)) ∧ here < ts.length ∧ (∀ i, old = some i → i < ts.length) ∧
  ∀ s H', H s = none → Same H H' → WebAt K CF CK CH CW H' s rd r ks2 here old ((ts.map (ledT ks1 ks2)).map (fullT ks2)) → Q (.ref s) H'
theorem scLd2 : FnScope nLd2 ["web", "reader"] (defScope sLd2) := ⟨rfl, rfl, rfl, by decide +kernel, rfl, by decide +kernel, by decide +kernel⟩
theorem ok_Ld2 {f f1 f2 f3 f4 f5 : Addr} {fd fd1 fd2 fd3 fd4 fd5 : FuncData} (F : Fun K "led" "led" sLd2 f fd) (B : Bn mg) (HC : PlainC K CH houseAt) (WC : PlainC K CW webAt) (CFc : PlainC K CF ["name", "mode", "target", "default", "was"]) (FO : KMt P w K mg base CH (L2N.CX P w) 4 "fields_of" nFo (spFo K CF CK CH) f1 fd1) (SF : Known P w K mg base (L2N.CX P w) 5 "source_field" ["writer", "reader", "kind", "field"] (spSf K CF CK CH CU CV) f2 fd2)
    (RF_ : Known P w K mg base CX0 7 "reader_fault" ["writer", "reader"] (spRf K CF CK CH) f3 fd3) (TS : KMt P w K mg base CW CX0 6 "things" ["self"] (spTs K CF CK CH CW) f4 fd4) (MW : MkW P w K mg base CF CK CH CW f5 fd5) : FnOk P w K mg base CX0 8 f fd ["web", "reader"] (spLd2 K CF CK CH CW) := by
  refine F.ok scLd2 (fun vs H Q E h => ?_) (fun cdv A outer s0 H vs Q E hr h => ?_)
  · obtain ⟨wb, rd, hs, r, ks1, ks2, here, old, ts, rfl, _⟩ := h
    rfl
  · obtain ⟨wb, rd, hs, r, ks1, ks2, here, old, ts, rfl, wa, h2, o1, o2, kp, full, tok, hh, ho, k⟩ := h
    have hu := hu_of hr
    refine ⟨_, 
      (pss_cons (ps_set (i := 2) scLd2.nd rfl (.inl rfl) (pe_call RF_.ok (hr.mono (by decide)) rfl RF_.mg RF_.kp RF_.bi .nil pass0 (pa_cons (pe_fld (pv 0) rfl) (pa_cons (pv 1) pa_nil))))
      (pss_cons (ps_if (pt_cmp (pc_notN (pv 2))) 
        (pss_one ps_dead) pss_nil)
      (pss_cons (ps_set (i := 3) scLd2.nd rfl (.inl rfl) pe_dnewK)
      (pss_cut (ps_for PassesOwn.never rfl (pi_tup (pe_fld (pv 1) rfl)) (pg_name (i := 4) scLd2.nd rfl (Or.inr rfl)) 
        (pss_cons (ps_setLc (i := 5) (own := [("field", 9)]) (g := gName 9) (tt := tYes) (te := tFld K (tVar 9) "name") rfl scLd2.nd rfl rfl (sw_true rfl rfl rfl (by decide +kernel)) (pi_list (pe_meth (pv 1) HC.cl FO.mt FO.ok (hr.mono (by decide)) FO.bi .nil passLN (pa_cons (pv 4) pa_nil))) (blkOk_by (N := nLd2) (sc := defScope sLd2) (by decide +kernel)) (fun _ _ _ _ _ => pg_name (i := 9) scLd2.nd rfl (Or.inl rfl)) (fun _ _ _ _ _ => pts_nil) (fun _ _ _ _ _ => (pe_fld (pv 9) rfl)))
        (pss_one (ps_dput hu (pv 3) (pv 4) (pe_dc (own := [("name", 10)]) (g := gName 10) (tt := tYes) (tk := tVar 10) (tv := tCall (spSf K CF CK CH CU CV) [] E0 (tCons (tFld K (tVar 0) "house") (tCons (tVar 1) (tCons (tVar 4) (tCons (tVar 10) tNil))))) rfl scLd2.nd (pi_list (pv 5)) (blkOk_by (N := nLd2) (sc := defScope sLd2) (by decide +kernel)) (fun _ _ _ _ _ => pg_name (i := 10) scLd2.nd rfl (Or.inl rfl)) (fun _ _ _ _ _ => pts_nil) (fun _ _ _ _ _ => (pv 10)) (fun _ _ _ _ _ => (pe_call SF.ok (hr.mono (by decide)) rfl SF.mg SF.kp SF.bi .nil passLN (pa_cons (pe_fld (pv 0) rfl) (pa_cons (pv 1) (pa_cons (pv 4) (pa_cons (pv 10) pa_nil))))))) rfl))))
      (pss_cons (ps_set (i := 6) scLd2.nd rfl (.inl rfl) (pe_lst pa_nil))
      (pss_cut (ps_for PassesOwn.never rfl (pi_list (pe_meth0 (pv 0) WC.cl TS.mt TS.ok (hr.mono (by decide)) TS.bi .nil pass0)) (pg_tup rfl (pgs_cons (pg_name (i := 4) scLd2.nd rfl (Or.inr rfl)) (pgs_cons (pg_name (i := 7) scLd2.nd rfl (Or.inr rfl)) pgs_nil))) 
        (pss_cons (ps_set (i := 8) scLd2.nd rfl (.inr rfl) (pe_dget hu (pv 3) (pv 4) (fun _ _ => rfl)))
        (pss_one (ps_expr (pe_bm PySem.F.plainAttrs_list PySem.F.slot_list_append PySem.F.type_list_append mt_append (pv 6) (pa_cons (pe_tup (pa_cons (pv 4) (pa_cons (pe_lock (pe_dc (own := [("name", 10)]) (g := gName 10) (tt := tTest (tNotN (tDGet (tVar 8) (tVar 10)))) (tk := tVar 10) (tv := tDGet (tVar 7) (tDGet (tVar 8) (tVar 10))) rfl scLd2.nd (pi_keys (pv 8)) (blkOk_by (N := nLd2) (sc := defScope sLd2) (by decide +kernel)) (fun _ _ _ _ _ => pg_name (i := 10) scLd2.nd rfl (Or.inl rfl)) (fun _ _ _ _ _ => pts_one (pt_cmp (pc_notN (pe_dget hu (pv 8) (pv 10) (fun _ _ => rfl))))) (fun _ _ _ _ _ => (pv 10)) (fun _ _ _ _ _ => (pe_dget hu (pv 7) (pe_dget hu (pv 8) (pv 10) (fun _ _ => rfl)) (fun _ _ => rfl))))) pa_nil))) pa_nil))))))
      (pss_one (ps_ret (pe_makeK MW.made MW.ok (hr.mono (by decide)) rfl MW.gl MW.kb pass0 (pa_cons (pv 1) (pa_cons (pv 6) pa_nil)) (pk_cons (pe_fld (pv 0) rfl) (pk_cons (pe_fld (pv 0) rfl) pk_nil))))))))))), ?_⟩
    obtain ⟨dx, lk, lv, us, hw, hlk, hlv, hev⟩ := wa.ex
    refine ⟨_, rfl, wb, CW, dx, _, _, rfl, hw, WC.cl, WC.no _ (by simp), (lk_w _ _ _ _ _).1, _, rfl, hs, rd, r, ks1, ks2, rfl, wa.house, h2, o1, o2, kp, fun H1 s1 => ?_⟩
    refine ⟨_, rfl, false, rfl, iteF fun S hS => ?_⟩
    refine ⟨fun σ H' => ∃ v4 v5 v9 v10, σ = [some (.ref wb), some (.ref rd), some .non, some (.ref S), v4, v5, none, none, none, v9, v10] ∧ Same H H' ∧ H S = none ∧ Dc (rTab S ks1 ks2) H' S (ks2.map (·.n)) (ks2.map (·.n)), ?_, ?_⟩
    · obtain ⟨dy, n2, _, _, _, _, _, hs2, hn2, _⟩ := h2.ex
      have hS0 : H S = none := s1.free hS
      have sS := s1.trans (same_new (o := .dK []) hS)
      have n12 := h2.ok.n12
      refine ⟨_, rfl, rd, CH, dy, _, _, rfl, sS _ _ hs2, HC.cl, HC.no _ (by simp), (lk_h _ _ _ _ _ _ _).2.1, n2, rfl, ⟨_, sS.sqT hn2⟩, ?_⟩
      refine for_it walk_tup (fun j σ H' => ∃ v4 v5 v9 v10, σ = [some (.ref wb), some (.ref rd), some .non, some (.ref S), v4, v5, none, none, none, v9, v10] ∧ Same H H' ∧ Dc (rTab S ks1 ks2) H' S ((ks2.take j).map (·.n)) ((ks2.take j).map (·.n)))
        ⟨none, none, none, none, rfl, sS, Dc.nil upd_same⟩ (fun i σ H' _ ⟨_, _, _, _, _, sm, _⟩ => sm.sqT hn2) ?_ ?_
      · rintro j v σ _ H2 hj ⟨v4, v5, v9, v10, rfl, s2, dc⟩ ⟨rfl, eb⟩
        rw [List.length_map, List.length_map] at hj
        rw [List.getElem?_map, List.getElem?_map] at eb
        have hy : ks2[j]? = some ks2[j] := List.getElem?_eq_getElem hj
        have hj1 : j < ks1.length := by
          have := kp.len
          omega
        have hx : ks1[j]? = some ks1[j] := List.getElem?_eq_getElem hj1
        generalize ks1[j] = x at hx
        generalize ks2[j] = y at hy
        rw [hy] at eb
        cases eb
        have mx := List.mem_of_getElem? hx
        have my := List.mem_of_getElem? hy
        have exy := (kp.keep j x y hx hy).n
        have few := h2.ok.few my
        have fnd := h2.ok.fnd my
        refine ⟨_, rfl, rd, dy, _, rfl, s2 _ _ hs2, rfl, _, rfl, rd, r, ks2, y, rfl, h2.same s2, .dat (.str _) (shaped_str (kind_ok (o2.kn y my)).1), my, fun A1 H3 us3 s3 eA ev => ⟨A1, rfl, ⟨us3, SqL.of eA⟩, fun D hD => ?_⟩⟩
        refine lc_sieve (mF K CF) mW (fun _ => true) (·.n) walk_list (by omega) (fun H' s9 => SqL.of (s9 _ _ eA)) hD ev (fun v c H2 Rq _ _ _ kk => kk _ (Same.refl _)) ?_ ?_
        · rintro v g H4 Rq _ _ s4 rg kk
          obtain ⟨a, rfl, ⟨da, tw, ha, _⟩, _⟩ := id rg
          exact ⟨_, rfl, a, CF, da, _, _, rfl, ha, CFc.cl, CFc.no _ (by simp), (lk_fs _ _ _ _ _).2.2.2.2, kk _ _ (Same.refl _) rfl⟩
        intro H4 ys s4 eD ey
        rw [filter_all] at ey
        cases ev_words_eq ey
        have s24 := s3.trans s4
        have eN1 : allN ks1 y.n = allF ks1 x := by
          rw [← exy]
          exact allN_of wa.house.ok mx
        have eN2 : allN ks2 y.n = allF ks2 y := allN_of h2.ok my
        have dc4 := dc_tabs s24 dc
        refine ⟨_, rfl, D, rfl, ⟨_, SqL.of eD⟩, fun Dd hDd => ?_⟩
        have nS : Dd ≠ S := fun e => by
          obtain ⟨_, e2, _⟩ := dc4
          rw [← e, hDd] at e2
          cases e2
        refine dc_walk mN dO (fun _ => true) (·.n) (srcOf (allF ks1 x)) walk_list (by omega) (fun H' s9 => SqL.of (s9 _ _ eD)) hDd (ev_rN _) fnd (fun v c H2 Rq _ _ _ kk => kk _ (Same.refl _)) ?_ ?_
        · rintro _ g H5 Rq mg _ s5 rfl kk
          have s05 := s2.trans (s24.trans s5)
          refine ⟨_, rfl, _, rfl, wb, CW, dx, _, _, rfl, s05 _ _ hw, WC.cl, WC.no _ (by simp), (lk_w _ _ _ _ _).1, _, rfl, _, rfl, _, rfl, ?_⟩
          exact src_call (wa.house.same s05) (h2.same s05) o2 mx my exy mg fun H6 s6 => kk _ _ s6 rfl
        intro H5 s5 dcs
        rw [filter_all] at dcs
        obtain ⟨H6, put, dc6, st6⟩ := dc_putT (n := y.n) (x := .ref Dd) (dc_tabs s5 dc4) (fun z => by
          obtain ⟨o, mo, eo⟩ := List.mem_map.mp z
          obtain ⟨q, hq, e⟩ := List.getElem_of_mem mo
          rw [List.length_take] at hq
          rw [List.getElem_take] at e
          have k1 : (ks2.map (·.n))[q]? = some y.n := by rw [List.getElem?_map, List.getElem?_eq_getElem (by omega), e, ← eo]; rfl
          have k2 : (ks2.map (·.n))[j]? = some y.n := by rw [List.getElem?_map, hy]; rfl
          have := (List.getElem?_inj (i := q) (j := j) (by rw [List.length_map]; omega) h2.ok.nd).mp (k1.trans k2.symm)
          omega) (by rw [List.length_map, List.length_take]; omega) ⟨Dd, rfl, nS, by rw [eN1, eN2]; exact dcs⟩
        refine ⟨_, rfl, _, rfl, S, H6, rfl, put, ?_⟩
        rw [take_snoc hy, List.map_append]
        have s06 := s2.trans (s24.trans s5)
        exact ⟨_, _, _, _, rfl, fun b o e => st6 b o (fun z => by rw [z, hS0] at e; cases e) (s06 b o e), dc6⟩
      · rintro σ H2 ⟨v4, v5, v9, v10, rfl, s2, dc⟩
        rw [List.length_map, List.length_map, List.take_length] at dc
        exact ⟨v4, v5, v9, v10, rfl, s2, hS0, dc⟩
    rintro _ H2 ⟨v4, v5, v9, v10, rfl, s2, nS, dcS⟩
    refine ⟨by show 0 ≤ sizeLine; decide, fun T hT => ?_⟩
    have sT := same_new (o := .lst []) hT
    have eT0 : (upd H2 T (.lst [])) T = some (.lst []) := upd_same
    generalize upd H2 T (.lst []) = HT at sT eT0
    have s2T := s2.trans sT
    have dcT := dc_tabs sT dcS
    have tfew := tok.few
    rw [List.length_map] at tfew
    refine ⟨fun σ H' => ∃ v4 v7 v8 v9 v10, σ = [some (.ref wb), some (.ref rd), some .non, some (.ref S), v4, v5, some (.ref T), v7, v8, v9, v10] ∧ Same H2 H' ∧ ∃ zs, H' T = some (.lst zs) ∧ Ev (rTh K) H' zs (ts.map (ledT ks1 ks2)), ?_, ?_⟩
    · refine ⟨_, rfl, wb, dx, _, rfl, s2T _ _ hw, rfl, wb, hs, r, ks1, here, old, ts, rfl, wa.same s2T, full, o1, tfew, fun A us2 H3 hA s3 eA eu => ⟨A, rfl, ⟨us2, SqL.of eA⟩, ?_⟩⟩
      have eT3 : H3 T = some (.lst []) := s3 _ _ eT0
      have nAT : A ≠ T := fun z => by
        rw [z, eT0] at hA
        cases hA
      have dc3 := dc_tabs s3 dcT
      have nST : S ≠ T := fun z => by
        obtain ⟨_, e2, _⟩ := dc3
        rw [z, eT3] at e2
        cases e2
      have lu : us2.length = ts.length := eu.1
      refine for_it walk_list (fun j σ H' => ∃ v4 v7 v8 v9 v10, σ = [some (.ref wb), some (.ref rd), some .non, some (.ref S), v4, v5, some (.ref T), v7, v8, v9, v10] ∧ But T H3 H' ∧ ∃ zs, H' T = some (.lst zs) ∧ Ev (rThN K HT) H' zs ((ts.take j).map (ledT ks1 ks2)))
        ⟨v4, none, none, v9, v10, rfl, fun _ _ _ q => q, [], eT3, Ev.nil⟩ (fun i σ H' _ ⟨_, _, _, _, _, _, b, _⟩ => SqL.of (b _ _ nAT eA)) ?_ ?_
      · rintro j v σ _ H4 hj ⟨w4, v7, v8, w9, w10, rfl, b4, zs, eT4, ez⟩ ⟨rfl, eb⟩
        obtain ⟨x, hx, rx⟩ := eu.at eb
        have mx := List.mem_of_getElem? hx
        obtain ⟨t, d, rfl, ht, hd⟩ := rThN_but eT0 eT3 eT4 b4 rx
        obtain ⟨x1, m1, ex1, ens, lvs, _⟩ := (full x mx).ex
        obtain ⟨j1, hj1⟩ := List.getElem?_of_mem m1
        have hj2 : j1 < ks2.length := by
          have := (List.getElem?_eq_some_iff.mp hj1).1
          have := kp.len
          omega
        have hy : ks2[j1]? = some ks2[j1] := List.getElem?_eq_getElem hj2
        generalize ks2[j1] = y at hy
        have my := List.mem_of_getElem? hy
        have exy : x1.n = y.n := (kp.keep j1 x1 y hj1 hy).n
        have eN1 : allN ks1 x.k = allF ks1 x1 := by
          rw [← ex1]
          exact allN_of wa.house.ok m1
        have eN2 : allN ks2 x.k = allF ks2 y := by
          rw [← ex1, exy]
          exact allN_of h2.ok my
        have few := h2.ok.few my
        have fnd := h2.ok.fnd my
        have fnd1 := wa.house.ok.fnd m1
        refine ⟨t, _, rfl, ht, rfl, _, _, rfl, _, _, rfl, rfl, ?_⟩
        have dc4 := dc_tabs_but eT3 b4 dc3
        obtain ⟨i, u, c, e1, e2, ⟨Dt, rfl, nDt, tab4⟩, g4⟩ := dc4.get (n := x.k) (by
          rw [← ex1, exy]
          exact List.mem_map_of_mem my)
        rw [e1] at e2
        cases e2
        rw [eN1, eN2] at tab4
        obtain ⟨xsD, eD4, lD, vD⟩ := id tab4
        refine ⟨_, rfl, _, rfl, S, _, rfl, g4, ?_⟩
        refine ⟨_, rfl, .inl ⟨rfl, _, SqL.of eT4⟩, _, rfl, Dt, _, eD4, trivial, fun od => ?_⟩
        have hd4 := Dc.locked (od := od) eD4 (fun v c r => rWn_off2 eD4 (fun xs z => by cases z) r) hd
        have td4 : DcG rO (upd H4 Dt (.frz od (.dK (kvz ((allF ks2 y).map (·.n)) xsD)))) Dt ((allF ks2 y).map (·.n)) ((allF ks2 y).map (srcOf (allF ks1 x1))) := Dc.locked eD4 (fun v c r => r) tab4
        have fr4 : (upd H4 Dt (.frz od (.dK (kvz ((allF ks2 y).map (·.n)) xsD)))) Dt = some (.frz od (.dK (kvz ((allF ks2 y).map (·.n)) xsD))) := upd_same
        have un4 : ∀ H', Same (upd H4 Dt (.frz od (.dK (kvz ((allF ks2 y).map (·.n)) xsD)))) H' → Same H4 (upd H' Dt (.dK (kvz ((allF ks2 y).map (·.n)) xsD))) := fun H' s => unlock_same eD4 s
        generalize upd H4 Dt (.frz od (.dK (kvz ((allF ks2 y).map (·.n)) xsD))) = HF at hd4 td4 fr4 un4
        refine ⟨_, rfl, Dt, od, rfl, .inl ⟨_, fr4, fun D2 hD2 => ?_⟩⟩
        have atName : ∀ g ∈ allF ks2 y, ∀ H', Same HF H' → DGet H' Dt (.str g.n) (some (tv (srcOf (allF ks1 x1) g))) := fun g mg H' s => by
          obtain ⟨i, u, c, e1, e2, e3, g5⟩ := (td4.same dO s).get (List.mem_map_of_mem mg)
          obtain ⟨j2, hj2⟩ := List.getElem?_of_mem mg
          have k2 : ((allF ks2 y).map (·.n))[j2]? = some g.n := by rw [List.getElem?_map, hj2]; rfl
          have := (List.getElem?_inj (i := i) (j := j2) (List.getElem?_eq_some_iff.mp e1).1 fnd).mp (e1.trans k2.symm)
          subst this
          rw [List.getElem?_map, hj2] at e2
          cases e2
          cases e3
          exact g5
        refine dc_walk mN (dWn HT) (fun g => (srcOf (allF ks1 x1) g).isSome) (·.n) (fun g => ((srcOf (allF ks1 x1) g).bind (lookV x.ns x.vs)).getD .non) (walk_keysD lD) (by omega) (fun H' s9 => s9 _ _ fr4) hD2 (ev_rN _) fnd ?_ ?_ ?_
        · rintro _ g H5 Rq mg s5 rfl kk
          refine ⟨_, rfl, _, rfl, Dt, _, rfl, atName g mg _ s5, ?_⟩
          cases ho : srcOf (allF ks1 x1) g with
          | none =>
            rw [ho] at kk
            exact ⟨false, rfl, kk _ (Same.refl _)⟩
          | some n =>
            rw [ho] at kk
            exact ⟨true, rfl, kk _ (Same.refl _)⟩
        · rintro _ g H5 Rq mg hp s5 rfl kk
          cases ho : srcOf (allF ks1 x1) g with
          | none =>
            rw [ho] at hp
            cases hp
          | some n =>
            obtain ⟨o, mo, rfl, _⟩ := srcOf_mem ho
            obtain ⟨i5, u5, c5, a1, a2, a3, a4⟩ := (hd4.same (dWn HT) s5).get (n := o.n) (by
              rw [ens]
              exact List.mem_map_of_mem mo)
            have gD := atName g mg _ s5
            rw [ho] at gD kk
            refine ⟨_, rfl, _, rfl, _, rfl, _, rfl, Dt, _, rfl, gD, d, _, rfl, a4, ?_⟩
            refine kk _ _ (Same.refl _) ?_
            rw [show (Option.bind (some o.n) (lookV x.ns x.vs)) = some c5 from look_at (by rw [ens]; exact fnd1) a1 a2]
            exact a3
        intro H5 s5 dcr
        have s46 := un4 H5 s5
        have dc6 := dc_unlock (u := .dK (kvz ((allF ks2 y).map (·.n)) xsD)) (s5 _ _ fr4) dcr
        refine ⟨s5 _ _ fr4, by show 2 ≤ sizeLine; decide, fun p hp => ?_⟩
        generalize upd H5 Dt (.dK (kvz ((allF ks2 y).map (·.n)) xsD)) = H6 at s46 dc6 hp ⊢
        have sp := same_new (o := .tup [.str x.k, .ref D2]) hp
        have eled : ledT ks1 ks2 x = ⟨x.k, ((allF ks2 y).filter fun g => (srcOf (allF ks1 x1) g).isSome).map (·.n), ((allF ks2 y).filter fun g => (srcOf (allF ks1 x1) g).isSome).map fun g => ((srcOf (allF ks1 x1) g).bind (lookV x.ns x.vs)).getD .non⟩ := by
          unfold ledT keptG
          rw [eN1, eN2]
        have new : rThN K HT (upd H6 p (.tup [.str x.k, .ref D2])) (.ref p) (ledT ks1 ks2 x) := by
          rw [eled]
          exact ⟨p, D2, rfl, SqT.of upd_same, dc6.same (dWn HT) sp⟩
        have s47 := s46.trans sp
        have eT7 := s47 _ _ eT4
        generalize upd H6 p (.tup [.str x.k, .ref D2]) = H7 at sp new s47 eT7 ⊢
        have lz := ez.1
        rw [List.length_map, List.length_take] at lz
        refine ⟨T, zs, .ref p, rfl, rfl, eT7, by rw [sizeLine_eq]; omega, ?_⟩
        refine ⟨_, _, _, _, _, rfl, fun b o nb e => by rw [upd_ne nb]; exact s47 _ _ (b4 b o nb e), zs ++ [.ref p], upd_same, ?_⟩
        rw [take_snoc hx, List.map_append]
        have all := Ev.append (R := rThN K HT) (H := H7) ⟨ez.1, fun i u c a q => rThN_same s47 (ez.2 i u c a q)⟩ (Ev.cons new Ev.nil)
        exact ⟨all.1, fun i u c a q => rThN_off eT0 eT7 (all.2 i u c a q)⟩
      · rintro σ H4 ⟨w4, v7, v8, w9, w10, rfl, b4, zs, eT4, ez⟩
        rw [lu, List.take_length] at ez
        refine ⟨_, _, _, _, _, rfl, fun b o e => b4 _ _ (fun z => by rw [z, hT] at e; cases e) (s3 _ _ (sT _ _ e)), zs, eT4, ez.1, fun i u c a q => (ez.2 i u c a q).old⟩
    rintro _ H4 ⟨w4, v7, v8, w9, w10, rfl, s4, zs, eT4, ez⟩
    have s04 := s2.trans s4
    have hw4 := s04 _ _ hw
    refine ⟨_, rfl, _, rfl, _, rfl, wb, CW, dx, _, _, rfl, hw4, WC.cl, WC.no _ (by simp), (lk_w _ _ _ _ _).2.1, _, rfl, wb, CW, dx, _, _, rfl, hw4, WC.cl, WC.no _ (by simp), (lk_w _ _ _ _ _).2.2.1, rfl, rfl, fun a da ha hda ne => ?_⟩
    have sm := made_same (C := CW) ha hda
    refine ⟨a, da, rd, T, r, ks2, here, old, zs, ts.map (ledT ks1 ks2), rfl, upd_same, h2.same (s04.trans sm), o2, sm _ _ eT4, ⟨ez.1, fun i u c x q => rTh_same sm (ez.2 i u c x q)⟩, tok, by rw [List.length_map]; exact hh, fun i e => by rw [List.length_map]; exact ho i e, fun H' b w => ⟨rfl, ?_⟩⟩
    exact k a H' (s04.free ha) (fun c o e => b _ _ (ne_of_none (s04 _ _ e) ha) (sm _ _ (s04 _ _ e))) w
end
end Wh
set_option Elab.async false
set_option linter.all false
set_option maxRecDepth 100000
set_option maxHeartbeats 4000000
namespace Wh
open PySem PySem.Spec PyProof.Rows L2
open Wp hiding Same.refl Same.trans same_new boot_all run_own
open W8 (Ev Rp Kp Mono same_new take_snoc rW rB mW mB ev_words ev_words_eq ev_bools_eq lc_sieve)
theorem hu64 {k : Nat} {A : Around} (r : Room k A) : A.units + 64 < cLine := by
  have := r.un
  omega
section
variable {P : Program} {w : World} {K : PySem.W.Frag} {mg : Str → Option Value} {base : Heap} {CF CK CH CW CU CV : Addr}
theorem paired_map {α : Type} {E : V → V → Prop} (f : α → V) (h : ∀ a, E (f a) (f a)) : ∀ l : List α, Paired E (l.map f) (l.map f)
  | [] => .nil
  | a :: l => .cons (h a) (paired_map f h l)
theorem paired_ev {α : Type} {R R' : Rp α} {H : Hp} {E : V → V → Prop} (h : ∀ v u c, R H v c → R' H u c → E v u) : ∀ {xs ys : List V} {cs : List α}, Ev R H xs cs → Ev R' H ys cs → Paired E xs ys
  | [], [], _, _, _ => .nil
  | x :: xs, y :: ys, c :: cs, a, b => .cons (h _ _ c (a.2 0 x c rfl rfl) (b.2 0 y c rfl rfl)) (paired_ev h (cs := cs) ⟨by have := a.1; simp at this; exact this, fun i x c p q => a.2 (i + 1) x c (by simpa using p) (by simpa using q)⟩ ⟨by have := b.1; simp at this; exact this, fun i x c p q => b.2 (i + 1) x c (by simpa using p) (by simpa using q)⟩)
  | [], _ :: _, [], _, b => by cases b.1
  | [], _ :: _, _ :: _, a, _ => by cases a.1
  | _ :: _, _, [], a, _ => by cases a.1
  | _ :: _, [], _ :: _, _, b => by cases b.1
theorem eqv_wv {H : Hp} {v u : V} {c : Wv} (h : rWv H v c) (h' : rWv H u c) : EqV K H 2 v u := by
  cases c with
  | non =>
    cases h
    cases h'
    exact .inl ⟨rfl, rfl⟩
  | int i =>
    cases h
    cases h'
    exact .inl ⟨rfl, rfl⟩
  | lst l =>
    obtain ⟨a, rfl, ha⟩ := h
    obtain ⟨b, rfl, hb⟩ := h'
    exact .inr (.inr (.inl ⟨a, b, _, _, rfl, rfl, SqL.of ha, SqL.of hb, paired_map V.int (fun i => .inl ⟨rfl, rfl⟩) l⟩))
theorem eqv_dc {H : Hp} {d d' : Addr} {ns : List Str} {cs : List Wv} (nd : ns.Nodup) (h : Dc rWv H d ns cs) (h' : Dc rWv H d' ns cs) : EqV K H 3 (.ref d) (.ref d') := by
  obtain ⟨xs, e, l, v⟩ := h
  obtain ⟨ys, e', l', v'⟩ := h'
  refine .inr (.inr (.inr ⟨d, d', _, _, rfl, rfl, e, e', by rw [kvz_length _ _ l, kvz_length _ _ l'], fun p mp => ?_⟩))
  obtain ⟨i, hi⟩ := List.getElem?_of_mem mp
  obtain ⟨k, x⟩ := p
  obtain ⟨n, hn, rfl, hx⟩ : ∃ n, ns[i]? = some n ∧ k = Sum.inr n ∧ xs[i]? = some x := by
    unfold kvz at hi
    rw [List.getElem?_zipWith] at hi
    cases h1 : ns[i]? with
    | none => rw [h1] at hi; cases hi
    | some n =>
      cases h2 : xs[i]? with
      | none => rw [h1, h2] at hi; cases hi
      | some z =>
        rw [h1, h2] at hi
        cases hi
        exact ⟨n, rfl, rfl, rfl⟩
  rcases valV_kvz ns ys n l' with ⟨h1, _⟩ | ⟨j, h1, h2, y, h3⟩
  · exact absurd (List.mem_of_getElem? hn) h1
  · have := (List.getElem?_inj (i := i) (j := j) (List.getElem?_eq_some_iff.mp hn).1 nd).mp (hn.trans h1.symm)
    subst this
    refine ⟨y, by rw [h2, h3], ?_⟩
    obtain ⟨c, hc, r⟩ := v.at hx
    exact eqv_wv r (v'.2 _ _ _ h3 hc)
abbrev sWE : Stmt := meth 31 3
abbrev nWE : List Str := ["self", "other"]
def spWE (K : PySem.W.Frag) (CF CK CH CW : Addr) : Sp := fun vs H Q _ => ∃ (a b h1 h2 : Addr) (r : Str) (ks : List KD) (here : Nat) (old : Option Nat) (ts : List Th), vs = [.ref a, .ref b] ∧ WebAt K CF CK CH CW H a h1 r ks here old ts ∧ WebAt K CF CK CH CW H b h2 r ks here old ts ∧ (∀ x ∈ ts, x.ns.Nodup) ∧ Q (.bl true) H
theorem scWE : FnScope nWE ["self", "other"] (defScope sWE) := ⟨rfl, rfl, rfl, by decide +kernel, rfl, by decide +kernel, by decide +kernel⟩
theorem ok_WE {f fH : Addr} {fd fdH : FuncData} (F : Fun K "__eq__" "Web.__eq__" sWE f fd) (B : Bn mg) (O : OwnC K CW) (WC : PlainC K CW webAt) (gWb : mg "Web" = some (.ref CW)) (HE_ : EqM P w K mg base CH 5 (spHE K CF CK CH) fH fdH) : FnOk P w K mg base CX0 6 f fd ["self", "other"] (spWE K CF CK CH CW) := by
  refine F.ok scWE (fun vs H Q E h => ?_) (fun cdv A outer s0 H vs Q E hr h => ?_)
  · obtain ⟨a, b, h1, h2, r, ks, here, old, ts, rfl, _⟩ := h
    rfl
  · obtain ⟨a, b, h1, h2, r, ks, here, old, ts, rfl, w1, w2, nd, k⟩ := h
    refine ⟨_, 
      (pss_one (ps_ret (pe_and (pe_callB call_isi (by rfl) B.isi boot_isi (pa_cons (pv 1) (pa_cons (pe_glob (v := .ref CW) (by rfl) gWb rfl) pa_nil))) (pe_and (pe_cmpR op_eq (pe_fld (pv 0) rfl) (pe_fld (pv 1) rfl) (nomark _)) (pe_and (pe_cmpR op_eq (pe_fld (pv 0) rfl) (pe_fld (pv 1) rfl) (nomark _)) (pe_and (pe_cmpR (show OpR _ (compareOp .Eq) (rEqV K) from op_eqV (hu64 hr)) (pe_fld (pv 0) rfl) (pe_fld (pv 1) rfl) (nomark _)) (pe_and (pe_cmpR (show OpR _ (compareOp .Eq) (rEqV K) from op_eqV (hu64 hr)) (pe_fld (pv 0) rfl) (pe_fld (pv 1) rfl) (nomark _)) (pe_one (pe_cmpR (show OpR _ (compareOp .Eq) (rOwn false K CH (spHE K CF CK CH) E0) from op_ownEq HE_.ok HE_.bi pass0 HE_.own (hr.mono (by decide))) (pe_fld (pv 0) rfl) (pe_fld (pv 1) rfl) (nomark _)))))))))), ?_⟩
    obtain ⟨dx, lk, lv, us, a1, a2, a3, a4⟩ := w1.ex
    obtain ⟨dy, lk2, lv2, us2, b1, b2, b3, b4⟩ := w2.ex
    obtain ⟨ha, _, _, _, _, _, _, hha, _⟩ := w1.house.ex
    obtain ⟨hb, _, _, _, _, _, _, hhb, _⟩ := w2.house.ex
    refine ⟨_, rfl, .ref b, .ref CW, .ref CW, .ref CW, true, rfl, .own CW, O.ty b1, O.self, _, rfl, iteT ?_⟩
    refine ⟨_, rfl, a, CW, dx, _, _, rfl, a1, WC.cl, WC.no _ (by simp), (lk_w _ _ _ _ _).2.1, _, rfl, b, CW, dy, _, _, rfl, b1, WC.cl, WC.no _ (by simp), (lk_w _ _ _ _ _).2.1, rfl, _, rfl, ?_⟩
    rw [decide_eq_true rfl]
    refine iteT ⟨_, rfl, a, CW, dx, _, _, rfl, a1, WC.cl, WC.no _ (by simp), (lk_w _ _ _ _ _).2.2.1, _, rfl, b, CW, dy, _, _, rfl, b1, WC.cl, WC.no _ (by simp), (lk_w _ _ _ _ _).2.2.1, by cases old <;> rfl, _, rfl, ?_⟩
    rw [decide_eq_true rfl]
    refine iteT ⟨_, rfl, a, CW, dx, _, _, rfl, a1, WC.cl, WC.no _ (by simp), (lk_w _ _ _ _ _).2.2.2.1, _, rfl, b, CW, dy, _, _, rfl, b1, WC.cl, WC.no _ (by simp), (lk_w _ _ _ _ _).2.2.2.1, 1, by decide, .inl ⟨lk, lk2, _, _, rfl, rfl, SqL.of a2, SqL.of b2, paired_map V.str (fun i => .inl ⟨rfl, rfl⟩) _⟩, _, rfl, ?_⟩
    refine iteT ⟨_, rfl, a, CW, dx, _, _, rfl, a1, WC.cl, WC.no _ (by simp), (lk_w _ _ _ _ _).2.2.2.2, _, rfl, b, CW, dy, _, _, rfl, b1, WC.cl, WC.no _ (by simp), (lk_w _ _ _ _ _).2.2.2.2, 3, by decide, .inl ⟨lv, lv2, _, _, rfl, rfl, SqL.of a3, SqL.of b3, ?_⟩, _, rfl, ?_⟩
    · refine paired_ev (R := fun H v x => rVal H v x ∧ x.ns.Nodup) (R' := rVal) (fun v u x h h' => ?_) ⟨a4.1, fun i u c p q => ⟨a4.2 i u c p q, nd c (List.mem_of_getElem? q)⟩⟩ b4
      obtain ⟨⟨d, rfl, q⟩, hn⟩ := h
      obtain ⟨d', rfl, q'⟩ := h'
      exact eqv_dc hn q q'
    refine iteT ⟨_, rfl, a, CW, dx, _, _, rfl, a1, WC.cl, WC.no _ (by simp), (lk_w _ _ _ _ _).1, _, rfl, b, CW, dy, _, _, rfl, b1, WC.cl, WC.no _ (by simp), (lk_w _ _ _ _ _).1, ?_⟩
    exact ⟨h1, ha, _, rfl, hha, .ins h2 CH hb _ hhb HE_.nf, h1, h2, r, ks, rfl, w1.house, w2.house, true, rfl, k⟩
end
end Wh
set_option Elab.async false
set_option linter.all false
set_option maxRecDepth 100000
set_option maxHeartbeats 4000000
namespace Wh
open PySem PySem.Spec PyProof.Rows L2
open Wp hiding Same.refl Same.trans same_new boot_all run_own
open W8 (Ev Rp Kp Mono same_new take_snoc rW rB mW mB ev_words ev_words_eq ev_bools_eq lc_sieve)
section
variable {P : Program} {w : World} {K : PySem.W.Frag} {mg : Str → Option Value} {base : Heap} {CF CK CH CW CU CV : Addr}
abbrev sAd : Stmt := top 66
abbrev nAd : List Str := ["_law_rows", "_law_aim", "_law_kind"]
def spAd (K : PySem.W.Frag) : Sp := fun vs H Q _ => ∃ (l : Addr) (t n : Str) (ks : List KD) (x : KD), vs = [.ref l, .str t, .str n] ∧ Rows K H l ks ∧ ks.length ≤ 100 ∧ atName ks n = some x ∧ ∀ H', Same H H' → Q (.bl (letB ks t n)) H'
theorem scAd : FnScope nAd ["_law_rows", "_law_aim", "_law_kind"] (defScope sAd) := ⟨rfl, rfl, rfl, by decide +kernel, rfl, by decide +kernel, by decide +kernel⟩
theorem ok_Ad {f f1 : Addr} {fd fd1 : FuncData} (F : Fun K "_law_admits" "_law_admits" sAd f fd) (RW_ : Known P w K mg base CX0 1 "_law_row" ["_law_rows", "_law_kind"] (spRw K) f1 fd1) : FnOk P w K mg base CX0 2 f fd ["_law_rows", "_law_aim", "_law_kind"] (spAd K) := by
  refine F.ok scAd (fun vs H Q E h => ?_) (fun cdv A outer s0 H vs Q E hr h => ?_)
  · obtain ⟨l, t, n, ks, x, rfl, _⟩ := h
    rfl
  · obtain ⟨l, t, n, ks, x, rfl, rw_, few, ha, k⟩ := h
    refine ⟨_, 
      (pss_one (ps_ret (pe_or (pe_cmpR op_eq (pv 1) pe_str (nomark _)) (pe_or (pe_cmpR op_eq (pv 1) (pv 2) (nomark _)) (pe_one (pe_cmpR op_eq (pv 1) (pe_ix ix_tup (pe_call RW_.ok (hr.mono (by decide)) rfl RW_.mg RW_.kp RW_.bi .nil pass0 (pa_cons (pv 0) (pa_cons (pv 2) pa_nil))) pe_int (fun _ _ => rfl)) (nomark _))))))), ?_⟩
    unfold letB at k
    obtain ⟨eb⟩ : Nonempty (x.b = baseOf ks n) := ⟨by
      unfold baseOf
      unfold atName at ha
      rw [ha]
      rfl⟩
    have e1 : decide (V.str t = V.str (Str.ofString "any")) = decide (t = ("any" : Str)) := dec_s
    refine ⟨_, rfl, rfl, _, rfl, ?_⟩
    rw [e1]
    cases c1 : decide (t = ("any" : Str)) with
    | true =>
      rw [c1, Bool.true_or, Bool.true_or] at k
      exact iteT (k _ (Same.refl _))
    | false =>
      rw [c1, Bool.false_or] at k
      refine iteF ⟨_, rfl, _, rfl, rfl, _, rfl, ?_⟩
      rw [dec_s]
      cases c2 : decide (t = n) with
      | true =>
        rw [c2, Bool.true_or] at k
        exact iteT (k _ (Same.refl _))
      | false =>
        rw [c2, Bool.false_or] at k
        refine iteF ⟨_, rfl, _, rfl, _, rfl, l, n, ks, x, rfl, rw_, few, ha, fun v H1 r1 s1 => ?_⟩
        obtain ⟨a, lf, us, rfl, ht, _⟩ := id r1
        refine ⟨a, _, _, _, rfl, rfl, ht, atI_nat (j := 1) rfl, scal_tv (some t) _, ?_⟩
        rw [← eb] at k
        rw [show decide (V.str t = tv x.b) = decide (some t = x.b) by
          cases x.b <;> simp [tv]]
        exact k _ s1
/-- the rows of two editions -/
structure TwoOk (root : Str) (ks1 ks2 : List KD) : Prop where
  h1 : HouseOk root ks1
  h2 : HouseOk root ks2
  o1 : KindsOk ks1
  o2 : KindsOk ks2
  tw : ∀ y ∈ ks2, ∃ x ∈ ks1, x.n = y.n
theorem tk_call {H : Hp} {l1 l2 : Addr} {root : Str} {ks1 ks2 : List KD} {x y : KD} {g : FV} {Q : VK} {E : XK} (r1 : Rows K H l1 ks1) (r2 : Rows K H l2 ks2) (two : TwoOk root ks1 ks2) (mx : x ∈ ks1) (my : y ∈ ks2) (exy : x.n = y.n) (mg : g ∈ allF ks2 y)
    (k : ∀ H', Same H H' → Q (tv (srcOf (allF ks1 x) g)) H') : spTk K [.ref l1, .ref l2, .str y.n, .str g.n] H Q E := by
  obtain ⟨i, hg⟩ := List.getElem?_of_mem mg
  have fnm : fieldNamed (allF ks2 y) (.str g.n) = some g := find_fv (two.h2.fnd my) hg
  have rg : RightF g := by
    obtain ⟨y9, my9, mg9⟩ := allF_mem my mg
    exact two.o2.right y9 my9 g mg9
  have n1 := two.h1.n12
  have n2 := two.h2.n12
  have f1 := two.h1.few mx
  have f2 := two.h2.few my
  refine ⟨l1, l2, y.n, g.n, ks1, ks2, x, y, g, rfl, r1, r2, by omega, by omega, by rw [← exy]; exact two.h1.atN mx, two.h2.atN my, two.h1.at_base mx, two.h2.at_base my, by omega, by omega, fnm, rg.okF, fun o mo => ?_, by have := rg.w2; omega, k⟩
  obtain ⟨y9, my9, mg9⟩ := allF_mem mx mo
  exact (two.o1.right y9 my9 o mg9).okF
theorem fs_call {H : Hp} {l : Addr} {root : Str} {ks : List KD} {x : KD} {Q : VK} {E : XK} (r : Rows K H l ks) (hk : HouseOk root ks) (mx : x ∈ ks) (k : ∀ (D : Addr) (us : List V) H', H D = none → H' D = some (.lst us) → Ev (rLF K) H' us (allF ks x) → Same H H' → Q (.ref D) H') : spFs K [.ref l, .str x.n] H Q E := by
  have n1 := hk.n12
  have f1 := hk.few mx
  exact ⟨l, x.n, ks, x, rfl, r, by omega, hk.atN mx, hk.at_base mx, by omega, k⟩
theorem rw_call {H : Hp} {l : Addr} {root : Str} {ks : List KD} {x : KD} {Q : VK} {E : XK} (r : Rows K H l ks) (hk : HouseOk root ks) (mx : x ∈ ks) (k : ∀ v H', rLK K H' v x → Same H H' → Q v H') : spRw K [.ref l, .str x.n] H Q E := by
  have n1 := hk.n12
  exact ⟨l, x.n, ks, x, rfl, r, by omega, hk.atN mx, k⟩
abbrev sDb : Stmt := top 68
abbrev nDb : List Str := ["_law_elder", "_law_later", "_law_kind", "_law_taken", "_law_one", "_law_name"]
def spDb (K : PySem.W.Frag) : Sp := fun vs H Q _ => ∃ (l1 l2 : Addr) (root : Str) (ks1 ks2 : List KD) (x y : KD), vs = [.ref l1, .ref l2, .str y.n] ∧ Rows K H l1 ks1 ∧ Rows K H l2 ks2 ∧ TwoOk root ks1 ks2 ∧ x ∈ ks1 ∧ y ∈ ks2 ∧ x.n = y.n ∧ ∀ H', Same H H' → Q (.bl (!decide ((srcs ks1 x (allF ks2 y)).filterMap id).Nodup)) H'
theorem scDb : FnScope nDb ["_law_elder", "_law_later", "_law_kind"] (defScope sDb) := ⟨rfl, rfl, rfl, by decide +kernel, rfl, by decide +kernel, by decide +kernel⟩
theorem ok_Db {f f1 f2 : Addr} {fd fd1 fd2 : FuncData} (F : Fun K "_law_is_doubled" "_law_is_doubled" sDb f fd) (B : Bn mg) (FS : Known P w K mg base CX0 2 "_law_fields" ["_law_rows", "_law_kind"] (spFs K) f1 fd1) (TK_ : Known P w K mg base CX0 3 "_law_takes" ["_law_elder", "_law_later", "_law_kind", "_law_name"] (spTk K) f2 fd2) : FnOk P w K mg base CX0 4 f fd ["_law_elder", "_law_later", "_law_kind"] (spDb K) := by
  refine F.ok scDb (fun vs H Q E h => ?_) (fun cdv A outer s0 H vs Q E hr h => ?_)
  · obtain ⟨l1, l2, root, ks1, ks2, x, y, rfl, _⟩ := h
    rfl
  · obtain ⟨l1, l2, root, ks1, ks2, x, y, rfl, rw1, rw2, two, mx, my, exy, k⟩ := h
    refine ⟨_, 
      (pss_cons (ps_setLc (i := 3) (own := [("_law_one", 4)]) (g := gName 4) (tt := tYes) (te := (tCall (spTk K) [] E0 (tCons (tVar 0) (tCons (tVar 1) (tCons (tVar 2) (tCons (tOp (rIxT K) (tVar 4) (tC (.int 0))) tNil)))))) rfl scDb.nd rfl rfl (sw_true rfl rfl rfl (by decide +kernel)) (pi_list (pe_call FS.ok (hr.mono (by decide)) rfl FS.mg FS.kp FS.bi .nil pass0 (pa_cons (pv 1) (pa_cons (pv 2) pa_nil)))) (blkOk_by (N := nDb) (sc := defScope sDb) (by decide +kernel)) (fun _ _ _ _ _ => pg_name (i := 4) scDb.nd rfl (Or.inl rfl)) (fun _ _ _ _ _ => pts_nil) (fun _ _ _ _ _ => (pe_call TK_.ok (hr.mono (by decide)) rfl TK_.mg TK_.kp TK_.bi .nil pass0 (pa_cons (pv 0) (pa_cons (pv 1) (pa_cons (pv 2) (pa_cons (pe_ix ix_tup (pv 4) pe_int (fun _ _ => rfl)) pa_nil)))))))
      (pss_cons (ps_setLc (i := 3) (own := [("_law_name", 5)]) (g := gName 5) (te := (tVar 5)) (tt := (tTest (tNotN (tVar 5)))) rfl scDb.nd rfl rfl (sw_true rfl rfl rfl (by decide +kernel)) (pi_list (pv 3)) (blkOk_by (N := nDb) (sc := defScope sDb) (by decide +kernel)) (fun _ _ _ _ _ => pg_name (i := 5) scDb.nd rfl (Or.inl rfl)) (fun _ _ _ _ _ => pts_one (pt_cmp (pc_notN (pv 5)))) (fun _ _ _ _ _ => (pv 5)))
      (pss_one (ps_ret (pe_cmpR op_lt (pe_lenTxt (by rfl) B.len (by rfl) B.set (pv 3)) (pe_callB call_len_seq (by rfl) B.len PySem.boot_len (pa_cons (pv 3) pa_nil)) (nomark _)))))), ?_⟩
    have few := two.h2.few my
    refine ⟨_, rfl, _, rfl, ?_⟩
    dsimp only [tNil, List.append_nil]
    refine fs_call rw2 two.h2 my fun D us H1 hD eD eu s1 => ?_
    refine ⟨D, rfl, ⟨us, SqL.of eD⟩, fun D2 hD2 => ?_⟩
    refine lc_sieve (mLF K) mO (fun _ => true) (srcOf (allF ks1 x)) walk_list (by omega) (fun H' s9 => SqL.of (s9 _ _ eD)) hD2 eu (fun v c H2 Rq _ _ _ kk => kk _ (Same.refl _)) ?_ ?_
    · rintro v g H2 Rq mg _ s2 ⟨t2, wt2, rfl, ht2, _⟩ kk
      have s12 := s1.trans s2
      exact ⟨_, rfl, _, rfl, _, rfl, _, rfl, t2, _, _, _, rfl, rfl, ht2, atI_nat (j := 0) rfl, tk_call (E := E0) (rw1.same s12) (rw2.same s12) two mx my exy mg fun H3 s3 => kk _ _ s3 rfl⟩
    intro H2 ys s2 eD2 ey
    rw [filter_all] at ey
    have := ev_os ey
    subst this
    refine ⟨_, rfl, D2, rfl, ⟨_, SqL.of eD2⟩, fun D3 hD3 => ?_⟩
    refine lc_sieve mO mW (fun o => o.isSome) (fun o => o.getD "") walk_list (by rw [List.length_map]; omega) (fun H' s9 => SqL.of (s9 _ _ eD2)) hD3 (ev_mk _) ?_ ?_ ?_
    · intro v o H3 Rq mo e3 ro kk
      cases ro
      cases o with
      | none => exact ⟨_, rfl, false, rfl, kk _ (Same.refl _)⟩
      | some n => exact ⟨_, rfl, true, rfl, kk _ (Same.refl _)⟩
    · intro v o H3 Rq mo so e3 ro kk
      cases ro
      cases o with
      | none => cases so
      | some n => exact ⟨_, rfl, kk _ _ (Same.refl _) rfl⟩
    intro H3 zs s3 eD3 ez
    cases ev_words_eq ez
    have efm : (((allF ks2 y).map (srcOf (allF ks1 x))).filter fun o => o.isSome).map (fun o => o.getD "") = (srcs ks1 x (allF ks2 y)).filterMap id := by
      unfold srcs
      generalize (allF ks2 y).map (srcOf (allF ks1 x)) = os
      induction os with
      | nil => rfl
      | cons o os ih => cases o <;> simp [ih]
    rw [efm] at eD3
    have ll : ((srcs ks1 x (allF ks2 y)).filterMap id).length ≤ 10 := by
      have := List.length_filterMap_le id (srcs ks1 x (allF ks2 y))
      have e : (srcs ks1 x (allF ks2 y)).length = (allF ks2 y).length := by unfold srcs; rw [List.length_map]
      omega
    generalize (srcs ks1 x (allF ks2 y)).filterMap id = xs at eD3 ll k
    refine ⟨_, rfl, D3, xs, rfl, .inl (SqL.of eD3), by omega, _, rfl, D3, xs.map V.str, rfl, .inl (SqL.of eD3), _, _, rfl, rfl, ?_⟩
    have e : decide (((TS.once xs).length : Int) < ((xs.map V.str).length : Nat)) = !decide xs.Nodup := by
      rw [List.length_map]
      have q1 := TS.once_le xs
      have q2 := TS.once_len xs
      by_cases n : xs.Nodup
      · rw [decide_eq_true n]
        have := q2.mpr n
        exact decide_eq_false (by omega)
      · rw [decide_eq_false n]
        refine decide_eq_true ?_
        have : (TS.once xs).length ≠ xs.length := fun z => n (q2.mp z)
        show ((TS.once xs).length : Int) < (xs.length : Int)
        omega
    show Q (.bl (decide (((TS.once xs).length : Int) < ((xs.map V.str).length : Nat)))) H3
    rw [e]
    exact k _ (s1.trans (s2.trans s3))
theorem shaped_texts {w : List Str} (h : ∀ x ∈ w, PyData.strOk x = true) : SeqAt.shaped (.list (w.map .str)) = true := by
  have q := all_lay w h
  simp [SeqAt.shaped, PyData.canLay0, PyData.depth, q.1]
  omega
theorem eqv_nil2 (w : List Str) : PyData.eqv (.list (w.map .str)) (.list []) = w.isEmpty := by cases w <;> rfl
/-- a row's tuple -/
def rLKt (K : PySem.W.Frag) : Rp KD := fun H v x => ∃ t lf, v = .ref t ∧ SqT K H t [.str x.n, tv x.b, .bl x.f, .bl x.h, tv x.k, .bl x.r, .ref lf]
theorem mLKt (K : PySem.W.Frag) : Mono (rLKt K) := fun _ _ _ _ s ⟨t, lf, e, h⟩ => ⟨t, lf, e, (Stay.kp s).sqT h⟩
abbrev sLe : Stmt := top 71
abbrev nLe : List Str := ["_law_elder", "_law_later", "_law_row_here"]
/-- no field of any kind is taken twice -/
def leadsB (ks1 ks2 : List KD) : Bool := ks1.all fun x => decide ((srcs ks1 x (allN ks2 x.n)).filterMap id).Nodup
def spLe (K : PySem.W.Frag) : Sp := fun vs H Q _ => ∃ (l1 l2 : Addr) (root : Str) (ks1 ks2 : List KD), vs = [.ref l1, .ref l2] ∧ Rows K H l1 ks1 ∧ Rows K H l2 ks2 ∧ TwoOk root ks1 ks2 ∧ (∀ x ∈ ks1, ∃ y ∈ ks2, y.n = x.n) ∧ ∀ H', Same H H' → Q (.bl (leadsB ks1 ks2)) H'
theorem scLe : FnScope nLe ["_law_elder", "_law_later"] (defScope sLe) := ⟨rfl, rfl, rfl, by decide +kernel, rfl, by decide +kernel, by decide +kernel⟩
theorem ok_Le {f f1 : Addr} {fd fd1 : FuncData} (F : Fun K "_law_leads" "_law_leads" sLe f fd) (DB : Known P w K mg base CX0 4 "_law_is_doubled" ["_law_elder", "_law_later", "_law_kind"] (spDb K) f1 fd1) : FnOk P w K mg base CX0 5 f fd ["_law_elder", "_law_later"] (spLe K) := by
  refine F.ok scLe (fun vs H Q E h => ?_) (fun cdv A outer s0 H vs Q E hr h => ?_)
  · obtain ⟨l1, l2, root, ks1, ks2, rfl, _⟩ := h
    rfl
  · obtain ⟨l1, l2, root, ks1, ks2, rfl, rw1, rw2, two, tw2, k⟩ := h
    refine ⟨_, 
      (pss_one (ps_ret (pe_cmpR (op_eqD hr.units) (pe_lc (own := [("_law_row_here", 2)]) (g := gName 2) (te := (tOp (rIxT K) (tVar 2) (tC (.int 0)))) (tt := (tB (tCall (spDb K) [] E0 (tCons (tVar 0) (tCons (tVar 1) (tCons (tOp (rIxT K) (tVar 2) (tC (.int 0))) tNil)))))) rfl scLe.nd (pi_list (pv 0)) (blkOk_by (N := nLe) (sc := defScope sLe) (by decide +kernel)) (fun _ _ _ _ _ => pg_name (i := 2) scLe.nd rfl (Or.inl rfl)) (fun _ _ _ _ _ => pts_one (pt_val (pe_call DB.ok (hr.mono (by decide)) rfl DB.mg DB.kp DB.bi .nil pass0 (pa_cons (pv 0) (pa_cons (pv 1) (pa_cons (pe_ix ix_tup (pv 2) pe_int (fun _ _ => rfl)) pa_nil)))))) (fun _ _ _ _ _ => (pe_ix ix_tup (pv 2) pe_int (fun _ _ => rfl)))) (pe_lst pa_nil) (nomark _)))), ?_⟩
    obtain ⟨us, eL, lu, ru⟩ := id rw1
    have n12 := two.h1.n12
    have ev : Ev (rLKt K) H us ks1 := ⟨lu, fun i u c a b => let ⟨t, lf, ws, e, ht, _⟩ := ru i u c a b; ⟨t, lf, e, ht⟩⟩
    refine ⟨_, rfl, l1, rfl, ⟨us, SqL.of eL⟩, fun D hD => ?_⟩
    refine lc_sieve (R := rLKt K) (mLKt K) mW (fun x => !decide ((srcs ks1 x (allN ks2 x.n)).filterMap id).Nodup) (·.n) walk_list (by omega) (fun H' s9 => SqL.of (s9 _ _ eL)) hD ev ?_ ?_ ?_
    · rintro v x H3 Rq mx e3 ⟨t, lf, rfl, ht⟩ kk
      obtain ⟨y, my, eyx⟩ := tw2 x mx
      refine ⟨_, rfl, _, rfl, _, rfl, t, _, _, _, rfl, rfl, ht, atI_nat (j := 0) rfl, l1, l2, root, ks1, ks2, x, y, by rw [eyx]; rfl, rw1.same e3, rw2.same e3, two, mx, my, eyx.symm, fun H4 e4 => ?_⟩
      refine ⟨_, rfl, ?_⟩
      rw [← eyx, allN_of two.h2 my] at kk
      exact kk _ e4
    · rintro v x H3 Rq mx so e3 ⟨t, lf, rfl, ht⟩ kk
      exact ⟨_, rfl, t, _, _, _, rfl, rfl, ht, atI_nat (j := 0) rfl, kk _ _ (Same.refl _) rfl⟩
    intro H3 zs s3 eD3 ez
    cases ev_words_eq ez
    refine ⟨by show 0 ≤ sizeLine; decide, fun D2 hD2 => ?_⟩
    have sD2 := same_new (o := .lst []) hD2
    refine ⟨.list (((ks1.filter fun x => !decide ((srcs ks1 x (allN ks2 x.n)).filterMap id).Nodup).map (·.n)).map .str), .list [], .lst (SqL.of (sD2 _ _ eD3)) (dpAll_strs _), .lst (SqL.of upd_same) .nil, shaped_texts fun z hz => ?_, by decide +kernel, ?_⟩
    · obtain ⟨x, mx, rfl⟩ := List.mem_map.mp hz
      exact (kind_ok (two.o1.kn x (List.mem_filter.mp mx).1)).1
    rw [eqv_nil2]
    have e : ((ks1.filter fun x => !decide ((srcs ks1 x (allN ks2 x.n)).filterMap id).Nodup).map (·.n)).isEmpty = leadsB ks1 ks2 := by
      unfold leadsB
      rw [Bool.eq_iff_iff, List.isEmpty_iff, List.map_eq_nil_iff, List.filter_eq_nil_iff, List.all_eq_true]
      constructor
      · intro h x mx
        have := h x mx
        simpa using this
      · intro h x mx
        have := h x mx
        simpa using this
    rw [e]
    exact k _ (s3.trans sD2)
end
end Wh
set_option Elab.async false
set_option linter.all false
set_option maxRecDepth 100000
set_option maxHeartbeats 4000000
namespace Wh
open PySem PySem.Spec PyProof.Rows L2
open Wp hiding Same.refl Same.trans same_new boot_all run_own
open W8 (Ev Rp Kp Mono same_new take_snoc rW rB mW mB ev_words ev_words_eq ev_bools_eq lc_sieve)
section
variable {P : Program} {w : World} {K : PySem.W.Frag} {mg : Str → Option Value} {base : Heap} {CF CK CH CW CU CV : Addr}
abbrev sMr : Stmt := top 59
abbrev nMr : List Str := ["_law_pot_here", "_law_road"]
def spMr : Sp := fun vs H Q _ => ∃ (p : Addr) (n : Nat), vs = [.ref p] ∧ Pot p n H ∧ n < 100000 ∧ ∀ (d : Int) H', -bigM < d → d < bigM → But p H H' → Pot p (n + 3) H' → Q (.int d) H'
theorem scMr : FnScope nMr ["_law_pot_here"] (defScope sMr) := ⟨rfl, rfl, rfl, by decide +kernel, rfl, by decide +kernel, by decide +kernel⟩
theorem ok_Mr {f f1 : Addr} {fd fd1 : FuncData} (F : Fun K "_law_mark" "_law_mark" sMr f fd) (DR : Known P w K mg base CX0 1 "_law_draw" ["_law_pot_here", "_law_many"] spDr f1 fd1) : FnOk P w K mg base CX0 2 f fd ["_law_pot_here"] spMr := by
  refine F.ok scMr (fun vs H Q E h => ?_) (fun cdv A outer s H vs Q E hr h => ?_)
  · obtain ⟨p, n, rfl, _⟩ := h
    rfl
  · obtain ⟨p, n, rfl, pt, n1, k⟩ := h
    have eM : bigM = 1000000000000000000000000000000 := rfl
    refine ⟨_, 
      (pss_cons (ps_set (i := 1) scMr.nd rfl (.inl rfl) (pe_call DR.ok (hr.mono (by decide)) rfl DR.mg DR.kp DR.bi .nil pass0 (pa_cons (pv 0) (pa_cons pe_int pa_nil))))
      (pss_cons (ps_if (pt_cmpR op_eq (pv 1) pe_int (nomark _)) 
        (pss_one (ps_ret (pe_op op_sub (pe_call DR.ok (hr.mono (by decide)) rfl DR.mg DR.kp DR.bi .nil pass0 (pa_cons (pv 0) (pa_cons (pe_op op_pow pe_int pe_int) pa_nil))) (pe_op op_pow pe_int pe_int)))) pss_nil)
      (pss_cons (ps_if (pt_cmpR op_eq (pv 1) pe_int (nomark _)) 
        (pss_one (ps_ret (pe_op op_mul (pe_op op_sub (pe_op op_sub (pe_op op_pow pe_int pe_int) pe_int) (pe_call DR.ok (hr.mono (by decide)) rfl DR.mg DR.kp DR.bi .nil pass0 (pa_cons (pv 0) (pa_cons pe_int pa_nil)))) (pe_op op_sub pe_int (pe_op op_mul pe_int (pe_call DR.ok (hr.mono (by decide)) rfl DR.mg DR.kp DR.bi .nil pass0 (pa_cons (pv 0) (pa_cons pe_int pa_nil)))))))) pss_nil)
      (pss_one (ps_ret (pe_op op_sub (pe_call DR.ok (hr.mono (by decide)) rfl DR.mg DR.kp DR.bi .nil pass0 (pa_cons (pv 0) (pa_cons pe_int pa_nil))) pe_int)))))), ?_⟩
    refine ⟨_, rfl, p, 4, n, rfl, pt, by omega, by decide, by decide, fun r H1 r0 r1 b1 pt1 => ?_⟩
    refine ⟨_, rfl, rfl, _, rfl, ?_⟩
    refine ite2 (fun _ => ?_) (fun _ => ?_)
    · refine ⟨_, rfl, _, _, rfl, rfl, ⟨by decide, by decide, by decide⟩, p, 1000000000000, n + 1, rfl, pt1, by omega, by decide, by decide, fun v H2 v0 v1 b2 pt2 => ?_⟩
      refine ⟨_, _, rfl, rfl, ⟨by decide, by decide, by decide⟩, _, _, rfl, rfl, ?_⟩
      have e11 : (10 : Int) ^ (11 : Int).toNat = 100000000000 := by decide
      refine k _ H2 ?_ ?_ (but_trans b1 b2) (pt2.le (by omega))
      · show -bigM < v - (10 : Int) ^ (11 : Int).toNat
        rw [e11]
        omega
      · show v - (10 : Int) ^ (11 : Int).toNat < bigM
        rw [e11]
        omega
    · refine ⟨_, rfl, rfl, _, rfl, ?_⟩
      refine ite2 (fun _ => ?_) (fun _ => ?_)
      · refine ⟨_, _, rfl, rfl, ⟨by decide, by decide, by decide⟩, _, _, rfl, rfl, _, rfl, p, 3, n + 1, rfl, pt1, by omega, by decide, by decide, fun v H2 v0 v1 b2 pt2 => ⟨_, _, rfl, rfl, _, rfl, p, 2, n + 2, rfl, pt2, by omega, by decide, by decide, fun u H3 u0 u1 b3 pt3 => ?_⟩⟩
        refine ⟨_, _, rfl, rfl, .inl ⟨by decide, by decide⟩, _, _, rfl, rfl, _, _, rfl, rfl, .inr ⟨by omega, by omega⟩, ?_⟩
        have q : (u = 0 ∨ u = 1) ∧ (v = 0 ∨ v = 1 ∨ v = 2) := by omega
        refine k _ H3 ?_ ?_ (but_trans b1 (but_trans b2 b3)) (pt3.le (by omega))
        · rcases q with ⟨rfl | rfl, rfl | rfl | rfl⟩ <;> decide
        · rcases q with ⟨rfl | rfl, rfl | rfl | rfl⟩ <;> decide
      · exact ⟨_, rfl, p, 5, n + 1, rfl, pt1, by omega, by decide, by decide, fun v H2 v0 v1 b2 pt2 => ⟨_, _, rfl, rfl, k _ H2 (by omega) (by omega) (but_trans b1 b2) (pt2.le (by omega))⟩⟩
abbrev sVs : Stmt := top 72
abbrev nVs : List Str := ["_law_pot_here", "_law_rows", "_law_kinds", "_law_at", "_law_start", "_law_values_here", "_law_chief", "_law_name", "_law_mode", "_law_aim", "_law_preset_here", "_law_former", "_law_fitting", "_law_is_held", "_law_many", "_law_k", "_law_turn"]
def rNat : Rp Nat := fun _ v i => v = .int (i : Nat)
theorem mNat : Mono rNat := fun _ _ _ _ _ h => h
theorem walk_rangeL {N : Nat} : Walk (Itr 0 N) ((List.range N).map fun i => V.int (i : Nat)).length (fun _ => True) (YAt ((List.range N).map fun i => V.int (i : Nat))) := by
  rw [List.length_map, List.length_range]
  refine walk_range.mono (fun _ h => h) ?_
  rintro i H x H' hi _ ⟨rfl, rfl⟩
  refine ⟨rfl, ?_⟩
  rw [List.getElem?_map, List.getElem?_range hi]
  simp
theorem ev_nats {H : Hp} (l : List Nat) : Ev rNat H (l.map fun i => V.int (i : Nat)) l := ⟨by simp, fun i u c a b => by
  rw [List.getElem?_map, b] at a
  cases a
  rfl⟩
theorem ev_nats_eq {H : Hp} {us : List V} {l : List Nat} (h : Ev rNat H us l) : us = l.map fun i => V.int (i : Nat) := by
  apply List.ext_getElem?
  intro i
  rcases Nat.lt_or_ge i us.length with q | q
  · obtain ⟨c, hc, r⟩ := h.at (List.getElem?_eq_getElem q)
    rw [List.getElem?_map, hc, List.getElem?_eq_getElem q, r]
    rfl
  · rw [List.getElem?_eq_none q, List.getElem?_eq_none (by rw [List.length_map, ← h.1]; exact q)]
theorem dpAll_nats {K : PySem.W.Frag} {H : Hp} : ∀ l : List Nat, DpAll K H (l.map fun i => V.int (i : Nat)) (l.map fun i => PyData.int (i : Nat))
  | [] => .nil
  | i :: l => .cons (.int _) (dpAll_nats l)
theorem shaped_nats (l : List Nat) : SeqAt.shaped (.list (l.map fun i => PyData.int (i : Nat))) = true := by
  have q : ∀ l : List Nat, PyData.canLayAll0 (l.map fun i => PyData.int (i : Nat)) = true ∧ PyData.depthAll (l.map fun i => PyData.int (i : Nat)) ≤ 1 := by
    intro l
    induction l with
    | nil => simp [PyData.canLayAll0, PyData.depthAll]
    | cons i l ih =>
      simp [PyData.canLayAll0, PyData.depthAll, PyData.canLay0, PyData.depth, ih.1]
      exact ih.2
  have := q l
  simp [SeqAt.shaped, PyData.canLay0, PyData.depth, this.1]
  omega
theorem eqv_nil3 (l : List Nat) : PyData.eqv (.list (l.map fun i => PyData.int (i : Nat))) (.list []) = l.isEmpty := by cases l <;> rfl
theorem dcW_but {H0 H H' : Hp} {p d : Addr} {n : Nat} {o : HO} {ns : List Str} {cs : List Wv} (e0 : H0 p = some o) (pt : Pot p n H) (b : But p H H') (h : Dc (rWn H0) H d ns cs) : Dc (rWn H0) H' d ns cs := by
  obtain ⟨xs, e, l, v⟩ := h
  obtain ⟨_, _, _, ep, _⟩ := id pt
  refine ⟨xs, b _ _ (fun z => by rw [z, ep] at e; cases e) e, l, v.1, fun i x c a q => ?_⟩
  obtain ⟨h1, h2⟩ := v.2 i x c a q
  refine ⟨?_, h2⟩
  cases c with
  | non => exact h1
  | int i => exact h1
  | lst l =>
    obtain ⟨a, ea, ha⟩ := h1
    refine ⟨a, ea, b _ _ (fun z => ?_) ha⟩
    have := h2 a ea
    rw [z, e0] at this
    cases this
/-- a thing with all values, each fitting -/
structure ValOk (ks : List KD) (kn : List Str) (y : KD) (x : Th) : Prop where
  k : x.k = y.n
  ns : x.ns = (allF ks y).map (·.n)
  len : x.vs.length = (allF ks y).length
  fit : ∀ (j : Nat) g v, (allF ks y)[j]? = some g → x.vs[j]? = some v → fitV (admB ks kn) kn.length g v = true
def spVs (K : PySem.W.Frag) : Sp := fun vs H Q _ => ∃ (p L Kl : Addr) (n at_ : Nat) (start : Int) (root : Str) (ks : List KD) (kn : List Str) (y : KD), vs = [.ref p, .ref L, .ref Kl, .int (at_ : Nat), .int start] ∧ Pot p n H ∧ n < 60000 ∧ Rows K H L ks ∧ L ≠ p ∧ HouseOk root ks ∧ KindsOk ks ∧ H Kl = some (.lst (kn.map V.str)) ∧ Kl ≠ p ∧ kn.length ≤ 100 ∧ (∀ n ∈ kn, n ∈ ks.map (·.n)) ∧ y ∈ ks ∧ kn[at_]? = some y.n ∧ -bigM < start + (at_ : Nat) ∧ start + (at_ : Nat) < bigM ∧
  ∀ v x H', rThN K H H' v x → ValOk ks kn y x → But p H H' → Pot p (n + 60) H' → Q v H'
theorem scVs : FnScope nVs ["_law_pot_here", "_law_rows", "_law_kinds", "_law_at", "_law_start"] (defScope sVs) := ⟨rfl, rfl, rfl, by decide +kernel, rfl, by decide +kernel, by decide +kernel⟩
theorem ok_Vs {f f1 f2 f3 f4 f5 : Addr} {fd fd1 fd2 fd3 fd4 fd5 : FuncData} (F : Fun K "_law_values" "_law_values" sVs f fd) (B : Bn mg) (DR : Known P w K mg base CX0 1 "_law_draw" ["_law_pot_here", "_law_many"] spDr f1 fd1) (RW_ : Known P w K mg base CX0 1 "_law_row" ["_law_rows", "_law_kind"] (spRw K) f2 fd2) (FS : Known P w K mg base CX0 2 "_law_fields" ["_law_rows", "_law_kind"] (spFs K) f3 fd3)
    (AD : Known P w K mg base CX0 2 "_law_admits" ["_law_rows", "_law_aim", "_law_kind"] (spAd K) f4 fd4) (MK_ : Known P w K mg base CX0 2 "_law_mark" ["_law_pot_here"] spMr f5 fd5) : FnOk P w K mg base CX0 3 f fd ["_law_pot_here", "_law_rows", "_law_kinds", "_law_at", "_law_start"] (spVs K) := by
  refine F.ok scVs (fun vs H Q E h => ?_) (fun cdv A outer s0 H vs Q E hr h => ?_)
  · obtain ⟨p, L, Kl, n, at_, start, root, ks, kn, y, rfl, _⟩ := h
    rfl
  · obtain ⟨p, L, Kl, n, at_, start, root, ks, kn, y, rfl, pt, n6, rows, nL, hk, ko, hKl, nKl, kfew, kin, my, hat, st0, st1, k⟩ := h
    have hu := hu_of hr
    refine ⟨_, 
      (pss_cons (ps_par (i := 5) (j := 6) rfl scVs.nd rfl rfl (by decide) rfl rfl (pa_cons pe_dnewK (pa_cons (pe_ix ix_tup (pe_call RW_.ok (hr.mono (by decide)) rfl RW_.mg RW_.kp RW_.bi .nil pass0 (pa_cons (pv 1) (pa_cons (pe_ix ix_list (pv 2) (pv 3) (fun _ _ => rfl)) pa_nil))) pe_int (fun _ _ => rfl)) pa_nil)) rfl)
      (pss_cut (ps_for PassesOwn.never rfl (pi_list (pe_call FS.ok (hr.mono (by decide)) rfl FS.mg FS.kp FS.bi .nil pass0 (pa_cons (pv 1) (pa_cons (pe_ix ix_list (pv 2) (pv 3) (fun _ _ => rfl)) pa_nil)))) (pg_tup rfl (pgs_cons (pg_name (i := 7) scVs.nd rfl (Or.inl rfl)) (pgs_cons (pg_name (i := 8) scVs.nd rfl (Or.inr rfl)) (pgs_cons (pg_name (i := 9) scVs.nd rfl (Or.inr rfl)) (pgs_cons (pg_name (i := 10) scVs.nd rfl (Or.inl rfl)) (pgs_cons (pg_name (i := 11) scVs.nd rfl (Or.inl rfl)) pgs_nil)))))) 
        (pss_cons (ps_set (i := 12) scVs.nd rfl (.inr rfl) (pe_lc (own := [("_law_k", 15)]) (g := gName 15) (te := tVar 15) (tt := (tAnd (tTest (tOp rNe (tVar 8) (tC (.str "mark")))) (tB (tCall (spAd K) [] E0 (tCons (tVar 1) (tCons (tVar 9) (tCons (tOp (rIxL K) (tVar 2) (tVar 15)) tNil))))))) rfl scVs.nd (pi_range1 rfl B.range (pa_cons (pe_callB (show CallR _ (.builtin "len") (rLenQ K) from call_len_seq) (by rfl) B.len PySem.boot_len (pa_cons (pv 2) pa_nil)) pa_nil)) (blkOk_by (N := nVs) (sc := defScope sVs) (by decide +kernel)) (fun _ _ _ _ _ => pg_name (i := 15) scVs.nd rfl (Or.inl rfl)) (fun _ _ _ _ _ => pts_one (PW.pt (pw_and (pt_cmpR op_ne (pv 8) pe_str (nomark _)) (pw_and1 (pt_val (pe_call AD.ok (hr.mono (by decide)) rfl AD.mg AD.kp AD.bi .nil pass0 (pa_cons (pv 1) (pa_cons (pv 9) (pa_cons (pe_ix ix_list (pv 2) (pv 15) (fun _ _ => rfl)) pa_nil))))))))) (fun _ _ _ _ _ => (pv 15))))
        (pss_one (ps_if (pt_cmpR op_eq (pv 8) pe_str (nomark _)) 
          (pss_one (ps_dput hu (pv 5) (pv 7) (pe_ifExp (pt_cmpR op_eq (pv 7) (pv 6) (nomark _)) (pe_op op_add (pv 4) (pv 3)) (pe_call MK_.ok (hr.mono (by decide)) rfl MK_.mg MK_.kp MK_.bi .nil pass0 (pa_cons (pv 0) pa_nil))) rfl)) 
          (pss_one (ps_if (pt_cmpR op_eq (pv 8) pe_str (nomark _)) 
            (pss_cons (ps_set (i := 13) scVs.nd rfl (.inl rfl) (pe_and (pe_cmpR (op_neD hr.units) (pv 12) (pe_lst pa_nil) (nomark _)) (pe_one (pe_cmpR op_gt (pe_call DR.ok (hr.mono (by decide)) rfl DR.mg DR.kp DR.bi .nil pass0 (pa_cons (pv 0) (pa_cons pe_int pa_nil))) pe_int (nomark _)))))
            (pss_one (ps_dput hu (pv 5) (pv 7) (pe_ifExp (pt_val (pv 13)) (pe_ix ix_list (pv 12) (pe_call DR.ok (hr.mono (by decide)) rfl DR.mg DR.kp DR.bi .nil pass0 (pa_cons (pv 0) (pa_cons (pe_callB (show CallR _ (.builtin "len") (rLenQ K) from call_len_seq) (by rfl) B.len PySem.boot_len (pa_cons (pv 12) pa_nil)) pa_nil))) (fun _ _ => rfl)) pe_non) rfl))) 
            (pss_cons (ps_set (i := 14) scVs.nd rfl (.inl rfl) (pe_ifExp (pt_cmpR (op_neD hr.units) (pv 12) (pe_lst pa_nil) (nomark _)) (pe_call DR.ok (hr.mono (by decide)) rfl DR.mg DR.kp DR.bi .nil pass0 (pa_cons (pv 0) (pa_cons pe_int pa_nil))) pe_int))
            (pss_one (ps_dput hu (pv 5) (pv 7) (pe_lc (own := [("_law_turn", 16)]) (g := gName 16) (tt := tYes) (te := (tOp (rIxL K) (tVar 12) (tCall spDr [] E0 (tCons (tVar 0) (tCons (tCB (rLenQ K) (tCons (tVar 12) tNil)) tNil))))) rfl scVs.nd (pi_range1 rfl B.range (pa_cons (pv 14) pa_nil)) (blkOk_by (N := nVs) (sc := defScope sVs) (by decide +kernel)) (fun _ _ _ _ _ => pg_name (i := 16) scVs.nd rfl (Or.inl rfl)) (fun _ _ _ _ _ => pts_nil) (fun _ _ _ _ _ => (pe_ix ix_list (pv 12) (pe_call DR.ok (hr.mono (by decide)) rfl DR.mg DR.kp DR.bi .nil pass0 (pa_cons (pv 0) (pa_cons (pe_callB (show CallR _ (.builtin "len") (rLenQ K) from call_len_seq) (by rfl) B.len PySem.boot_len (pa_cons (pv 12) pa_nil)) pa_nil))) (fun _ _ => rfl)))) rfl)))))))))
      (pss_one (ps_ret (pe_tup (pa_cons (pe_ix ix_list (pv 2) (pv 3) (fun _ _ => rfl)) (pa_cons (pv 5) pa_nil))))))), ?_⟩
    have n12 := hk.n12
    have few := hk.few my
    have fnd := hk.fnd my
    obtain ⟨_, _, _, ep0, _⟩ := id pt
    have hx : (kn.map V.str)[at_]? = some (V.str y.n) := by
      rw [List.getElem?_map, hat]
      rfl
    refine fun Vd hVd => ?_
    have nVp : Vd ≠ p := pt.at_ hVd
    have sV := same_new (o := .dK []) hVd
    have eV0 : (upd H Vd (.dK [])) Vd = some (.dK []) := upd_same
    generalize upd H Vd (.dK []) = H1 at sV eV0
    refine ⟨_, rfl, _, rfl, _, rfl, Kl, _, _, _, rfl, rfl, SqL.of (sV _ _ hKl), atI_nat hx, L, y.n, ks, y, rfl, rows.same sV, by omega, hk.atN my, fun v H2 r2 s2 => ?_⟩
    obtain ⟨t0, lf0, us0, rfl, ht0, _⟩ := id r2
    have s02 := sV.trans s2
    refine ⟨t0, _, _, _, rfl, rfl, ht0, atI_nat (j := 4) rfl, _, _, rfl, ?_⟩
    refine ⟨fun σ H' => ∃ v7 v8 v9 v10 v11 v12 v13 v14 v15 v16, σ = [some (.ref p), some (.ref L), some (.ref Kl), some (.int (at_ : Nat)), some (.int start), some (.ref Vd), some (tv y.k), v7, v8, v9, v10, v11, v12, v13, v14, v15, v16] ∧ But p H H' ∧ Pot p (n + 50) H' ∧
      ∃ vs : List Wv, Dc (rWn H) H' Vd ((allF ks y).map (·.n)) vs ∧ vs.length = (allF ks y).length ∧ ∀ (i : Nat) g v, (allF ks y)[i]? = some g → vs[i]? = some v → fitV (admB ks kn) kn.length g v = true, ?_, ?_⟩
    · refine ⟨_, rfl, _, rfl, _, rfl, Kl, _, _, _, rfl, rfl, SqL.of (s02 _ _ hKl), atI_nat hx, L, y.n, ks, y, rfl, rows.same s02, by omega, hk.atN my, hk.at_base my, by omega, fun D us H3 hD eD eu s3 => ⟨D, rfl, ⟨us, SqL.of eD⟩, ?_⟩⟩
      have s03 := s02.trans s3
      have nDp : D ≠ p := (pt.same s02).at_ hD
      have eV3 := s3 _ _ (s2 _ _ eV0)
      have nDV : D ≠ Vd := fun z => by
        rw [z, eV3] at eD
        cases eD
      have lu := eu.1
      refine for_it walk_list (fun j σ H' => ∃ v7 v8 v9 v10 v11 v12 v13 v14 v15 v16, σ = [some (.ref p), some (.ref L), some (.ref Kl), some (.int (at_ : Nat)), some (.int start), some (.ref Vd), some (tv y.k), v7, v8, v9, v10, v11, v12, v13, v14, v15, v16] ∧ (∀ b o, b ≠ p → b ≠ Vd → H3 b = some o → H' b = some o) ∧ Pot p (n + 4 * j) H' ∧
        ∃ vs : List Wv, Dc (rWn H) H' Vd (((allF ks y).take j).map (·.n)) vs ∧ vs.length = j ∧ ∀ (i : Nat) g v, (allF ks y)[i]? = some g → vs[i]? = some v → fitV (admB ks kn) kn.length g v = true)
        ⟨none, none, none, none, none, none, none, none, none, none, rfl, fun _ _ _ _ q => q, pt.same s03, [], Dc.nil eV3, rfl, by simp⟩ (fun i σ H' _ ⟨_, _, _, _, _, _, _, _, _, _, _, b, _⟩ => SqL.of (b _ _ nDp nDV eD)) ?_ ?_
      · rintro j v σ _ H4 hj ⟨v7, v8, v9, v10, v11, v12, v13, v14, v15, v16, rfl, b4, pt4, vs, dc, lvs, fit⟩ ⟨rfl, hu2⟩
        obtain ⟨g, hg, t, wt, rfl, ht3, hw3⟩ := eu.at hu2
        have mg := List.mem_of_getElem? hg
        have rg : RightF g := by
          obtain ⟨y9, my9, mg9⟩ := allF_mem my mg
          exact ko.right y9 my9 g mg9
        have b04 : But p H H4 := fun b o nb e => b4 b o nb (fun z => by rw [z, hVd] at e; cases e) (s03 _ _ e)
        have ht4 : SqT K H4 t [.str g.n, .str g.m, tv g.t, .int g.d, .ref wt] := by
          obtain ⟨_, _, _, ep3, _⟩ := pt.same s03
          have go : ∀ q o, H3 q = some o → (∀ xs, o ≠ .lst xs) → (∀ kvs, o ≠ .dK kvs) → H4 q = some o := fun q o eq n1 n2 => b4 q o (fun z => by rw [z, ep3] at eq; exact n1 _ (Option.some.inj eq).symm) (fun z => by rw [z, eV3] at eq; exact n2 _ (Option.some.inj eq).symm) eq
          have st : Stay H3 H4 := ⟨fun q xs h => go _ _ h (fun _ z => by cases z) (fun _ z => by cases z), fun q o xs h => go _ _ h (fun _ z => by cases z) (fun _ z => by cases z), fun q C d fs h => go _ _ h (fun _ z => by cases z) (fun _ z => by cases z)⟩
          exact st.sqT ht3
        have rows4 := rows.but pt nL b04
        have hKl4 := b04 _ _ nKl hKl
        refine ⟨t, _, rfl, ht4, rfl, _, _, rfl, _, _, rfl, _, _, rfl, _, _, rfl, _, _, rfl, rfl, ?_⟩
        have eN : (((kn.map V.str).length : Nat) : Int).toNat = kn.length := by simp
        have eN2 : (kn.map V.str).length = kn.length := by simp
        refine ⟨_, rfl, Kl, _, rfl, .inl (SqL.of hKl4), _, rfl, by omega, by omega, fun Fl hFl => ?_⟩
        rw [eN]
        refine lc_sieve mNat mNat (fun i => !decide (g.m = "mark") && letB ks (g.t.getD "") (kn.getD i "")) id walk_rangeL (by rw [List.length_range]; omega) (fun _ _ => trivial) hFl (ev_nats _) ?_ ?_ ?_
        · rintro _ i H5 Rq mi s5 rfl kk
          have hi := List.mem_range.mp mi
          refine ⟨_, rfl, rfl, _, rfl, ?_⟩
          rw [dec_s]
          by_cases e : g.m = "mark"
          · have em : (decide (g.m = Str.ofString "mark")) = true := decide_eq_true e
            rw [em]
            rw [show (!decide (g.m = "mark") && letB ks (g.t.getD "") (kn.getD i "")) = false by rw [show decide (g.m = "mark") = true from em]; rfl] at kk
            exact iteF (kk _ (Same.refl _))
          · have em : (decide (g.m = Str.ofString "mark")) = false := decide_eq_false e
            rw [em]
            rw [show (!decide (g.m = "mark") && letB ks (g.t.getD "") (kn.getD i "")) = letB ks (g.t.getD "") (kn.getD i "") by rw [show decide (g.m = "mark") = false from em]; rfl] at kk
            obtain ⟨tt, et⟩ : ∃ tt, g.t = some tt := by
              rcases rg.m with ⟨e2, _⟩ | ⟨_, _, tt, e2, _⟩
              · exact absurd e2 e
              · exact ⟨tt, e2⟩
            have hki : kn[i]? = some kn[i] := List.getElem?_eq_getElem hi
            have hkv : (kn.map V.str)[i]? = some (V.str kn[i]) := by rw [List.getElem?_map, hki]; rfl
            obtain ⟨z, mz, ez⟩ := List.mem_map.mp (kin _ (List.getElem_mem hi))
            refine iteT ⟨_, rfl, _, rfl, _, rfl, _, rfl, Kl, _, _, _, rfl, rfl, SqL.of (s5 _ _ hKl4), atI_nat hkv, L, tt, kn[i], ks, z, by rw [et]; rfl, rows4.same s5, by omega, by rw [← ez]; exact hk.atN mz, fun H6 s6 => ⟨_, rfl, ?_⟩⟩
            rw [et, List.getD_eq_getElem?_getD, hki] at kk
            exact kk _ s6
        · rintro _ i H5 Rq mi hp s5 rfl kk
          exact ⟨_, rfl, kk _ _ (Same.refl _) rfl⟩
        intro H5 ys s5 eFl ey
        rw [List.map_id] at ey
        cases ev_nats_eq ey
        have flok : ∀ i ∈ (List.range kn.length).filter fun i => !decide (g.m = "mark") && letB ks (g.t.getD "") (kn.getD i ""), i < kn.length ∧ admB ks kn (g.t.getD "") i = true := fun i mi => by
          obtain ⟨m1, m2⟩ := List.mem_filter.mp mi
          rw [Bool.and_eq_true] at m2
          exact ⟨List.mem_range.mp m1, m2.2⟩
        have fll : ((List.range kn.length).filter fun i => !decide (g.m = "mark") && letB ks (g.t.getD "") (kn.getD i "")).length ≤ 100 := by
          have := List.length_filter_le (fun i => !decide (g.m = "mark") && letB ks (g.t.getD "") (kn.getD i "")) (List.range kn.length)
          rw [List.length_range] at this
          omega
        generalize (List.range kn.length).filter (fun i => !decide (g.m = "mark") && letB ks (g.t.getD "") (kn.getD i "")) = fl at eFl flok fll
        have pt5 := pt4.same s5
        have dc5 := dc.same (dWn H) s5
        have nFl : Fl ≠ p := pt4.at_ hFl
        have hnew : g.n ∉ ((allF ks y).take j).map (·.n) := fun z => by
          obtain ⟨o, mo, eo⟩ := List.mem_map.mp z
          obtain ⟨q, hq, e⟩ := List.getElem_of_mem mo
          rw [List.length_take] at hq
          rw [List.getElem_take] at e
          have k1 : ((allF ks y).map (·.n))[q]? = some g.n := by rw [List.getElem?_map, List.getElem?_eq_getElem (by omega), e, ← eo]; rfl
          have k2 : ((allF ks y).map (·.n))[j]? = some g.n := by rw [List.getElem?_map, hg]; rfl
          have := (List.getElem?_inj (i := q) (j := j) (by rw [List.length_map]; omega) fnd).mp (k1.trans k2.symm)
          omega
        have fin : ∀ (x : V) (c : Wv) (H6 : Hp), But p H5 H6 → Pot p (n + 4 * j + 4) H6 → rWn H H6 x c → fitV (admB ks kn) kn.length g c = true → ∃ H7, DPut H6 Vd (.str g.n) x H7 ∧ (∀ b o, b ≠ p → b ≠ Vd → H3 b = some o → H7 b = some o) ∧ Pot p (n + 4 * (j + 1)) H7 ∧
            ∃ vs : List Wv, Dc (rWn H) H7 Vd (((allF ks y).take (j + 1)).map (·.n)) vs ∧ vs.length = j + 1 ∧ ∀ (i : Nat) g v, (allF ks y)[i]? = some g → vs[i]? = some v → fitV (admB ks kn) kn.length g v = true := fun x c H6 b6 pt6 r6 f6 => by
          have dc6 := dcW_but ep0 pt5 b6 dc5
          obtain ⟨H7, put, dc7, st7⟩ := dc6.put (dWn H) hnew (by rw [List.length_map, List.length_take]; omega) r6
          refine ⟨H7, put, fun b o nb nV e => st7 b o nV (b6 _ _ nb (s5 _ _ (b4 b o nb nV e))), ?_, vs ++ [c], by rw [take_snoc hg, List.map_append]; exact dc7, by simp [lvs], fun i g2 v2 h1 h2 => ?_⟩
          · obtain ⟨a1, a2, a3, ep6, r⟩ := pt6
            exact ⟨a1, a2, a3, st7 _ _ (Ne.symm nVp) ep6, r.1, r.2.1, r.2.2.1, by have := r.2.2.2; omega⟩
          · by_cases hi : i < vs.length
            · rw [List.getElem?_append_left hi] at h2
              exact fit i g2 v2 h1 h2
            · have hi2 : i = vs.length := by
                have := (List.getElem?_eq_some_iff.mp h2).1
                simp at this
                omega
              subst hi2
              rw [List.getElem?_append_right (Nat.le_refl _), Nat.sub_self] at h2
              cases h2
              rw [lvs, hg] at h1
              cases h1
              exact f6
        refine ⟨_, rfl, rfl, _, rfl, ?_⟩
        rw [dec_s]
        by_cases em : g.m = "mark"
        · rw [show decide (g.m = Str.ofString "mark") = true from decide_eq_true em]
          refine iteT ⟨_, rfl, _, rfl, scal_tv (some g.n) _, _, rfl, ?_⟩
          refine ite2 (fun _ => ?_) (fun _ => ?_)
          · obtain ⟨H7, put, i1, i2, i3⟩ := fin (.int (start + (at_ : Nat))) (.int (start + (at_ : Nat))) H5 (fun _ _ _ q => q) (pt5.le (by omega)) ⟨rfl, fun a e => by cases e⟩ (by
              unfold fitV
              dsimp only
              rw [if_pos em]
              exact decide_eq_true ⟨st0, st1⟩)
            exact ⟨_, rfl, _, rfl, _, _, rfl, rfl, _, rfl, _, rfl, Vd, H7, rfl, put, _, _, _, _, _, _, _, _, _, _, rfl, i1, i2, i3⟩
          · refine ⟨_, rfl, p, n + 4 * j, rfl, pt5, by omega, fun d H6 d0 d1 b6 pt6 => ?_⟩
            obtain ⟨H7, put, i1, i2, i3⟩ := fin (.int d) (.int d) H6 b6 (pt6.le (by omega)) ⟨rfl, fun a e => by cases e⟩ (by
              unfold fitV
              dsimp only
              rw [if_pos em]
              exact decide_eq_true ⟨d0, d1⟩)
            exact ⟨_, rfl, _, rfl, Vd, H7, rfl, put, _, _, _, _, _, _, _, _, _, _, rfl, i1, i2, i3⟩
        · rw [show decide (g.m = Str.ofString "mark") = false from decide_eq_false em]
          refine iteF ⟨_, rfl, rfl, _, rfl, ?_⟩
          rw [dec_s]
          have b05 : But p H H5 := but_trans b04 (but_of s5)
          by_cases el : g.m = "link"
          · rw [show decide (g.m = Str.ofString "link") = true from decide_eq_true el]
            have nofit : fitV (admB ks kn) kn.length g .non = true := by
              unfold fitV
              dsimp only
              exact decide_eq_true el
            refine iteT ⟨_, rfl, by show 0 ≤ sizeLine; decide, fun E1 hE => ?_⟩
            have sE := same_new (o := .lst []) hE
            refine ⟨.list (fl.map fun i => PyData.int (i : Nat)), .list [], .lst (SqL.of (sE _ _ eFl)) (dpAll_nats fl), .lst (SqL.of upd_same) .nil, shaped_nats fl, by decide +kernel, _, rfl, ?_⟩
            rw [eqv_nil3]
            have eF6 := sE _ _ eFl
            have pt6 := pt5.same sE
            generalize upd H5 E1 (.lst []) = H6 at sE eF6 pt6
            cases hfl : fl.isEmpty with
            | true =>
              obtain ⟨H7, put, i1, i2, i3⟩ := fin .non .non H6 (but_of sE) (pt6.le (by omega)) ⟨rfl, fun a e => by cases e⟩ nofit
              exact iteF ⟨_, rfl, false, rfl, iteF ⟨_, rfl, _, rfl, Vd, H7, rfl, put, _, _, _, _, _, _, _, _, _, _, rfl, i1, i2, i3⟩⟩
            | false =>
              have lpos : 0 < fl.length := by
                cases fl with
                | nil => cases hfl
                | cons a l => simp
              have lfl : (((fl.map fun i => V.int (i : Nat)).length : Nat) : Int) = (fl.length : Nat) := by rw [List.length_map]
              refine iteT ⟨_, rfl, p, 5, n + 4 * j, rfl, pt6, by omega, by decide, by decide, fun r H7 _ _ b7 pt7 => ⟨_, _, rfl, rfl, ?_⟩⟩
              have eF7 := b7 _ _ nFl eF6
              refine ⟨_, rfl, _, rfl, ?_⟩
              refine ite2 (fun _ => ?_) (fun _ => ?_)
              · refine ⟨_, rfl, _, rfl, _, rfl, Fl, _, rfl, .inl (SqL.of eF7), p, _, n + 4 * j + 1, rfl, pt7, by omega, by rw [lfl]; omega, by rw [lfl]; omega, fun r2 H8 r0 r1 b8 pt8 => ?_⟩
                rw [lfl] at r1
                obtain ⟨rn, rfl⟩ := Int.eq_ofNat_of_zero_le r0
                have hr0 : rn < fl.length := by omega
                have hr1 : (fl.map fun i => V.int (i : Nat))[rn]? = some (V.int (fl[rn] : Nat)) := by rw [List.getElem?_map, List.getElem?_eq_getElem hr0]; rfl
                obtain ⟨q1, q2⟩ := flok _ (List.getElem_mem hr0)
                obtain ⟨H9, put, i1, i2, i3⟩ := fin (.int (fl[rn] : Nat)) (.int (fl[rn] : Nat)) H8 (but_trans (but_of sE) (but_trans b7 b8)) (pt8.le (by omega)) ⟨rfl, fun a e => by cases e⟩ (by
                  unfold fitV
                  dsimp only
                  rw [if_neg em, Int.toNat_natCast, q2, show decide (g.m = "link") = true from decide_eq_true el, decide_eq_true (by omega)]
                  rfl)
                exact ⟨Fl, _, _, _, rfl, rfl, SqL.of (b8 _ _ nFl eF7), atI_nat hr1, _, rfl, _, rfl, Vd, H9, rfl, put, _, _, _, _, _, _, _, _, _, _, rfl, i1, i2, i3⟩
              · obtain ⟨H9, put, i1, i2, i3⟩ := fin .non .non H7 (but_trans (but_of sE) b7) (pt7.le (by omega)) ⟨rfl, fun a e => by cases e⟩ nofit
                exact ⟨_, rfl, _, rfl, Vd, H9, rfl, put, _, _, _, _, _, _, _, _, _, _, rfl, i1, i2, i3⟩
          · rw [show decide (g.m = Str.ofString "link") = false from decide_eq_false el]
            have es : g.m = "list" := by
              rcases rg.m with ⟨e2, _⟩ | ⟨e2 | e2, _⟩
              · exact absurd e2 em
              · exact absurd e2 el
              · exact e2
            refine iteF ⟨_, rfl, by show 0 ≤ sizeLine; decide, fun E1 hE => ?_⟩
            have sE := same_new (o := .lst []) hE
            refine ⟨.list (fl.map fun i => PyData.int (i : Nat)), .list [], .lst (SqL.of (sE _ _ eFl)) (dpAll_nats fl), .lst (SqL.of upd_same) .nil, shaped_nats fl, by decide +kernel, _, rfl, ?_⟩
            rw [eqv_nil3]
            have eF6 := sE _ _ eFl
            have pt6 := pt5.same sE
            generalize upd H5 E1 (.lst []) = H6 at sE eF6 pt6
            have last : ∀ (H7 H8 : Hp) (D5 : Addr) (xs : List Nat), But p H5 H7 → Pot p (n + 4 * j + 1) H7 → But p H7 H8 → Pot p (n + 4 * j + 4) H8 → H7 D5 = none → H8 D5 = some (.lst (xs.map fun i => V.int (i : Nat))) → xs.length ≤ 2 → (∀ i ∈ xs, i ∈ fl) → ∃ H9, DPut H8 Vd (.str g.n) (.ref D5) H9 ∧ (∀ b o, b ≠ p → b ≠ Vd → H3 b = some o → H9 b = some o) ∧ Pot p (n + 4 * (j + 1)) H9 ∧
              ∃ vs : List Wv, Dc (rWn H) H9 Vd (((allF ks y).take (j + 1)).map (·.n)) vs ∧ vs.length = j + 1 ∧ ∀ (i : Nat) g v, (allF ks y)[i]? = some g → vs[i]? = some v → fitV (admB ks kn) kn.length g v = true := fun H7 H8 D5 xs b57 pt7 b8 pt8 hD5 eD5 lx hx => by
              refine fin (.ref D5) (.lst (xs.map fun i : Nat => (i : Int))) H8 (but_trans b57 b8) pt8 ⟨⟨D5, rfl, by rw [List.map_map]; exact eD5⟩, fun a e => ?_⟩ ?_
              · cases e
                cases hz : H D5 with
                | none => rfl
                | some o =>
                  have := but_trans b05 b57 D5 o (pt7.at_ hD5) hz
                  rw [hD5] at this
                  cases this
              · unfold fitV
                dsimp only
                rw [show decide (g.m = "list") = true from decide_eq_true es, decide_eq_true (by rw [List.length_map]; omega), Bool.true_and, Bool.true_and, List.all_eq_true]
                intro z hz
                obtain ⟨i, mi, rfl⟩ := List.mem_map.mp hz
                obtain ⟨q1, q2⟩ := flok i (hx i mi)
                rw [Int.toNat_natCast, q2, decide_eq_true (by omega)]
                rfl
            cases hfl : fl.isEmpty with
            | true =>
              refine iteF ⟨_, rfl, _, rfl, by decide, by decide, fun D5 hD5 => ?_⟩
              refine lc_drawn (R := rNat) (fun _ h => h) (fun _ x => x ∈ fl) 1 (N := 0) (by omega) hD5 (pt6.le (show n + 4 * j ≤ n + 4 * j + 1 by omega)) (fun q H7 Rq hq => absurd hq (Nat.not_lt_zero _)) ?_
              intro H8 ys xs b8 pt8 eD8 ey lx hax
              cases ev_nats_eq ey
              obtain ⟨H9, put, i1, i2, i3⟩ := last H6 H8 D5 xs (but_of sE) (pt6.le (by omega)) b8 (pt8.le (by omega)) hD5 eD8 (by omega) (fun i mi => by
                obtain ⟨q, hq⟩ := List.getElem?_of_mem mi
                exact hax q i hq)
              exact ⟨_, rfl, _, rfl, Vd, H9, rfl, put, _, _, _, _, _, _, _, _, _, _, rfl, i1, i2, i3⟩
            | false =>
              have lpos : 0 < fl.length := by
                cases fl with
                | nil => cases hfl
                | cons a l => simp
              have lfl : (((fl.map fun i => V.int (i : Nat)).length : Nat) : Int) = (fl.length : Nat) := by rw [List.length_map]
              refine iteT ⟨_, rfl, p, 3, n + 4 * j, rfl, pt6, by omega, by decide, by decide, fun r H7 r0 r1 b7 pt7 => ?_⟩
              obtain ⟨m, rfl⟩ := Int.eq_ofNat_of_zero_le r0
              have eF7 := b7 _ _ nFl eF6
              refine ⟨_, rfl, _, rfl, by omega, by omega, fun D5 hD5 => ?_⟩
              rw [Int.toNat_natCast]
              refine lc_drawn (R := rNat) (fun _ h => h) (fun _ x => x ∈ fl) 1 (N := m) (by omega) hD5 pt7 ?_ ?_
              · intro q H9 Rq hq b9 pt9 kk
                have eF9 := b9 _ _ nFl eF7
                refine ⟨_, rfl, _, rfl, _, rfl, Fl, _, rfl, .inl (SqL.of eF9), p, _, n + 4 * j + 1 + 1 * q, rfl, pt9, by omega, by rw [lfl]; omega, by rw [lfl]; omega, fun r2 H8 r0 r1 b8 pt8 => ?_⟩
                rw [lfl] at r1
                obtain ⟨rn, rfl⟩ := Int.eq_ofNat_of_zero_le r0
                have hr0 : rn < fl.length := by omega
                have hr1 : (fl.map fun i => V.int (i : Nat))[rn]? = some (V.int (fl[rn] : Nat)) := by rw [List.getElem?_map, List.getElem?_eq_getElem hr0]; rfl
                exact ⟨Fl, _, _, _, rfl, rfl, SqL.of (b8 _ _ nFl eF9), atI_nat hr1, kk _ fl[rn] H8 b8 (pt8.le (by omega)) (List.getElem_mem hr0) rfl⟩
              · intro H8 ys xs b8 pt8 eD8 ey lx hax
                cases ev_nats_eq ey
                obtain ⟨H9, put, i1, i2, i3⟩ := last H7 H8 D5 xs (but_trans (but_of sE) b7) pt7 b8 (pt8.le (by omega)) hD5 eD8 (by omega) (fun i mi => by
                  obtain ⟨q, hq⟩ := List.getElem?_of_mem mi
                  exact hax q i hq)
                exact ⟨_, rfl, _, rfl, Vd, H9, rfl, put, _, _, _, _, _, _, _, _, _, _, rfl, i1, i2, i3⟩
      · rintro σ H4 ⟨v7, v8, v9, v10, v11, v12, v13, v14, v15, v16, rfl, b4, pt4, vs, dc, lvs, fit⟩
        rw [lu, List.take_length] at dc
        exact ⟨_, _, _, _, _, _, _, _, _, _, rfl, fun b o nb e => b4 b o nb (fun z => by rw [z, hVd] at e; cases e) (s03 _ _ e), pt4.le (by omega), vs, dc, by omega, fit⟩
    rintro _ H4 ⟨v7, v8, v9, v10, v11, v12, v13, v14, v15, v16, rfl, b4, pt4, vs, dc, lvs, fit⟩
    refine ⟨_, rfl, _, rfl, Kl, _, _, _, rfl, rfl, SqL.of (b4 _ _ nKl hKl), atI_nat hx, _, rfl, by show 2 ≤ sizeLine; decide, fun q hq => ?_⟩
    have sq := same_new (o := .tup [.str y.n, .ref Vd]) hq
    exact k (.ref q) ⟨y.n, (allF ks y).map (·.n), vs⟩ _ ⟨q, Vd, rfl, SqT.of upd_same, dc.same (dWn H) sq⟩ ⟨rfl, rfl, lvs, fit⟩ (but_trans b4 (but_of sq)) ((pt4.same sq).le (by omega))
end
end Wh
set_option Elab.async false
set_option linter.all false
set_option maxRecDepth 100000
set_option maxHeartbeats 4000000
namespace Wh
open PySem PySem.Spec PyProof.Rows L2
open Wp hiding Same.refl Same.trans same_new boot_all run_own
open W8 (Ev Rp Kp Mono same_new take_snoc rW rB mW mB ev_words ev_words_eq ev_bools_eq lc_sieve)
section
variable {P : Program} {w : World} {K : PySem.W.Frag} {mg : Str → Option Value} {base : Heap} {CF CK CH CW CU CV : Addr}
theorem rThN_dom {H0 H1 H : Hp} {v : V} {x : Th} (s : ∀ a, H1 a = none → H0 a = none) (h : rThN K H1 H v x) : rThN K H0 H v x := let ⟨t, d, e, ht, xs, e2, l, ev⟩ := h; ⟨t, d, e, ht, xs, e2, l, ev.1, fun i u c a q => ⟨(ev.2 i u c a q).1, fun z eb => s _ ((ev.2 i u c a q).2 z eb)⟩⟩
abbrev sTg : Stmt := top 73
abbrev nTg : List Str := ["_law_pot_here", "_law_rows", "_law_start", "_law_most", "_law_kinds", "_law_least", "_law_turn", "_law_at"]
/-- things drawn for a web -/
structure TsOk (root : Str) (ks : List KD) (ts : List Th) : Prop where
  n1 : 1 ≤ ts.length
  n6 : ts.length ≤ 6
  ok : ∀ (i : Nat) x, ts[i]? = some x → ∃ y ∈ ks, ValOk ks (ts.map (·.k)) y x
def spTg (K : PySem.W.Frag) : Sp := fun vs H Q _ => ∃ (p L : Addr) (n : Nat) (root : Str) (ks : List KD), vs = [.ref p, .ref L, .str root, .int 6] ∧ Pot p n H ∧ n < 50000 ∧ Rows K H L ks ∧ L ≠ p ∧ HouseOk root ks ∧ KindsOk ks ∧ root ∈ ks.map (·.n) ∧
  ∀ (D : Addr) us (ts : List Th) H', H D = none → H' D = some (.lst us) → Ev (rThN K H) H' us ts → TsOk root ks ts → But p H H' → Pot p (n + 700) H' → Q (.ref D) H'
theorem scTg : FnScope nTg ["_law_pot_here", "_law_rows", "_law_start", "_law_most"] (defScope sTg) := ⟨rfl, rfl, rfl, by decide +kernel, rfl, by decide +kernel, by decide +kernel⟩
theorem ok_Tg {f f1 f2 : Addr} {fd fd1 fd2 : FuncData} (F : Fun K "_law_things" "_law_things" sTg f fd) (B : Bn mg) (DR : Known P w K mg base CX0 1 "_law_draw" ["_law_pot_here", "_law_many"] spDr f1 fd1) (VS : Known P w K mg base CX0 3 "_law_values" ["_law_pot_here", "_law_rows", "_law_kinds", "_law_at", "_law_start"] (spVs K) f2 fd2) : FnOk P w K mg base CX0 4 f fd ["_law_pot_here", "_law_rows", "_law_start", "_law_most"] (spTg K) := by
  refine F.ok scTg (fun vs H Q E h => ?_) (fun cdv A outer s0 H vs Q E hr h => ?_)
  · obtain ⟨p, L, n, root, ks, rfl, _⟩ := h
    rfl
  · obtain ⟨p, L, n, root, ks, rfl, pt, n5, rows, nL, hk, ko, mr, k⟩ := h
    refine ⟨_, 
      (pss_cut (ps_set (i := 4) scTg.nd rfl (.inr rfl) (pe_op op_cat (pe_lst (pa_cons (pv 2) pa_nil)) (pe_lc (own := [("_law_turn", 6)]) (g := gName 6) (tt := tYes) (te := (tOp (rIxT K) (tOp (rIxL K) (tVar 1) (tCall spDr [] E0 (tCons (tVar 0) (tCons (tCB (rLenQ K) (tCons (tVar 1) tNil)) tNil)))) (tC (.int 0)))) rfl scTg.nd (pi_range1 rfl B.range (pa_cons (pe_call DR.ok (hr.mono (by decide)) rfl DR.mg DR.kp DR.bi .nil pass0 (pa_cons (pv 0) (pa_cons (pv 3) pa_nil))) pa_nil)) (blkOk_by (N := nTg) (sc := defScope sTg) (by decide +kernel)) (fun _ _ _ _ _ => pg_name (i := 6) scTg.nd rfl (Or.inl rfl)) (fun _ _ _ _ _ => pts_nil) (fun _ _ _ _ _ => (pe_ix ix_tup (pe_ix ix_list (pv 1) (pe_call DR.ok (hr.mono (by decide)) rfl DR.mg DR.kp DR.bi .nil pass0 (pa_cons (pv 0) (pa_cons (pe_callB (show CallR _ (.builtin "len") (rLenQ K) from call_len_seq) (by rfl) B.len PySem.boot_len (pa_cons (pv 1) pa_nil)) pa_nil))) (fun _ _ => rfl)) pe_int (fun _ _ => rfl))))))
      (pss_cut (ps_set (i := 5) scTg.nd rfl (.inr rfl) (pe_ix ix_list (pe_lst (pa_cons pe_int (pa_cons (pe_un un_neg pe_int) (pa_cons (pe_op op_sub (pe_op op_pow pe_int pe_int) pe_int) (pa_cons (pe_op op_sub pe_int (pe_op op_pow pe_int pe_int)) (pa_cons pe_int pa_nil)))))) (pe_call DR.ok (hr.mono (by decide)) rfl DR.mg DR.kp DR.bi .nil pass0 (pa_cons (pv 0) (pa_cons pe_int pa_nil))) (fun _ _ => rfl)))
      (pss_one (ps_ret (pe_lc (own := [("_law_at", 7)]) (g := gName 7) (tt := tYes) (te := (tCall (spVs K) [] E0 (tCons (tVar 0) (tCons (tVar 1) (tCons (tVar 4) (tCons (tVar 7) (tCons (tVar 5) tNil))))))) rfl scTg.nd (pi_range1 rfl B.range (pa_cons (pe_callB (show CallR _ (.builtin "len") (rLenQ K) from call_len_seq) (by rfl) B.len PySem.boot_len (pa_cons (pv 4) pa_nil)) pa_nil)) (blkOk_by (N := nTg) (sc := defScope sTg) (by decide +kernel)) (fun _ _ _ _ _ => pg_name (i := 7) scTg.nd rfl (Or.inl rfl)) (fun _ _ _ _ _ => pts_nil) (fun _ _ _ _ _ => (pe_call VS.ok (hr.mono (by decide)) rfl VS.mg VS.kp VS.bi .nil pass0 (pa_cons (pv 0) (pa_cons (pv 1) (pa_cons (pv 4) (pa_cons (pv 7) (pa_cons (pv 5) pa_nil)))))))))))), ?_⟩
    have n12 := hk.n12
    obtain ⟨_, _, _, ep0, _⟩ := id pt
    obtain ⟨us, eL, lu, ru⟩ := id rows
    have kpos : 0 < ks.length := by
      obtain ⟨z, mz, _⟩ := List.mem_map.mp mr
      exact List.length_pos_of_mem mz
    refine ⟨fun σ H' => ∃ (Kl : Addr) (kn : List Str), σ = [some (.ref p), some (.ref L), some (.str root), some (.int 6), some (.ref Kl), none, none, none] ∧ But p H H' ∧ Pot p (n + 10) H' ∧ H' Kl = some (.lst (kn.map V.str)) ∧ Kl ≠ p ∧ 1 ≤ kn.length ∧ kn.length ≤ 6 ∧ ∀ n ∈ kn, n ∈ ks.map (·.n), ?_, ?_⟩
    · refine ⟨_, rfl, by show 1 ≤ sizeLine; decide, fun E1 hE => ?_⟩
      have s1 := same_new (o := .lst [.str root]) hE
      have nE : E1 ≠ p := pt.at_ hE
      have eE : (upd H E1 (.lst [.str root])) E1 = some (.lst [.str root]) := upd_same
      have pt1 := pt.same s1
      generalize upd H E1 (.lst [.str root]) = H1 at s1 eE pt1
      refine ⟨_, rfl, _, rfl, p, 6, n, rfl, pt1, by omega, by decide, by decide, fun r H2 r0 r1 b2 pt2 => ⟨_, rfl, by omega, by omega, fun D hD => ?_⟩⟩
      obtain ⟨m, rfl⟩ := Int.eq_ofNat_of_zero_le r0
      rw [Int.toNat_natCast]
      refine lc_drawn (R := rW) (fun _ h => h) (fun _ x => x ∈ ks.map (·.n)) 1 (N := m) (by omega) hD pt2 ?_ ?_
      · intro q H3 Rq hq b3 pt3 kk
        have b03 : But p H H3 := but_trans (but_of s1) (but_trans b2 b3)
        have eL3 := b03 _ _ nL eL
        refine ⟨_, rfl, _, rfl, _, rfl, L, _, rfl, .inl (SqL.of eL3), p, _, n + 1 + 1 * q, rfl, pt3, by omega, by omega, by omega, fun r2 H4 r0 r1 b4 pt4 => ?_⟩
        obtain ⟨rn, rfl⟩ := Int.eq_ofNat_of_zero_le r0
        have hr : rn < us.length := by omega
        have hr2 : rn < ks.length := by omega
        obtain ⟨t, lf, ws, et, ht, _⟩ := rLK_but pt (but_trans b03 b4) (ru rn us[rn] ks[rn] (List.getElem?_eq_getElem hr) (List.getElem?_eq_getElem hr2))
        have hv : us[rn]? = some (.ref t) := by rw [List.getElem?_eq_getElem hr, et]
        exact ⟨L, _, _, _, rfl, rfl, SqL.of (b4 _ _ nL eL3), atI_nat hv, t, _, _, _, rfl, rfl, ht, atI_nat (j := 0) rfl, kk _ ks[rn].n H4 b4 (pt4.le (by omega)) (List.mem_map_of_mem (List.getElem_mem hr2)) rfl⟩
      · intro H3 ys xs b3 pt3 eD3 ey lx hax
        cases ev_words_eq ey
        refine ⟨E1, D, [.str root], xs.map V.str, rfl, rfl, b3 _ _ nE (b2 _ _ nE eE), eD3, by rw [List.length_map]; show 1 + xs.length ≤ sizeLine; rw [sizeLine_eq]; omega, fun Kl hKl => ?_⟩
        have sK := same_new (o := .lst ([.str root] ++ xs.map V.str)) hKl
        refine ⟨Kl, root :: xs, rfl, but_trans (but_of s1) (but_trans b2 (but_trans b3 (but_of sK))), (pt3.same sK).le (by omega), upd_same, pt3.at_ hKl, by simp, by simp; omega, fun z hz => ?_⟩
        rcases List.mem_cons.mp hz with rfl | hz
        · exact mr
        · obtain ⟨q, hq⟩ := List.getElem?_of_mem hz
          exact hax q z hq
    rintro _ H2 ⟨Kl, kn, rfl, b2, pt2, eK2, nK, k1, k6, kin⟩
    have eM : bigM = 1000000000000000000000000000000 := rfl
    refine ⟨fun σ H' => ∃ st : Int, σ = [some (.ref p), some (.ref L), some (.str root), some (.int 6), some (.ref Kl), some (.int st), none, none] ∧ -bigM < st ∧ st + 6 < bigM ∧ But p H H' ∧ Pot p (n + 11) H' ∧ H' Kl = some (.lst (kn.map V.str)), ?_, ?_⟩
    · refine ⟨_, rfl, _, _, rfl, rfl, ⟨by decide, by decide, by decide⟩, _, _, rfl, rfl, _, _, rfl, rfl, ⟨by decide, by decide, by decide⟩, _, _, rfl, rfl, by show 5 ≤ sizeLine; decide, fun E2 hE2 => ?_⟩
      have sE := same_new (o := .lst [.int 0, .int (-2), .int ((10 : Int) ^ (30 : Int).toNat - 9), .int (1 - (10 : Int) ^ (30 : Int).toNat), .int 7]) hE2
      refine ⟨_, rfl, p, 5, n + 10, rfl, pt2.same sE, by omega, by decide, by decide, fun r H3 r0 r1 b3 pt3 => ?_⟩
      have eE3 := b3 _ _ (pt2.at_ hE2) upd_same
      have b03 : But p H H3 := but_trans b2 (but_trans (but_of sE) b3)
      have eK3 := b3 _ _ nK (sE _ _ eK2)
      have q : r = (0 : Nat) ∨ r = (1 : Nat) ∨ r = (2 : Nat) ∨ r = (3 : Nat) ∨ r = (4 : Nat) := by omega
      have fin : ∀ st : Int, -bigM < st → st + 6 < bigM → ∃ st2 : Int, ([some (.ref p), some (.ref L), some (.str root), some (.int 6), some (.ref Kl), some (.int st), none, none] : L2.St) = [some (.ref p), some (.ref L), some (.str root), some (.int 6), some (.ref Kl), some (.int st2), none, none] ∧ -bigM < st2 ∧ st2 + 6 < bigM ∧ But p H H3 ∧ Pot p (n + 11) H3 ∧ H3 Kl = some (.lst (kn.map V.str)) := fun st h1 h2 => ⟨st, rfl, h1, h2, b03, pt3, eK3⟩
      rcases q with rfl | rfl | rfl | rfl | rfl
      · exact ⟨E2, _, _, _, rfl, rfl, SqL.of eE3, atI_nat (j := 0) rfl, fin 0 (by decide) (by decide)⟩
      · exact ⟨E2, _, _, _, rfl, rfl, SqL.of eE3, atI_nat (j := 1) rfl, fin (-2) (by decide) (by decide)⟩
      · exact ⟨E2, _, _, _, rfl, rfl, SqL.of eE3, atI_nat (j := 2) rfl, fin ((10 : Int) ^ (30 : Int).toNat - 9) (by decide) (by decide)⟩
      · exact ⟨E2, _, _, _, rfl, rfl, SqL.of eE3, atI_nat (j := 3) rfl, fin (1 - (10 : Int) ^ (30 : Int).toNat) (by decide) (by decide)⟩
      · exact ⟨E2, _, _, _, rfl, rfl, SqL.of eE3, atI_nat (j := 4) rfl, fin 7 (by decide) (by decide)⟩
    rintro _ H3 ⟨st, rfl, st0, st1, b3, pt3, eK3⟩
    have eN : (((kn.map V.str).length : Nat) : Int).toNat = kn.length := by simp
    have eN2 : (kn.map V.str).length = kn.length := by simp
    refine ⟨_, rfl, Kl, _, rfl, .inl (SqL.of eK3), _, rfl, by omega, by omega, fun D hD => ?_⟩
    rw [eN]
    have nD : D ≠ p := pt3.at_ hD
    have sD := same_new (o := .lst []) hD
    have eD0 : (upd H3 D (.lst [])) D = some (.lst []) := upd_same
    have ptD := pt3.same sD
    have hDn : H D = none := by
      cases hz : H D with
      | none => rfl
      | some o =>
        have := b3 D o nD hz
        rw [hD] at this
        cases this
    obtain ⟨HD, hHD⟩ : ∃ HD, HD = upd H3 D (.lst []) := ⟨_, rfl⟩
    rw [← hHD] at sD eD0 ptD
    obtain ⟨_, _, _, epD, _⟩ := id ptD
    refine lc_it walk_range (fun j H' => But p H3 H' ∧ Pot p (n + 11 + 60 * j) H' ∧ (∀ a, H' a = none → HD a = none) ∧ ∃ zs xs, H' D = some (.lst zs) ∧ Ev (rThN K HD) H' zs xs ∧ xs.length = j ∧ ∀ (i : Nat) x, xs[i]? = some x → ∃ y ∈ ks, kn[i]? = some y.n ∧ ValOk ks kn y x)
      ⟨by rw [← hHD]; exact but_of sD, by rw [← hHD]; exact ptD, by rw [← hHD]; exact fun _ h => h, [], [], by rw [← hHD]; exact eD0, Ev.nil, rfl, by simp⟩ (fun _ _ _ _ => trivial) ?_ ?_
    · rintro j v H4 H5 hj ⟨b4, pt4, dom4, zs, xs, eD4, ez, lx, hx⟩ ⟨rfl, rfl⟩
      refine ⟨by simp [wipe, List.set_set], ?_⟩
      dsimp only [tYes]
      rw [if_pos rfl]
      have hkj : kn[j]? = some kn[j] := List.getElem?_eq_getElem hj
      obtain ⟨y, my, ey⟩ := List.mem_map.mp (kin _ (List.getElem_mem hj))
      have b04 := but_trans b3 b4
      refine ⟨_, rfl, _, rfl, _, rfl, _, rfl, _, rfl, p, L, Kl, n + 11 + 60 * j, j, st, root, ks, kn, y, by simp, pt4, by omega, rows.but pt nL b04, nL, hk, ko, b4 _ _ nK eK3, nK, by omega, kin, my, by rw [hkj, ey], by omega, by omega, fun v x H6 rx vx b6 pt6 => ?_⟩
      have eD6 := b6 _ _ nD eD4
      obtain ⟨_, _, _, ep4, _⟩ := id pt4
      obtain ⟨_, _, _, ep6, _⟩ := id pt6
      have lz := ez.1
      have dom6 : ∀ a, H6 a = none → H5 a = none := fun a ha => by
        cases hz : H5 a with
        | none => rfl
        | some o =>
          have := b6 a o (pt6.at_ ha) hz
          rw [ha] at this
          cases this
      have rx2 : rThN K HD H6 v x := rThN_dom (fun a h => dom4 a h) rx
      have ez6 : Ev (rThN K HD) H6 zs xs := ⟨ez.1, fun i u c a q => rThN_but epD ep4 ep6 b6 (ez.2 i u c a q)⟩
      refine ⟨zs, eD6, by rw [sizeLine_eq]; omega, fun b o nb e => ?_, ?_, fun a ha => dom4 a (dom6 a ?_), zs ++ [v], xs ++ [x], upd_same, ?_, by simp [lx], fun i x2 h2 => ?_⟩
      · rw [upd_ne fun z => by rw [z, hD] at e; cases e]
        exact b6 _ _ nb (b4 _ _ nb e)
      · exact (pt6.upd (Ne.symm nD)).le (by omega)
      · by_cases e : a = D
        · rw [e, upd_same] at ha
          cases ha
        · rw [upd_ne e] at ha
          exact ha
      · have all := Ev.append (R := rThN K HD) (H := H6) ez6 (Ev.cons rx2 Ev.nil)
        exact ⟨all.1, fun i u c a q => rThN_off eD0 eD6 (all.2 i u c a q)⟩
      · by_cases hi : i < xs.length
        · rw [List.getElem?_append_left hi] at h2
          exact hx i x2 h2
        · have hi2 : i = xs.length := by
            have := (List.getElem?_eq_some_iff.mp h2).1
            simp at this
            omega
          subst hi2
          rw [List.getElem?_append_right (Nat.le_refl _), Nat.sub_self] at h2
          cases h2
          exact ⟨y, my, by rw [lx, hkj, ey], vx⟩
    · rintro H4 ⟨b4, pt4, dom4, zs, xs, eD4, ez, lx, hx⟩
      have ekn : xs.map (·.k) = kn := by
        apply List.ext_getElem?
        intro i
        rw [List.getElem?_map]
        cases hi : xs[i]? with
        | none =>
          have := List.getElem?_eq_none_iff.mp hi
          rw [List.getElem?_eq_none (by omega)]
          rfl
        | some x =>
          obtain ⟨y, my, h1, h2⟩ := hx i x hi
          rw [h1, ← h2.k]
          rfl
      refine k D zs xs H4 hDn eD4 ⟨ez.1, fun i u c a q => rThN_dom (fun a h => ?_) (ez.2 i u c a q)⟩ ⟨by omega, by omega, fun i x h => ?_⟩ (but_trans b3 b4) (pt4.le (by omega))
      · cases hz : H a with
        | none => rfl
        | some o =>
          have := sD _ _ (b3 a o (ptD.at_ h) hz)
          rw [h] at this
          cases this
      · obtain ⟨y, my, h1, h2⟩ := hx i x h
        rw [ekn]
        exact ⟨y, my, h2⟩
end
end Wh
set_option Elab.async false
set_option linter.all false
set_option maxRecDepth 100000
set_option maxHeartbeats 4000000
namespace Wh
open PySem PySem.Spec PyProof.Rows L2
open Wp hiding Same.refl Same.trans same_new boot_all run_own
open W8 (Ev Rp Kp Mono same_new take_snoc rW rB mW mB ev_words ev_words_eq ev_bools_eq lc_sieve)
section
variable {P : Program} {w : World} {K : PySem.W.Frag} {mg : Str → Option Value} {base : Heap} {CF CK CH CW CU CV : Addr}
theorem kit_ii {K : PySem.W.Frag} : PySem.W.kitOne K (.type "int") (.type "int") = some true := kit_ty (b := "int") (r := true) (by decide +kernel)
theorem kit_ib {K : PySem.W.Frag} : PySem.W.kitOne K (.type "int") (.type "bool") = some false := kit_ty (b := "bool") (r := false) (by decide +kernel)
theorem dpAll_ints {K : PySem.W.Frag} {H : Hp} : ∀ l : List Int, DpAll K H (l.map V.int) (l.map PyData.int)
  | [] => .nil
  | i :: l => .cons (.int _) (dpAll_ints l)
theorem shaped_ints (l : List Int) : SeqAt.shaped (.list (l.map PyData.int)) = true := by
  have q : ∀ l : List Int, PyData.canLayAll0 (l.map PyData.int) = true ∧ PyData.depthAll (l.map PyData.int) ≤ 1 := by
    intro l
    induction l with
    | nil => simp [PyData.canLayAll0, PyData.depthAll]
    | cons i l ih =>
      simp [PyData.canLayAll0, PyData.depthAll, PyData.canLay0, PyData.depth, ih.1]
      exact ih.2
  have := q l
  simp [SeqAt.shaped, PyData.canLay0, PyData.depth, this.1]
  omega
theorem eqv_ints (l : List Int) : PyData.eqv (.list (l.map PyData.int)) (.list (l.map PyData.int)) = true := by
  have q : ∀ l : List Int, PyData.eqvAll (l.map PyData.int) (l.map PyData.int) = true := by
    intro l
    induction l with
    | nil => simp [PyData.eqvAll]
    | cons i l ih => simp [PyData.eqvAll, PyData.eqv, ih]
  simp [PyData.eqv, q l]
abbrev sSm : Stmt := top 77
abbrev nSm : List Str := ["_law_told", "_law_due", "_law_one"]
def spSm : Sp := fun vs H Q _ => ∃ (v u : V) (c : Wv), vs = [v, u] ∧ rWv H v c ∧ rWv H u c ∧ (∀ l, c = .lst l → l.length ≤ 1000) ∧ ∀ H', Same H H' → Q (.bl true) H'
theorem scSm : FnScope nSm ["_law_told", "_law_due"] (defScope sSm) := ⟨rfl, rfl, rfl, by decide +kernel, rfl, by decide +kernel, by decide +kernel⟩
theorem ok_Sm {f : Addr} {fd : FuncData} (F : Fun K "_law_same" "_law_same" sSm f fd) (B : Bn mg) : FnOk P w K mg base CX0 1 f fd ["_law_told", "_law_due"] spSm := by
  refine F.ok scSm (fun vs H Q E h => ?_) (fun cdv A outer s0 H vs Q E hr h => ?_)
  · obtain ⟨v, u, c, rfl, _⟩ := h
    rfl
  · obtain ⟨v, u, c, rfl, rv, ru, few, k⟩ := h
    refine ⟨_, 
      (pss_cons (ps_if (pt_val (pe_callB call_isi (by rfl) B.isi boot_isi (pa_cons (pv 1) (pa_cons (pe_bltn (v := .ty "list") (by rfl) B.list PyProof.Rows.boot_list rfl) pa_nil)))) 
        (pss_one (ps_ret (pe_and (pe_callB call_isi (by rfl) B.isi boot_isi (pa_cons (pv 0) (pa_cons (pe_bltn (v := .ty "list") (by rfl) B.list PyProof.Rows.boot_list rfl) pa_nil))) (pe_and (pe_cmpR (op_eqD hr.units) (pv 0) (pv 1) (nomark _)) (pe_one (pe_cmpR (op_eqD hr.units) (pe_lc (own := [("_law_one", 2)]) (g := gName 2) (te := (tVar 2)) (tt := (tB (tCB (rIsi K) (tCons (tVar 2) (tCons (tC (.ty "bool")) tNil))))) rfl scSm.nd (pi_list (pv 0)) (blkOk_by (N := nSm) (sc := defScope sSm) (by decide +kernel)) (fun _ _ _ _ _ => pg_name (i := 2) scSm.nd rfl (Or.inl rfl)) (fun _ _ _ _ _ => pts_one (pt_val (pe_callB call_isi (by rfl) B.isi boot_isi (pa_cons (pv 2) (pa_cons (pe_bltn (v := .ty "bool") (by rfl) B.bool boot_tbool rfl) pa_nil))))) (fun _ _ _ _ _ => (pv 2))) (pe_lst pa_nil) (nomark _))))))) pss_nil)
      (pss_cons (ps_if (pt_cmp (pc_isN (pv 1))) 
        (pss_one (ps_ret (pe_cmp (pc_isN (pv 0)) rfl))) pss_nil)
      (pss_one (ps_ret (pe_and (pe_callB call_isi (by rfl) B.isi boot_isi (pa_cons (pv 0) (pa_cons (pe_bltn (v := .ty "int") (by rfl) B.int boot_tint rfl) pa_nil))) (pe_and (pe_not (pe_callB call_isi (by rfl) B.isi boot_isi (pa_cons (pv 0) (pa_cons (pe_bltn (v := .ty "bool") (by rfl) B.bool boot_tbool rfl) pa_nil)))) (pe_one (pe_cmpR (op_eqD hr.units) (pv 0) (pv 1) (nomark _))))))))), ?_⟩
    cases c with
    | non =>
      cases rv
      cases ru
      exact ⟨_, rfl, .non, .ty "list", _, _, _, rfl, .ty "list", .base .non, kit_non, _, rfl, iteF ⟨_, rfl, true, rfl, iteT ⟨_, rfl, k H (Same.refl _)⟩⟩⟩
    | int z =>
      cases rv
      cases ru
      refine ⟨_, rfl, .int z, .ty "list", _, _, _, rfl, .ty "list", .base (.int z), kit_ints, _, rfl, iteF ⟨_, rfl, false, rfl, iteF ?_⟩⟩
      refine ⟨_, rfl, .int z, .ty "int", _, _, _, rfl, .ty "int", .base (.int z), kit_ii, _, rfl, iteT ⟨_, rfl, .int z, .ty "bool", _, _, _, rfl, .ty "bool", .base (.int z), kit_ib, _, rfl, _, rfl, iteT ⟨_, rfl, _, rfl, .int z, .int z, .int z, .int z, rfl, rfl, ?_⟩⟩⟩
      rw [show PyData.eqv (.int z) (.int z) = true by simp [PyData.eqv]]
      exact k H (Same.refl _)
    | lst l =>
      obtain ⟨a, rfl, ha⟩ := rv
      obtain ⟨b, rfl, hb⟩ := ru
      refine ⟨_, rfl, .ref b, .ty "list", _, _, _, rfl, .ty "list", Wp.SqL.ty (SqL.of hb), kit_lst, _, rfl, iteT ?_⟩
      refine ⟨_, rfl, .ref a, .ty "list", _, _, _, rfl, .ty "list", Wp.SqL.ty (SqL.of ha), kit_lst, _, rfl, iteT ?_⟩
      refine ⟨_, rfl, _, rfl, .list (l.map PyData.int), .list (l.map PyData.int), .lst (SqL.of ha) (dpAll_ints l), .lst (SqL.of hb) (dpAll_ints l), shaped_ints l, shaped_ints l, _, rfl, ?_⟩
      rw [eqv_ints]
      refine iteT ⟨_, rfl, a, rfl, ⟨_, SqL.of ha⟩, fun D hD => ?_⟩
      refine lc_sieve mI mI (fun _ => false) id walk_list (few l rfl) (fun H' s9 => SqL.of (s9 _ _ ha)) hD (ev_ints l) ?_ ?_ ?_
      · rintro _ i H2 Rq _ _ rfl kk
        exact ⟨_, rfl, .int i, .ty "bool", _, _, _, rfl, .ty "bool", .base (.int i), kit_ib, _, rfl, kk _ (Same.refl _)⟩
      · rintro _ i H2 Rq _ hp _ _ _
        cases hp
      intro H2 ys s2 hys ey
      have e0 : (l.filter fun _ => false) = [] := by simp
      rw [e0] at ey
      have ey0 : ys = [] := List.eq_nil_of_length_eq_zero (by rw [ey.1]; rfl)
      subst ey0
      refine ⟨by show 0 ≤ sizeLine; decide, fun D2 hD2 => ?_⟩
      have s3 := same_new (o := .lst []) hD2
      refine ⟨.list [], .list [], .lst (SqL.of (s3 _ _ hys)) .nil, .lst (SqL.of upd_same) .nil, by decide +kernel, by decide +kernel, ?_⟩
      exact k _ (s2.trans s3)
abbrev sWo : Stmt := top 78
abbrev nWo : List Str := ["_law_rows", "_law_others", "_law_values_here", "_law_kind", "_law_one", "_law_label"]
/-- values that are not the list at F -/
def rWx (F : Addr) : Rp Wv := fun H v x => rWv H v x ∧ v ≠ .ref F
def worthV (ks1 : List KD) (x : KD) (ns : List Str) (vs : List Wv) (g : FV) : Wv := match srcOf (allF ks1 x) g with
  | some n => (lookV ns vs n).getD .non
  | none => defV g
def spWo (K : PySem.W.Frag) : Sp := fun vs H Q _ => ∃ (L1 L2_ d F : Addr) (v : V) (root : Str) (ks1 ks2 : List KD) (x y : KD) (ws : List Wv) (g : FV) (o : HO), vs = [.ref L1, .ref L2_, .ref d, .str y.n, v] ∧ Rows K H L1 ks1 ∧ Rows K H L2_ ks2 ∧ TwoOk root ks1 ks2 ∧ x ∈ ks1 ∧ y ∈ ks2 ∧ x.n = y.n ∧ g ∈ allF ks2 y ∧ rLF K H v g ∧ H F = some o ∧ Dc (rWx F) H d ((allF ks1 x).map (·.n)) ws ∧
  ∀ u H', Same H H' → rWx F H' u (worthV ks1 x ((allF ks1 x).map (·.n)) ws g) → Q u H'
theorem scWo : FnScope nWo ["_law_rows", "_law_others", "_law_values_here", "_law_kind", "_law_one"] (defScope sWo) := ⟨rfl, rfl, rfl, by decide +kernel, rfl, by decide +kernel, by decide +kernel⟩
theorem ok_Wo {f f1 : Addr} {fd fd1 : FuncData} (F : Fun K "_law_worth" "_law_worth" sWo f fd) (TK_ : Known P w K mg base CX0 3 "_law_takes" ["_law_elder", "_law_later", "_law_kind", "_law_name"] (spTk K) f1 fd1) : FnOk P w K mg base CX0 4 f fd ["_law_rows", "_law_others", "_law_values_here", "_law_kind", "_law_one"] (spWo K) := by
  refine F.ok scWo (fun vs H Q E h => ?_) (fun cdv A outer s0 H vs Q E hr h => ?_)
  · obtain ⟨L1, L2_, d, F, v, root, ks1, ks2, x, y, ws, g, o, rfl, _⟩ := h
    rfl
  · obtain ⟨L1, L2_, d, F, v, root, ks1, ks2, x, y, ws, g, o, rfl, r1, r2, two, mx, my, exy, mg_, rv, hF, dc, k⟩ := h
    have hu := hu_of hr
    refine ⟨_, 
      (pss_cons (ps_set (i := 5) scWo.nd rfl (.inl rfl) (pe_call TK_.ok (hr.mono (by decide)) rfl TK_.mg TK_.kp TK_.bi .nil pass0 (pa_cons (pv 0) (pa_cons (pv 1) (pa_cons (pv 3) (pa_cons (pe_ix ix_tup (pv 4) pe_int (fun _ _ => rfl)) pa_nil))))))
      (pss_cons (ps_if (pt_cmp (pc_notN (pv 5))) 
        (pss_one (ps_ret (pe_dget hu (pv 2) (pv 5) (fun _ _ => rfl)))) pss_nil)
      (pss_one (ps_ret (pe_ifExp (pt_cmpR op_eq (pe_ix ix_tup (pv 4) pe_int (fun _ _ => rfl)) pe_str (nomark _)) (pe_ix ix_tup (pv 4) pe_int (fun _ _ => rfl)) (pe_ifExp (pt_cmpR op_eq (pe_ix ix_tup (pv 4) pe_int (fun _ _ => rfl)) pe_str (nomark _)) (pe_lst pa_nil) pe_non)))))), ?_⟩
    obtain ⟨t, wt, rfl, ht, hw⟩ := rv
    refine ⟨_, rfl, _, rfl, _, rfl, _, rfl, t, _, _, _, rfl, rfl, ht, atI_nat (j := 0) rfl, ?_⟩
    dsimp only [tNil, List.append_nil]
    refine tk_call (E := E0) r1 r2 two mx my exy mg_ fun H1 s1 => ?_
    unfold worthV at k
    cases ho : srcOf (allF ks1 x) g with
    | some n =>
      rw [ho] at k
      obtain ⟨q, mq, rfl, _⟩ := srcOf_mem ho
      obtain ⟨xs, e, l, v⟩ := id dc
      have dc1 : Dc (rWx F) H1 d ((allF ks1 x).map (·.n)) ws := ⟨xs, s1 _ _ e, l, v.1, fun i u c a b => ⟨dWv _ _ _ _ (Kd.of s1) (v.2 i u c a b).1, (v.2 i u c a b).2⟩⟩
      obtain ⟨i5, u5, c5, a1, a2, a3, a4⟩ := dc1.get (List.mem_map_of_mem mq)
      refine ⟨_, rfl, true, rfl, iteT ⟨_, rfl, _, rfl, d, _, rfl, a4, k _ _ s1 ?_⟩⟩
      dsimp only
      rw [look_at (two.h1.fnd mx) a1 a2]
      exact a3
    | none =>
      rw [ho] at k
      have ht1 := s1.sqT ht
      refine ⟨_, rfl, false, rfl, iteF ?_⟩
      have k2 : ∀ u H', Same H H' → rWx F H' u (defV g) → Q u H' := k
      unfold defV at k2
      refine ⟨_, rfl, t, _, _, _, rfl, rfl, ht1, atI_nat (j := 1) rfl, rfl, _, rfl, ?_⟩
      rw [dec_s]
      by_cases em : g.m = "mark"
      · rw [show decide (g.m = Str.ofString "mark") = true from decide_eq_true em]
        rw [if_pos em] at k2
        exact iteT ⟨_, rfl, t, _, _, _, rfl, rfl, ht1, atI_nat (j := 3) rfl, k2 _ _ s1 ⟨rfl, fun z => by cases z⟩⟩
      · rw [show decide (g.m = Str.ofString "mark") = false from decide_eq_false em]
        rw [if_neg em] at k2
        refine iteF ⟨_, rfl, t, _, _, _, rfl, rfl, ht1, atI_nat (j := 1) rfl, rfl, _, rfl, ?_⟩
        rw [dec_s]
        have rg : RightF g := by
          obtain ⟨y9, my9, mg9⟩ := allF_mem my mg_
          exact two.o2.right y9 my9 g mg9
        by_cases el : g.m = "list"
        · rw [show decide (g.m = Str.ofString "list") = true from decide_eq_true el]
          rw [if_neg (by rw [el]; decide)] at k2
          refine iteT ⟨by show 0 ≤ sizeLine; decide, fun D hD => ?_⟩
          have sD := same_new (o := .lst []) hD
          refine k2 _ _ (s1.trans sD) ⟨⟨D, rfl, upd_same⟩, fun z => ?_⟩
          cases z
          rw [s1 _ _ hF] at hD
          cases hD
        · rw [show decide (g.m = Str.ofString "list") = false from decide_eq_false el]
          have ek : g.m = "link" := by
            rcases rg.m with ⟨e2, _⟩ | ⟨e2 | e2, _⟩
            · exact absurd e2 em
            · exact e2
            · exact absurd e2 el
          rw [if_pos ek] at k2
          exact iteF (k2 _ _ s1 ⟨rfl, fun z => by cases z⟩)
abbrev sLt2 : Stmt := top 79
abbrev nLt2 : List Str := ["_law_rows", "_law_others", "_law_things_here", "_law_found", "_law_kind", "_law_values_here", "_law_later", "_law_one"]
/-- a thing as the law expects it behind the reader -/
def dueT (ks1 ks2 : List KD) (x : Th) : Th := ⟨x.k, (allN ks2 x.k).map (·.n), (allN ks2 x.k).map fun g => match srcOf (allN ks1 x.k) g with
  | some n => (lookV x.ns x.vs n).getD .non
  | none => defV g⟩
def rThX (K : PySem.W.Frag) (F : Addr) : Rp Th := fun H v x => ∃ t d, v = .ref t ∧ SqT K H t [.str x.k, .ref d] ∧ Dc (rWx F) H d x.ns x.vs
theorem dWx (F : Addr) : MonoD (rWx F) := fun _ _ _ _ s h => ⟨dWv _ _ _ _ s h.1, h.2⟩
theorem rThX_same {F : Addr} {H H' : Hp} {v : V} {x : Th} (s : Same H H') (h : rThX K F H v x) : rThX K F H' v x := let ⟨t, d, e, ht, hd⟩ := h; ⟨t, d, e, s.sqT ht, hd.same (dWx F) s⟩
theorem rThX_off {F : Addr} {H : Hp} {ys ys' : List V} {v : V} {x : Th} (e : H F = some (.lst ys)) (h : rThX K F H v x) : rThX K F (upd H F (.lst ys')) v x := by
  obtain ⟨t, d, ev, ht, xs, e2, l, evx⟩ := h
  refine ⟨t, d, ev, (stay_lst e).sqT ht, xs, ?_, l, evx.1, fun i u c a q => ?_⟩
  · rw [upd_ne fun z => by rw [z, e] at e2; cases e2]
    exact e2
  · obtain ⟨h1, h2⟩ := evx.2 i u c a q
    refine ⟨?_, h2⟩
    cases c with
    | non => exact h1
    | int i => exact h1
    | lst l =>
      obtain ⟨a2, rfl, ha⟩ := h1
      refine ⟨a2, rfl, ?_⟩
      rw [upd_ne fun z => h2 (by rw [z])]
      exact ha
theorem rThX.old {F : Addr} {H : Hp} {v : V} {x : Th} (h : rThX K F H v x) : rTh K H v x := let ⟨t, d, e, ht, xs, e2, l, ev⟩ := h; ⟨t, d, e, ht, xs, e2, l, ev.1, fun i u c a b => (ev.2 i u c a b).1⟩
def spLt2 (K : PySem.W.Frag) : Sp := fun vs H Q _ => ∃ (L1 L2_ T : Addr) (root : Str) (ks1 ks2 : List KD) (us : List V) (ts : List Th), vs = [.ref L1, .ref L2_, .ref T] ∧ Rows K H L1 ks1 ∧ Rows K H L2_ ks2 ∧ TwoOk root ks1 ks2 ∧ (∀ x ∈ ks1, ∃ y ∈ ks2, x.n = y.n) ∧ H T = some (.lst us) ∧ Ev (rTh K) H us ts ∧ (∀ x ∈ ts, FullT ks1 x) ∧ ts.length ≤ 100 ∧
  ∀ (D : Addr) us' H', H D = none → H' D = some (.lst us') → Ev (rTh K) H' us' (ts.map (dueT ks1 ks2)) → Same H H' → Q (.ref D) H'
theorem scLt2 : FnScope nLt2 ["_law_rows", "_law_others", "_law_things_here"] (defScope sLt2) := ⟨rfl, rfl, rfl, by decide +kernel, rfl, by decide +kernel, by decide +kernel⟩
theorem ok_Lt2 {f f1 f2 : Addr} {fd fd1 fd2 : FuncData} (F : Fun K "_law_led_things" "_law_led_things" sLt2 f fd) (FS : Known P w K mg base CX0 2 "_law_fields" ["_law_rows", "_law_kind"] (spFs K) f1 fd1) (WO : Known P w K mg base CX0 4 "_law_worth" ["_law_rows", "_law_others", "_law_values_here", "_law_kind", "_law_one"] (spWo K) f2 fd2) : FnOk P w K mg base CX0 5 f fd ["_law_rows", "_law_others", "_law_things_here"] (spLt2 K) := by
  refine F.ok scLt2 (fun vs H Q E h => ?_) (fun cdv A outer s0 H vs Q E hr h => ?_)
  · obtain ⟨L1, L2_, T, root, ks1, ks2, us, ts, rfl, _⟩ := h
    rfl
  · obtain ⟨L1, L2_, T, root, ks1, ks2, us, ts, rfl, r1, r2, two, tw2, hT, ev, full, tl, k⟩ := h
    have hu := hu_of hr
    refine ⟨_, 
      (pss_cons (ps_set (i := 3) scLt2.nd rfl (.inl rfl) (pe_lst pa_nil))
      (pss_cons (ps_for PassesOwn.never rfl (pi_list (pv 2)) (pg_tup rfl (pgs_cons (pg_name (i := 4) scLt2.nd rfl (Or.inl rfl)) (pgs_cons (pg_name (i := 5) scLt2.nd rfl (Or.inl rfl)) pgs_nil))) 
        (pss_cons (ps_set (i := 6) scLt2.nd rfl (.inl rfl) pe_dnewK)
        (pss_cons (ps_for PassesOwn.never rfl (pi_list (pe_call FS.ok (hr.mono (by decide)) rfl FS.mg FS.kp FS.bi .nil pass0 (pa_cons (pv 1) (pa_cons (pv 4) pa_nil)))) (pg_name (i := 7) scLt2.nd rfl (Or.inl rfl)) 
          (pss_one (ps_dput hu (pv 6) (pe_ix ix_tup (pv 7) pe_int (fun _ _ => rfl)) (pe_call WO.ok (hr.mono (by decide)) rfl WO.mg WO.kp WO.bi .nil pass0 (pa_cons (pv 0) (pa_cons (pv 1) (pa_cons (pv 5) (pa_cons (pv 4) (pa_cons (pv 7) pa_nil)))))) rfl)))
        (pss_one (ps_expr (pe_bm PySem.F.plainAttrs_list PySem.F.slot_list_append PySem.F.type_list_append mt_append (pv 3) (pa_cons (pe_tup (pa_cons (pv 4) (pa_cons (pv 6) pa_nil))) pa_nil)))))))
      (pss_one (ps_ret (pv 3))))), ?_⟩
    refine ⟨by show 0 ≤ sizeLine; decide, fun F hF => ?_⟩
    have sF := same_new (o := .lst []) hF
    have eF0 : (upd H F (.lst [])) F = some (.lst []) := upd_same
    generalize upd H F (.lst []) = H1 at sF eF0
    refine ⟨_, rfl, T, rfl, ⟨_, SqL.of (sF _ _ hT)⟩, ?_⟩
    have lu := ev.1
    refine for_it walk_list (fun j σ H' => ∃ v4 v5 v6 v7, σ = [some (.ref L1), some (.ref L2_), some (.ref T), some (.ref F), v4, v5, v6, v7] ∧ Same H H' ∧ ∃ zs, H' F = some (.lst zs) ∧ Ev (rThX K F) H' zs ((ts.take j).map (dueT ks1 ks2)))
      ⟨none, none, none, none, rfl, sF, [], eF0, Ev.nil⟩ (fun i σ H' _ ⟨_, _, _, _, _, s, _⟩ => SqL.of (s _ _ hT)) ?_ ?_
    · rintro j v σ _ H2 hj ⟨v4, v5, v6, v7, rfl, s2, zs, eF2, ez⟩ ⟨rfl, hv⟩
      obtain ⟨x, hx, t, d, rfl, ht, hd⟩ := ev.at hv
      have mx := List.mem_of_getElem? hx
      obtain ⟨x1, m1, ex1, ens, lvs, _⟩ := (full x mx).ex
      obtain ⟨y, my, exy⟩ := tw2 x1 m1
      have eN1 : allN ks1 x.k = allF ks1 x1 := by
        rw [← ex1]
        exact allN_of two.h1 m1
      have eN2 : allN ks2 x.k = allF ks2 y := by
        rw [← ex1, exy]
        exact allN_of two.h2 my
      have n12 := two.h2.n12
      have few := two.h2.few my
      have fnd := two.h2.fnd my
      have hdx : Dc (rWx F) H d ((allF ks1 x1).map (·.n)) x.vs := by
        rw [← ens]
        obtain ⟨xs, e, l, vv⟩ := hd
        refine ⟨xs, e, l, vv.1, fun i u c a q => ⟨vv.2 i u c a q, fun z => ?_⟩⟩
        have r := vv.2 i u c a q
        rw [z] at r
        cases c with
        | non => cases r
        | int i => cases r
        | lst l =>
          obtain ⟨a, ea, ha⟩ := r
          cases ea
          rw [hF] at ha
          cases ha
      refine ⟨t, _, rfl, s2.sqT ht, rfl, _, _, rfl, _, _, rfl, rfl, fun Vd hVd => ?_⟩
      have nVF : F ≠ Vd := fun z => by
        rw [← z, eF2] at hVd
        cases hVd
      have sV := same_new (o := .dK []) hVd
      have eV0 : (upd H2 Vd (.dK [])) Vd = some (.dK []) := upd_same
      have hVn : H Vd = none := s2.free hVd
      generalize upd H2 Vd (.dK []) = HV at sV eV0
      have s2V := s2.trans sV
      refine ⟨_, rfl, _, rfl, L2_, y.n, ks2, y, by rw [← ex1, exy]; rfl, r2.same s2V, by omega, two.h2.atN my, two.h2.at_base my, by omega, fun D us3 H3 hD eD eu s3 => ⟨D, rfl, ⟨us3, SqL.of eD⟩, ?_⟩⟩
      have s23 := sV.trans s3
      have s03 := s2.trans s23
      have eV3 := s3 _ _ eV0
      have nDV : D ≠ Vd := fun z => by
        rw [z, eV3] at eD
        cases eD
      have lu3 := eu.1
      refine for_it walk_list (fun i σ H' => ∃ v7, σ = [some (.ref L1), some (.ref L2_), some (.ref T), some (.ref F), some (.str x.k), some (.ref d), some (.ref Vd), v7] ∧ (∀ b o, b ≠ Vd → H3 b = some o → H' b = some o) ∧ Dc (rWx F) H' Vd (((allF ks2 y).take i).map (·.n)) (((allF ks2 y).take i).map (worthV ks1 x1 ((allF ks1 x1).map (·.n)) x.vs)))
        ⟨v7, rfl, fun _ _ _ q => q, Dc.nil eV3⟩ (fun i σ H' _ ⟨_, _, b, _⟩ => SqL.of (b _ _ nDV eD)) ?_ ?_
      · rintro i u2 σ _ H4 hi ⟨w7, rfl, b4, dc⟩ ⟨rfl, hu2⟩
        obtain ⟨g, hg, rv⟩ := eu.at hu2
        have mg_ := List.mem_of_getElem? hg
        have st : Stay H3 H4 := by
          have go : ∀ q o, H3 q = some o → (∀ kvs, o ≠ .dK kvs) → H4 q = some o := fun q o eq n2 => b4 q o (fun z => by rw [z, eV3] at eq; exact n2 _ (Option.some.inj eq).symm) eq
          exact ⟨fun q xs h => go _ _ h (fun _ z => by cases z), fun q o xs h => go _ _ h (fun _ z => by cases z), fun q C d fs h => go _ _ h (fun _ z => by cases z)⟩
        have rv4 := rLF_stay st rv
        have s04 : Same H H4 := fun b o e => b4 b o (fun z => by rw [z, hVn] at e; cases e) (s03 _ _ e)
        have eF4 := b4 _ _ nVF (s23 _ _ eF2)
        refine ⟨_, rfl, _, rfl, _, rfl, _, rfl, _, rfl, L1, L2_, d, F, u2, root, ks1, ks2, x1, y, x.vs, g, _, by rw [← exy, ex1]; rfl, r1.same s04, r2.same s04, two, m1, my, exy, mg_, rv4, eF4, hdx.same (dWx F) s04, fun u H5 s5 ru => ?_⟩
        obtain ⟨t5, wt5, rfl, ht5, _⟩ := id rv4
        have hnew : g.n ∉ ((allF ks2 y).take i).map (·.n) := fun z => by
          obtain ⟨o, mo, eo⟩ := List.mem_map.mp z
          obtain ⟨q, hq, e⟩ := List.getElem_of_mem mo
          rw [List.length_take] at hq
          rw [List.getElem_take] at e
          have k1 : ((allF ks2 y).map (·.n))[q]? = some g.n := by rw [List.getElem?_map, List.getElem?_eq_getElem (by omega), e, ← eo]; rfl
          have k2 : ((allF ks2 y).map (·.n))[i]? = some g.n := by rw [List.getElem?_map, hg]; rfl
          have := (List.getElem?_inj (i := q) (j := i) (by rw [List.length_map]; omega) fnd).mp (k1.trans k2.symm)
          omega
        obtain ⟨H6, put, dc6, st6⟩ := (dc.same (dWx F) s5).put (dWx F) hnew (by rw [List.length_map, List.length_take]; omega) ru
        refine ⟨_, rfl, _, rfl, t5, _, _, _, rfl, rfl, s5.sqT ht5, atI_nat (j := 0) rfl, Vd, H6, rfl, put, _, rfl, fun b o nb e => st6 b o nb (s5 _ _ (b4 b o nb e)), ?_⟩
        rw [take_snoc hg, List.map_append, List.map_append]
        exact dc6
      · rintro σ H4 ⟨w7, rfl, b4, dc⟩
        rw [lu3, List.take_length] at dc
        have s24 : Same H2 H4 := fun b o e => b4 b o (fun z => by rw [z, hVd] at e; cases e) (s23 _ _ e)
        have eF4 := s24 _ _ eF2
        refine ⟨_, rfl, .inl ⟨rfl, _, SqL.of eF4⟩, _, rfl, _, rfl, by show 2 ≤ sizeLine; decide, fun q hq => ?_⟩
        have sq := same_new (o := .tup [.str x.k, .ref Vd]) hq
        have eF5 := sq _ _ eF4
        have eq5 : (upd H4 q (.tup [.str x.k, .ref Vd])) q = some (.tup [.str x.k, .ref Vd]) := upd_same
        generalize upd H4 q (.tup [.str x.k, .ref Vd]) = H5 at sq eF5 eq5
        have lz := ez.1
        rw [List.length_map, List.length_take] at lz
        have edue : dueT ks1 ks2 x = ⟨x.k, (allF ks2 y).map (·.n), (allF ks2 y).map (worthV ks1 x1 ((allF ks1 x1).map (·.n)) x.vs)⟩ := by
          unfold dueT worthV
          rw [eN1, eN2, ens]
        have new : rThX K F H5 (.ref q) (dueT ks1 ks2 x) := by
          rw [edue]
          exact ⟨q, Vd, rfl, SqT.of eq5, dc.same (dWx F) sq⟩
        refine ⟨F, zs, .ref q, rfl, rfl, eF5, by rw [sizeLine_eq]; omega, _, _, _, _, rfl, fun b o e => ?_, zs ++ [.ref q], upd_same, ?_⟩
        · rw [upd_ne fun z => by rw [z, hF] at e; cases e]
          exact sq _ _ (s24 _ _ (s2 _ _ e))
        · rw [take_snoc hx, List.map_append]
          have all := Ev.append (R := rThX K F) (H := H5) ⟨ez.1, fun i u c a q => rThX_same (s24.trans sq) (ez.2 i u c a q)⟩ (Ev.cons new Ev.nil)
          exact ⟨all.1, fun i u c a q => rThX_off eF5 (all.2 i u c a q)⟩
    · rintro σ H2 ⟨v4, v5, v6, v7, rfl, s2, zs, eF2, ez⟩
      rw [lu, List.take_length] at ez
      exact ⟨_, rfl, k F zs H2 hF eF2 ⟨ez.1, fun i u c a q => (ez.2 i u c a q).old⟩ s2⟩
end
end Wh
set_option Elab.async false
set_option linter.all false
set_option maxRecDepth 100000
set_option maxHeartbeats 4000000
namespace Wh
open PySem PySem.Spec PyProof.Rows L2
open Wp hiding Same.refl Same.trans same_new boot_all run_own
open W8 (Ev Rp Kp Mono same_new take_snoc rW rB mW mB ev_words ev_words_eq ev_bools_eq lc_sieve)
section
variable {P : Program} {w : World} {K : PySem.W.Frag} {mg : Str → Option Value} {base : Heap} {CF CK CH CW CU CV : Addr}
def ovWv : Option Nat → Wv
  | none => .non
  | some i => .int (i : Nat)
theorem rOv {H : Hp} (o : Option Nat) : rWv H (ovV o) (ovWv o) := by cases o <;> rfl
theorem WebAt.locked {H : Hp} {s hs : Addr} {root : Str} {ks : List KD} {here : Nat} {old : Option Nat} {ts : List Th} {d : Addr} {od : Obj} {kvs : List (Key × V)} (hd : H d = some (.dK kvs)) (h : WebAt K CF CK CH CW H s hs root ks here old ts) : WebG K CF CK CH CW (upd H d (.frz od (.dK kvs))) s hs root ks here old ts := by
  obtain ⟨⟨dx, lk, lv, us, h1, h2, h3, h4⟩, _⟩ := h
  have go : ∀ q o, H q = some o → (∀ kvs, o ≠ .dK kvs) → (upd H d (.frz od (.dK kvs))) q = some o := fun q o e n => by
    rw [upd_ne fun z => by rw [z, hd] at e; exact n _ (Option.some.inj e).symm]
    exact e
  exact ⟨dx, lk, lv, us, go _ _ h1 (fun _ z => by cases z), go _ _ h2 (fun _ z => by cases z), go _ _ h3 (fun _ z => by cases z), h4.1, fun i u c a b => let ⟨d2, e, q⟩ := h4.2 i u c a b; ⟨d2, e, Dc.locked hd (fun v c r => rWv_off hd (fun xs z => by cases z) r) q⟩⟩
abbrev sWr : Stmt := top 80
abbrev nWr : List Str := ["_law_web", "_law_house_here", "_law_things_here", "_law_spot", "_law_left", "_law_at", "_law_name", "_law_told"]
/-- names without doubles, lists short -/
structure PlainT (x : Th) : Prop where
  nd : x.ns.Nodup
  len : x.vs.length = x.ns.length
  few : x.ns.length ≤ 1000
  short : ∀ l, Wv.lst l ∈ x.vs → l.length ≤ 1000
def spWr (K : PySem.W.Frag) (CF CK CH CW : Addr) : Sp := fun vs H Q _ => ∃ (wb hs h2 T : Addr) (r : Str) (ks : List KD) (here : Nat) (old : Option Nat) (ts : List Th) (us : List V), vs = [.ref wb, .ref h2, .ref T, .int (here : Nat), ovV old] ∧ WebAt K CF CK CH CW H wb hs r ks here old ts ∧ HouseAt K CF CK CH H h2 r ks ∧ H T = some (.lst us) ∧ Ev (rTh K) H us ts ∧ (∀ x ∈ ts, PlainT x) ∧ ts.length ≤ 100 ∧
  ∀ H', Same H H' → Q (.bl true) H'
theorem scWr : FnScope nWr ["_law_web", "_law_house_here", "_law_things_here", "_law_spot", "_law_left"] (defScope sWr) := ⟨rfl, rfl, rfl, by decide +kernel, rfl, by decide +kernel, by decide +kernel⟩
theorem ok_Wr {f f1 f2 f3 f4 fE : Addr} {fd fd1 fd2 fd3 fd4 fdE : FuncData} (F : Fun K "_law_web_right" "_law_web_right" sWr f fd) (B : Bn mg) (WC : PlainC K CW webAt) (HE_ : EqM P w K mg base CH 5 (spHE K CF CK CH) fE fdE) (WL_ : KMt P w K mg base CW CX0 1 "__len__" nWl (spWl K CF CK CH CW) f1 fd1) (wlS : PySem.W.findIn K (.ref CW) "__len__" = some (some (.ref f1))) (wlF : PySem.W.isFn K (.ref f1) = true)
    (KO_ : KMt P w K mg base CW CX0 5 "kind_of" nWko (spWko K CF CK CH CW) f2 fd2) (GI : KMt P w K mg base CW CX0 6 "__getitem__" ["self", "at"] (spGi K CF CK CH CW) f3 fd3) (giS : PySem.W.findIn K (.ref CW) "__getitem__" = some (some (.ref f3))) (giF : PySem.W.fnIn K f3 = true) (giFn : PySem.W.isFn K (.ref f3) = true)
    (SM : Known P w K mg base CX0 1 "_law_same" ["_law_told", "_law_due"] spSm f4 fd4) : FnOk P w K mg base CX0 8 f fd ["_law_web", "_law_house_here", "_law_things_here", "_law_spot", "_law_left"] (spWr K CF CK CH CW) := by
  refine F.ok scWr (fun vs H Q E h => ?_) (fun cdv A outer s0 H vs Q E hr h => ?_)
  · obtain ⟨wb, hs, h2, T, r, ks, here, old, ts, us, rfl, _⟩ := h
    rfl
  · obtain ⟨wb, hs, h2, T, r, ks, here, old, ts, us, rfl, wa, hb, hT, ev, pl, tl, k⟩ := h
    have hu := hu_of hr
    refine ⟨_, 
      (pss_cons (ps_if (PW.pt (pw_or (pt_cmpR (show OpR _ (compareOp .NotEq) (rOwn true K CH (spHE K CF CK CH) E0) from op_ownNe HE_.ok HE_.bi pass0 HE_.own (hr.mono (by decide))) (pe_fld (pv 0) rfl) (pv 1) (nomark _)) (pw_or (pt_cmpR op_ne (pe_callB (show CallR _ (.builtin "len") (Wk.rOwnLen CW (spWl K CF CK CH CW) E0) from Wk.call_ownLen WL_.ok WL_.bi pass0 wlS wlF (hr.mono (by decide))) (by rfl) B.len PySem.boot_len (pa_cons (pv 0) pa_nil)) (pe_callB (show CallR _ (.builtin "len") (rLenQ K) from call_len_seq) (by rfl) B.len PySem.boot_len (pa_cons (pv 2) pa_nil)) (nomark _)) (pw_or (pt_not (pt_val (pe_call SM.ok (hr.mono (by decide)) rfl SM.mg SM.kp SM.bi .nil pass0 (pa_cons (pe_fld (pv 0) rfl) (pa_cons (pv 3) pa_nil))))) (pw_or1 (pt_not (pt_val (pe_call SM.ok (hr.mono (by decide)) rfl SM.mg SM.kp SM.bi .nil pass0 (pa_cons (pe_fld (pv 0) rfl) (pa_cons (pv 4) pa_nil)))))))))) 
        (pss_one (ps_ret pe_bl)) pss_nil)
      (pss_cons (ps_for PassesOwn.never rfl (pi_range1 rfl B.range (pa_cons (pe_callB (show CallR _ (.builtin "len") (rLenQ K) from call_len_seq) (by rfl) B.len PySem.boot_len (pa_cons (pv 2) pa_nil)) pa_nil)) (pg_name (i := 5) scWr.nd rfl (Or.inl rfl)) 
        (pss_cons (ps_if (pt_cmpR op_ne (pe_meth (pv 0) WC.cl KO_.mt KO_.ok (hr.mono (by decide)) KO_.bi .nil pass0 (pa_cons (pv 5) pa_nil)) (pe_ix ix_tup (pe_ix ix_list (pv 2) (pv 5) (fun _ _ => rfl)) pe_int (fun _ _ => rfl)) (nomark _)) 
          (pss_one (ps_ret pe_bl)) pss_nil)
        (pss_one (ps_lock (ps_for PassesOwn.never rfl (pi_keys (pe_ix ix_tup (pe_ix ix_list (pv 2) (pv 5) (fun _ _ => rfl)) pe_int (fun _ _ => rfl))) (pg_name (i := 6) scWr.nd rfl (Or.inl rfl)) 
          (pss_cons (ps_set (i := 7) scWr.nd rfl (.inl rfl) (pe_ownIx GI.ok GI.bi pass0 giS giF giFn (hr.mono (by decide)) (pv 0) (pe_tup (pa_cons (pv 5) (pa_cons (pv 6) pa_nil)))))
          (pss_cons (ps_if (pt_not (pt_val (pe_call SM.ok (hr.mono (by decide)) rfl SM.mg SM.kp SM.bi .nil pass0 (pa_cons (pv 7) (pa_cons (pe_dget hu (pe_ix ix_tup (pe_ix ix_list (pv 2) (pv 5) (fun _ _ => rfl)) pe_int (fun _ _ => rfl)) (pv 6) (fun _ _ => rfl)) pa_nil))))) 
            (pss_one (ps_ret pe_bl)) pss_nil)
          (pss_one (ps_if (pt_val (pe_callB call_isi (by rfl) B.isi boot_isi (pa_cons (pv 7) (pa_cons (pe_bltn (v := .ty "list") (by rfl) B.list PyProof.Rows.boot_list rfl) pa_nil)))) 
            (pss_cons (ps_expr (pe_bm PySem.F.plainAttrs_list PySem.F.slot_list_append PySem.F.type_list_append mt_append (pv 7) (pa_cons pe_int pa_nil)))
            (pss_one (ps_if (pt_not (pt_val (pe_call SM.ok (hr.mono (by decide)) rfl SM.mg SM.kp SM.bi .nil pass0 (pa_cons (pe_ownIx GI.ok GI.bi pass0 giS giF giFn (hr.mono (by decide)) (pv 0) (pe_tup (pa_cons (pv 5) (pa_cons (pv 6) pa_nil)))) (pa_cons (pe_dget hu (pe_ix ix_tup (pe_ix ix_list (pv 2) (pv 5) (fun _ _ => rfl)) pe_int (fun _ _ => rfl)) (pv 6) (fun _ _ => rfl)) pa_nil))))) 
              (pss_one (ps_ret pe_bl)) pss_nil))) pss_nil)))))))))
      (pss_one (ps_ret pe_bl)))), ?_⟩
    obtain ⟨dx, lk, lv, uw, hw, _⟩ := wa.ex
    obtain ⟨dh, _, _, _, _, _, _, hh, _⟩ := wa.house.ex
    obtain ⟨dh2, _, _, _, _, _, _, hh2, _⟩ := hb.ex
    have lu := ev.1
    refine ⟨_, rfl, wb, CW, dx, _, _, rfl, hw, WC.cl, WC.no _ (by simp), (lk_w _ _ _ _ _).1, _, rfl, hs, dh, _, rfl, hh, .ins h2 CH dh2 _ hh2 HE_.nf, hs, h2, r, ks, rfl, wa.house, hb, true, rfl, _, rfl, iteF ?_⟩
    refine ⟨_, rfl, wb, dx, _, rfl, hw, wb, hs, r, ks, here, old, ts, rfl, wa.gen, _, rfl, by omega, by omega, _, rfl, T, _, rfl, .inl (SqL.of hT), rfl, _, rfl, ?_⟩
    rw [ne_same (by rw [lu])]
    refine iteF ⟨_, rfl, wb, CW, dx, _, _, rfl, hw, WC.cl, WC.no _ (by simp), (lk_w _ _ _ _ _).2.1, _, rfl, .int (here : Nat), .int (here : Nat), .int (here : Nat), rfl, rfl, rfl, (fun l e => by cases e), fun H1 s1 => ⟨_, rfl, iteF ?_⟩⟩
    refine ⟨_, rfl, wb, CW, dx, _, _, rfl, s1 _ _ hw, WC.cl, WC.no _ (by simp), (lk_w _ _ _ _ _).2.2.1, _, rfl, ovV old, ovV old, ovWv old, rfl, rOv old, rOv old, (fun l e => by cases old <;> cases e), fun H2 s2 => ⟨_, rfl, iteF ?_⟩⟩
    have s02 := s1.trans s2
    refine ⟨_, rfl, T, _, rfl, .inl (SqL.of (s02 _ _ hT)), _, rfl, by omega, by omega, ?_⟩
    rw [Int.toNat_natCast]
    refine for_it walk_range (fun j σ H' => ∃ v5 v6 v7, σ = [some (.ref wb), some (.ref h2), some (.ref T), some (.int (here : Nat)), some (ovV old), v5, v6, v7] ∧ Same H H') ⟨none, none, none, rfl, s02⟩ (fun _ _ _ _ _ => trivial) ?_ ?_
    · rintro j v σ H3 H4 hj ⟨v5, v6, v7, rfl, s4⟩ ⟨rfl, ejv⟩
      have ejv : v = .int (j : Nat) := by
        rw [ejv]
        show V.int (0 + (j : Nat)) = _
        rw [Int.zero_add]
      subst ejv
      have hjt : j < ts.length := by omega
      have hx : ts[j]? = some ts[j] := List.getElem?_eq_getElem hjt
      have hv : us[j]? = some us[j] := List.getElem?_eq_getElem hj
      generalize ts[j] = x at hx
      obtain ⟨t, d, et, ht, hd⟩ := ev.2 j _ x hv hx
      rw [et] at hv
      have px := pl x (List.mem_of_getElem? hx)
      have w4 := wa.same s4
      have hd4 := hd.same dWv s4
      have ht4 := s4.sqT ht
      have hT4 := s4 _ _ hT
      refine ⟨_, rfl, wb, dx, _, rfl, s4 _ _ hw, rfl, _, rfl, wb, hs, j, r, ks, here, old, ts, x, rfl, w4.gen, hx, _, rfl, _, rfl, T, _, _, _, rfl, rfl, SqL.of hT4, atI_nat hv, t, _, _, _, rfl, rfl, ht4, atI_nat (j := 0) rfl, rfl, _, rfl, ?_⟩
      rw [ne_same rfl]
      refine iteF ?_
      obtain ⟨xs, ed, lx, vx⟩ := id hd4
      refine ⟨d, _, ed, trivial, fun od => ?_⟩
      have wF := WebAt.locked (od := od) ed w4
      have dF := Dc.locked (od := od) ed (fun v c r => rWv_off ed (fun xs z => by cases z) r) hd4
      have htF : SqT K (upd H4 d (.frz od (.dK (kvz x.ns xs)))) t [.str x.k, .ref d] := (Stay.kd (Kd.dct2 ed)).sqT ht4
      have hTF : (upd H4 d (.frz od (.dK (kvz x.ns xs)))) T = some (.lst us) := by
        rw [upd_ne fun z => by rw [z, ed] at hT4; cases hT4]
        exact hT4
      have fr : (upd H4 d (.frz od (.dK (kvz x.ns xs)))) d = some (.frz od (.dK (kvz x.ns xs))) := upd_same
      have un : ∀ H', Same (upd H4 d (.frz od (.dK (kvz x.ns xs)))) H' → Same H4 (upd H' d (.dK (kvz x.ns xs))) := fun H' s => unlock_same ed s
      generalize upd H4 d (.frz od (.dK (kvz x.ns xs))) = HF at wF dF htF hTF fr un
      refine ⟨_, rfl, _, rfl, T, _, _, _, rfl, rfl, SqL.of hTF, atI_nat hv, t, _, _, _, rfl, rfl, htF, atI_nat (j := 1) rfl, d, od, rfl, .inl ⟨_, fr, ?_⟩⟩
      refine for_it (walk_keysD lx) (fun i σ H' => ∃ v6 v7, σ = [some (.ref wb), some (.ref h2), some (.ref T), some (.int (here : Nat)), some (ovV old), some (.int (j : Nat)), v6, v7] ∧ Same HF H') ⟨_, _, rfl, Same.refl _⟩ (fun i σ H' _ ⟨_, _, _, s⟩ => s _ _ fr) ?_ ?_
      · rintro i v σ _ H5 hi ⟨v6, v7, rfl, s5⟩ ⟨rfl, hn0⟩
        rw [List.getElem?_map] at hn0
        obtain ⟨n, hn, rfl⟩ := Option.map_eq_some_iff.mp hn0
        have hiv : i < x.vs.length := by
          rw [px.len]
          exact (List.getElem?_eq_some_iff.mp hn).1
        have hc : x.vs[i]? = some x.vs[i] := List.getElem?_eq_getElem hiv
        have fewc : ∀ l, x.vs[i] = .lst l → l.length ≤ 1000 := fun l e => px.short l (e ▸ List.getElem_mem hiv)
        generalize x.vs[i] = c at hc fewc
        have gD : ∀ H6, Same HF H6 → ∃ z, DGet H6 d (.str n) (some z) ∧ rWv H6 z c := fun H6 s6 => by
          obtain ⟨i2, z, c2, e1, e2, e3, e4⟩ := (dF.same dWv s6).get (List.mem_of_getElem? hn)
          have := (List.getElem?_inj (i := i2) (j := i) (List.getElem?_eq_some_iff.mp e1).1 px.nd).mp (e1.trans hn.symm)
          subst this
          rw [hc] at e2
          cases e2
          exact ⟨z, e4, e3⟩
        obtain ⟨dxF, _, _, _, hwF, _⟩ := wF.ex
        refine ⟨_, rfl, _, rfl, _, rfl, by show 2 ≤ sizeLine; decide, fun q hq => ?_⟩
        have sq := same_new (o := .tup [.int (j : Nat), .str n]) hq
        have s5q := s5.trans sq
        refine ⟨wb, dxF, _, rfl, s5q _ _ hwF, wb, hs, q, j, i, n, r, ks, here, old, ts, x, c, rfl, SqT.of upd_same, wF.same s5q, hx, px.nd, hn, hc, fun u H6 s6 ru => ?_⟩
        have s56 := s5q.trans s6
        obtain ⟨z, gz, rz⟩ := gD H6 s56
        refine ⟨_, rfl, _, rfl, _, rfl, T, _, _, _, rfl, rfl, SqL.of (s56 _ _ hTF), atI_nat hv, t, _, _, _, rfl, rfl, s56.sqT htF, atI_nat (j := 1) rfl, _, rfl, d, _, rfl, gz, u, z, c, rfl, ru.1, rz, fewc, fun H7 s7 => ⟨_, rfl, iteF ?_⟩⟩
        have s57 := s56.trans s7
        cases c with
        | non =>
          obtain ⟨ru1, _⟩ := ru
          cases ru1
          exact ⟨_, rfl, .non, .ty "list", _, _, _, rfl, .ty "list", .base .non, kit_non, _, rfl, iteF ⟨_, _, rfl, s57⟩⟩
        | int zz =>
          obtain ⟨ru1, _⟩ := ru
          cases ru1
          exact ⟨_, rfl, .int zz, .ty "list", _, _, _, rfl, .ty "list", .base (.int zz), kit_ints, _, rfl, iteF ⟨_, _, rfl, s57⟩⟩
        | lst l =>
          obtain ⟨⟨a, rfl, ha⟩, na⟩ := ru
          have ha7 := s7 _ _ ha
          have nF : HF a = none := s5q.free (na a rfl)
          have ll := fewc l rfl
          refine ⟨_, rfl, .ref a, .ty "list", _, _, _, rfl, .ty "list", Wp.SqL.ty (SqL.of ha7), kit_lst, _, rfl, iteT ?_⟩
          refine ⟨_, rfl, .inl ⟨rfl, _, SqL.of ha7⟩, a, _, .int 0, rfl, rfl, ha7, by rw [List.length_map, sizeLine_eq]; omega, ?_⟩
          have s8 : Same HF (upd H7 a (.lst (l.map V.int ++ [.int 0]))) := fun b o e => by
            rw [upd_ne fun z => by rw [z, nF] at e; cases e]
            exact s57 _ _ e
          generalize upd H7 a (.lst (l.map V.int ++ [.int 0])) = H8 at s8
          refine ⟨_, rfl, _, rfl, _, rfl, by show 2 ≤ sizeLine; decide, fun q2 hq2 => ?_⟩
          have sq2 := same_new (o := .tup [.int (j : Nat), .str n]) hq2
          have s8q := s8.trans sq2
          refine ⟨wb, dxF, _, rfl, s8q _ _ hwF, wb, hs, q2, j, i, n, r, ks, here, old, ts, x, .lst l, rfl, SqT.of upd_same, wF.same s8q, hx, px.nd, hn, hc, fun u2 H9 s9 ru2 => ?_⟩
          have s89 := s8q.trans s9
          obtain ⟨z2, gz2, rz2⟩ := gD H9 s89
          refine ⟨_, rfl, _, rfl, T, _, _, _, rfl, rfl, SqL.of (s89 _ _ hTF), atI_nat hv, t, _, _, _, rfl, rfl, s89.sqT htF, atI_nat (j := 1) rfl, _, rfl, d, _, rfl, gz2, u2, z2, .lst l, rfl, ru2.1, rz2, fewc, fun H10 s10 => ⟨_, rfl, iteF ?_⟩⟩
          exact ⟨_, _, rfl, s89.trans s10⟩
      · rintro σ H5 ⟨v6, v7, rfl, s5⟩
        exact ⟨s5 _ _ fr, _, _, _, rfl, s4.trans (un _ s5)⟩
    · rintro σ H3 ⟨v5, v6, v7, rfl, s3⟩
      exact k _ s3
end
end Wh
set_option Elab.async false
set_option linter.all false
set_option maxRecDepth 100000
set_option maxHeartbeats 4000000
namespace Wh
open PySem PySem.Spec PyProof.Rows L2
open Wp hiding Same.refl Same.trans same_new boot_all
open W8 (Ev Rp Kp Mono same_new take_snoc rW rB mW mB ev_words ev_words_eq ev_bools_eq lc_sieve)
section
variable {P : Program} {w : World} {K : PySem.W.Frag} {mg : Str → Option Value} {base : Heap}
abbrev sHo : Stmt := top 62
abbrev nHo : List Str := ["_law_pot_here", "_law_kinds", "_law_labels_here", "_law_is_open", "_law_fixed", "_law_booked", "_law_aims", "_law_fields_here", "_law_first", "_law_marks", "_law_chief", "_law_keyed", "_law_plain", "_law_rows", "_law_k"]
theorem scHo : FnScope nHo ["_law_pot_here"] (defScope sHo) := ⟨rfl, rfl, rfl, by decide +kernel, rfl, by decide +kernel, by decide +kernel⟩
theorem at0 {α : Type} {xs : List α} {x : α} {j : Nat} (h : xs[j]? = some x) : atI xs (0 + (j : Int)) = some x := by
  rw [Int.zero_add]
  exact atI_nat h
theorem atP {α : Type} {xs : List α} {x : α} {c j : Nat} (h : xs[c + j]? = some x) : atI xs ((c : Int) + (0 + (j : Int))) = some x := by
  rw [Int.zero_add, show ((c : Int) + (j : Int)) = ((c + j : Nat) : Int) by omega]
  exact atI_nat h
structure Marked (name : Str) (x : FV) : Prop where
  n : x.n = name
  m : x.m = "mark"
  t : x.t = none
  d0 : -1000000000000 < x.d
  d1 : x.d < 1000000000000
  w : x.w = []
theorem cut_hi {xs : List V} {k : Nat} (h : k ≤ xs.length) : cutV xs (some (k : Int)) none = xs.drop k := by
  unfold cutV
  rw [HT.sIx_nat, HT.sIx_none, Nat.min_eq_left h]
  exact List.take_of_length_le (by rw [List.length_drop]; omega)
theorem cut_lo {xs : List V} {k : Nat} (h : k ≤ xs.length) : cutV xs none (some (k : Int)) = xs.take k := by
  unfold cutV
  rw [HT.sIx_nat, HT.sIx_none, Nat.min_eq_left h]
  rfl
section
variable {k0 k1 k2 k3 k4 : Str} {ls : List Str} {L : Nat → Str} {aims : List Str}
theorem L_ok (lbl : Labels 26 ls) (hL : ∀ j, j < 26 → ls[j]? = some (L j)) {j : Nat} (h : j < 26) : isFieldName (.str (L j)) = true := lbl.ok _ (List.mem_of_getElem? (hL j h))
theorem L_inj (lbl : Labels 26 ls) (hL : ∀ j, j < 26 → ls[j]? = some (L j)) {i j : Nat} (hi : i < 26) (hj : j < 26) (e : L i = L j) : i = j :=
  (List.getElem?_inj (i := i) (j := j) (by rw [lbl.len]; exact hi) lbl.nd).mp ((hL i hi).trans (by rw [e]; exact (hL j hj).symm))
theorem names_nd (lbl : Labels 26 ls) (hL : ∀ j, j < 26 → ls[j]? = some (L j)) {fs : List FV} {c : Nat} (h : ∀ (j : Nat) x, fs[j]? = some x → x.n = L (c + j)) (l : c + fs.length ≤ 26) : (fs.map (·.n)).Nodup := by
  refine List.pairwise_iff_getElem.mpr fun i j hi hj hij e => ?_
  rw [List.length_map] at hi hj
  rw [List.getElem_map, List.getElem_map, h i _ (List.getElem?_eq_getElem hi), h j _ (List.getElem?_eq_getElem hj)] at e
  have := L_inj lbl hL (by omega) (by omega) e
  omega
theorem Drawn.right {nm al : Str} {x : FV} (d : Drawn aims nm al x) (ok1 : isFieldName (.str nm) = true) (ok2 : isFieldName (.str al) = true) (ne : nm ≠ al) (am : ∀ t ∈ aims, t = "any" ∨ isKindName (.str t) = true) : RightF x := by
  refine ⟨d.n ▸ ok1, ?_, ?_, ?_, ?_, ?_⟩
  · rcases d.m with h | ⟨h1, h2, t, mt, e⟩
    · exact .inl h
    · exact .inr ⟨h1, h2, t, e, am t mt⟩
  · rcases d.w with e | e <;> rw [e] <;> simp
  · rcases d.w with e | e <;> rw [e]
    · intro x hx
      rw [List.mem_singleton.mp hx]
      exact ok2
    · intro x hx
      cases hx
  · rcases d.w with e | e <;> rw [e, d.n]
    · simpa using ne
    · simp
  · rcases d.w with e | e <;> rw [e] <;> simp
theorem Marked.right {nm : Str} {x : FV} (d : Marked nm x) (ok1 : isFieldName (.str nm) = true) : RightF x :=
  ⟨d.n ▸ ok1, .inl ⟨d.m, d.t, d.d0, d.d1⟩, by rw [d.w]; simp, by rw [d.w]; simp, by rw [d.w]; simp, by rw [d.w]; simp⟩
theorem slot_mark {g : FV} (h : g.m = "mark") : slotB g = false := by
  unfold slotB
  rw [h]
  decide
theorem Drawn.aim {nm al : Str} {x : FV} (d : Drawn aims nm al x) (s : slotB x = true) : ∃ t ∈ aims, x.t = some t := by
  rcases d.m with h | ⟨_, _, h⟩
  · rw [slot_mark h.1] at s
    cases s
  · exact h
theorem at_of {α : Type} {xs : List α} {x : α} (h : x ∈ xs) : ∃ i : Nat, i < xs.length ∧ xs[i]? = some x := by
  obtain ⟨i, hi, e⟩ := List.getElem_of_mem h
  exact ⟨i, hi, by rw [List.getElem?_eq_getElem hi, e]⟩
theorem drawn_sheet {o fx kf bk : Bool} {ch : Str} {rot : Nat} {f1 f2 f3 f4 : List FV} (knm : KNames 5 [k0, k1, k2, k3, k4]) (lbl : Labels 26 ls) (hL : ∀ j, j < 26 → ls[j]? = some (L j)) (hA : [k0, k1, k2, ("any" : Str), k0, k1] = aims)
    (l1 : f1.length ≤ 3) (d1 : ∀ (j : Nat) x, f1[j]? = some x → Drawn aims (L j) (L (8 + j)) x) (l2 : f2.length ≤ 2) (d2 : ∀ (j : Nat) x, f2[j]? = some x → Marked (L j) x) (mch : ch ∈ f2.map (·.n))
    (l3 : f3.length ≤ 2) (d3 : ∀ (j : Nat) x, f3[j]? = some x → Drawn [k1] (L (1 + j)) (L (11 + j)) x) (l4 : f4.length ≤ 1) (d4 : ∀ (j : Nat) x, f4[j]? = some x → Drawn aims (L (4 + j)) (L (14 + j)) x) :
    Sheet ⟨k0, k1, k2, k3, o, fx, kf, bk, ch, rot⟩ (ls.drop 16) f1 f2 f3 f4 := by
  have nd := knm.nd
  have kok : ∀ x ∈ [k0, k1, k2, k3, k4], isKindName (.str x) = true := knm.ok
  simp only [List.nodup_cons, List.mem_cons, not_or, List.not_mem_nil, not_false_eq_true, and_true] at nd
  obtain ⟨⟨n01, n02, n03, _⟩, ⟨n12, n13, _⟩, ⟨n23, _⟩, _⟩ := nd
  have am : ∀ t ∈ aims, t = "any" ∨ t = k0 ∨ t = k1 ∨ t = k2 := fun t ht => by
    rw [← hA] at ht
    simp at ht
    rcases ht with h | h | h | h | h | h <;> simp [h]
  have amk : ∀ t ∈ aims, t = "any" ∨ isKindName (.str t) = true := fun t ht => (am t ht).imp id fun h => by
    rcases h with rfl | rfl | rfl <;> exact kok _ (by simp)
  have I := @L_inj ls L lbl hL
  have OK := @L_ok ls L lbl hL
  have ne : ∀ {i j : Nat}, i < 26 → j < 26 → i ≠ j → L i ≠ L j := fun hi hj h e => h (I hi hj e)
  refine ⟨⟨n01, n02, n03, n12, n13, n23, ?_⟩, ⟨l1, by omega, by omega, ?_, ?_, ?_, ?_, ?_, ?_, ?_, ?_, mch⟩, ?_, ?_, ?_, ?_, ?_, ?_, by omega⟩
  · intro e
    have := kok k1 (by simp)
    rw [show k1 = ("any" : Str) from e] at this
    exact absurd this (by decide +kernel)
  · rw [List.length_append]
    omega
  · exact names_nd lbl hL (c := 0) (fun j x h => by rw [Nat.zero_add]; exact (d1 j x h).n) (by omega)
  · exact names_nd lbl hL (c := 0) (fun j x h => by rw [Nat.zero_add]; exact (d2 j x h).n) (by omega)
  · exact names_nd lbl hL (c := 1) (fun j x h => (d3 j x h).n) (by omega)
  · rw [List.map_append]
    refine List.nodup_append.mpr ⟨names_nd lbl hL (c := 0) (fun j x h => by rw [Nat.zero_add]; exact (d1 j x h).n) (by omega), names_nd lbl hL (c := 4) (fun j x h => (d4 j x h).n) (by omega), fun a ha b hb e => ?_⟩
    obtain ⟨g, mg, rfl⟩ := List.mem_map.mp ha
    obtain ⟨g2, mg2, rfl⟩ := List.mem_map.mp hb
    obtain ⟨i, hi, e1⟩ := at_of mg
    obtain ⟨j, hj, e2⟩ := at_of mg2
    rw [(d1 i g e1).n, (d4 j g2 e2).n] at e
    exact ne (by omega) (by omega) (by omega) e
  · intro g mg sg
    rcases List.mem_append.mp mg with mg | mg
    · obtain ⟨i, hi, e1⟩ := at_of mg
      obtain ⟨t, mt, e⟩ := (d1 i g e1).aim sg
      exact ⟨t, e, am t mt⟩
    · obtain ⟨i, hi, e1⟩ := at_of mg
      obtain ⟨t, mt, e⟩ := (d4 i g e1).aim sg
      exact ⟨t, e, am t mt⟩
  · intro g mg
    obtain ⟨i, hi, e1⟩ := at_of mg
    exact slot_mark (d2 i g e1).m
  · intro g mg sg
    obtain ⟨i, hi, e1⟩ := at_of mg
    obtain ⟨t, mt, e⟩ := (d3 i g e1).aim sg
    rw [List.mem_singleton.mp mt] at e
    exact e
  · rintro n (rfl | rfl | rfl | rfl) <;> exact kok _ (by simp)
  · intro g mg
    obtain ⟨i, hi, e1⟩ := at_of mg
    exact (d1 i g e1).right (OK (by omega)) (OK (by omega)) (ne (by omega) (by omega) (by omega)) amk
  · intro g mg
    obtain ⟨i, hi, e1⟩ := at_of mg
    exact (d2 i g e1).right (OK (by omega))
  · intro g mg
    obtain ⟨i, hi, e1⟩ := at_of mg
    exact (d3 i g e1).right (OK (by omega)) (OK (by omega)) (ne (by omega) (by omega) (by omega)) fun t ht => .inr (by rw [List.mem_singleton.mp ht]; exact kok _ (by simp))
  · intro g mg
    obtain ⟨i, hi, e1⟩ := at_of mg
    exact (d4 i g e1).right (OK (by omega)) (OK (by omega)) (ne (by omega) (by omega) (by omega)) amk
  · intro s hs g mg
    obtain ⟨q, hq, eq⟩ := at_of hs
    rw [List.length_drop, lbl.len] at hq
    rw [List.getElem?_drop, hL (16 + q) (by omega)] at eq
    cases eq
    have fin : ∀ {i j : Nat} {am2 : List Str}, i < 16 → j < 16 → Drawn am2 (L i) (L j) g → L (16 + q) ≠ g.n ∧ L (16 + q) ∉ g.w := fun {i j am2} hi hj d => by
      rw [d.n]
      refine ⟨ne (by omega) (by omega) (by omega), ?_⟩
      rcases d.w with e | e <;> rw [e]
      · simpa using ne (by omega) (by omega) (by omega)
      · simp
    rcases mg with mg | mg | mg | mg
    · obtain ⟨i, hi, e1⟩ := at_of mg
      exact fin (by omega) (by omega) (d1 i g e1)
    · obtain ⟨i, hi, e1⟩ := at_of mg
      have m := d2 i g e1
      rw [m.n, m.w]
      exact ⟨ne (by omega) (by omega) (by omega), by simp⟩
    · obtain ⟨i, hi, e1⟩ := at_of mg
      exact fin (by omega) (by omega) (d3 i g e1)
    · obtain ⟨i, hi, e1⟩ := at_of mg
      exact fin (by omega) (by omega) (d4 i g e1)
end
def spHo (K : PySem.W.Frag) : Sp := fun vs H Q _ => ∃ (p : Addr) (n : Nat), vs = [.ref p] ∧ Pot p n H ∧ n < 50000 ∧ ∀ (T L D : Addr) (pl : Plan) (f1 f2 f3 f4 : List FV) (S : List Str) (x : Str) H', H' T = some (.tup [.ref L, .str pl.k0, .ref D, .str x]) → Rows K H' L (pl.rows f1 f2 f3 f4) → L ≠ p → H' D = some (.lst (S.map V.str)) → D ≠ p →
  Sheet pl S f1 f2 f3 f4 → S.length = 10 → S.Nodup → (∀ s ∈ S, isFieldName (.str s) = true) → But p H H' → Pot p (n + 200) H' → Q (.ref T) H'
theorem ok_Ho {f f1 f2 f3 f4 f5 : Addr} {fd fd1 fd2 fd3 fd4 fd5 : FuncData} (F : Fun K "_law_house" "_law_house" sHo f fd) (B : Bn mg) (DR : Known P w K mg base CX0 1 "_law_draw" ["_law_pot_here", "_law_many"] spDr f1 fd1) (LF : Known P w K mg base CX0 3 "_law_field" ["_law_pot_here", "_law_name", "_law_alias", "_law_aims"] (spLf K) f2 fd2) (PS_ : Known P w K mg base CX0 2 "_law_preset" ["_law_pot_here"] spPs f3 fd3)
    (LB : Known P w K mg base CX0 2 "_law_labels" ["_law_pot_here", "_law_many"] spLb f4 fd4) (KN : Known P w K mg base CX0 2 "_law_kind_names" ["_law_pot_here", "_law_many"] spKn f5 fd5) : FnOk P w K mg base CX0 4 f fd ["_law_pot_here"] (spHo K) := by
  refine F.ok scHo (fun vs H Q E h => ?_) (fun cdv A outer s H vs Q E hr h => ?_)
  · obtain ⟨p, n, rfl, _⟩ := h
    rfl
  · obtain ⟨p, n, rfl, pt, n1, k⟩ := h
    refine ⟨_, 
      (pss_cons (ps_asg (pe_tup (pa_cons (pe_call KN.ok (hr.mono (by decide)) rfl KN.mg KN.kp KN.bi .nil pass0 (pa_cons (pv 0) (pa_cons pe_int pa_nil))) (pa_cons (pe_call LB.ok (hr.mono (by decide)) rfl LB.mg LB.kp LB.bi .nil pass0 (pa_cons (pv 0) (pa_cons pe_int pa_nil))) pa_nil))) (pg_tup rfl (pgs_cons (pg_name (i := 1) scHo.nd rfl (Or.inr rfl)) (pgs_cons (pg_name (i := 2) scHo.nd rfl (Or.inr rfl)) pgs_nil))))
      (pss_cons (ps_par3 (i := 3) (j := 4) (l := 5) rfl scHo.nd rfl rfl rfl (by decide) (by decide) (by decide) rfl rfl rfl (pa_cons (pe_cmpR op_eq (pe_call DR.ok (hr.mono (by decide)) rfl DR.mg DR.kp DR.bi .nil pass0 (pa_cons (pv 0) (pa_cons pe_int pa_nil))) pe_int (nomark _)) (pa_cons (pe_cmpR op_eq (pe_call DR.ok (hr.mono (by decide)) rfl DR.mg DR.kp DR.bi .nil pass0 (pa_cons (pv 0) (pa_cons pe_int pa_nil))) pe_int (nomark _)) (pa_cons (pe_cmpR op_eq (pe_call DR.ok (hr.mono (by decide)) rfl DR.mg DR.kp DR.bi .nil pass0 (pa_cons (pv 0) (pa_cons pe_int pa_nil))) pe_int (nomark _)) pa_nil))) rfl)
      (pss_cut (ps_set (i := 6) scHo.nd rfl (.inr rfl) (pe_lst (pa_cons (pe_ix ix_list (pv 1) pe_int (fun _ _ => rfl)) (pa_cons (pe_ix ix_list (pv 1) pe_int (fun _ _ => rfl)) (pa_cons (pe_ix ix_list (pv 1) pe_int (fun _ _ => rfl)) (pa_cons pe_str (pa_cons (pe_ix ix_list (pv 1) pe_int (fun _ _ => rfl)) (pa_cons (pe_ix ix_list (pv 1) pe_int (fun _ _ => rfl)) pa_nil))))))))
      (pss_cut (ps_setLc (i := 7) (own := [("_law_k", 14)]) (g := gName 14) (tt := tYes) (te := tCall (spLf K) [] E0 (tCons (tVar 0) (tCons (tOp (rIxL K) (tVar 2) (tVar 14)) (tCons (tOp (rIxL K) (tVar 2) (tOp (rI0 fun i j => .int (i + j)) (tC (.int 8)) (tVar 14))) (tCons (tVar 6) tNil))))) rfl scHo.nd rfl rfl (sw_true rfl rfl rfl (by decide +kernel)) (pi_range1 rfl B.range (pa_cons (pe_op op_add pe_int (pe_call DR.ok (hr.mono (by decide)) rfl DR.mg DR.kp DR.bi .nil pass0 (pa_cons (pv 0) (pa_cons pe_int pa_nil)))) pa_nil)) (blkOk_by (N := nHo) (sc := defScope sHo) (by decide +kernel)) (fun _ _ _ _ _ => pg_name (i := 14) scHo.nd rfl (Or.inl rfl)) (fun _ _ _ _ _ => pts_nil) (fun _ _ _ _ _ => (pe_call LF.ok (hr.mono (by decide)) rfl LF.mg LF.kp LF.bi .nil pass0 (pa_cons (pv 0) (pa_cons (pe_ix ix_list (pv 2) (pv 14) (fun _ _ => rfl)) (pa_cons (pe_ix ix_list (pv 2) (pe_op op_add pe_int (pv 14)) (fun _ _ => rfl)) (pa_cons (pv 6) pa_nil)))))))
      (pss_cons (ps_set (i := 8) scHo.nd rfl (.inl rfl) (pe_tup (pa_cons (pe_ix ix_list (pv 1) pe_int (fun _ _ => rfl)) (pa_cons pe_non (pa_cons pe_bl (pa_cons (pv 3) (pa_cons pe_non (pa_cons pe_bl (pa_cons (pv 7) pa_nil)))))))))
      (pss_cut (ps_setLc (i := 9) (own := [("_law_k", 14)]) (g := gName 14) (tt := tYes) (te := tTup (tCons (tOp (rIxL K) (tVar 2) (tVar 14)) (tCons (tC (.str "mark")) (tCons (tC .non) (tCons (tCall spPs [] E0 (tCons (tVar 0) tNil)) (tCons (tTup tNil) tNil)))))) rfl scHo.nd rfl rfl (sw_true rfl rfl rfl (by decide +kernel)) (pi_range1 rfl B.range (pa_cons (pe_op op_add pe_int (pe_call DR.ok (hr.mono (by decide)) rfl DR.mg DR.kp DR.bi .nil pass0 (pa_cons (pv 0) (pa_cons pe_int pa_nil)))) pa_nil)) (blkOk_by (N := nHo) (sc := defScope sHo) (by decide +kernel)) (fun _ _ _ _ _ => pg_name (i := 14) scHo.nd rfl (Or.inl rfl)) (fun _ _ _ _ _ => pts_nil) (fun _ _ _ _ _ => (pe_tup (pa_cons (pe_ix ix_list (pv 2) (pv 14) (fun _ _ => rfl)) (pa_cons pe_str (pa_cons pe_non (pa_cons (pe_call PS_.ok (hr.mono (by decide)) rfl PS_.mg PS_.kp PS_.bi .nil pass0 (pa_cons (pv 0) pa_nil)) (pa_cons (pe_tup pa_nil) pa_nil))))))))
      (pss_cut (ps_set (i := 10) scHo.nd rfl (.inl rfl) (pe_ix ix_tup (pe_ix ix_list (pv 9) (pe_call DR.ok (hr.mono (by decide)) rfl DR.mg DR.kp DR.bi .nil pass0 (pa_cons (pv 0) (pa_cons (pe_callB call_len_seq (by rfl) B.len PySem.boot_len (pa_cons (pv 9) pa_nil)) pa_nil))) (fun _ _ => rfl)) pe_int (fun _ _ => rfl)))
      (pss_cons (ps_set (i := 11) scHo.nd rfl (.inl rfl) (pe_tup (pa_cons (pe_ix ix_list (pv 1) pe_int (fun _ _ => rfl)) (pa_cons pe_non (pa_cons (pe_cmpR op_eq (pe_call DR.ok (hr.mono (by decide)) rfl DR.mg DR.kp DR.bi .nil pass0 (pa_cons (pv 0) (pa_cons pe_int pa_nil))) pe_int (nomark _)) (pa_cons pe_bl (pa_cons (pv 10) (pa_cons (pv 5) (pa_cons (pv 9) pa_nil)))))))))
      (pss_cut (ps_setLc (i := 7) (own := [("_law_k", 14)]) (g := gName 14) (tt := tYes) (te := tCall (spLf K) [] E0 (tCons (tVar 0) (tCons (tOp (rIxL K) (tVar 2) (tOp (rI0 fun i j => .int (i + j)) (tC (.int 1)) (tVar 14))) (tCons (tOp (rIxL K) (tVar 2) (tOp (rI0 fun i j => .int (i + j)) (tC (.int 11)) (tVar 14))) (tCons (tLst (tCons (tOp (rIxL K) (tVar 1) (tC (.int 1))) tNil)) tNil))))) rfl scHo.nd rfl rfl (sw_true rfl rfl rfl (by decide +kernel)) (pi_range1 rfl B.range (pa_cons (pe_call DR.ok (hr.mono (by decide)) rfl DR.mg DR.kp DR.bi .nil pass0 (pa_cons (pv 0) (pa_cons pe_int pa_nil))) pa_nil)) (blkOk_by (N := nHo) (sc := defScope sHo) (by decide +kernel)) (fun _ _ _ _ _ => pg_name (i := 14) scHo.nd rfl (Or.inl rfl)) (fun _ _ _ _ _ => pts_nil) (fun _ _ _ _ _ => (pe_call LF.ok (hr.mono (by decide)) rfl LF.mg LF.kp LF.bi .nil pass0 (pa_cons (pv 0) (pa_cons (pe_ix ix_list (pv 2) (pe_op op_add pe_int (pv 14)) (fun _ _ => rfl)) (pa_cons (pe_ix ix_list (pv 2) (pe_op op_add pe_int (pv 14)) (fun _ _ => rfl)) (pa_cons (pe_lst (pa_cons (pe_ix ix_list (pv 1) pe_int (fun _ _ => rfl)) pa_nil)) pa_nil)))))))
      (pss_cons (ps_set (i := 12) scHo.nd rfl (.inl rfl) (pe_tup (pa_cons (pe_ix ix_list (pv 1) pe_int (fun _ _ => rfl)) (pa_cons pe_non (pa_cons (pv 4) (pa_cons pe_bl (pa_cons pe_non (pa_cons pe_bl (pa_cons (pv 7) pa_nil)))))))))
      (pss_cut (ps_set (i := 13) scHo.nd rfl (.inl rfl) (pe_ix ix_list (pe_lst (pa_cons (pe_lst (pa_cons (pv 8) (pa_cons (pv 11) (pa_cons (pv 12) pa_nil)))) (pa_cons (pe_lst (pa_cons (pv 11) (pa_cons (pv 12) (pa_cons (pv 8) pa_nil)))) (pa_cons (pe_lst (pa_cons (pv 12) (pa_cons (pv 8) (pa_cons (pv 11) pa_nil)))) pa_nil)))) (pe_call DR.ok (hr.mono (by decide)) rfl DR.mg DR.kp DR.bi .nil pass0 (pa_cons (pv 0) (pa_cons pe_int pa_nil))) (fun _ _ => rfl)))
      (pss_cut (ps_if (pt_val (pv 3)) 
        (pss_cons (ps_setLc (i := 7) (own := [("_law_k", 14)]) (g := gName 14) (tt := tYes) (te := tCall (spLf K) [] E0 (tCons (tVar 0) (tCons (tOp (rIxL K) (tVar 2) (tOp (rI0 fun i j => .int (i + j)) (tC (.int 4)) (tVar 14))) (tCons (tOp (rIxL K) (tVar 2) (tOp (rI0 fun i j => .int (i + j)) (tC (.int 14)) (tVar 14))) (tCons (tVar 6) tNil))))) rfl scHo.nd rfl rfl (sw_true rfl rfl rfl (by decide +kernel)) (pi_range1 rfl B.range (pa_cons (pe_call DR.ok (hr.mono (by decide)) rfl DR.mg DR.kp DR.bi .nil pass0 (pa_cons (pv 0) (pa_cons pe_int pa_nil))) pa_nil)) (blkOk_by (N := nHo) (sc := defScope sHo) (by decide +kernel)) (fun _ _ _ _ _ => pg_name (i := 14) scHo.nd rfl (Or.inl rfl)) (fun _ _ _ _ _ => pts_nil) (fun _ _ _ _ _ => (pe_call LF.ok (hr.mono (by decide)) rfl LF.mg LF.kp LF.bi .nil pass0 (pa_cons (pv 0) (pa_cons (pe_ix ix_list (pv 2) (pe_op op_add pe_int (pv 14)) (fun _ _ => rfl)) (pa_cons (pe_ix ix_list (pv 2) (pe_op op_add pe_int (pv 14)) (fun _ _ => rfl)) (pa_cons (pv 6) pa_nil)))))))
        (pss_one (ps_expr (pe_bm PySem.F.plainAttrs_list PySem.F.slot_list_append PySem.F.type_list_append mt_append (pv 13) (pa_cons (pe_tup (pa_cons (pe_ix ix_list (pv 1) pe_int (fun _ _ => rfl)) (pa_cons (pe_ix ix_list (pv 1) pe_int (fun _ _ => rfl)) (pa_cons pe_bl (pa_cons pe_bl (pa_cons pe_non (pa_cons pe_bl (pa_cons (pv 7) pa_nil)))))))) pa_nil))))) pss_nil)
      (pss_one (ps_ret (pe_tup (pa_cons (pv 13) (pa_cons (pe_ix ix_list (pv 1) pe_int (fun _ _ => rfl)) (pa_cons (pe_slice sl_list (pv 2) (po_some pe_int) po_none) (pa_cons (pe_ix ix_list (pv 1) pe_int (fun _ _ => rfl)) pa_nil))))))))))))))))))), ?_⟩
    refine ⟨_, rfl, p, 5, n, rfl, pt, by omega, by omega, fun ks Kd H1 hKd b1 eK knm pt1 => ?_⟩
    refine ⟨_, rfl, p, 26, n + 20, rfl, pt1, by omega, by omega, fun ls Lb H2 hLb b2 eL lbl pt2 => ⟨by show 2 ≤ sizeLine; decide, fun T hT => ?_⟩⟩
    refine ⟨T, _, rfl, SqT.of upd_same, rfl, _, _, rfl, _, _, rfl, rfl, ?_⟩
    have sT : Same H2 (upd H2 T (.tup [.ref Kd, .ref Lb])) := same_new hT
    have pt3 := pt2.same sT
    have b3 : But p H (upd H2 T (.tup [.ref Kd, .ref Lb])) := but_trans b1 (but_trans b2 (but_of sT))
    have nK : Kd ≠ p := pt.at_ hKd
    have nL : Lb ≠ p := pt1.at_ hLb
    have eK3 := sT _ _ (b2 _ _ nK eK)
    have eL3 := sT _ _ eL
    generalize upd H2 T (.tup [.ref Kd, .ref Lb]) = H3 at pt3 b3 eK3 eL3 ⊢
    refine ⟨_, rfl, p, 2, n + 20 + 20, rfl, pt3, by omega, by decide, by decide, fun d1 H4 _ _ b4 pt4 => ⟨rfl, ?_⟩⟩
    refine ⟨_, rfl, p, 2, n + 20 + 20 + 1, rfl, pt4, by omega, by decide, by decide, fun d2 H5 _ _ b5 pt5 => ⟨rfl, ?_⟩⟩
    refine ⟨_, rfl, p, 2, n + 20 + 20 + 1 + 1, rfl, pt5, by omega, by decide, by decide, fun d3 H6 _ _ b6 pt6 => ⟨rfl, ?_⟩⟩
    obtain ⟨k0, k1, k2, k3, k4, rfl⟩ : ∃ k0 k1 k2 k3 k4, ks = [k0, k1, k2, k3, k4] := by
      match ks, knm.len with
      | [k0, k1, k2, k3, k4], _ => exact ⟨_, _, _, _, _, rfl⟩
    have q6 : But p H3 H6 := but_trans b4 (but_trans b5 b6)
    have eK6 := q6 _ _ nK eK3
    have eL6 := q6 _ _ nL eL3
    have bH : But p H H6 := but_trans b3 q6
    generalize hA : [k0, k1, k2, ("any" : Str), k0, k1] = aims
    refine ⟨_, _, _, rfl, fun σ H' => ∃ (o fx bk : Bool) (Am : Addr), σ = [some (.ref p), some (.ref Kd), some (.ref Lb), some (.bl o), some (.bl fx), some (.bl bk), some (.ref Am), none, none, none, none, none, none, none, none] ∧ H' Am = some (.lst (aims.map V.str)) ∧ Am ≠ p ∧ But p H6 H' ∧ Pot p (n + 43) H', ?_, ?_⟩
    · refine ⟨_, rfl, Kd, _, _, _, rfl, rfl, SqL.of eK6, atI_nat (j := 0) rfl, _, rfl, Kd, _, _, _, rfl, rfl, SqL.of eK6, atI_nat (j := 1) rfl, _, rfl, Kd, _, _, _, rfl, rfl, SqL.of eK6, atI_nat (j := 2) rfl, _, rfl, Kd, _, _, _, rfl, rfl, SqL.of eK6, atI_nat (j := 0) rfl, _, rfl, Kd, _, _, _, rfl, rfl, SqL.of eK6, atI_nat (j := 1) rfl, by show 6 ≤ sizeLine; decide, fun Am hAm => ?_⟩
      have sA : Same H6 (upd H6 Am (.lst [.str k0, .str k1, .str k2, .str "any", .str k0, .str k1])) := same_new hAm
      exact ⟨_, _, _, Am, rfl, by rw [← hA]; exact upd_same, pt6.at_ hAm, but_of sA, pt6.same sA⟩
    rintro _ Ha ⟨o, fx, bk, Am, rfl, eA, nA, ba, pa⟩
    have eKa := ba _ _ nK eK6
    have eLa := ba _ _ nL eL6
    have bHa : But p H Ha := but_trans bH ba
    obtain ⟨L, hL⟩ : ∃ L : Nat → Str, ∀ j, j < 26 → ls[j]? = some (L j) := ⟨fun j => ls.getD j "", fun j hj => by
      have : j < ls.length := by rw [lbl.len]; exact hj
      show ls[j]? = some (ls.getD j "")
      rw [List.getD_eq_getElem?_getD, List.getElem?_eq_getElem this]
      rfl⟩
    have hLv : ∀ j, j < 26 → (ls.map V.str)[j]? = some (V.str (L j)) := fun j hj => by
      rw [List.getElem?_map, hL j hj]
      rfl
    have a6 : aims.length = 6 := by rw [← hA]; rfl
    refine ⟨fun σ H' => ∃ (F1 : Addr) (us : List V) (f1 : List FV), σ = [some (.ref p), some (.ref Kd), some (.ref Lb), some (.bl o), some (.bl fx), some (.bl bk), some (.ref Am), some (.ref F1), none, none, none, none, none, none, none] ∧ H' F1 = some (.lst us) ∧ Ev (rLF K) H' us f1 ∧ f1.length ≤ 3 ∧ F1 ≠ p ∧ (∀ (j : Nat) x, f1[j]? = some x → Drawn aims (L j) (L (8 + j)) x) ∧ But p Ha H' ∧ Pot p (n + 60) H', ?_, ?_⟩
    · refine ⟨_, rfl, p, 3, _, rfl, pa, by omega, by decide, by decide, fun c Hb c0 c1 bb pb => ⟨_, _, rfl, rfl, _, rfl, by omega, by omega, fun D hD => ?_⟩⟩
      obtain ⟨cN, rfl⟩ := Int.eq_ofNat_of_zero_le c0
      refine lc_drawn (R := rLF K) rLF_stay (fun j x => Drawn aims (L j) (L (8 + j)) x) 5 (by omega) hD pb ?_ ?_
      · intro j H1 Rq hj bj pj kk
        have bq := but_trans bb bj
        have eL1 := bq _ _ nL eLa
        exact ⟨_, rfl, _, rfl, _, rfl, Lb, _, _, _, rfl, rfl, SqL.of eL1, at0 (hLv j (by omega)), _, rfl, _, rfl, _, _, rfl, rfl, Lb, _, _, _, rfl, rfl, SqL.of eL1, atP (c := 8) (hLv (8 + j) (by omega)), _, rfl,
          p, Am, _, L j, L (8 + j), aims, rfl, pj, by omega, bq _ _ nA eA, by omega, by omega, fun v x H2 dr r b2 p2 => kk v x H2 b2 p2 dr r⟩
      · intro H1 ys xs bj pj eD ev lx dr
        exact ⟨D, ys, xs, rfl, eD, ev, by omega, pb.at_ hD, dr, but_trans bb bj, pj.le (by omega)⟩
    rintro _ Hb ⟨F1, us1, f1, rfl, eF1, ev1, l1, nF1, dr1, bb, pb⟩
    have eKb := bb _ _ nK eKa
    have eLb := bb _ _ nL eLa
    refine ⟨_, rfl, Kd, _, _, _, rfl, rfl, SqL.of eKb, atI_nat (j := 0) rfl, _, rfl, _, rfl, by show 7 ≤ sizeLine; decide, fun T1 hT1 => ?_⟩
    have s1 : Same Hb (upd Hb T1 (.tup [.str k0, .non, .bl false, .bl o, .non, .bl false, .ref F1])) := same_new hT1
    have t1 : SqT K (upd Hb T1 (.tup [.str k0, .non, .bl false, .bl o, .non, .bl false, .ref F1])) T1 [.str k0, .non, .bl false, .bl o, .non, .bl false, .ref F1] := SqT.of upd_same
    have pc := pb.same s1
    have yc := Stay.kp (.of s1)
    have bHc : But p Ha (upd Hb T1 (.tup [.str k0, .non, .bl false, .bl o, .non, .bl false, .ref F1])) := but_trans bb (but_of s1)
    have eF1c := s1 _ _ eF1
    have ev1c := ev1.same (mLF K) s1
    have bbc := but_of (p := p) s1
    generalize upd Hb T1 (.tup [.str k0, .non, .bl false, .bl o, .non, .bl false, .ref F1]) = Hc at s1 t1 pc yc bHc eF1c ev1c bbc ⊢
    have eKc := bHc _ _ nK eKa
    have eLc := bHc _ _ nL eLa
    refine ⟨fun σ H' => ∃ (MD : Addr) (vs : List V) (f2 : List FV), σ = [some (.ref p), some (.ref Kd), some (.ref Lb), some (.bl o), some (.bl fx), some (.bl bk), some (.ref Am), some (.ref F1), some (.ref T1), some (.ref MD), none, none, none, none, none] ∧ H' MD = some (.lst vs) ∧ Ev (rLF K) H' vs f2 ∧ 1 ≤ f2.length ∧ f2.length ≤ 2 ∧ MD ≠ p ∧ (∀ (j : Nat) x, f2[j]? = some x → Marked (L j) x) ∧ But p Hc H' ∧ Pot p (n + 80) H', ?_, ?_⟩
    · refine ⟨_, rfl, p, 2, _, rfl, pc, by omega, by decide, by decide, fun c Hd c0 c1 bd pd => ⟨_, _, rfl, rfl, _, rfl, by omega, by omega, fun D hD => ?_⟩⟩
      obtain ⟨cN, rfl⟩ := Int.eq_ofNat_of_zero_le c0
      refine lc_drawn (R := rLF K) rLF_stay (fun j x => Marked (L j) x) 3 (by omega) hD pd ?_ ?_
      · intro j H1 Rq hj bj pj kk
        have bq := but_trans bd bj
        have eL1 := bq _ _ nL eLc
        refine ⟨_, rfl, _, rfl, Lb, _, _, _, rfl, rfl, SqL.of eL1, at0 (hLv j (by omega)), _, rfl, p, _, rfl, pj, by omega, fun d H2 d0 d1 b2 p2 => ⟨by show 0 ≤ sizeLine; decide, fun wt hwt => ⟨by show 5 ≤ sizeLine; decide, fun t ht => ?_⟩⟩⟩
        have sw := same_new (o := .tup []) hwt
        have st := same_new (o := .tup [.str (L j), .str "mark", .non, .int d, .ref wt]) ht
        exact kk (.ref t) ⟨L j, "mark", none, d, []⟩ _ (but_trans b2 (but_of (sw.trans st))) (p2.same (sw.trans st)) ⟨rfl, rfl, rfl, d0, d1, rfl⟩ ⟨t, wt, rfl, SqT.of upd_same, st.sqT (SqT.of upd_same)⟩
      · intro H1 ys xs bj pj eD ev lx dr
        exact ⟨D, ys, xs, rfl, eD, ev, by omega, by omega, pd.at_ hD, dr, but_trans bd bj, pj.le (by omega)⟩
    rintro _ Hd ⟨MD, us2, f2, rfl, eMD, ev2, l2a, l2b, nMD, mk2, bd, pd⟩
    refine ⟨fun σ H' => ∃ ch : Str, σ = [some (.ref p), some (.ref Kd), some (.ref Lb), some (.bl o), some (.bl fx), some (.bl bk), some (.ref Am), some (.ref F1), some (.ref T1), some (.ref MD), some (.str ch), none, none, none, none] ∧ ch ∈ f2.map (·.n) ∧ But p Hd H' ∧ Pot p (n + 81) H', ?_, ?_⟩
    · refine ⟨_, rfl, _, rfl, _, rfl, MD, us2, rfl, .inl (SqL.of eMD), p, _, _, rfl, pd, by omega, by have := ev2.1; omega, by have := ev2.1; omega, fun c He c0 c1 be pe => ?_⟩
      obtain ⟨cN, rfl⟩ := Int.eq_ofNat_of_zero_le c0
      have lc : cN < us2.length := by omega
      have hu := List.getElem?_eq_getElem lc
      obtain ⟨g, hg, t, wt, e, ht, hw⟩ := ev2.at hu
      have ye := pd.stay be
      refine ⟨MD, _, _, _, rfl, rfl, SqL.of (be _ _ nMD eMD), atI_nat (hu.trans (by rw [e])), t, _, _, _, rfl, rfl, ye.sqT ht, atI_nat (j := 0) rfl, ?_⟩
      exact ⟨g.n, rfl, List.mem_map_of_mem (List.mem_of_getElem? hg), be, pe⟩
    rintro _ He ⟨ch, rfl, mch, be, pe⟩
    have bHe : But p Hc He := but_trans bd be
    have bae : But p Ha He := but_trans bHc bHe
    refine ⟨_, rfl, Kd, _, _, _, rfl, rfl, SqL.of (bae _ _ nK eKa), atI_nat (j := 1) rfl, _, rfl, p, 2, _, rfl, pe, by omega, by decide, by decide, fun c Hf _ _ bf pf => ⟨rfl, _, rfl, _, rfl, _, rfl, by show 7 ≤ sizeLine; decide, fun T2 hT2 => ?_⟩⟩
    generalize decide (V.int c = V.int 0) = kf
    have s2 : Same Hf (upd Hf T2 (.tup [.str k1, .non, .bl kf, .bl false, .str ch, .bl bk, .ref MD])) := same_new hT2
    have t2 : SqT K (upd Hf T2 (.tup [.str k1, .non, .bl kf, .bl false, .str ch, .bl bk, .ref MD])) T2 [.str k1, .non, .bl kf, .bl false, .str ch, .bl bk, .ref MD] := SqT.of upd_same
    have pg := pf.same s2
    have bag : But p Ha (upd Hf T2 (.tup [.str k1, .non, .bl kf, .bl false, .str ch, .bl bk, .ref MD])) := but_trans bae (but_trans bf (but_of s2))
    have bcg : But p Hc (upd Hf T2 (.tup [.str k1, .non, .bl kf, .bl false, .str ch, .bl bk, .ref MD])) := but_trans bHe (but_trans bf (but_of s2))
    have bdg : But p Hd (upd Hf T2 (.tup [.str k1, .non, .bl kf, .bl false, .str ch, .bl bk, .ref MD])) := but_trans be (but_trans bf (but_of s2))
    generalize upd Hf T2 (.tup [.str k1, .non, .bl kf, .bl false, .str ch, .bl bk, .ref MD]) = Hg at t2 pg bag bcg bdg
    refine ⟨fun σ H' => ∃ (F3 : Addr) (us : List V) (f3 : List FV), σ = [some (.ref p), some (.ref Kd), some (.ref Lb), some (.bl o), some (.bl fx), some (.bl bk), some (.ref Am), some (.ref F3), some (.ref T1), some (.ref MD), some (.str ch), some (.ref T2), none, none, none] ∧ H' F3 = some (.lst us) ∧ Ev (rLF K) H' us f3 ∧ f3.length ≤ 2 ∧ F3 ≠ p ∧ (∀ (j : Nat) x, f3[j]? = some x → Drawn [k1] (L (1 + j)) (L (11 + j)) x) ∧ But p Hg H' ∧ Pot p (n + 100) H', ?_, ?_⟩
    · refine ⟨_, rfl, p, 3, _, rfl, pg, by omega, by decide, by decide, fun c Hh c0 c1 bh ph => ⟨_, rfl, by omega, by omega, fun D hD => ?_⟩⟩
      obtain ⟨cN, rfl⟩ := Int.eq_ofNat_of_zero_le c0
      refine lc_drawn (R := rLF K) rLF_stay (fun j x => Drawn [k1] (L (1 + j)) (L (11 + j)) x) 5 (by omega) hD ph ?_ ?_
      · intro j H1 Rq hj bj pj kk
        have bq := but_trans (but_trans bag bh) bj
        have eL1 := bq _ _ nL eLa
        refine ⟨_, rfl, _, rfl, _, rfl, _, _, rfl, rfl, Lb, _, _, _, rfl, rfl, SqL.of eL1, atP (c := 1) (hLv (1 + j) (by omega)), _, rfl, _, rfl, _, _, rfl, rfl, Lb, _, _, _, rfl, rfl, SqL.of eL1, atP (c := 11) (hLv (11 + j) (by omega)), _, rfl, Kd, _, _, _, rfl, rfl, SqL.of (bq _ _ nK eKa), atI_nat (j := 1) rfl, by show 1 ≤ sizeLine; decide, fun A1 hA1 => ?_⟩
        have sA := same_new (o := .lst [.str k1]) hA1
        exact ⟨p, A1, _, L (1 + j), L (11 + j), [k1], rfl, pj.same sA, by omega, upd_same, Nat.zero_lt_one, by show 1 ≤ 100; decide, fun v x H2 dr r b2 p2 => kk v x H2 (but_trans (but_of sA) b2) p2 dr r⟩
      · intro H1 ys xs bj pj eD ev lx dr
        exact ⟨D, ys, xs, rfl, eD, ev, by omega, ph.at_ hD, dr, but_trans bh bj, pj.le (by omega)⟩
    rintro _ Hh ⟨F3, us3, f3, rfl, eF3, ev3, l3, nF3, dr3, bh, ph⟩
    refine ⟨_, rfl, Kd, _, _, _, rfl, rfl, SqL.of (bh _ _ nK (bag _ _ nK eKa)), atI_nat (j := 2) rfl, _, rfl, _, rfl, by show 7 ≤ sizeLine; decide, fun T3 hT3 => ?_⟩
    have s3 : Same Hh (upd Hh T3 (.tup [.str k2, .non, .bl fx, .bl false, .non, .bl false, .ref F3])) := same_new hT3
    have t3 : SqT K (upd Hh T3 (.tup [.str k2, .non, .bl fx, .bl false, .non, .bl false, .ref F3])) T3 [.str k2, .non, .bl fx, .bl false, .non, .bl false, .ref F3] := SqT.of upd_same
    have pi := ph.same s3
    have bgi : But p Hg (upd Hh T3 (.tup [.str k2, .non, .bl fx, .bl false, .non, .bl false, .ref F3])) := but_trans bh (but_of s3)
    have ev3i := ev3.same (mLF K) s3
    have eF3i := s3 _ _ eF3
    generalize upd Hh T3 (.tup [.str k2, .non, .bl fx, .bl false, .non, .bl false, .ref F3]) = Hi at t3 pi bgi ev3i eF3i
    have evS : ∀ {H1 H2 : Hp} {us : List V} {fs : List FV}, Stay H1 H2 → Ev (rLF K) H1 us fs → Ev (rLF K) H2 us fs := fun {H1 H2 us fs} y e => ⟨e.1, fun i u c a d => rLF_stay y (e.2 i u c a d)⟩
    have yci := pc.stay (but_trans bcg bgi)
    have ygi := pg.stay bgi
    have x1 : ∀ {l : Addr}, Hi l = none → rLKn K l Hi (.ref T1) ⟨k0, f1, none, false, o, none, false⟩ := fun {l} hl => ⟨T1, F1, us1, rfl, yci.sqT t1, bgi _ _ nF1 (bcg _ _ nF1 eF1c), evS yci ev1c, ne_of_none (bgi _ _ nF1 (bcg _ _ nF1 eF1c)) hl⟩
    have x2 : ∀ {l : Addr}, Hi l = none → rLKn K l Hi (.ref T2) ⟨k1, f2, none, kf, false, some ch, bk⟩ := fun {l} hl => ⟨T2, MD, us2, rfl, ygi.sqT t2, bgi _ _ nMD (bdg _ _ nMD eMD), evS (pd.stay (but_trans bdg bgi)) ev2, ne_of_none (bgi _ _ nMD (bdg _ _ nMD eMD)) hl⟩
    have x3 : ∀ {l : Addr}, Hi l = none → rLKn K l Hi (.ref T3) ⟨k2, f3, none, fx, false, none, false⟩ := fun {l} hl => ⟨T3, F3, us3, rfl, t3, eF3i, ev3i, ne_of_none eF3i hl⟩
    refine ⟨fun σ H' => ∃ (R : Addr) (rot : Nat), σ = [some (.ref p), some (.ref Kd), some (.ref Lb), some (.bl o), some (.bl fx), some (.bl bk), some (.ref Am), some (.ref F3), some (.ref T1), some (.ref MD), some (.str ch), some (.ref T2), some (.ref T3), some (.ref R), none] ∧ R ≠ p ∧ Hi R = none ∧ RowsN K H' R ((Plan.mk k0 k1 k2 k3 o fx kf bk ch rot).three f1 f2 f3) ∧ But p Hi H' ∧ Pot p (n + 101) H', ?_, ?_⟩
    · refine ⟨_, rfl, _, rfl, _, rfl, by show 3 ≤ sizeLine; decide, fun A1 hA1 => ⟨_, rfl, _, rfl, _, rfl, by show 3 ≤ sizeLine; decide, fun A2 hA2 => ⟨_, rfl, _, rfl, _, rfl, by show 3 ≤ sizeLine; decide, fun A3 hA3 => ⟨by show 3 ≤ sizeLine; decide, fun A4 hA4 => ?_⟩⟩⟩⟩
      have q1 := same_new (o := .lst [.ref T1, .ref T2, .ref T3]) hA1
      have q2 := same_new (o := .lst [.ref T2, .ref T3, .ref T1]) hA2
      have q3 := same_new (o := .lst [.ref T3, .ref T1, .ref T2]) hA3
      have q4 := same_new (o := .lst [.ref A1, .ref A2, .ref A3]) hA4
      have e1 := q4 _ _ (q3 _ _ (q2 _ _ (upd_same (a := A1) (H := Hi) (o := .lst [.ref T1, .ref T2, .ref T3]))))
      have e2 := q4 _ _ (q3 _ _ (upd_same (a := A2) (H := upd Hi A1 (.lst [.ref T1, .ref T2, .ref T3])) (o := .lst [.ref T2, .ref T3, .ref T1])))
      have e3 := q4 _ _ (upd_same (a := A3) (H := upd (upd Hi A1 (.lst [.ref T1, .ref T2, .ref T3])) A2 (.lst [.ref T2, .ref T3, .ref T1])) (o := .lst [.ref T3, .ref T1, .ref T2]))
      have pj := pi.same (q1.trans (q2.trans (q3.trans q4)))
      have bj := but_of (p := p) (q1.trans (q2.trans (q3.trans q4)))
      have n1 : A1 ≠ p := pi.at_ hA1
      have n2 : A2 ≠ p := (pi.same q1).at_ hA2
      have n3 : A3 ≠ p := (pi.same (q1.trans q2)).at_ hA3
      have n4 : A4 ≠ p := (pi.same (q1.trans (q2.trans q3))).at_ hA4
      refine ⟨_, rfl, p, 3, _, rfl, pj, by omega, by decide, by decide, fun c Hj c0 c1 bk2 pk => ?_⟩
      obtain ⟨cN, rfl⟩ := Int.eq_ofNat_of_zero_le c0
      have e4 := bk2 _ _ n4 (upd_same (a := A4) (o := .lst [.ref A1, .ref A2, .ref A3]))
      have bij := but_trans bj bk2
      have g1 := hA1
      have g2 := q1.free hA2
      have g3 := (q1.trans q2).free hA3
      have z1 : ∀ {l : Addr}, Hi l = none → _ := fun {l} hl => (x1 (l := l) hl).but pi bij
      have z2 : ∀ {l : Addr}, Hi l = none → _ := fun {l} hl => (x2 (l := l) hl).but pi bij
      have z3 : ∀ {l : Addr}, Hi l = none → _ := fun {l} hl => (x3 (l := l) hl).but pi bij
      have : cN = 0 ∨ cN = 1 ∨ cN = 2 := by omega
      rcases this with rfl | rfl | rfl
      · refine ⟨A4, _, _, _, rfl, rfl, SqL.of e4, atI_nat (j := 0) rfl, A1, 0, rfl, n1, g1, ⟨_, bk2 _ _ n1 e1, rfl, ?_⟩, bij, pk⟩
        exact fun i v x h1 h2 => match i, h1, h2 with | 0, h1, h2 => by cases h1; cases h2; exact z1 g1 | 1, h1, h2 => by cases h1; cases h2; exact z2 g1 | 2, h1, h2 => by cases h1; cases h2; exact z3 g1
      · refine ⟨A4, _, _, _, rfl, rfl, SqL.of e4, atI_nat (j := 1) rfl, A2, 1, rfl, n2, g2, ⟨_, bk2 _ _ n2 e2, rfl, ?_⟩, bij, pk⟩
        exact fun i v x h1 h2 => match i, h1, h2 with | 0, h1, h2 => by cases h1; cases h2; exact z2 g2 | 1, h1, h2 => by cases h1; cases h2; exact z3 g2 | 2, h1, h2 => by cases h1; cases h2; exact z1 g2
      · refine ⟨A4, _, _, _, rfl, rfl, SqL.of e4, atI_nat (j := 2) rfl, A3, 2, rfl, n3, g3, ⟨_, bk2 _ _ n3 e3, rfl, ?_⟩, bij, pk⟩
        exact fun i v x h1 h2 => match i, h1, h2 with | 0, h1, h2 => by cases h1; cases h2; exact z3 g3 | 1, h1, h2 => by cases h1; cases h2; exact z1 g3 | 2, h1, h2 => by cases h1; cases h2; exact z2 g3
    rintro _ Hj ⟨R, rot, rfl, nR, fR, rows3, bij, pj⟩
    generalize hpl : Plan.mk k0 k1 k2 k3 o fx kf bk ch rot = pl at rows3
    have haj : But p Ha Hj := but_trans bag (but_trans bgi bij)
    have eKj := haj _ _ nK eKa
    have eLj := haj _ _ nL eLa
    have bHj : But p H Hj := but_trans bHa haj
    have free : H R = none := but_free (but_trans bHa (but_trans bag bgi)) pi fR
    have nKR : Kd ≠ R := ne_of_none ((but_trans bag bgi) _ _ nK eKa) fR
    have nLR : Lb ≠ R := ne_of_none ((but_trans bag bgi) _ _ nL eLa) fR
    refine ⟨fun σ H' => ∃ (F4 : Addr) (f4 : List FV), σ = [some (.ref p), some (.ref Kd), some (.ref Lb), some (.bl o), some (.bl fx), some (.bl bk), some (.ref Am), some (.ref F4), some (.ref T1), some (.ref MD), some (.str ch), some (.ref T2), some (.ref T3), some (.ref R), none] ∧ RowsN K H' R (pl.rows f1 f2 f3 f4) ∧ f4.length ≤ 1 ∧ (∀ (j : Nat) x, f4[j]? = some x → Drawn aims (L (4 + j)) (L (14 + j)) x) ∧ H' Kd = some (.lst ([k0, k1, k2, k3, k4].map V.str)) ∧ H' Lb = some (.lst (ls.map V.str)) ∧ But p H H' ∧ Pot p (n + 120) H', ?_, ?_⟩
    · refine ⟨_, rfl, _, rfl, ?_⟩
      cases o with
      | false =>
        refine iteF ⟨F3, [], rfl, ?_, by decide, by simp, eKj, eLj, bHj, pj.le (by omega)⟩
        have : pl.rows f1 f2 f3 [] = pl.three f1 f2 f3 := by
          rw [← hpl]
          exact List.append_nil _
        rw [this]
        exact rows3
      | true =>
        refine iteT ⟨_, rfl, p, 2, _, rfl, pj, by omega, by decide, by decide, fun c Hk c0 c1 bk3 pk => ⟨_, rfl, by omega, by omega, fun D hD => ?_⟩⟩
        obtain ⟨cN, rfl⟩ := Int.eq_ofNat_of_zero_le c0
        refine lc_drawn (R := rLF K) rLF_stay (fun j x => Drawn aims (L (4 + j)) (L (14 + j)) x) 5 (by omega) hD pk ?_ ?_
        · intro j H1 Rq hj bj pj kk
          have bq := but_trans (but_trans haj bk3) bj
          have eL1 := bq _ _ nL eLa
          exact ⟨_, rfl, _, rfl, _, rfl, _, _, rfl, rfl, Lb, _, _, _, rfl, rfl, SqL.of eL1, atP (c := 4) (hLv (4 + j) (by omega)), _, rfl, _, rfl, _, _, rfl, rfl, Lb, _, _, _, rfl, rfl, SqL.of eL1, atP (c := 14) (hLv (14 + j) (by omega)), _, rfl,
            p, Am, _, L (4 + j), L (14 + j), aims, rfl, pj, by omega, bq _ _ nA eA, by omega, by omega, fun v x H2 dr r b2 p2 => kk v x H2 b2 p2 dr r⟩
        · intro Hl ys f4 bl pl2 eD ev lx dr
          have bjl := but_trans bk3 bl
          have eK9 := bjl _ _ nK (haj _ _ nK eKa)
          have rows9 := RowsN.but pj nR rows3 bjl
          obtain ⟨us9, eR, _⟩ := id rows9
          refine ⟨_, rfl, .inl ⟨rfl, _, SqL.of eR⟩, ?_⟩
          refine ⟨_, rfl, Kd, _, _, _, rfl, rfl, SqL.of eK9, atI_nat (j := 3) rfl, _, rfl, Kd, _, _, _, rfl, rfl, SqL.of eK9, atI_nat (j := 0) rfl, _, rfl, by show 7 ≤ sizeLine; decide, fun T4 hT4 => ?_⟩
          have s4 := same_new (o := .tup [.str k3, .str k0, .bl false, .bl false, .non, .bl false, .ref D]) hT4
          have ne : D ≠ R := by
            obtain ⟨u0, e0, _⟩ := id rows3
            intro e
            have := bk3 _ _ nR e0
            rw [← e, hD] at this
            cases this
          have row : rLKn K R (upd Hl T4 (.tup [.str k3, .str k0, .bl false, .bl false, .non, .bl false, .ref D])) (.ref T4) (pl.heir f4) := ⟨T4, D, ys, rfl, by rw [← hpl]; exact SqT.of upd_same, s4 _ _ eD, ev.same (mLF K) s4, ne⟩
          obtain ⟨l9, rows10⟩ := (rows9.same s4).snoc (s4 _ _ eR) row
          rw [three_len] at l9
          have e10 : pl.three f1 f2 f3 ++ [pl.heir f4] = pl.rows f1 f2 f3 f4 := by rw [← hpl]; rfl
          rw [e10] at rows10
          refine ⟨R, us9, .ref T4, rfl, rfl, s4 _ _ eR, by rw [l9]; decide, D, f4, rfl, rows10, by omega, dr, ?_, ?_, fun b o nb e => ?_, ?_⟩
          · rw [upd_ne nKR]
            exact s4 _ _ eK9
          · rw [upd_ne nLR]
            exact s4 _ _ (bjl _ _ nL eLj)
          · rw [upd_ne (ne_of_none e free)]
            exact s4 _ _ (bjl _ _ nb (bHj _ _ nb e))
          · exact ((pl2.same s4).upd (Ne.symm nR)).le (by omega)
    rintro _ Hm ⟨F4, f4, rfl, rows4, l4, dr4, eKm, eLm, bHm, pm⟩
    refine ⟨_, rfl, _, rfl, Kd, _, _, _, rfl, rfl, SqL.of eKm, atI_nat (j := 0) rfl, _, rfl, 16, rfl, Lb, _, rfl, SqL.of eLm, fun D hD => ?_⟩
    have s5 := same_new (o := .lst (cutV (ls.map V.str) (some 16) none)) hD
    refine ⟨_, rfl, Kd, _, _, _, rfl, rfl, SqL.of (s5 _ _ eKm), atI_nat (j := 4) rfl, by show 4 ≤ sizeLine; decide, fun T hT => ?_⟩
    have s6 := same_new (o := .tup [.ref R, .str k0, .ref D, .str k4]) hT
    have e16 : cutV (ls.map V.str) (some 16) none = (ls.drop 16).map V.str := by
      rw [List.map_drop]
      exact cut_hi (k := 16) (by rw [List.length_map, lbl.len]; decide)
    have sh : Sheet pl (ls.drop 16) f1 f2 f3 f4 := by
      rw [← hpl]
      exact drawn_sheet knm lbl hL hA l1 dr1 l2b mk2 mch l3 dr3 l4 dr4
    have s56 := s5.trans s6
    refine k T R D pl f1 f2 f3 f4 (ls.drop 16) k4 _ (by rw [← hpl]; exact upd_same) (rows4.rows.same s56) nR (by rw [← e16]; exact s6 _ _ upd_same) (pm.at_ hD) sh (by rw [List.length_drop, lbl.len]) (lbl.nd.sublist (List.drop_sublist _ _)) (fun x hx => lbl.ok x (List.mem_of_mem_drop hx)) (but_trans bHm (but_of s56)) ((pm.same s56).le (by omega))
end
end Wh
set_option Elab.async false
set_option linter.all false
set_option maxRecDepth 100000
set_option maxHeartbeats 4000000
namespace Wh
open PySem PySem.Spec PyProof.Rows L2
open Wp hiding Same.refl Same.trans same_new boot_all
open W8 (Ev Rp Kp Mono same_new take_snoc rW rB mW mB ev_words ev_words_eq ev_bools_eq lc_sieve)
/-! ## one field of the other edition behind another -/
structure CI (N : List Str) (x : KD) (j : Nat) (gs : List FV) : Prop where
  len : gs.length ≤ j
  right : ∀ g ∈ gs, RightF g
  like : ∀ g ∈ gs, slotB g = true → ∃ o ∈ x.fs, slotB o = true ∧ o.t = g.t
  frm : ∀ g ∈ gs, From N x.fs g.n ∧ ∀ w ∈ g.w, From N x.fs w
  key : ∀ k, x.k = some k → k ∈ (x.fs.take j).map (·.n) → k ∈ gs.map (·.n)
theorem CI.keep {N : List Str} {x : KD} {j : Nat} {gs : List FV} {g0 : FV} (h : CI N x j gs) (h0 : x.fs[j]? = some g0) (ne : x.k ≠ some g0.n) : CI N x (j + 1) gs := by
  refine ⟨by have := h.len; omega, h.right, h.like, h.frm, fun k ek mk => ?_⟩
  rw [take_snoc h0, List.map_append, List.mem_append] at mk
  rcases mk with mk | mk
  · exact h.key k ek mk
  · rw [List.mem_singleton.mp mk] at ek
    exact absurd ek ne
theorem CI.add {N : List Str} {x : KD} {j : Nat} {gs : List FV} {g0 g : FV} (h : CI N x j gs) (h0 : x.fs[j]? = some g0) (r : RightF g) (lk : slotB g = true → ∃ o ∈ x.fs, slotB o = true ∧ o.t = g.t) (fr : From N x.fs g.n ∧ ∀ w ∈ g.w, From N x.fs w) (ne : x.k = some g0.n → g.n = g0.n) : CI N x (j + 1) (gs ++ [g]) := by
  refine ⟨by have := h.len; rw [List.length_append]; show gs.length + 1 ≤ _; omega, ?_, ?_, ?_, fun k ek mk => ?_⟩
  · intro o mo
    rcases List.mem_append.mp mo with mo | mo
    · exact h.right o mo
    · rw [List.mem_singleton.mp mo]; exact r
  · intro o mo
    rcases List.mem_append.mp mo with mo | mo
    · exact h.like o mo
    · rw [List.mem_singleton.mp mo]; exact lk
  · intro o mo
    rcases List.mem_append.mp mo with mo | mo
    · exact h.frm o mo
    · rw [List.mem_singleton.mp mo]; exact fr
  · rw [List.map_append, List.mem_append]
    rw [take_snoc h0, List.map_append, List.mem_append] at mk
    rcases mk with mk | mk
    · exact .inl (h.key k ek mk)
    · have e : k = g0.n := List.mem_singleton.mp mk
      rw [e] at ek
      exact .inr (by rw [e, ← ne ek]; exact List.mem_singleton.mpr rfl)
theorem CI.rev {N : List Str} {x : KD} {j : Nat} {gs : List FV} (h : CI N x j gs) : CI N x j gs.reverse :=
  ⟨by rw [List.length_reverse]; exact h.len, fun g mg => h.right g (List.mem_reverse.mp mg), fun g mg => h.like g (List.mem_reverse.mp mg), fun g mg => h.frm g (List.mem_reverse.mp mg), fun k ek mk => by rw [List.map_reverse, List.mem_reverse]; exact h.key k ek mk⟩
theorem CI.more {N : List Str} {x : KD} {j : Nat} {gs : List FV} {g : FV} (h : CI N x j gs) (l : gs.length < j) (r : RightF g) (lk : slotB g = false) (fr : From N x.fs g.n ∧ ∀ w ∈ g.w, From N x.fs w) : CI N x j (gs ++ [g]) := by
  refine ⟨by rw [List.length_append]; exact l, fun o mo => ?_, fun o mo so => ?_, fun o mo => ?_, fun k ek mk => by rw [List.map_append]; exact List.mem_append_left _ (h.key k ek mk)⟩
  · rcases List.mem_append.mp mo with mo | mo
    · exact h.right o mo
    · rw [List.mem_singleton.mp mo]; exact r
  · rcases List.mem_append.mp mo with mo | mo
    · exact h.like o mo so
    · rw [List.mem_singleton.mp mo, lk] at so; cases so
  · rcases List.mem_append.mp mo with mo | mo
    · exact h.frm o mo
    · rw [List.mem_singleton.mp mo]; exact fr
theorem ev_rev {α : Type} {R : Rp α} {H : Hp} {us : List V} {gs : List α} (e : Ev R H us gs) : Ev R H us.reverse gs.reverse := by
  refine ⟨by rw [List.length_reverse, List.length_reverse, e.1], fun i u c h1 h2 => ?_⟩
  have hi : i < us.length := by
    have := (List.getElem?_eq_some_iff.mp h1).1
    rwa [List.length_reverse] at this
  rw [List.getElem?_reverse hi] at h1
  rw [List.getElem?_reverse (by rw [← e.1]; exact hi), ← e.1] at h2
  exact e.2 _ u c h1 h2
theorem from_n {N : List Str} {fs : List FV} {g : FV} (m : g ∈ fs) : From N fs g.n := .inr ⟨g, m, .inl rfl⟩
theorem from_w {N : List Str} {fs : List FV} {g : FV} (m : g ∈ fs) : ∀ w ∈ g.w, From N fs w := fun w h => .inr ⟨g, m, .inr h⟩
/-! ## the lists found and spare -/
structure CfH (K : PySem.W.Frag) (p : Addr) (H : Hp) (Fd Sp : Addr) (H' : Hp) (us : List V) (gs : List FV) (rest : List Str) (m : Nat) : Prop where
  f : H' Fd = some (.lst us)
  ev : Ev (rLF K) H' us gs
  s : H' Sp = some (.lst (rest.map V.str))
  b : But p H H'
  pt : Pot p m H'
section
variable {K : PySem.W.Frag} {p : Addr} {H : Hp} {Fd Sp : Addr} {H1 H2 : Hp} {us : List V} {gs : List FV} {rest : List Str} {m : Nat}
theorem CfH.same (h : CfH K p H Fd Sp H1 us gs rest m) (s : Same H1 H2) : CfH K p H Fd Sp H2 us gs rest m := ⟨s _ _ h.f, h.ev.same (mLF K) s, s _ _ h.s, but_trans h.b (but_of s), h.pt.same s⟩
theorem CfH.but {m' : Nat} (nF : Fd ≠ p) (nS : Sp ≠ p) (h : CfH K p H Fd Sp H1 us gs rest m) (b : But p H1 H2) (pt : Pot p m' H2) : CfH K p H Fd Sp H2 us gs rest m' := ⟨b _ _ nF h.f, Ev.stay h.ev (h.pt.stay b), b _ _ nS h.s, but_trans h.b b, pt⟩
theorem CfH.le {m' : Nat} (h : CfH K p H Fd Sp H1 us gs rest m) (l : m ≤ m') : CfH K p H Fd Sp H1 us gs rest m' := ⟨h.f, h.ev, h.s, h.b, h.pt.le l⟩
theorem CfH.app {v : V} {g : FV} (nF : Fd ≠ p) (hF : H Fd = none) (ne : Fd ≠ Sp) (h : CfH K p H Fd Sp H1 us gs rest m) (r : rLF K H1 v g) : CfH K p H Fd Sp (upd H1 Fd (.lst (us ++ [v]))) (us ++ [v]) (gs ++ [g]) rest m := by
  have y := stay_lst (ys := us ++ [v]) h.f
  refine ⟨upd_same, (Ev.stay h.ev y).append (Ev.cons (rLF_stay y r) Ev.nil), by rw [upd_ne (Ne.symm ne)]; exact h.s, fun b o nb e => ?_, h.pt.upd (Ne.symm nF)⟩
  rw [upd_ne (ne_of_none e hF)]
  exact h.b _ _ nb e
theorem CfH.pop {s0 : Str} (nS : Sp ≠ p) (hS : H Sp = none) (ne : Fd ≠ Sp) (h : CfH K p H Fd Sp H1 us gs (s0 :: rest) m) : CfH K p H Fd Sp (upd H1 Sp (.lst (((s0 :: rest).map V.str).eraseIdx 0))) us gs rest m := by
  have y := stay_lst (ys := ((s0 :: rest).map V.str).eraseIdx 0) h.s
  refine ⟨by rw [upd_ne ne]; exact h.f, Ev.stay h.ev y, upd_same, fun b o nb e => ?_, h.pt.upd (Ne.symm nS)⟩
  rw [upd_ne (ne_of_none e hS)]
  exact h.b _ _ nb e
end
theorem pop_at (n : Nat) (h : 0 < n) : seqIndex? 0 n = some 0 := by
  unfold seqIndex?
  simp [h]
section
variable {P : Program} {w : World} {K : PySem.W.Frag} {mg : Str → Option Value} {base : Heap}
abbrev sCf : Stmt := top 69
abbrev nCf : List Str := ["_law_pot_here", "_law_row_here", "_law_names", "_law_found", "_law_spare", "_law_name", "_law_mode", "_law_aim", "_law_preset_here", "_law_former", "_law_road", "_law_label", "_law_at", "_law_one"]
theorem scCf : FnScope nCf ["_law_pot_here", "_law_row_here", "_law_names"] (defScope sCf) := ⟨rfl, rfl, rfl, by decide +kernel, rfl, by decide +kernel, by decide +kernel⟩
def spCf (K : PySem.W.Frag) : Sp := fun vs H Q _ => ∃ (p q : Addr) (n : Nat) (v : V) (x : KD) (N : List Str), vs = [.ref p, v, .ref q] ∧ Pot p n H ∧ n < 50000 ∧ rLK K H v x ∧ H q = some (.lst (N.map V.str)) ∧ q ≠ p ∧ N.length = 5 ∧ N.Nodup ∧ (∀ s ∈ N, isFieldName (.str s) = true) ∧ x.fs.length ≤ 3 ∧ (∀ g ∈ x.fs, RightF g) ∧ (∀ g ∈ x.fs, ∀ s ∈ N, s ≠ g.n ∧ s ∉ g.w) ∧
  ∀ (D : Addr) (us : List V) (gs : List FV) H', H D = none → H' D = some (.lst us) → Ev (rLF K) H' us gs → Chg N x gs → But p H H' → Pot p (n + 40) H' → Q (.ref D) H'
theorem ok_Cf {f f1 f2 : Addr} {fd fd1 fd2 : FuncData} (F : Fun K "_law_changed_fields" "_law_changed_fields" sCf f fd) (B : Bn mg) (DR : Known P w K mg base CX0 1 "_law_draw" ["_law_pot_here", "_law_many"] spDr f1 fd1) (PS_ : Known P w K mg base CX0 2 "_law_preset" ["_law_pot_here"] spPs f2 fd2) :
    FnOk P w K mg base CX0 4 f fd ["_law_pot_here", "_law_row_here", "_law_names"] (spCf K) := by
  refine F.ok scCf (fun vs H Q E h => ?_) (fun cdv A outer s H vs Q E hr h => ?_)
  · obtain ⟨p, q, n, v, x, N, rfl, _⟩ := h
    rfl
  · obtain ⟨p, q, n, v, x, N, rfl, pt, n1, rx, hq, nq, N5, Nnd, Nok, x3, xr, xn, k⟩ := h
    refine ⟨_, 
      (pss_cons (ps_asg (pe_tup (pa_cons (pe_lst pa_nil) (pa_cons (pe_callTy call_list_of (by rfl) B.list PyProof.Rows.boot_list (pa_cons (pv 2) pa_nil)) pa_nil))) (pg_tup rfl (pgs_cons (pg_name (i := 3) scCf.nd rfl (Or.inr rfl)) (pgs_cons (pg_name (i := 4) scCf.nd rfl (Or.inl rfl)) pgs_nil))))
      (pss_cut (ps_for PassesOwn.never rfl (pi_list (pe_ix ix_tup (pv 1) pe_int (fun _ _ => rfl))) (pg_tup rfl (pgs_cons (pg_name (i := 5) scCf.nd rfl (Or.inl rfl)) (pgs_cons (pg_name (i := 6) scCf.nd rfl (Or.inl rfl)) (pgs_cons (pg_name (i := 7) scCf.nd rfl (Or.inl rfl)) (pgs_cons (pg_name (i := 8) scCf.nd rfl (Or.inl rfl)) (pgs_cons (pg_name (i := 9) scCf.nd rfl (Or.inl rfl)) pgs_nil)))))) 
        (pss_cons (ps_set (i := 10) scCf.nd rfl (.inl rfl) (pe_call DR.ok (hr.mono (by decide)) rfl DR.mg DR.kp DR.bi .nil pass0 (pa_cons (pv 0) (pa_cons pe_int pa_nil))))
        (pss_one (ps_if (PW.pt (pw_or (pt_cmpR op_eq (pv 5) (pe_ix ix_tup (pv 1) pe_int (fun _ _ => rfl)) (nomark _)) (pw_or1 (pt_cmpR op_gt (pv 10) pe_int (nomark _))))) 
          (pss_one (ps_expr (pe_bm PySem.F.plainAttrs_list PySem.F.slot_list_append PySem.F.type_list_append mt_append (pv 3) (pa_cons (pe_tup (pa_cons (pv 5) (pa_cons (pv 6) (pa_cons (pv 7) (pa_cons (pv 8) (pa_cons (pv 9) pa_nil)))))) pa_nil)))) 
          (pss_one (ps_if (pt_cmpR op_eq (pv 10) pe_int (nomark _)) 
            (pss_cons (ps_set (i := 11) scCf.nd rfl (.inl rfl) (pe_ifExp (pt_cmpR (op_neD hr.units) (pv 9) (pe_tup pa_nil) (nomark _)) (pe_ix ix_tup (pv 9) pe_int (fun _ _ => rfl)) (pe_bm PySem.F.plainAttrs_list PySem.F.slot_list_pop PySem.F.type_list_pop mt_popAt (pv 4) (pa_cons pe_int pa_nil))))
            (pss_one (ps_expr (pe_bm PySem.F.plainAttrs_list PySem.F.slot_list_append PySem.F.type_list_append mt_append (pv 3) (pa_cons (pe_tup (pa_cons (pv 11) (pa_cons (pv 6) (pa_cons (pv 7) (pa_cons (pv 8) (pa_cons (pe_tup (pa_cons (pv 5) pa_nil)) pa_nil)))))) pa_nil))))) 
            (pss_one (ps_if (pt_cmpR op_eq (pv 10) pe_int (nomark _)) 
              (pss_one (ps_expr (pe_bm PySem.F.plainAttrs_list PySem.F.slot_list_append PySem.F.type_list_append mt_append (pv 3) (pa_cons (pe_tup (pa_cons (pv 5) (pa_cons pe_str (pa_cons pe_non (pa_cons (pe_call PS_.ok (hr.mono (by decide)) rfl PS_.mg PS_.kp PS_.bi .nil pass0 (pa_cons (pv 0) pa_nil)) (pa_cons (pv 9) pa_nil)))))) pa_nil)))) 
              (pss_one (ps_if (pt_cmpR op_eq (pv 10) pe_int (nomark _)) 
                (pss_one (ps_expr (pe_bm PySem.F.plainAttrs_list PySem.F.slot_list_append PySem.F.type_list_append mt_append (pv 3) (pa_cons (pe_tup (pa_cons (pe_bm PySem.F.plainAttrs_list PySem.F.slot_list_pop PySem.F.type_list_pop mt_popAt (pv 4) (pa_cons pe_int pa_nil)) (pa_cons (pv 6) (pa_cons (pv 7) (pa_cons (pv 8) (pa_cons (pe_tup (pa_cons (pe_ix ix_list (pv 4) pe_int (fun _ _ => rfl)) (pa_cons (pv 5) pa_nil))) pa_nil)))))) pa_nil)))) 
                (pss_one (ps_if (pt_cmpR op_eq (pv 10) pe_int (nomark _)) 
                  (pss_one (ps_expr (pe_bm PySem.F.plainAttrs_list PySem.F.slot_list_append PySem.F.type_list_append mt_append (pv 3) (pa_cons (pe_tup (pa_cons (pv 5) (pa_cons (pv 6) (pa_cons (pv 7) (pa_cons (pe_ifExp (pt_cmpR op_eq (pv 6) pe_str (nomark _)) (pe_call PS_.ok (hr.mono (by decide)) rfl PS_.mg PS_.kp PS_.bi .nil pass0 (pa_cons (pv 0) pa_nil)) pe_int) (pa_cons (pv 9) pa_nil)))))) pa_nil)))) pss_nil))))))))))))
      (pss_cut (ps_if (pt_cmpR op_eq (pe_call DR.ok (hr.mono (by decide)) rfl DR.mg DR.kp DR.bi .nil pass0 (pa_cons (pv 0) (pa_cons pe_int pa_nil))) pe_int (nomark _)) 
        (pss_one (ps_set (i := 3) scCf.nd rfl (.inr rfl) (pe_revL (pv 3)))) pss_nil)
      (pss_cut (ps_if (PW.pt (pw_and (pt_cmpR op_lt (pe_callB call_len_seq (by rfl) B.len PySem.boot_len (pa_cons (pv 3) pa_nil)) pe_int (nomark _)) (pw_and1 (pt_cmpR op_eq (pe_call DR.ok (hr.mono (by decide)) rfl DR.mg DR.kp DR.bi .nil pass0 (pa_cons (pv 0) (pa_cons pe_int pa_nil))) pe_int (nomark _))))) 
        (pss_one (ps_expr (pe_bm PySem.F.plainAttrs_list PySem.F.slot_list_append PySem.F.type_list_append mt_append (pv 3) (pa_cons (pe_tup (pa_cons (pe_bm PySem.F.plainAttrs_list PySem.F.slot_list_pop PySem.F.type_list_pop mt_popAt (pv 4) (pa_cons pe_int pa_nil)) (pa_cons pe_str (pa_cons pe_non (pa_cons (pe_call PS_.ok (hr.mono (by decide)) rfl PS_.mg PS_.kp PS_.bi .nil pass0 (pa_cons (pv 0) pa_nil)) (pa_cons (pe_tup pa_nil) pa_nil)))))) pa_nil)))) pss_nil)
      (pss_one (ps_ret (pe_lc (own := [("_law_at", 12)]) (g := gName 12) (te := tOp (rIxL K) (tVar 3) (tVar 12)) (tt := tTest (tOp (rIn K true) (tOp (rIxT K) (tOp (rIxL K) (tVar 3) (tVar 12)) (tC (.int 0))) (tLc (iList K (tSl (rSlL K) (tVar 3) tNoPart (tPart (tVar 12)))) (gName 13) tYes (tOp (rIxT K) (tVar 13) (tC (.int 0))) [13]))) rfl scCf.nd (pi_range1 rfl B.range (pa_cons (pe_callB call_len_seq (by rfl) B.len PySem.boot_len (pa_cons (pv 3) pa_nil)) pa_nil)) (blkOk_by (N := nCf) (sc := defScope sCf) (by decide +kernel)) (fun _ _ _ _ _ => pg_name (i := 12) scCf.nd rfl (Or.inl rfl)) (fun _ _ _ _ _ => pts_one (pt_cmpR (show OpR _ (compareOp .NotIn) (rIn K true) from op_notIn_seq) (pe_ix ix_tup (pe_ix ix_list (pv 3) (pv 12) (fun _ _ => rfl)) pe_int (fun _ _ => rfl)) (pe_lc (own := [("_law_one", 13)]) (g := gName 13) (tt := tYes) (te := tOp (rIxT K) (tVar 13) (tC (.int 0))) rfl scCf.nd (pi_list (pe_slice sl_list (pv 3) po_none (po_some (pv 12)))) (by exact blkOk_in (N := nCf) (defScope sCf) rfl (by decide +kernel)) (fun _ _ _ _ _ => pg_name (i := 13) scCf.nd rfl (Or.inl rfl)) (fun _ _ _ _ _ => pts_nil) (fun _ _ _ _ _ => (pe_ix ix_tup (pv 13) pe_int (fun _ _ => rfl)))) (by rfl))) (fun _ _ _ _ _ => (pe_ix ix_list (pv 3) (pv 12) (fun _ _ => rfl)))))))))), ?_⟩
    obtain ⟨t, lf, ws, rfl, ht, hlf, ew⟩ := rx
    refine ⟨by show 0 ≤ sizeLine; decide, fun Fd hFd => ⟨_, rfl, q, N.map V.str, rfl, .inl (SqL.of (same_new hFd _ _ hq)), fun Sp hSp => ⟨by show 2 ≤ sizeLine; decide, fun T hT => ?_⟩⟩⟩
    refine ⟨T, _, rfl, SqT.of upd_same, rfl, _, _, rfl, _, _, rfl, rfl, ?_⟩
    have s1 := same_new (o := .lst []) hFd
    have s2 := same_new (o := .lst (N.map V.str)) hSp
    have s3 := same_new (o := .tup [.ref Fd, .ref Sp]) hT
    have ne : Fd ≠ Sp := ne_of_none upd_same hSp
    have nF : Fd ≠ p := pt.at_ hFd
    have nS : Sp ≠ p := (pt.same s1).at_ hSp
    have hSp0 : H Sp = none := s1.free hSp
    have c0 : CfH K p H Fd Sp (upd (upd (upd H Fd (.lst [])) Sp (.lst (N.map V.str))) T (.tup [.ref Fd, .ref Sp])) [] [] N n := ⟨s3 _ _ (s2 _ _ upd_same), Ev.nil, s3 _ _ upd_same, but_of (s1.trans (s2.trans s3)), pt.same (s1.trans (s2.trans s3))⟩
    generalize upd (upd (upd H Fd (.lst [])) Sp (.lst (N.map V.str))) T (.tup [.ref Fd, .ref Sp]) = H3 at c0
    have y := fun {H1 : Hp} (b : But p H H1) => pt.stay b
    have nlf : lf ≠ p := fun e => by
      obtain ⟨a1, a2, a3, ep, _⟩ := pt
      rw [e, ep] at hlf
      cases hlf
      obtain ⟨c, _, t2, wt, e2, _⟩ := ew.at (i := 0) rfl
      cases e2
    refine ⟨fun σ H' => ∃ v5 v6 v7 v8 v9 v10 v11 us gs rest, σ = [some (.ref p), some (.ref t), some (.ref q), some (.ref Fd), some (.ref Sp), v5, v6, v7, v8, v9, v10, v11, none, none] ∧ CI N x 3 gs ∧ rest.Sublist N ∧ 2 ≤ rest.length ∧ CfH K p H Fd Sp H' us gs rest (n + 20), ?_, ?_⟩
    · refine ⟨_, rfl, t, _, _, _, rfl, rfl, (y c0.b).sqT ht, atI_nat (j := 6) rfl, lf, rfl, ⟨ws, SqL.of (c0.b _ _ nlf hlf)⟩, ?_⟩
      refine for_it walk_list (fun j σ H' => ∃ v5 v6 v7 v8 v9 v10 v11 us gs rest, σ = [some (.ref p), some (.ref t), some (.ref q), some (.ref Fd), some (.ref Sp), v5, v6, v7, v8, v9, v10, v11, none, none] ∧ CI N x j gs ∧ rest.Sublist N ∧ 5 ≤ rest.length + j ∧ CfH K p H Fd Sp H' us gs rest (n + 5 * j))
        ⟨none, none, none, none, none, none, none, [], [], N, rfl, ⟨Nat.le_refl _, by simp, by simp, by simp, by simp⟩, List.Sublist.refl _, by omega, c0⟩ (fun i σ H' _ ⟨_, _, _, _, _, _, _, _, _, _, _, _, _, _, c⟩ => SqL.of (c.b _ _ nlf hlf)) ?_ ?_
      · rintro j u σ H4 _ hj ⟨v5, v6, v7, v8, v9, v10, v11, us, gs, rest, rfl, ci, sub, l5, c1⟩ ⟨rfl, hu⟩
        have j3 : j < 3 := by have := ew.1; omega
        obtain ⟨g0, hg0, t0, wt, rfl, ht0, hwt⟩ := ew.at hu
        have m0 : g0 ∈ x.fs := List.mem_of_getElem? hg0
        have r0 := xr g0 m0
        refine ⟨t0, _, rfl, (y c1.b).sqT ht0, rfl, _, _, rfl, _, _, rfl, _, _, rfl, _, _, rfl, _, _, rfl, rfl, ?_⟩
        refine ⟨_, rfl, p, 8, _, rfl, c1.pt, by omega, by decide, by decide, fun d H5 d0 d8 b5 p5 => ?_⟩
        have c2 := c1.but nF nS b5 p5
        refine ⟨_, rfl, _, rfl, t, _, _, _, rfl, rfl, (y c2.b).sqT ht, atI_nat (j := 4) rfl, ?_⟩
        have lu : us.length < sizeLine := by rw [c2.ev.1, sizeLine_eq]; have := ci.len; omega
        have wt2 := fun {H1 : Hp} (b : But p H H1) => (y b).sqT hwt
        have dr : d = 0 ∨ d = 1 ∨ d = 2 ∨ d = 3 ∨ 4 ≤ d := by omega
        have sc : scal (.str g0.n) (tv x.k) = true := by cases x.k <;> rfl
        refine ⟨sc, _, rfl, ?_⟩
        rw [show decide (V.str g0.n = tv x.k) = decide (x.k = some g0.n) by cases x.k <;> simp [tv, eq_comm]]
        by_cases ek : x.k = some g0.n
        · rw [decide_eq_true ek]
          refine iteT (iteT ⟨_, rfl, .inl ⟨rfl, _, SqL.of c2.f⟩, _, rfl, _, rfl, _, rfl, _, rfl, _, rfl, by show 5 ≤ sizeLine; decide, fun T hT => ?_⟩)
          have sT := same_new (o := .tup [.str g0.n, .str g0.m, tv g0.t, .int g0.d, .ref wt]) hT
          have c3 := c2.same sT
          exact ⟨Fd, us, .ref T, rfl, rfl, c3.f, lu, _, _, _, _, _, _, _, _, _, _, rfl, ci.add hg0 r0 (fun z => ⟨g0, m0, z, rfl⟩) ⟨(from_n m0 : From N x.fs g0.n), (from_w m0 : ∀ w ∈ g0.w, From N x.fs w)⟩ (fun _ => rfl), sub, by omega, (c3.app nF hFd ne ⟨T, wt, rfl, SqT.of upd_same, wt2 c3.b⟩).le (by omega)⟩
        rw [decide_eq_false ek]
        have nk : ∀ {z : Str}, x.k = some g0.n → z = g0.n := fun e => absurd e ek
        refine iteF ⟨_, rfl, _, _, rfl, rfl, _, rfl, ?_⟩
        by_cases d4 : 4 < d
        · rw [decide_eq_true d4]
          refine iteT ⟨_, rfl, .inl ⟨rfl, _, SqL.of c2.f⟩, _, rfl, _, rfl, _, rfl, _, rfl, _, rfl, by show 5 ≤ sizeLine; decide, fun T hT => ?_⟩
          have sT := same_new (o := .tup [.str g0.n, .str g0.m, tv g0.t, .int g0.d, .ref wt]) hT
          have c3 := c2.same sT
          exact ⟨Fd, us, .ref T, rfl, rfl, c3.f, lu, _, _, _, _, _, _, _, _, _, _, rfl, ci.add hg0 r0 (fun z => ⟨g0, m0, z, rfl⟩) ⟨(from_n m0 : From N x.fs g0.n), (from_w m0 : ∀ w ∈ g0.w, From N x.fs w)⟩ (fun _ => rfl), sub, by omega, (c3.app nF hFd ne ⟨T, wt, rfl, SqT.of upd_same, wt2 c3.b⟩).le (by omega)⟩
        rw [decide_eq_false d4]
        obtain ⟨s0, s1, rest, rfl⟩ : ∃ s0 s1 r, rest = s0 :: s1 :: r := by
          match rest, l5 with
          | s0 :: s1 :: r, _ => exact ⟨s0, s1, r, rfl⟩
          | [], h => exact absurd h (by simp; omega)
          | [_], h => exact absurd h (by simp; omega)
        have l6 : 5 ≤ (s1 :: rest).length + (j + 1) := by simp at l5 ⊢; omega
        have ms0 : s0 ∈ N := sub.subset (by simp)
        have ms1 : s1 ∈ N := sub.subset (by simp)
        have s01 : s0 ≠ s1 := by
          have := Nnd.sublist sub
          rw [List.nodup_cons] at this
          exact fun e => this.1 (by simp [e])
        have sub1 : (s1 :: rest).Sublist N := (List.sublist_cons_self _ _).trans sub
        refine iteF ⟨_, rfl, rfl, _, rfl, ?_⟩
        by_cases e0 : d = 0
        · rw [show decide (V.int d = V.int 0) = true by rw [e0]; rfl]
          refine iteT ⟨_, rfl, by show 0 ≤ sizeLine; decide, fun E0 hE => ?_⟩
          have sE := same_new (o := .tup []) hE
          have c3 := c2.same sE
          refine ⟨.tuple (g0.w.map .str), .tuple [], .tup (wt2 c3.b) (dpAll_strs g0.w), .tup (SqT.of upd_same) .nil, r0.good.w, by decide +kernel, _, rfl, ?_⟩
          cases ew0 : g0.w with
          | nil =>
            refine iteF ⟨_, rfl, .inl ⟨rfl, _, SqL.of c3.s⟩, Sp, _, 0, 0, _, rfl, rfl, c3.s, by decide, by decide, pop_at _ (by simp), rfl, ?_⟩
            have c4 := c3.pop nS hSp0 ne
            refine ⟨_, rfl, .inl ⟨rfl, _, SqL.of c4.f⟩, _, rfl, _, rfl, _, rfl, _, rfl, _, rfl, by show 1 ≤ sizeLine; decide, fun W hW => ⟨by show 5 ≤ sizeLine; decide, fun T hT => ?_⟩⟩
            have sW := same_new (o := .tup [.str g0.n]) hW
            have sT := same_new (o := .tup [.str s0, .str g0.m, tv g0.t, .int g0.d, .ref W]) hT
            have c9 := (c4.same sW).same sT
            exact ⟨Fd, us, .ref T, rfl, rfl, c9.f, lu, _, _, _, _, _, _, _, _, _, _, rfl, ci.add hg0 (g := ⟨s0, g0.m, g0.t, g0.d, [g0.n]⟩) ⟨Nok s0 ms0, r0.m, by simp, by simpa using r0.n, by simpa using (xn g0 m0 s0 ms0).1, by simp⟩ (fun z => ⟨g0, m0, z, rfl⟩) ⟨.inl ms0, fun w hw => by rw [List.mem_singleton.mp hw]; exact from_n m0⟩ nk, sub1, by omega, (c9.app nF hFd ne ⟨T, W, rfl, SqT.of upd_same, sT.sqT (SqT.of upd_same)⟩).le (by omega)⟩
          | cons a r =>
            have wt3 := wt2 c3.b
            rw [ew0] at wt3
            have ma : a ∈ g0.w := by rw [ew0]; exact List.mem_cons_self
            refine iteT ⟨_, rfl, wt, _, _, _, rfl, rfl, wt3, atI_nat (j := 0) rfl, ?_⟩
            have na : a ≠ g0.n := fun e => r0.wn (e ▸ ma)
            refine ⟨_, rfl, .inl ⟨rfl, _, SqL.of c3.f⟩, _, rfl, _, rfl, _, rfl, _, rfl, _, rfl, by show 1 ≤ sizeLine; decide, fun W hW => ⟨by show 5 ≤ sizeLine; decide, fun T hT => ?_⟩⟩
            have sW := same_new (o := .tup [.str g0.n]) hW
            have sT := same_new (o := .tup [.str a, .str g0.m, tv g0.t, .int g0.d, .ref W]) hT
            have c9 := (c3.same sW).same sT
            exact ⟨Fd, us, .ref T, rfl, rfl, c9.f, lu, _, _, _, _, _, _, _, _, _, _, rfl, ci.add hg0 (g := ⟨a, g0.m, g0.t, g0.d, [g0.n]⟩) ⟨r0.wf a ma, r0.m, by simp, by simpa using r0.n, by simpa using na, by simp⟩ (fun z => ⟨g0, m0, z, rfl⟩) ⟨from_w m0 a ma, fun w hw => by rw [List.mem_singleton.mp hw]; exact from_n m0⟩ nk, sub, by omega, (c9.app nF hFd ne ⟨T, W, rfl, SqT.of upd_same, sT.sqT (SqT.of upd_same)⟩).le (by omega)⟩
        rw [show decide (V.int d = V.int 0) = false from decide_eq_false fun e => e0 (by cases e; rfl)]
        refine iteF ⟨_, rfl, rfl, _, rfl, ?_⟩
        by_cases e1 : d = 1
        · rw [show decide (V.int d = V.int 1) = true by rw [e1]; rfl]
          refine iteT ⟨_, rfl, .inl ⟨rfl, _, SqL.of c2.f⟩, _, rfl, _, rfl, p, _, rfl, c2.pt, by omega, fun d9 H6 d0 d1 b6 p6 => ⟨_, rfl, by show 5 ≤ sizeLine; decide, fun T hT => ?_⟩⟩
          have sT := same_new (o := .tup [.str g0.n, .str "mark", .non, .int d9, .ref wt]) hT
          have c3 := (c2.but nF nS b6 p6).same sT
          have c8 := c3.app (v := .ref T) (g := ⟨g0.n, "mark", none, d9, g0.w⟩) nF hFd ne ⟨T, wt, rfl, SqT.of upd_same, wt2 c3.b⟩
          exact ⟨Fd, us, .ref T, rfl, rfl, c3.f, lu, _, _, _, _, _, _, _, _, _, _, rfl, ci.add hg0 (g := ⟨g0.n, "mark", none, d9, g0.w⟩) ⟨r0.n, .inl ⟨rfl, rfl, d0, d1⟩, r0.w2, r0.wf, r0.wn, r0.wd⟩ (fun z => absurd ((show slotB ⟨g0.n, "mark", none, d9, g0.w⟩ = false from slot_mark rfl).symm.trans z) Bool.false_ne_true) ⟨(from_n m0 : From N x.fs g0.n), (from_w m0 : ∀ w ∈ g0.w, From N x.fs w)⟩ (fun _ => rfl), sub, by omega, c8.le (by omega)⟩
        rw [show decide (V.int d = V.int 1) = false from decide_eq_false fun e => e1 (by cases e; rfl)]
        refine iteF ⟨_, rfl, rfl, _, rfl, ?_⟩
        by_cases e2 : d = 2
        · rw [show decide (V.int d = V.int 2) = true by rw [e2]; rfl]
          refine iteT ⟨_, rfl, .inl ⟨rfl, _, SqL.of c2.f⟩, _, rfl, .inl ⟨rfl, _, SqL.of c2.s⟩, Sp, _, 0, 0, _, rfl, rfl, c2.s, by decide, by decide, pop_at _ (by simp), rfl, ?_⟩
          have c3 := c2.pop nS hSp0 ne
          refine ⟨_, rfl, _, rfl, _, rfl, _, rfl, Sp, _, _, _, rfl, rfl, SqL.of c3.s, atI_nat (j := 0) rfl, _, rfl, by show 2 ≤ sizeLine; decide, fun W hW => ⟨by show 5 ≤ sizeLine; decide, fun T hT => ?_⟩⟩
          have sW := same_new (o := .tup [.str s1, .str g0.n]) hW
          have sT := same_new (o := .tup [.str s0, .str g0.m, tv g0.t, .int g0.d, .ref W]) hT
          have c9 := (c3.same sW).same sT
          have w2ok : ∀ w ∈ [s1, g0.n], isFieldName (.str w) = true := fun w hw => by
            simp at hw
            rcases hw with rfl | rfl
            · exact Nok _ ms1
            · exact r0.n
          have w2fr : ∀ w ∈ [s1, g0.n], From N x.fs w := fun w hw => by
            simp at hw
            rcases hw with rfl | rfl
            · exact .inl ms1
            · exact from_n m0
          exact ⟨Fd, us, .ref T, rfl, rfl, c9.f, lu, _, _, _, _, _, _, _, _, _, _, rfl, ci.add hg0 (g := ⟨s0, g0.m, g0.t, g0.d, [s1, g0.n]⟩) ⟨Nok s0 ms0, r0.m, by simp, w2ok, by simp [s01, (xn g0 m0 s0 ms0).1], by simp [(xn g0 m0 s1 ms1).1]⟩ (fun z => ⟨g0, m0, z, rfl⟩) ⟨.inl ms0, w2fr⟩ nk, sub1, by omega, (c9.app nF hFd ne ⟨T, W, rfl, SqT.of upd_same, sT.sqT (SqT.of upd_same)⟩).le (by omega)⟩
        rw [show decide (V.int d = V.int 2) = false from decide_eq_false fun e => e2 (by cases e; rfl)]
        refine iteF ⟨_, rfl, rfl, _, rfl, ?_⟩
        by_cases e3 : d = 3
        · rw [show decide (V.int d = V.int 3) = true by rw [e3]; rfl]
          refine iteT ⟨_, rfl, .inl ⟨rfl, _, SqL.of c2.f⟩, _, rfl, _, rfl, _, rfl, _, rfl, rfl, _, rfl, ?_⟩
          rw [dec_s]
          by_cases em : g0.m = ("mark" : Str)
          · rw [decide_eq_true em]
            refine iteT ⟨_, rfl, p, _, rfl, c2.pt, by omega, fun d9 H6 d0 d1 b6 p6 => ⟨_, rfl, by show 5 ≤ sizeLine; decide, fun T hT => ?_⟩⟩
            have sT := same_new (o := .tup [.str g0.n, .str g0.m, tv g0.t, .int d9, .ref wt]) hT
            have c3 := (c2.but nF nS b6 p6).same sT
            have tn : g0.t = none := by
              rcases r0.m with h | ⟨h | h, _⟩
              · exact h.2.1
              · rw [em] at h; exact absurd h (by decide +kernel)
              · rw [em] at h; exact absurd h (by decide +kernel)
            have c8 := c3.app (v := .ref T) (g := ⟨g0.n, g0.m, g0.t, d9, g0.w⟩) nF hFd ne ⟨T, wt, rfl, SqT.of upd_same, wt2 c3.b⟩
            exact ⟨Fd, us, .ref T, rfl, rfl, c3.f, lu, _, _, _, _, _, _, _, _, _, _, rfl, ci.add hg0 (g := ⟨g0.n, g0.m, g0.t, d9, g0.w⟩) ⟨r0.n, .inl ⟨em, tn, d0, d1⟩, r0.w2, r0.wf, r0.wn, r0.wd⟩ (fun z => absurd ((show slotB ⟨g0.n, g0.m, g0.t, d9, g0.w⟩ = false from slot_mark em).symm.trans z) Bool.false_ne_true) ⟨(from_n m0 : From N x.fs g0.n), (from_w m0 : ∀ w ∈ g0.w, From N x.fs w)⟩ (fun _ => rfl), sub, by omega, c8.le (by omega)⟩
          · rw [decide_eq_false em]
            refine iteF ⟨_, rfl, by show 5 ≤ sizeLine; decide, fun T hT => ?_⟩
            have sT := same_new (o := .tup [.str g0.n, .str g0.m, tv g0.t, .int 0, .ref wt]) hT
            have c3 := c2.same sT
            have rm : (g0.m = "link" ∨ g0.m = "list") ∧ (0 : Int) = 0 ∧ ∃ t, g0.t = some t ∧ (t = "any" ∨ isKindName (.str t) = true) := by
              rcases r0.m with h | h
              · exact absurd h.1 em
              · exact ⟨h.1, rfl, h.2.2⟩
            have c8 := c3.app (v := .ref T) (g := ⟨g0.n, g0.m, g0.t, 0, g0.w⟩) nF hFd ne ⟨T, wt, rfl, SqT.of upd_same, wt2 c3.b⟩
            exact ⟨Fd, us, .ref T, rfl, rfl, c3.f, lu, _, _, _, _, _, _, _, _, _, _, rfl, ci.add hg0 (g := ⟨g0.n, g0.m, g0.t, 0, g0.w⟩) ⟨r0.n, .inr rm, r0.w2, r0.wf, r0.wn, r0.wd⟩ (fun z => ⟨g0, m0, z, rfl⟩) ⟨(from_n m0 : From N x.fs g0.n), (from_w m0 : ∀ w ∈ g0.w, From N x.fs w)⟩ (fun _ => rfl), sub, by omega, c8.le (by omega)⟩
        rw [show decide (V.int d = V.int 3) = false from decide_eq_false fun e => e3 (by cases e; rfl)]
        exact iteF ⟨_, _, _, _, _, _, _, _, _, _, rfl, ci.keep hg0 ek, sub, by omega, c2.le (by omega)⟩
      · rintro σ H4 ⟨v5, v6, v7, v8, v9, v10, v11, us, gs, rest, rfl, ci, sub, l5, c1⟩
        have := ew.1
        have l3 : ws.length ≤ 3 := by omega
        have ee : x.fs.take ws.length = x.fs := by rw [this, List.take_length]
        refine ⟨_, _, _, _, _, _, _, _, _, _, rfl, ⟨Nat.le_trans ci.len l3, ci.right, ci.like, ci.frm, fun k ek mk => ci.key k ek (by rw [ee]; exact List.map_subset _ (List.take_subset _ _) mk)⟩, sub, by omega, c1.le (by omega)⟩
    rintro _ H4 ⟨v5, v6, v7, v8, v9, v10, v11, us, gs, rest, rfl, ci, sub, l2, c1⟩
    refine ⟨fun σ H' => ∃ Gd us gs, σ = [some (.ref p), some (.ref t), some (.ref q), some (.ref Gd), some (.ref Sp), v5, v6, v7, v8, v9, v10, v11, none, none] ∧ CI N x 3 gs ∧ CfH K p H Gd Sp H' us gs rest (n + 21) ∧ H Gd = none ∧ Gd ≠ p ∧ Gd ≠ Sp, ?_, ?_⟩
    · refine ⟨_, rfl, p, 4, _, rfl, c1.pt, by omega, by decide, by decide, fun d H5 _ _ b5 p5 => ⟨rfl, _, rfl, ite2 (fun _ => ?_) (fun _ => ?_)⟩⟩
      · have c2 := c1.but nF nS b5 p5
        refine ⟨_, rfl, Fd, us, rfl, SqL.of c2.f, fun Gd hG => ?_⟩
        have sG := same_new (o := .lst us.reverse) hG
        exact ⟨Gd, us.reverse, gs.reverse, rfl, ci.rev, ⟨upd_same, ev_rev (c2.ev.same (mLF K) sG), sG _ _ c2.s, but_trans c2.b (but_of sG), c2.pt.same sG⟩, but_free c2.b c2.pt hG, c2.pt.at_ hG, Ne.symm (ne_of_none c2.s hG)⟩
      · exact ⟨Fd, us, gs, rfl, ci, c1.but nF nS b5 p5, hFd, nF, ne⟩
    rintro _ H5 ⟨Gd, us, gs, rfl, ci, c1, hGd, nG, neG⟩
    refine ⟨fun σ H' => ∃ us gs rest, σ = [some (.ref p), some (.ref t), some (.ref q), some (.ref Gd), some (.ref Sp), v5, v6, v7, v8, v9, v10, v11, none, none] ∧ CI N x 3 gs ∧ CfH K p H Gd Sp H' us gs rest (n + 30), ?_, ?_⟩
    · refine ⟨_, rfl, Gd, us, rfl, .inl (SqL.of c1.f), _, _, rfl, rfl, _, rfl, ?_⟩
      by_cases l3 : ((us.length : Nat) : Int) < 3
      · rw [decide_eq_true l3]
        refine iteT ⟨_, rfl, p, 3, _, rfl, c1.pt, by omega, by decide, by decide, fun d H6 _ _ b6 p6 => ⟨rfl, _, rfl, ite2 (fun _ => ?_) (fun _ => ?_)⟩⟩
        · have c2 := c1.but nG nS b6 p6
          obtain ⟨s0, rest, rfl⟩ : ∃ s0 r, rest = s0 :: r := by
            match rest, l2 with
            | s0 :: r, _ => exact ⟨s0, r, rfl⟩
            | [], h => exact absurd h (by simp)
          have ms0 : s0 ∈ N := sub.subset (by simp)
          refine ⟨_, rfl, .inl ⟨rfl, _, SqL.of c2.f⟩, _, rfl, .inl ⟨rfl, _, SqL.of c2.s⟩, Sp, _, 0, 0, _, rfl, rfl, c2.s, by decide, by decide, pop_at _ (by simp), rfl, ?_⟩
          have c3 := c2.pop nS hSp0 neG
          refine ⟨_, rfl, p, _, rfl, c3.pt, by omega, fun d9 H7 d0 d1 b7 p7 => ⟨by show 0 ≤ sizeLine; decide, fun W hW => ⟨by show 5 ≤ sizeLine; decide, fun T hT => ?_⟩⟩⟩
          have sW := same_new (o := .tup []) hW
          have sT := same_new (o := .tup [.str s0, .str "mark", .non, .int d9, .ref W]) hT
          have c4 := ((c3.but nG nS b7 p7).same sW).same sT
          have c5 := c4.app (v := .ref T) (g := ⟨s0, "mark", none, d9, []⟩) nG hGd neG ⟨T, W, rfl, SqT.of upd_same, sT.sqT (SqT.of upd_same)⟩
          have lg : gs.length < 3 := by have := c1.ev.1; omega
          exact ⟨Gd, us, .ref T, rfl, rfl, c4.f, by rw [sizeLine_eq]; omega, _, _, _, rfl, ci.more lg ⟨Nok s0 ms0, .inl ⟨rfl, rfl, d0, d1⟩, by simp, by simp, by simp, by simp⟩ (slot_mark rfl) ⟨.inl ms0, by simp⟩, c5.le (by omega)⟩
        · exact ⟨us, gs, rest, rfl, ci, (c1.but nG nS b6 p6).le (by omega)⟩
      · rw [decide_eq_false l3]
        exact iteF (iteF ⟨us, gs, rest, rfl, ci, c1.le (by omega)⟩)
    rintro _ H6 ⟨us, gs, rest, rfl, ci, c1⟩
    have lu : us.length = gs.length := c1.ev.1
    have l3 := ci.len
    refine ⟨_, rfl, Gd, us, rfl, .inl (SqL.of c1.f), _, rfl, by omega, by omega, fun D hD => ?_⟩
    refine lc_it walk_range (fun j H' => Same H6 H' ∧ ∃ zs cs, H' D = some (.lst zs) ∧ Ev (rLF K) H' zs cs ∧ cs.length ≤ j ∧ (cs.map (·.n)).Nodup ∧ (∀ g ∈ cs, g ∈ gs) ∧ (∀ g ∈ gs.take j, g.n ∈ cs.map (·.n)) ∧ (∀ g ∈ cs, g.n ∈ (gs.take j).map (·.n)))
      ⟨same_new hD, [], [], upd_same, Ev.nil, Nat.le_refl _, List.nodup_nil, by simp, by simp, by simp⟩ (fun _ _ _ _ => trivial) ?_ ?_
    · rintro j y H7 H8 hj ⟨s7, zs, cs, ez, ev, lc, nd, sub1, sub2, sub3⟩ ⟨rfl, rfl⟩
      have hj2 : j < gs.length := by omega
      have hu : us[j]? = some us[j] := List.getElem?_eq_getElem (by omega)
      obtain ⟨g0, hg0, t0, wt, e0, ht0, hwt⟩ := c1.ev.at hu
      have hu2 : us[j]? = some (.ref t0) := hu.trans (by rw [e0])
      have f7 := s7 _ _ c1.f
      have e7 : Ev (rLF K) H8 us gs := c1.ev.same (mLF K) s7
      refine ⟨rfl, _, rfl, _, rfl, Gd, _, _, _, rfl, rfl, SqL.of f7, at0 hu2, t0, _, _, _, rfl, rfl, s7.sqT ht0, atI_nat (j := 0) rfl, ?_⟩
      have ec : cutV us none (some (0 + (j : Int))) = us.take j := by
        rw [Int.zero_add]
        exact cut_lo (by omega)
      refine ⟨_, rfl, _, rfl, _, rfl, Gd, us, rfl, SqL.of f7, fun L1 hL1 => ?_⟩
      rw [ec]
      have sL := same_new (o := .lst (us.take j)) hL1
      have eL : (upd H8 L1 (.lst (us.take j))) L1 = some (.lst (us.take j)) := upd_same
      have e8 : Ev (rLF K) (upd H8 L1 (.lst (us.take j))) (us.take j) (gs.take j) := by
        have e7' := e7.same (mLF K) sL
        refine ⟨by rw [List.length_take, List.length_take, lu], fun i u c h1 h2 => ?_⟩
        rw [List.getElem?_take] at h1 h2
        split at h1
        · rename_i hi
          rw [if_pos hi] at h2
          exact e7'.2 i u c h1 h2
        · cases h1
      refine ⟨L1, rfl, ⟨_, SqL.of eL⟩, fun D3 hD3 => ?_⟩
      refine lc_sieve (mLF K) mW (fun _ => true) (·.n) walk_list (by rw [List.length_take]; omega) (fun H' s => SqL.of (s _ _ eL)) hD3 e8 (fun v c H2 Rq _ _ _ kk => kk _ (Same.refl _)) ?_ ?_
      · rintro _ g H2 Rq _ _ s2 ⟨t2, w2, rfl, ht2, _⟩ kk
        exact ⟨_, rfl, t2, _, _, _, rfl, rfl, ht2, atI_nat (j := 0) rfl, kk _ _ (Same.refl _) rfl⟩
      intro H9 ys s9 hys ey
      rw [filter_all] at ey
      cases ev_words_eq ey
      refine ⟨D3, _, rfl, .inl (SqL.of hys), rfl, flat_strs _, _, rfl, ?_⟩
      have s79 := s7.trans (sL.trans s9)
      have ez9 := s9 _ _ (sL _ _ ez)
      have ev9 := (ev.same (mLF K) sL).same (mLF K) s9
      have tk : gs.take (j + 1) = gs.take j ++ [g0] := take_snoc hg0
      rw [show inV (.str g0.n) (((gs.take j).map (·.n)).map V.str) = decide (g0.n ∈ (gs.take j).map (·.n)) from mem_in]
      by_cases mm : g0.n ∈ (gs.take j).map (·.n)
      · rw [decide_eq_true mm]
        refine iteF ⟨s79, zs, cs, ez9, ev9, by omega, nd, sub1, fun g mg => ?_, fun g mg => ?_⟩
        · rw [tk] at mg
          rcases List.mem_append.mp mg with mg | mg
          · exact sub2 g mg
          · rw [List.mem_singleton.mp mg]
            obtain ⟨g2, mg2, e2⟩ := List.mem_map.mp mm
            exact e2 ▸ sub2 g2 mg2
        · rw [tk, List.map_append]
          exact List.mem_append_left _ (sub3 g mg)
      · rw [decide_eq_false mm]
        have row0 : rLF K H9 (.ref t0) g0 := sLF (sL.trans s9) (sLF s7 ⟨t0, wt, rfl, ht0, hwt⟩)
        have y9 := stay_lst (ys := zs ++ [.ref t0]) ez9
        refine iteT ⟨_, rfl, _, rfl, Gd, _, _, _, rfl, rfl, SqL.of (s79 _ _ c1.f), at0 hu2, zs, ez9, by rw [ev.1, sizeLine_eq]; omega, s79.over hD, zs ++ [.ref t0], cs ++ [g0], upd_same, (Ev.stay ev9 y9).append (Ev.cons (rLF_stay y9 row0) Ev.nil), by rw [List.length_append]; show cs.length + 1 ≤ _; omega, ?_, fun g mg => ?_, fun g mg => ?_, fun g mg => ?_⟩
        · rw [List.map_append]
          refine List.nodup_append.mpr ⟨nd, by simp, fun a ha b hb e => ?_⟩
          obtain ⟨g2, mg2, rfl⟩ := List.mem_map.mp ha
          have := List.mem_singleton.mp hb
          exact mm (by rw [show g0.n = b from this.symm, ← e]; exact sub3 g2 mg2)
        · rcases List.mem_append.mp mg with mg | mg
          · exact sub1 g mg
          · rw [List.mem_singleton.mp mg]
            exact List.mem_of_getElem? hg0
        · rw [List.map_append]
          rw [tk] at mg
          rcases List.mem_append.mp mg with mg | mg
          · exact List.mem_append_left _ (sub2 g mg)
          · rw [List.mem_singleton.mp mg]
            exact List.mem_append_right _ (List.mem_singleton.mpr rfl)
        · rw [tk, List.map_append]
          rcases List.mem_append.mp mg with mg | mg
          · exact List.mem_append_left _ (sub3 g mg)
          · rw [List.mem_singleton.mp mg]
            exact List.mem_append_right _ (List.mem_singleton.mpr rfl)
    · rintro H7 ⟨s7, zs, cs, ez, ev, lc, nd, sub1, sub2, sub3⟩
      have ee : gs.take us.length = gs := by rw [lu, List.take_length]
      rw [Int.toNat_natCast, ee] at sub2
      refine k D zs cs H7 (but_free c1.b c1.pt hD) ez ev ⟨by omega, nd, fun g mg => ci.right g (sub1 g mg), fun g mg => ci.like g (sub1 g mg), fun g mg => ci.frm g (sub1 g mg), fun k ek mk => ?_⟩ (but_trans c1.b (but_of s7)) ((c1.pt.same s7).le (by omega))
      have := ci.key k ek (by rw [List.take_of_length_le x3]; exact mk)
      obtain ⟨g, mg, rfl⟩ := List.mem_map.mp this
      exact sub2 g mg
end
end Wh
set_option Elab.async false
set_option linter.all false
set_option maxRecDepth 100000
set_option maxHeartbeats 4000000
namespace Wh
open PySem PySem.Spec PyProof.Rows L2
open Wp hiding Same.refl Same.trans same_new boot_all
open W8 (Ev Rp Kp Mono same_new take_snoc rW rB mW mB ev_words ev_words_eq ev_bools_eq lc_sieve)
def EdR (N : List Str) (es : List KD) (x : KD) (g : List FV) : Prop := match x.b with
  | none => (x.r = true → g = x.fs) ∧ (x.r = false → Chg N x g)
  | some b => ∃ y h, atName es b = some y ∧ Chg N x h ∧ g = cutF y.fs h
theorem zipF_names {ks : List KD} {gs : List (List FV)} (l : gs.length = ks.length) : (zipF ks gs).map (·.n) = ks.map (·.n) := by
  unfold zipF
  rw [List.map_zipWith]
  apply List.ext_getElem (by simp; omega)
  intro i h1 h2
  simp [setF]
theorem zipF_at {ks : List KD} {gs : List (List FV)} {i : Nat} {x : KD} {g : List FV} (hx : ks[i]? = some x) (hg : gs[i]? = some g) : (zipF ks gs)[i]? = some (setF x g) := by
  unfold zipF
  rw [List.getElem?_zipWith, hx, hg]
theorem edR_app {N : List Str} {ks : List KD} {gs : List (List FV)} {j : Nat} {x : KD} {g : List FV} (hx : ks[j]? = some x) (lg : gs.length = j) (h : ∀ (i : Nat) y a, ks[i]? = some y → gs[i]? = some a → EdR N (zipF (ks.take i) (gs.take i)) y a) (h0 : EdR N (zipF (ks.take j) gs) x g) :
    ∀ (i : Nat) y a, ks[i]? = some y → (gs ++ [g])[i]? = some a → EdR N (zipF (ks.take i) ((gs ++ [g]).take i)) y a := by
  intro i y a h1 h2
  by_cases hi : i < gs.length
  · rw [List.getElem?_append_left hi] at h2
    rw [List.take_append_of_le_length (by omega)]
    exact h i y a h1 h2
  · have e : i = gs.length := by
      have := (List.getElem?_eq_some_iff.mp h2).1
      simp at this
      omega
    subst e
    rw [List.getElem?_append_right (Nat.le_refl _), Nat.sub_self] at h2
    cases h2
    rw [lg, hx] at h1
    cases h1
    rw [List.take_append_of_le_length (Nat.le_refl _), List.take_length, lg]
    exact h0
theorem cut_any {xs : List V} {k : Nat} : cutV xs none (some (k : Int)) = xs.take k := by
  unfold cutV
  rw [HT.sIx_nat, HT.sIx_none, Nat.sub_zero]
  show xs.take _ = _
  rcases Nat.le_total k xs.length with h | h
  · rw [Nat.min_eq_left h]
  · rw [Nat.min_eq_right h, List.take_of_length_le h, List.take_length]
theorem ev_take {α : Type} {R : Rp α} {H : Hp} {us : List V} {gs : List α} (e : Ev R H us gs) (k : Nat) : Ev R H (us.take k) (gs.take k) := by
  refine ⟨by rw [List.length_take, List.length_take, e.1], fun i u c h1 h2 => ?_⟩
  rw [List.getElem?_take] at h1 h2
  split at h1
  · rename_i hi
    rw [if_pos hi] at h2
    exact e.2 i u c h1 h2
  · cases h1
theorem potE {p Fd : Addr} {n : Nat} {H3 H4 : Hp} (h : Pot p n H3) (ne : p ≠ Fd) (e : ∀ b o, b ≠ Fd → H3 b = some o → H4 b = some o) : Pot p n H4 := by
  obtain ⟨a, b, c, ep, r⟩ := h
  exact ⟨a, b, c, e _ _ ne ep, r⟩
/-- found.append(row[:6] + (fields,)) -/
theorem ed_tail {K : PySem.W.Frag} {D : Ends} {σ : L2.St} {H3 : Hp} {i3 i4 i5 : Nat} {Fd t Gl lf : Addr} {es : List KD} {x : KD} {g : List FV} {ys : List V} (h3 : σ[i3]? = some (some (.ref Fd))) (h4 : σ[i4]? = some (some (.ref t))) (h5 : σ[i5]? = some (some (.ref Gl)))
    (ht : SqT K H3 t [.str x.n, tv x.b, .bl x.f, .bl x.h, tv x.k, .bl x.r, .ref lf]) (fnd : RowsN K H3 Fd es) (hG : H3 Gl = some (.lst ys)) (ev : Ev (rLF K) H3 ys g) (ne : Gl ≠ Fd) (few : es.length < 100)
    (k : ∀ H4, RowsN K H4 Fd (es ++ [setF x g]) → (∀ b o, b ≠ Fd → H3 b = some o → H4 b = some o) → D.nx σ H4) :
    tDrop (tBM K "list" rAppend (tVar i3) (tCons (tOp (rCatA K) (tSl (rSlT K) (tVar i4) tNoPart (tPart (tC (.int 6)))) (tTup (tCons (tVar i5) tNil))) tNil)) D σ H3 := by
  obtain ⟨us, eF, _⟩ := id fnd
  refine ⟨_, h3, .inl ⟨rfl, _, SqL.of eF⟩, _, h4, 6, rfl, t, _, rfl, ht, by show ¬ (HT.sIx 7 0 none = 0 ∧ HT.sIx 7 7 (some 6) = 7); decide, fun pa hpa => ?_⟩
  have sa := same_new (o := .tup (cutV [.str x.n, tv x.b, .bl x.f, .bl x.h, tv x.k, .bl x.r, .ref lf] none (some 6))) hpa
  refine ⟨_, h5, by show 1 ≤ sizeLine; decide, fun pb hpb => ?_⟩
  have sb := same_new (o := .tup [.ref Gl]) hpb
  refine ⟨pa, pb, [.str x.n, tv x.b, .bl x.f, .bl x.h, tv x.k, .bl x.r], [.ref Gl], rfl, rfl, sb.sqT (SqT.of upd_same), SqT.of upd_same, by show 7 ≤ sizeLine; decide, (fun e => by cases e), (fun _ e => by cases e), fun _ _ T hT => ?_⟩
  have sT := same_new (o := .tup [.str x.n, tv x.b, .bl x.f, .bl x.h, tv x.k, .bl x.r, .ref Gl]) hT
  have sAll := sa.trans (sb.trans sT)
  obtain ⟨l9, r9⟩ := (fnd.same sAll).snoc (sAll _ _ eF) (v := .ref T) (x := setF x g) ⟨T, Gl, ys, rfl, SqT.of upd_same, sAll _ _ hG, ev.same (mLF K) sAll, ne⟩
  refine ⟨Fd, us, .ref T, rfl, rfl, sAll _ _ eF, by rw [l9, sizeLine_eq]; omega, k _ r9 fun b o nb e => ?_⟩
  rw [upd_ne nb]
  exact sAll _ _ e
section
variable {P : Program} {w : World} {K : PySem.W.Frag} {mg : Str → Option Value} {base : Heap}
abbrev sEd : Stmt := top 70
abbrev nEd : List Str := ["_law_pot_here", "_law_rows", "_law_names", "_law_found", "_law_row_here", "_law_fields_here", "_law_above", "_law_one"]
theorem scEd : FnScope nEd ["_law_pot_here", "_law_rows", "_law_names"] (defScope sEd) := ⟨rfl, rfl, rfl, by decide +kernel, rfl, by decide +kernel, by decide +kernel⟩
def spEd (K : PySem.W.Frag) : Sp := fun vs H Q _ => ∃ (p l q : Addr) (n : Nat) (pl : Plan) (f1 f2 f3 f4 : List FV) (N S' : List Str), vs = [.ref p, .ref l, .ref q] ∧ Pot p n H ∧ n < 20000 ∧ Rows K H l (pl.rows f1 f2 f3 f4) ∧ l ≠ p ∧ H q = some (.lst (N.map V.str)) ∧ q ≠ p ∧ Sheet pl (N ++ S') f1 f2 f3 f4 ∧ N.length = 5 ∧ (N ++ S').Nodup ∧ (∀ s ∈ N, isFieldName (.str s) = true) ∧
  ∀ (D : Addr) (g1 g2 g3 g4 : List FV) H', H D = none → D ≠ p → Rows K H' D (pl.rows g1 g2 g3 g4) → Sheet pl S' g1 g2 g3 g4 → But p H H' → Pot p (n + 200) H' → (pl.booked = true → g2 = f2) → Q (.ref D) H'
theorem ok_Ed {f f1 f2 : Addr} {fd fd1 fd2 : FuncData} (F : Fun K "_law_edition" "_law_edition" sEd f fd) (B : Bn mg) (RW_ : Known P w K mg base CX0 1 "_law_row" ["_law_rows", "_law_kind"] (spRw K) f1 fd1) (CF_ : Known P w K mg base CX0 4 "_law_changed_fields" ["_law_pot_here", "_law_row_here", "_law_names"] (spCf K) f2 fd2) :
    FnOk P w K mg base CX0 5 f fd ["_law_pot_here", "_law_rows", "_law_names"] (spEd K) := by
  refine F.ok scEd (fun vs H Q E h => ?_) (fun cdv A outer s H vs Q E hr h => ?_)
  · obtain ⟨p, l, q, n, pl, f1, f2, f3, f4, N, S', rfl, _⟩ := h
    rfl
  · obtain ⟨p, l, q, n, pl, f1, f2, f3, f4, N, S', rfl, pt, n1, rows, nl, hq, nq, sh, N5, nd, Nok, k⟩ := h
    refine ⟨_, 
      (pss_cut (ps_set (i := 3) scEd.nd rfl (.inl rfl) (pe_lst pa_nil))
      (pss_cons (ps_for PassesOwn.never rfl (pi_list (pv 1)) (pg_name (i := 4) scEd.nd rfl (Or.inl rfl)) 
        (pss_cons (ps_set (i := 5) scEd.nd rfl (.inl rfl) (pe_ifExp (pt_val (pe_ix ix_tup (pv 4) pe_int (fun _ _ => rfl))) (pe_ix ix_tup (pv 4) pe_int (fun _ _ => rfl)) (pe_call CF_.ok (hr.mono (by decide)) rfl CF_.mg CF_.kp CF_.bi .nil pass0 (pa_cons (pv 0) (pa_cons (pv 4) (pa_cons (pv 2) pa_nil))))))
        (pss_cons (ps_if (pt_cmp (pc_notN (pe_ix ix_tup (pv 4) pe_int (fun _ _ => rfl)))) 
          (pss_cons (ps_set (i := 6) scEd.nd rfl (.inr rfl) (pe_lc (own := [("_law_one", 7)]) (g := gName 7) (tt := tYes) (te := tOp (rIxT K) (tVar 7) (tC (.int 0))) rfl scEd.nd (pi_list (pe_ix ix_tup (pe_call RW_.ok (hr.mono (by decide)) rfl RW_.mg RW_.kp RW_.bi .nil pass0 (pa_cons (pv 3) (pa_cons (pe_ix ix_tup (pv 4) pe_int (fun _ _ => rfl)) pa_nil))) pe_int (fun _ _ => rfl))) (blkOk_by (N := nEd) (sc := defScope sEd) (by decide +kernel)) (fun _ _ _ _ _ => pg_name (i := 7) scEd.nd rfl (Or.inl rfl)) (fun _ _ _ _ _ => pts_nil) (fun _ _ _ _ _ => (pe_ix ix_tup (pv 7) pe_int (fun _ _ => rfl)))))
          (pss_one (ps_set (i := 5) scEd.nd rfl (.inl rfl) (pe_slice sl_list (pe_lc (own := [("_law_one", 7)]) (g := gName 7) (te := tVar 7) (tt := tTest (tOp (rIn K true) (tOp (rIxT K) (tVar 7) (tC (.int 0))) (tVar 6))) rfl scEd.nd (pi_list (pv 5)) (blkOk_by (N := nEd) (sc := defScope sEd) (by decide +kernel)) (fun _ _ _ _ _ => pg_name (i := 7) scEd.nd rfl (Or.inl rfl)) (fun _ _ _ _ _ => pts_one (pt_cmpR (show OpR _ (compareOp .NotIn) (rIn K true) from op_notIn_seq) (pe_ix ix_tup (pv 7) pe_int (fun _ _ => rfl)) (pv 6) (by rfl))) (fun _ _ _ _ _ => (pv 7))) po_none (po_some (pe_op op_sub pe_int (pe_callB call_len_seq (by rfl) B.len PySem.boot_len (pa_cons (pv 6) pa_nil)))))))) pss_nil)
        (pss_one (ps_expr (pe_bm PySem.F.plainAttrs_list PySem.F.slot_list_append PySem.F.type_list_append mt_append (pv 3) (pa_cons (pe_op op_catA (pe_slice sl_tup (pv 4) po_none (po_some pe_int)) (pe_tup (pa_cons (pv 5) pa_nil))) pa_nil)))))))
      (pss_one (ps_ret (pv 3))))), ?_⟩
    generalize hks : pl.rows f1 f2 f3 f4 = ks at rows
    obtain ⟨us, hl, lu, rr⟩ := rows
    have l4 : ks.length ≤ 4 := by
      rw [← hks]
      unfold Plan.rows
      rw [List.length_append, three_len]
      split <;> simp
    have Nnd : N.Nodup := (List.nodup_append.mp nd).1
    refine ⟨fun σ H' => ∃ Fd, σ = [some (.ref p), some (.ref l), some (.ref q), some (.ref Fd), none, none, none, none] ∧ H Fd = none ∧ Fd ≠ p ∧ H' Fd = some (.lst []) ∧ But p H H' ∧ Pot p n H', ?_, ?_⟩
    · refine ⟨by show 0 ≤ sizeLine; decide, fun Fd hFd => ?_⟩
      have s1 := same_new (o := .lst []) hFd
      exact ⟨Fd, rfl, hFd, pt.at_ hFd, upd_same, but_of s1, pt.same s1⟩
    rintro _ H1 ⟨Fd, rfl, hFd, nF, eF, b1, p1⟩
    refine ⟨_, rfl, l, rfl, ⟨us, SqL.of (b1 _ _ nl hl)⟩, ?_⟩
    refine for_it walk_list (fun j σ H' => ∃ v4 v5 v6 gs, σ = [some (.ref p), some (.ref l), some (.ref q), some (.ref Fd), v4, v5, v6, none] ∧ gs.length = j ∧ RowsN K H' Fd (zipF (ks.take j) gs) ∧ But p H H' ∧ Pot p (n + 40 * j) H' ∧ ∀ (i : Nat) x g, ks[i]? = some x → gs[i]? = some g → EdR N (zipF (ks.take i) (gs.take i)) x g)
      ⟨none, none, none, [], rfl, rfl, ⟨[], eF, rfl, by simp⟩, b1, p1, by simp⟩ (fun i σ H' _ ⟨_, _, _, _, _, _, _, b, _⟩ => SqL.of (b _ _ nl hl)) ?_ ?_
    · rintro j u σ _ H2 hj ⟨v4, v5, v6, gs, rfl, lg, fnd, b2, p2, ed⟩ ⟨rfl, hu⟩
      have hk : ks[j]? = some ks[j] := List.getElem?_eq_getElem (by omega)
      generalize ks[j] = x at hk
      have mx : x ∈ pl.rows f1 f2 f3 f4 := by rw [hks]; exact List.mem_of_getElem? hk
      have rx := rr j u x hu hk
      obtain ⟨t, lf, ws, rfl, ht, hlf, ew⟩ := id rx
      have nlf : lf ≠ p := fun e => by
        obtain ⟨a1, a2, a3, ep, _⟩ := pt
        rw [e, ep] at hlf
        cases hlf
        obtain ⟨c, _, t2, wt, e2, _⟩ := ew.at (i := 0) rfl
        cases e2
      have y := fun {H1 : Hp} (b : But p H H1) => pt.stay b
      refine ⟨_, rfl, t, _, _, _, rfl, rfl, (y b2).sqT ht, atI_nat (j := 5) rfl, _, rfl, ?_⟩
      cases er : x.r with
      | true =>
        have xb : x.b = none := by
          rcases rows_mem.mp mx with rfl | rfl | rfl | ⟨_, rfl⟩ <;> first | rfl | cases er
        have ht2 := (y b2).sqT ht
        rw [er] at ht2
        refine iteT ⟨_, rfl, t, _, _, _, rfl, rfl, ht2, atI_nat (j := 6) rfl, _, rfl, t, _, _, _, rfl, rfl, ht2, atI_nat (j := 1) rfl, _, rfl, ?_⟩
        rw [xb]
        refine iteF (ed_tail rfl rfl rfl ((y b2).sqT ht) fnd (b2 _ _ nlf hlf) (Ev.stay ew (y b2)) (ne_of_none hlf hFd) (by rw [zipF_len (by rw [lg, List.length_take]; omega), List.length_take]; omega) fun H4 r4 e4 => ?_)
        exact ⟨_, _, _, gs ++ [x.fs], rfl, by simp [lg], by rw [zipF_snoc hk lg]; exact r4, fun b o nb e => e4 _ _ (ne_of_none e hFd) (b2 _ _ nb e), (potE p2 (Ne.symm nF) e4).le (by omega), edR_app hk lg ed (by unfold EdR; rw [xb]; exact ⟨fun _ => rfl, fun e => by rw [er] at e; cases e⟩)⟩
      | false =>
        refine iteF ⟨_, rfl, _, rfl, _, rfl, p, q, _, .ref t, x, N, rfl, p2, by omega, rLK_but pt b2 rx, b2 _ _ nq hq, nq, N5, Nnd, Nok, sh.small x mx, sh.right x mx, fun g mg s hs => sh.fresh x mx g mg s (List.mem_append_left _ hs), fun G ys g H3 hG eG ev cg b3 p3 => ?_⟩
        have b23 := but_trans b2 b3
        have ht3 := (y b23).sqT ht
        have fnd3 := fnd.but p2 nF b3
        refine ⟨_, rfl, t, _, _, _, rfl, rfl, ht3, atI_nat (j := 1) rfl, _, rfl, ?_⟩
        have lz : (zipF (ks.take j) gs).length < 100 := by rw [zipF_len (by rw [lg, List.length_take]; omega), List.length_take]; omega
        have nGF : G ≠ Fd := fun e => by
          obtain ⟨_, eF2, _⟩ := id fnd
          rw [e, eF2] at hG
          cases hG
        cases xb : x.b with
        | none =>
          refine iteF (ed_tail rfl rfl rfl ht3 fnd3 eG ev nGF lz fun H4 r4 e4 => ?_)
          exact ⟨_, _, _, gs ++ [g], rfl, by simp [lg], by rw [zipF_snoc hk lg]; exact r4, fun b o nb e => e4 _ _ (ne_of_none e hFd) (b23 _ _ nb e), (potE p3 (Ne.symm nF) e4).le (by omega), edR_app hk lg ed (by unfold EdR; rw [xb]; exact ⟨fun e => (by rw [er] at e; cases e), fun _ => cg⟩)⟩
        | some b0 =>
          have ht3' := ht3
          rw [xb] at ht3
          refine iteT ⟨_, rfl, _, rfl, t, _, _, _, rfl, rfl, ht3, atI_nat (j := 1) rfl, ?_⟩
          have ex : x = pl.heir f4 ∧ b0 = pl.k0 := by
            rcases rows_mem.mp mx with rfl | rfl | rfl | ⟨_, rfl⟩
            · cases xb
            · cases xb
            · cases xb
            · exact ⟨rfl, (Option.some.inj xb).symm⟩
          obtain ⟨g1, y1, ha, l1, e1, ey1⟩ : ∃ g1 y1, atName (zipF (ks.take j) gs) b0 = some y1 ∧ g1.length ≤ 3 ∧ y1.fs = g1 ∧ y1 = setF (pl.first f1) g1 := by
            have mf := heir_at sh.ok (i := j) (f1 := f1) (f2 := f2) (f3 := f3) (f4 := f4) (by rw [hks, ← ex.1]; exact hk)
            rw [hks] at mf
            obtain ⟨i, hi, ei⟩ := at_of mf
            have hij : i < j := by rw [List.length_take] at hi; omega
            have hg : gs[i]? = some gs[i] := List.getElem?_eq_getElem (by omega)
            have nd9 : ((zipF (ks.take j) gs).map (·.n)).Nodup := by
              rw [zipF_names (by rw [lg, List.length_take]; omega)]
              have := rows_nd (f1 := f1) (f2 := f2) (f3 := f3) (f4 := f4) sh.ok
              rw [hks] at this
              exact this.sublist (List.Sublist.map _ (List.take_sublist _ _))
            have fa := find_at nd9 (zipF_at ei hg)
            have ei2 : ks[i]? = some (pl.first f1) := by
              rw [List.getElem?_take, if_pos hij] at ei
              exact ei
            have := (ed i _ _ ei2 hg).2 rfl
            exact ⟨gs[i], _, by rw [ex.2]; exact fa, this.len, rfl, rfl⟩
          refine ⟨Fd, b0, _, y1, rfl, fnd3.rows, by omega, ha, fun v H4 r4 s4 => ?_⟩
          obtain ⟨t9, lf9, ws9, rfl, ht9, hlf9, ew9⟩ := r4
          have fw : ws9.length ≤ 3 := by rw [ew9.1, e1]; exact l1
          refine ⟨t9, _, _, _, rfl, rfl, ht9, atI_nat (j := 6) rfl, lf9, rfl, ⟨ws9, SqL.of hlf9⟩, fun Da hDa => ?_⟩
          refine lc_sieve (mLF K) mW (fun _ => true) (·.n) walk_list (by rw [e1]; omega) (fun H' s => SqL.of (s _ _ hlf9)) hDa ew9 (fun v c H2 Rq _ _ _ kk => kk _ (Same.refl _)) ?_ ?_
          · rintro _ g H2 Rq _ _ s2 ⟨t2, w2, rfl, ht2, _⟩ kk
            exact ⟨_, rfl, t2, _, _, _, rfl, rfl, ht2, atI_nat (j := 0) rfl, kk _ _ (Same.refl _) rfl⟩
          intro H5 ab s5 hab eab
          rw [filter_all, e1] at eab
          cases ev_words_eq eab
          have s45 := s4.trans s5
          refine ⟨_, rfl, G, rfl, ⟨ys, SqL.of (s45 _ _ eG)⟩, fun D4 hD4 => ?_⟩
          refine lc_sieve (mLF K) (mLF K) (fun o => decide (o.n ∉ g1.map (·.n))) id walk_list (Nat.le_trans cg.len (by decide)) (fun H' s => SqL.of (s _ _ (s45 _ _ eG))) hD4 (ev.same (mLF K) s45) ?_ ?_ ?_
          · rintro _ o H2 Rq _ s2 ⟨t2, w2, rfl, ht2, _⟩ kk
            refine ⟨_, rfl, t2, _, _, _, rfl, rfl, ht2, atI_nat (j := 0) rfl, _, rfl, Da, _, rfl, .inl (SqL.of (s2 _ _ hab)), rfl, flat_strs _, _, rfl, ?_⟩
            rw [show inV (.str o.n) ((g1.map (·.n)).map V.str) = decide (o.n ∈ g1.map (·.n)) from mem_in]
            have := kk _ (Same.refl _)
            rw [decide_not] at this
            exact this
          · rintro v c H2 Rq _ _ _ r kk
            exact ⟨_, rfl, kk _ _ (Same.refl _) r⟩
          intro H6 zs s6 hzs ez
          rw [List.map_id] at ez
          have e6 : (6 : Int) - (((g1.map (·.n)).map V.str).length : Nat) = ((6 - g1.length : Nat) : Int) := by
            rw [List.length_map, List.length_map]
            omega
          refine ⟨_, rfl, Da, _, rfl, .inl (SqL.of (s6 _ _ hab)), _, _, rfl, rfl, _, rfl, D4, zs, rfl, SqL.of hzs, fun L hL => ?_⟩
          rw [e6, cut_any]
          have sL := same_new (o := .lst (zs.take (6 - g1.length))) hL
          have sAll := s45.trans (s6.trans sL)
          have nL : L ≠ Fd := fun e => by
            obtain ⟨_, eF2, _⟩ := id (fnd3.same (s45.trans s6))
            rw [e, eF2] at hL
            cases hL
          refine ed_tail rfl rfl rfl (sAll.sqT ht3') (fnd3.same sAll) upd_same (ev_take (ez.same (mLF K) sL) _) nL lz fun H7 r7 e7 => ?_
          exact ⟨_, _, _, gs ++ [cutF g1 g], rfl, by simp [lg], by rw [zipF_snoc hk lg]; exact r7, fun b o nb e => e7 _ _ (ne_of_none e hFd) (sAll _ _ (b23 _ _ nb e)), (potE (p3.same sAll) (Ne.symm nF) e7).le (by omega), edR_app hk lg ed (by unfold EdR; rw [xb]; exact ⟨y1, g, ha, cg, by rw [e1]⟩)⟩
    · rintro σ H2 ⟨v4, v5, v6, gs, rfl, lg, fnd, b2, p2, ed⟩
      obtain ⟨g1, g2, g3, g4, ez, rel, d4⟩ := rows_zip (p := pl) (f1 := f1) (f2 := f2) (f3 := f3) (f4 := f4) (gs := gs) (by rw [lg, lu, hks])
      obtain ⟨⟨_, c1⟩, ⟨_, c2⟩, ⟨_, c3⟩, c4⟩ := rel (EdR N) (by rw [hks]; exact ed)
      have nd3 : ((pl.three g1 g2 g3).map (·.n)).Nodup := (rows_nd (f1 := g1) (f2 := g2) (f3 := g3) (f4 := g4) sh.ok).sublist (List.Sublist.map _ (List.sublist_append_left _ _))
      obtain ⟨h4, ch4, eg4⟩ : ∃ h4, (pl.op = true → Chg N (pl.heir f4) h4) ∧ g4 = if pl.op = true then cutF g1 h4 else [] := by
        cases op : pl.op with
        | false => exact ⟨[], fun e => (by cases e), by rw [if_neg Bool.false_ne_true]; exact d4 op⟩
        | true =>
          obtain ⟨y9, h, ha, ch, e9⟩ := c4 op
          obtain ⟨i, hi, ei⟩ := at_of (three_mem (p := pl) (f1 := g1) (f2 := g2) (f3 := g3).mpr (.inl rfl))
          have := find_at nd3 ei
          rw [show atName (pl.three g1 g2 g3) pl.k0 = some (pl.first g1) from this] at ha
          cases ha
          exact ⟨h, fun _ => ch, by rw [if_pos rfl]; exact e9⟩
      have fin := Sheet.step sh nd (c1.2 rfl) c2 (c3.2 rfl) ch4
      rw [← eg4] at fin
      have ek : zipF (ks.take us.length) gs = pl.rows g1 g2 g3 g4 := by rw [lu, List.take_length, ← hks]; exact ez
      rw [ek] at fnd
      exact ⟨_, rfl, k Fd g1 g2 g3 g4 H2 hFd nF fnd.rows fin b2 (p2.le (by omega)) (fun e => c2.1 e)⟩
end
end Wh
set_option Elab.async false
set_option linter.all false
set_option maxRecDepth 100000
set_option maxHeartbeats 4000000
namespace Wh
open PySem PySem.Spec PyProof.Rows L2
open Wp hiding Same.refl Same.trans same_new boot_all run_own
open W8 (Ev Rp Kp Mono same_new take_snoc rW rB mW mB ev_words ev_words_eq ev_bools_eq lc_sieve)
/-! ## two editions, and what is led -/
structure Twin (ks es : List KD) : Prop where
  len : ks.length = es.length
  keep : ∀ (i : Nat) x y, ks[i]? = some x → es[i]? = some y → KeepK ks es x y
theorem Twin.at_ {ks es : List KD} (t : Twin ks es) {x : KD} (mx : x ∈ ks) : ∃ y ∈ es, x.n = y.n := by
  obtain ⟨i, hi⟩ := List.getElem?_of_mem mx
  have h : i < es.length := by
    have := (List.getElem?_eq_some_iff.mp hi).1
    have := t.len
    omega
  exact ⟨es[i], List.getElem_mem h, (t.keep i x es[i] hi (List.getElem?_eq_getElem h)).n⟩
theorem Twin.of {ks es : List KD} (t : Twin ks es) {y : KD} (my : y ∈ es) : ∃ x ∈ ks, x.n = y.n := by
  obtain ⟨i, hi⟩ := List.getElem?_of_mem my
  have h : i < ks.length := by
    have := (List.getElem?_eq_some_iff.mp hi).1
    have := t.len
    omega
  exact ⟨ks[i], List.getElem_mem h, (t.keep i ks[i] y (List.getElem?_eq_getElem h) hi).n⟩
theorem Twin.heads {ks es : List KD} (t : Twin ks es) : ks.map (fun x => (x.n, x.b)) = es.map (fun x => (x.n, x.b)) := by
  apply List.ext_getElem (by simp [t.len])
  intro i h1 h2
  rw [List.length_map] at h1 h2
  have := t.keep i _ _ (List.getElem?_eq_getElem h1) (List.getElem?_eq_getElem h2)
  rw [List.getElem_map, List.getElem_map, this.n, this.b]
theorem baseOf_map (n : Str) : ∀ ks : List KD, baseOf ks n = ((ks.map (fun x => (x.n, x.b))).find? fun p => decide (p.1 = n)).bind (·.2)
  | [] => rfl
  | x :: ks => by
    have ih := baseOf_map n ks
    unfold baseOf at ih ⊢
    rw [List.map_cons, List.find?_cons, List.find?_cons]
    cases decide (x.n = n) with
    | true => rfl
    | false => exact ih
theorem Twin.letB {ks es : List KD} (t : Twin ks es) (a n : Str) : Wh.letB es a n = Wh.letB ks a n := by
  unfold Wh.letB
  rw [baseOf_map n es, baseOf_map n ks, t.heads]
theorem Twin.adm {ks es : List KD} (t : Twin ks es) (kn : List Str) (a : Str) (i : Nat) : admB es kn a i = admB ks kn a i := by
  unfold admB
  exact t.letB _ _
section
variable {root : Str} {ks es : List KD} {kn : List Str} {x : Th} {y : KD}
theorem same_kind (ok : HouseOk root ks) {a b : KD} (ma : a ∈ ks) (mb : b ∈ ks) (e : a.n = b.n) : a = b := by
  have h1 := ok.atN ma
  have h2 := ok.atN mb
  rw [e, h2] at h1
  exact (Option.some.inj h1).symm
theorem ValOk.full (my : y ∈ ks) (h : ValOk ks kn y x) : FullT ks x := ⟨y, my, h.k.symm, h.ns, h.len, fun j g v hg hv => fit_iff (h.fit j g v hg hv)⟩
theorem fit_short {adm : Str → Nat → Bool} {n : Nat} {g : FV} {l : List Int} (h : fitV adm n g (.lst l) = true) : l.length ≤ 200 := by
  unfold fitV at h
  dsimp only at h
  rw [Bool.and_eq_true, Bool.and_eq_true] at h
  exact of_decide_eq_true h.1.2
theorem ValOk.plain (ok : HouseOk root ks) (my : y ∈ ks) (h : ValOk ks kn y x) : PlainT x := by
  have fnd := ok.fnd my
  have few := ok.few my
  refine ⟨by rw [h.ns]; exact fnd, by rw [h.ns, List.length_map, h.len], by rw [h.ns, List.length_map]; omega, fun l ml => ?_⟩
  obtain ⟨j, hj⟩ := List.getElem?_of_mem ml
  have hjl : j < (allF ks y).length := by
    rw [← h.len]
    exact (List.getElem?_eq_some_iff.mp hj).1
  have := fit_short (h.fit j _ _ (List.getElem?_eq_getElem hjl) hj)
  omega
theorem ValOk.th (ok : HouseOk root ks) (my : y ∈ ks) (h : ValOk ks kn y x) : ThOk ks kn x := by
  have p := h.plain ok my
  refine ⟨⟨y, my, h.k.symm⟩, p.len, p.nd, p.few, fun y2 m2 e2 i n v hn hv => ?_⟩
  have : y2 = y := same_kind ok m2 my (e2.trans h.k)
  subst this
  rw [h.ns, List.getElem?_map] at hn
  obtain ⟨g, hg, rfl⟩ := Option.map_eq_some_iff.mp hn
  exact ⟨g, find_fv (ok.fnd m2) hg, h.fit i g v hg hv⟩
theorem ValOk.full_id (ok : HouseOk root ks) (my : y ∈ ks) (h : ValOk ks kn y x) : fullT ks x = x := by
  obtain ⟨k, ns, vs⟩ := x
  have hk : k = y.n := h.k
  have hn : ns = (allF ks y).map (·.n) := h.ns
  subst hk hn
  unfold fullT
  dsimp only
  rw [allN_of ok my, full_full (ok.fnd my) h.len]
theorem look_map {gs : List FV} (nd : (gs.map (·.n)).Nodup) (f : FV → Wv) {g : FV} (mg : g ∈ gs) : lookV (gs.map (·.n)) (gs.map f) g.n = some (f g) := by
  obtain ⟨i, hi⟩ := List.getElem?_of_mem mg
  exact look_at (i := i) nd (by rw [List.getElem?_map, hi]; rfl) (by rw [List.getElem?_map, hi]; rfl)
theorem full_led (he : HouseOk root es) (my : y ∈ es) (e : x.k = y.n) : fullT es (ledT ks es x) = dueT ks es x := by
  have fnd := he.fnd my
  unfold fullT dueT
  have ek : (ledT ks es x).k = x.k := rfl
  rw [ek]
  have eN : allN es x.k = allF es y := by
    rw [e]
    exact allN_of he my
  have ens : (ledT ks es x).ns = (keptG ks es x.k).map (·.n) := rfl
  have evs : (ledT ks es x).vs = (keptG ks es x.k).map fun g => ((srcOf (allN ks x.k) g).bind (lookV x.ns x.vs)).getD .non := rfl
  rw [ens, evs]
  unfold keptG
  rw [eN]
  congr 1
  unfold fullV
  apply List.map_congr_left
  intro g mg
  have knd : (((allF es y).filter fun g => (srcOf (allN ks x.k) g).isSome).map (·.n)).Nodup := fnd.sublist (List.Sublist.map _ List.filter_sublist)
  cases ho : srcOf (allN ks x.k) g with
  | some n =>
    rw [look_map knd _ (List.mem_filter.mpr ⟨mg, by rw [ho]; rfl⟩), ho]
    rfl
  | none =>
    rw [look_no fun z => ?_]
    · rfl
    · obtain ⟨o, mo, eo⟩ := List.mem_map.mp z
      obtain ⟨m1, m2⟩ := List.mem_filter.mp mo
      obtain ⟨i, hi⟩ := List.getElem?_of_mem m1
      obtain ⟨j, hj⟩ := List.getElem?_of_mem mg
      have k1 : ((allF es y).map (·.n))[i]? = some g.n := by rw [List.getElem?_map, hi, ← eo]; rfl
      have k2 : ((allF es y).map (·.n))[j]? = some g.n := by rw [List.getElem?_map, hj]; rfl
      have := (List.getElem?_inj (i := i) (j := j) (List.getElem?_eq_some_iff.mp k1).1 fnd).mp (k1.trans k2.symm)
      subst this
      rw [hi] at hj
      cases hj
      rw [ho] at m2
      cases m2
theorem fit_def {adm : Str → Nat → Bool} {n : Nat} {g : FV} (r : RightF g) : fitV adm n g (defV g) = true := by
  unfold defV
  rcases r.m with ⟨e, _, d1, d2⟩ | ⟨e | e, _⟩
  · rw [if_pos e]
    unfold fitV
    dsimp only
    rw [if_pos e]
    have eM : bigM = 1000000000000000000000000000000 := rfl
    exact decide_eq_true ⟨by omega, by omega⟩
  · rw [if_neg (by rw [e]; decide), if_pos e]
    exact decide_eq_true e
  · rw [if_neg (by rw [e]; decide), if_neg (by rw [e]; decide)]
    unfold fitV
    dsimp only
    rw [show decide (g.m = "list") = true from decide_eq_true e]
    rfl
theorem due_ok (t : Twin ks es) (hk : HouseOk root ks) (he : HouseOk root es) (oe : KindsOk es) {x1 : KD} (m1 : x1 ∈ ks) (my : y ∈ es) (exy : x1.n = y.n) (h : ValOk ks kn x1 x) : ValOk es kn y (dueT ks es x) := by
  have eN1 : allN ks x.k = allF ks x1 := by
    rw [h.k]
    exact allN_of hk m1
  have eN2 : allN es x.k = allF es y := by
    rw [h.k, exy]
    exact allN_of he my
  have p := h.plain hk m1
  refine ⟨h.k.trans exy, by unfold dueT; dsimp only; rw [eN2], by unfold dueT; dsimp only; rw [eN2, List.length_map], fun j g v hg hv => ?_⟩
  unfold dueT at hv
  dsimp only at hv
  rw [eN2, eN1, List.getElem?_map, hg] at hv
  cases ho : srcOf (allF ks x1) g with
  | none =>
    rw [Option.map_some, Option.some.injEq] at hv
    rw [ho] at hv
    rw [← hv]
    obtain ⟨y9, my9, mg9⟩ := allF_mem my (List.mem_of_getElem? hg)
    exact fit_def (oe.right y9 my9 g mg9)
  | some n =>
    rw [Option.map_some, Option.some.injEq, ho] at hv
    obtain ⟨o, mo, rfl, fo⟩ := srcOf_mem ho
    obtain ⟨i, hi⟩ := List.getElem?_of_mem mo
    have hil : i < x.vs.length := by
      rw [h.len]
      exact (List.getElem?_eq_some_iff.mp hi).1
    have hc : x.vs[i]? = some x.vs[i] := List.getElem?_eq_getElem hil
    have hn : x.ns[i]? = some o.n := by rw [h.ns, List.getElem?_map, hi]; rfl
    have el := look_at p.nd hn hc
    have hf := h.fit i o _ hi hc
    generalize x.vs[i] = c at hc el hf
    dsimp only at hv
    rw [el] at hv
    have hv : c = v := hv
    subst hv
    unfold fitsB at fo
    rw [Bool.and_eq_true, Bool.and_eq_true, decide_eq_true_eq, decide_eq_true_eq, decide_eq_true_eq] at fo
    obtain ⟨⟨em, et⟩, _⟩ := fo
    cases c with
    | non =>
      unfold fitV at hf ⊢
      rw [em]
      exact hf
    | int z =>
      unfold fitV at hf ⊢
      dsimp only at hf ⊢
      rw [em, et, t.adm]
      exact hf
    | lst l =>
      unfold fitV at hf ⊢
      dsimp only at hf ⊢
      rw [em, et]
      rw [show (l.all fun i => decide (0 ≤ i ∧ i < (kn.length : Nat)) && admB es kn (o.t.getD "") i.toNat) = l.all fun i => decide (0 ≤ i ∧ i < (kn.length : Nat)) && admB ks kn (o.t.getD "") i.toNat by
        congr 1
        funext i
        rw [t.adm]]
      exact hf
theorem led_ok (t : Twin ks es) (hk : HouseOk root ks) (he : HouseOk root es) (oe : KindsOk es) {x1 : KD} (m1 : x1 ∈ ks) (my : y ∈ es) (exy : x1.n = y.n) (h : ValOk ks kn x1 x) : ThOk es kn (ledT ks es x) := by
  have due := due_ok t hk he oe m1 my exy h
  have eN1 : allN ks x.k = allF ks x1 := by
    rw [h.k]
    exact allN_of hk m1
  have eN2 : allN es x.k = allF es y := by
    rw [h.k, exy]
    exact allN_of he my
  have fnd := he.fnd my
  have few := he.few my
  have knd : (((allF es y).filter fun g => (srcOf (allF ks x1) g).isSome).map (·.n)).Nodup := fnd.sublist (List.Sublist.map _ List.filter_sublist)
  have eled : ledT ks es x = ⟨x.k, ((allF es y).filter fun g => (srcOf (allF ks x1) g).isSome).map (·.n), ((allF es y).filter fun g => (srcOf (allF ks x1) g).isSome).map fun g => ((srcOf (allF ks x1) g).bind (lookV x.ns x.vs)).getD .non⟩ := by
    unfold ledT keptG
    rw [eN1, eN2]
  rw [eled]
  refine ⟨⟨y, my, by rw [← exy]; exact h.k.symm⟩, by rw [List.length_map, List.length_map], knd, ?_, fun y2 m2 e2 i n v hn hv => ?_⟩
  · rw [List.length_map]
    have := List.length_filter_le (fun g => (srcOf (allF ks x1) g).isSome) (allF es y)
    omega
  have : y2 = y := same_kind he m2 my (e2.trans (h.k.trans exy))
  subst this
  dsimp only at hn hv
  rw [List.getElem?_map] at hn hv
  obtain ⟨g, hg, rfl⟩ := Option.map_eq_some_iff.mp hn
  rw [hg, Option.map_some, Option.some.injEq] at hv
  obtain ⟨mg, sg⟩ := List.mem_filter.mp (List.mem_of_getElem? hg)
  obtain ⟨j, hj⟩ := List.getElem?_of_mem mg
  refine ⟨g, find_fv fnd hj, due.fit j g v hj ?_⟩
  unfold dueT
  dsimp only
  rw [eN2, eN1, List.getElem?_map, hj, Option.map_some]
  cases ho : srcOf (allF ks x1) g with
  | none =>
    rw [ho] at sg
    cases sg
  | some n =>
    rw [ho] at hv
    rw [← hv]
    rfl
theorem count_fm (n : Str) : ∀ os : List (Option Str), (os.filterMap id).count n = os.count (some n)
  | [] => rfl
  | o :: os => by
    have ih := count_fm n os
    cases o with
    | none =>
      rw [List.count_cons]
      simpa using ih
    | some m =>
      rw [List.filterMap_cons]
      dsimp only [id]
      rw [List.count_cons, List.count_cons, ih]
      congr 1
theorem one_of {os : List (Option Str)} (h : (os.filterMap id).Nodup) (n : Str) : os.count (some n) ≤ 1 := by
  rw [← count_fm]
  exact List.nodup_iff_count.mp h n
theorem kept_of (t : Twin ks es) (he : HouseOk root es) (h : leadsB ks es = true) : KeptAll ks es := by
  refine ⟨t.len, t.keep, fun i x y hx hy n => ?_⟩
  unfold leadsB at h
  rw [List.all_eq_true] at h
  have := of_decide_eq_true (h x (List.mem_of_getElem? hx))
  rw [(t.keep i x y hx hy).n, allN_of he (List.mem_of_getElem? hy)] at this
  exact one_of this n
theorem src_self {gs : List FV} {g : FV} (mg : g ∈ gs) : srcOf gs g = some g.n := by
  unfold srcOf
  rw [List.find?_cons]
  rw [show (gs.any fun o => decide (o.n = g.n) && fitsB g o) = true from List.any_eq_true.mpr ⟨g, mg, by simp [fitsB]⟩]
theorem kept_self (hk : HouseOk root ks) : KeptAll ks ks := by
  refine ⟨rfl, fun i x y hx hy => ?_, fun i x y hx hy n => ?_⟩
  · rw [hx] at hy
    cases hy
    exact ⟨rfl, rfl, rfl, rfl, rfl, rfl, fun _ => rfl⟩
  · rw [hx] at hy
    cases hy
    refine one_of ?_ n
    unfold srcs
    rw [show (allF ks x).map (srcOf (allF ks x)) = (allF ks x).map (fun g => some g.n) from List.map_congr_left fun g mg => src_self mg]
    rw [List.filterMap_map]
    have e : (allF ks x).filterMap (id ∘ fun g => some g.n) = (allF ks x).map (·.n) := by
      rw [← List.filterMap_eq_map]
      rfl
    rw [e]
    exact hk.fnd (List.mem_of_getElem? hx)
theorem KeptAll.twin (h : KeptAll ks es) : Twin ks es := ⟨h.len, h.keep⟩
theorem leads_self (hk : HouseOk root ks) : leadsB ks ks = true := by
  unfold leadsB
  rw [List.all_eq_true]
  intro x mx
  refine decide_eq_true ?_
  rw [allN_of hk mx]
  unfold srcs
  rw [show (allF ks x).map (srcOf (allF ks x)) = (allF ks x).map (fun g => some g.n) from List.map_congr_left fun g mg => src_self mg]
  rw [List.filterMap_map]
  have e : (allF ks x).filterMap (id ∘ fun g => some g.n) = (allF ks x).map (·.n) := by
    rw [← List.filterMap_eq_map]
    rfl
  rw [e]
  exact hk.fnd mx
theorem keyed_all (pl : Plan) (f1 f2 f3 f4 : List FV) (ks : List KD) : allF ks (pl.keyed f2) = f2 := by
  unfold allF
  rfl
theorem rows_pair (pl : Plan) (f1 f2 f3 f4 g1 g2 g3 g4 : List FV) : (pl.rows f1 f2 f3 f4).length = (pl.rows g1 g2 g3 g4).length ∧ ∀ (i : Nat) x y, (pl.rows f1 f2 f3 f4)[i]? = some x → (pl.rows g1 g2 g3 g4)[i]? = some y → (x = pl.first f1 ∧ y = pl.first g1) ∨ (x = pl.keyed f2 ∧ y = pl.keyed g2) ∨ (x = pl.plain f3 ∧ y = pl.plain g3) ∨ (x = pl.heir f4 ∧ y = pl.heir g4) := by
  unfold Plan.rows Plan.three
  split <;> cases pl.op <;> refine ⟨rfl, fun i x y hx hy => ?_⟩ <;> (rcases i with _ | _ | _ | _ | i <;> simp at hx hy <;> (try subst hx) <;> (try subst hy) <;> simp)
theorem twin_rows {pl : Plan} {f1 f2 f3 f4 g1 g2 g3 g4 : List FV} (hb : pl.booked = true → g2 = f2) : Twin (pl.rows f1 f2 f3 f4) (pl.rows g1 g2 g3 g4) := by
  obtain ⟨l, q⟩ := rows_pair pl f1 f2 f3 f4 g1 g2 g3 g4
  refine ⟨l, fun i x y hx hy => ?_⟩
  rcases q i x y hx hy with ⟨rfl, rfl⟩ | ⟨rfl, rfl⟩ | ⟨rfl, rfl⟩ | ⟨rfl, rfl⟩
  · exact ⟨rfl, rfl, rfl, rfl, rfl, rfl, fun e => by cases e⟩
  · exact ⟨rfl, rfl, rfl, rfl, rfl, rfl, fun e => by rw [hb e]; rfl⟩
  · exact ⟨rfl, rfl, rfl, rfl, rfl, rfl, fun e => by cases e⟩
  · exact ⟨rfl, rfl, rfl, rfl, rfl, rfl, fun e => by cases e⟩
theorem Twin.back (t : Twin ks es) : Twin es ks := ⟨t.len.symm, fun i x y hx hy => let k := t.keep i y x hy hx; ⟨k.n.symm, k.b.symm, k.k.symm, k.f.symm, k.h.symm, k.r.symm, fun e => (k.a (k.r.trans e)).symm⟩⟩
theorem sheet_kinds {pl : Plan} {S : List Str} {f1 f2 f3 f4 : List FV} (h : Sheet pl S f1 f2 f3 f4) : KindsOk (pl.rows f1 f2 f3 f4) := by
  refine ⟨h.right, fun y my => ?_⟩
  rcases rows_mem.mp my with rfl | rfl | rfl | ⟨_, rfl⟩
  · exact h.kn _ (.inl rfl)
  · exact h.kn _ (.inr (.inl rfl))
  · exact h.kn _ (.inr (.inr (.inl rfl)))
  · exact h.kn _ (.inr (.inr (.inr rfl)))
theorem first_in {pl : Plan} {f1 f2 f3 f4 : List FV} : pl.k0 ∈ (pl.rows f1 f2 f3 f4).map (·.n) := List.mem_map.mpr ⟨pl.first f1, rows_mem.mpr (.inl rfl), rfl⟩
/-! ## the things of a web -/
structure TvOk (ks : List KD) (ts : List Th) : Prop where
  n1 : 1 ≤ ts.length
  n6 : ts.length ≤ 6
  ok : ∀ x ∈ ts, ∃ y ∈ ks, ValOk ks (ts.map (·.k)) y x
theorem TsOk.tv {ts : List Th} (h : TsOk root ks ts) : TvOk ks ts := ⟨h.n1, h.n6, fun x mx => by
  obtain ⟨i, hi⟩ := List.getElem?_of_mem mx
  exact h.ok i x hi⟩
theorem TvOk.things {ts : List Th} (h : TvOk ks ts) (ok : HouseOk root ks) : ThingsOk ks ts := by
  have := h.n6
  exact ⟨h.n1, by omega, fun x mx => let ⟨y, my, v⟩ := h.ok x mx; v.th ok my⟩
theorem TvOk.full {ts : List Th} (h : TvOk ks ts) : ∀ x ∈ ts, FullT ks x := fun x mx => let ⟨_, my, v⟩ := h.ok x mx; v.full my
theorem TvOk.plain {ts : List Th} (h : TvOk ks ts) (ok : HouseOk root ks) : ∀ x ∈ ts, PlainT x := fun x mx => let ⟨_, my, v⟩ := h.ok x mx; v.plain ok my
theorem TvOk.id {ts : List Th} (h : TvOk ks ts) (ok : HouseOk root ks) : ts.map (fullT ks) = ts := by
  rw [List.map_congr_left (g := fun x => x) fun x mx => let ⟨_, my, v⟩ := h.ok x mx; v.full_id ok my]
  simp
theorem due_ks (ts : List Th) : (ts.map (dueT ks es)).map (·.k) = ts.map (·.k) := by
  rw [List.map_map]
  rfl
theorem led_ks (ts : List Th) : (ts.map (ledT ks es)).map (·.k) = ts.map (·.k) := by
  rw [List.map_map]
  rfl
theorem TvOk.due {ts : List Th} (h : TvOk ks ts) (t : Twin ks es) (hk : HouseOk root ks) (he : HouseOk root es) (oe : KindsOk es) : TvOk es (ts.map (dueT ks es)) := by
  refine ⟨by rw [List.length_map]; exact h.n1, by rw [List.length_map]; exact h.n6, fun z mz => ?_⟩
  obtain ⟨x, mx, rfl⟩ := List.mem_map.mp mz
  obtain ⟨x1, m1, v⟩ := h.ok x mx
  obtain ⟨y, my, e⟩ := t.at_ m1
  rw [due_ks]
  exact ⟨y, my, due_ok t hk he oe m1 my e v⟩
theorem TvOk.led {ts : List Th} (h : TvOk ks ts) (t : Twin ks es) (hk : HouseOk root ks) (he : HouseOk root es) (oe : KindsOk es) : ThingsOk es (ts.map (ledT ks es)) := by
  have := h.n6
  refine ⟨by rw [List.length_map]; exact h.n1, by rw [List.length_map]; omega, fun z mz => ?_⟩
  obtain ⟨x, mx, rfl⟩ := List.mem_map.mp mz
  obtain ⟨x1, m1, v⟩ := h.ok x mx
  obtain ⟨y, my, e⟩ := t.at_ m1
  rw [led_ks]
  exact led_ok t hk he oe m1 my e v
theorem TvOk.led_full {ts : List Th} (h : TvOk ks ts) (t : Twin ks es) (he : HouseOk root es) : (ts.map (ledT ks es)).map (fullT es) = ts.map (dueT ks es) := by
  rw [List.map_map]
  refine List.map_congr_left fun x mx => ?_
  obtain ⟨x1, m1, v⟩ := h.ok x mx
  obtain ⟨y, my, e⟩ := t.at_ m1
  exact full_led he my (v.k.trans e)
end
end Wh
set_option Elab.async false
set_option linter.all false
set_option maxRecDepth 100000
set_option maxHeartbeats 4000000
namespace Wh
open PySem PySem.Spec PyProof.Rows L2
open Wp hiding Same.refl Same.trans same_new boot_all run_own
open W8 (Ev Rp Kp Mono same_new take_snoc rW rB mW mB ev_words ev_words_eq ev_bools_eq lc_sieve)
section
variable {P : Program} {w : World} {K : PySem.W.Frag} {mg : Str → Option Value} {base : Heap} {CF CK CH CW CU CV : Addr}
theorem dc_to2 {α : Type} {R : Rp α} {H H' : Hp} {d : Addr} {ns : List Str} {cs : List α} (h : Dc R H d ns cs) (m : ∀ v c, R H v c → R H' v c) (s : ∀ kvs, H d = some (.dK kvs) → H' d = some (.dK kvs)) : Dc R H' d ns cs := by
  obtain ⟨xs, e, l, v⟩ := h
  exact ⟨xs, s _ e, l, v.1, fun i x c a b => m _ _ (v.2 i x c a b)⟩
theorem pot_off2 {p : Addr} {n : Nat} {H H' : Hp} (pt : Pot p n H) (b : Wp.But p H H') {q : Addr} {o : HO} (e : H q = some o) (nl : ∀ i j k, o ≠ .lst [.int i, .int j, .int k]) : H' q = some o := by
  refine b _ _ (fun z => ?_) e
  obtain ⟨_, _, _, ep, _⟩ := pt
  rw [z, ep] at e
  exact nl _ _ _ (Option.some.inj e).symm
theorem house_but {p : Addr} {n : Nat} {H H' : Hp} {s : Addr} {root : Str} {ks : List KD} (pt : Pot p n H) (b : Wp.But p H H') (h : HouseAt K CF CK CH H s root ks) : HouseAt K CF CK CH H' s root ks := by
  obtain ⟨⟨dx, tn, tk, d, df, dl, dr, h1, h2, ⟨xs, h3, h3e⟩, h4, h5, h6, h7⟩, ok⟩ := h
  have y := pt.stay b
  have dk : ∀ d kvs, H d = some (.dK kvs) → H' d = some (.dK kvs) := fun d kvs e => pot_off2 pt b e (fun _ _ _ z => by cases z)
  have l : ∀ v c, rL H v c → rL H' v c := fun v c ⟨t, e, h⟩ => ⟨t, e, pot_off2 pt b h fun i j k z => by
    cases c with
    | nil => cases z
    | cons a r => cases z⟩
  exact ⟨⟨dx, tn, tk, d, df, dl, dr, y.i _ _ _ _ h1, y.sqT h2, ⟨xs, y.sqT h3, h3e.1, fun i x c a q => rK_stay y (h3e.2 i x c a q)⟩, dc_to2 h4 (fun _ _ => rK_stay y) (dk d), dc_to2 h5 (fun _ _ ⟨t, e, h⟩ => ⟨t, e, h.stay y⟩) (dk df), dc_to2 h6 l (dk dl), dc_to2 h7 l (dk dr)⟩, ok⟩
/-- what both editions keep -/
structure Eds (root : Str) (ks es : List KD) : Prop where
  hk : HouseOk root ks
  he : HouseOk root es
  ko : KindsOk ks
  oe : KindsOk es
  gk : ∀ x ∈ ks, GoodK x
  ge : ∀ x ∈ es, GoodK x
  mr : root ∈ ks.map (·.n)
  kp : KeptAll ks es
theorem Eds.two {root : Str} {ks es : List KD} (h : Eds root ks es) : TwoOk root ks es := ⟨h.hk, h.he, h.ko, h.oe, fun _ my => h.kp.twin.of my⟩
theorem Eds.owt {root : Str} {ks es : List KD} (h : Eds root ks es) : TwoOk root es ks := ⟨h.he, h.hk, h.oe, h.ko, fun y my => let ⟨z, mz, e⟩ := h.kp.twin.at_ my; ⟨z, mz, e.symm⟩⟩
abbrev sRi : Stmt := top 81
abbrev nRi : List Str := ["_law_pot_here", "_law_rows", "_law_start", "_law_names", "_law_extra", "_law_others", "_law_house_here", "_law_other", "_law_things_here", "_law_spot", "_law_left", "_law_web", "_law_due", "_law_told"]
theorem scRi : FnScope nRi ["_law_pot_here"] (defScope sRi) := ⟨rfl, rfl, rfl, by decide +kernel, rfl, by decide +kernel, by decide +kernel⟩
def spRi : Sp := fun vs H Q _ => ∃ (p : Addr) (n : Nat), vs = [.ref p] ∧ Pot p n H ∧ n < 10000 ∧ ∀ H', But p H H' → Q (.bl true) H'
theorem ok_Ri {f f1 f2 f3 f4 f5 f6 f7 f8 f9 f10 fE : Addr} {fd fd1 fd2 fd3 fd4 fd5 fd6 fd7 fd8 fd9 fd10 fdE : FuncData} (F : Fun K "_law_right" "_law_right" sRi f fd) (B : Bn mg) (DR : Known P w K mg base CX0 1 "_law_draw" ["_law_pot_here", "_law_many"] spDr f1 fd1) (HO_ : Known P w K mg base CX0 4 "_law_house" ["_law_pot_here"] (spHo K) f2 fd2) (ED : Known P w K mg base CX0 5 "_law_edition" ["_law_pot_here", "_law_rows", "_law_names"] (spEd K) f3 fd3) (LE : Known P w K mg base CX0 5 "_law_leads" ["_law_elder", "_law_later"] (spLe K) f4 fd4) (BU : Known P w K mg base CX0 6 "_law_built" ["_law_rows", "_law_start"] (spBu K CF CK CH) f5 fd5) (TG : Known P w K mg base CX0 4 "_law_things" ["_law_pot_here", "_law_rows", "_law_start", "_law_most"] (spTg K) f6 fd6)
    (LT : Known P w K mg base CX0 5 "_law_led_things" ["_law_rows", "_law_others", "_law_things_here"] (spLt2 K) f7 fd7) (LD_ : Known P w K mg base CX0 8 "led" ["web", "reader"] (spLd2 K CF CK CH CW) f8 fd8) (WR_ : Known P w K mg base CX0 8 "_law_web_right" ["_law_web", "_law_house_here", "_law_things_here", "_law_spot", "_law_left"] (spWr K CF CK CH CW) f9 fd9) (MW : MkW P w K mg base CF CK CH CW f10 fd10) (WE_ : EqM P w K mg base CW 6 (spWE K CF CK CH CW) fE fdE) :
    FnOk P w K mg base CX0 9 f fd ["_law_pot_here"] spRi := by
  refine F.ok scRi (fun vs H Q E h => ?_) (fun cdv A outer s H vs Q E hr h => ?_)
  · obtain ⟨p, n, rfl, _⟩ := h
    rfl
  · obtain ⟨p, n, rfl, pt, n1, k⟩ := h
    refine ⟨_, 
      (pss_cons (ps_asg (pe_call HO_.ok (hr.mono (by decide)) rfl HO_.mg HO_.kp HO_.bi .nil pass0 (pa_cons (pv 0) pa_nil)) (pg_tup rfl (pgs_cons (pg_name (i := 1) scRi.nd rfl (Or.inl rfl)) (pgs_cons (pg_name (i := 2) scRi.nd rfl (Or.inl rfl)) (pgs_cons (pg_name (i := 3) scRi.nd rfl (Or.inl rfl)) (pgs_cons (pg_name (i := 4) scRi.nd rfl (Or.inl rfl)) pgs_nil))))))
      (pss_cons (ps_set (i := 5) scRi.nd rfl (.inl rfl) (pe_call ED.ok (hr.mono (by decide)) rfl ED.mg ED.kp ED.bi .nil pass0 (pa_cons (pv 0) (pa_cons (pv 1) (pa_cons (pe_slice sl_list (pv 3) po_none (po_some pe_int)) pa_nil)))))
      (pss_cut (ps_if (pt_not (pt_val (pe_call LE.ok (hr.mono (by decide)) rfl LE.mg LE.kp LE.bi .nil pass0 (pa_cons (pv 1) (pa_cons (pv 5) pa_nil))))) 
        (pss_one (ps_set (i := 5) scRi.nd rfl (.inl rfl) (pv 1))) pss_nil)
      (pss_cons (ps_par (i := 6) (j := 7) rfl scRi.nd rfl rfl (by decide) rfl rfl (pa_cons (pe_call BU.ok (hr.mono (by decide)) rfl BU.mg BU.kp BU.bi .nil pass0 (pa_cons (pv 1) (pa_cons (pv 2) pa_nil))) (pa_cons (pe_call BU.ok (hr.mono (by decide)) rfl BU.mg BU.kp BU.bi .nil pass0 (pa_cons (pv 5) (pa_cons (pv 2) pa_nil))) pa_nil)) rfl)
      (pss_cons (ps_set (i := 8) scRi.nd rfl (.inl rfl) (pe_call TG.ok (hr.mono (by decide)) rfl TG.mg TG.kp TG.bi .nil pass0 (pa_cons (pv 0) (pa_cons (pv 1) (pa_cons (pv 2) (pa_cons pe_int pa_nil))))))
      (pss_cons (ps_set (i := 9) scRi.nd rfl (.inl rfl) (pe_call DR.ok (hr.mono (by decide)) rfl DR.mg DR.kp DR.bi .nil pass0 (pa_cons (pv 0) (pa_cons (pe_callB (show CallR _ (.builtin "len") (rLenQ K) from call_len_seq) (by rfl) B.len PySem.boot_len (pa_cons (pv 8) pa_nil)) pa_nil))))
      (pss_cut (ps_set (i := 10) scRi.nd rfl (.inl rfl) (pe_ifExp (pt_cmpR op_eq (pe_call DR.ok (hr.mono (by decide)) rfl DR.mg DR.kp DR.bi .nil pass0 (pa_cons (pv 0) (pa_cons pe_int pa_nil))) pe_int (nomark _)) (pe_call DR.ok (hr.mono (by decide)) rfl DR.mg DR.kp DR.bi .nil pass0 (pa_cons (pv 0) (pa_cons (pe_callB (show CallR _ (.builtin "len") (rLenQ K) from call_len_seq) (by rfl) B.len PySem.boot_len (pa_cons (pv 8) pa_nil)) pa_nil))) pe_non))
      (pss_cons (ps_set (i := 11) scRi.nd rfl (.inl rfl) (pe_makeK MW.made MW.ok (hr.mono (by decide)) rfl MW.gl MW.kb pass0 (pa_cons (pv 6) (pa_cons (pv 8) pa_nil)) (pk_cons (pv 9) (pk_cons (pv 10) pk_nil))))
      (pss_cons (ps_set (i := 12) scRi.nd rfl (.inl rfl) (pe_call LT.ok (hr.mono (by decide)) rfl LT.mg LT.kp LT.bi .nil pass0 (pa_cons (pv 1) (pa_cons (pv 5) (pa_cons (pv 8) pa_nil)))))
      (pss_cons (ps_set (i := 13) scRi.nd rfl (.inl rfl) (pe_call LD_.ok (hr.mono (by decide)) rfl LD_.mg LD_.kp LD_.bi .nil pass0 (pa_cons (pv 11) (pa_cons (pv 7) pa_nil))))
      (pss_cons (ps_if (PW.pt (pw_or (pt_not (pt_val (pe_call WR_.ok (hr.mono (by decide)) rfl WR_.mg WR_.kp WR_.bi .nil pass0 (pa_cons (pv 13) (pa_cons (pv 7) (pa_cons (pv 12) (pa_cons (pv 9) (pa_cons (pv 10) pa_nil)))))))) (pw_or1 (pt_not (pt_val (pe_call WR_.ok (hr.mono (by decide)) rfl WR_.mg WR_.kp WR_.bi .nil pass0 (pa_cons (pv 11) (pa_cons (pv 6) (pa_cons (pv 8) (pa_cons (pv 9) (pa_cons (pv 10) pa_nil))))))))))) 
        (pss_one (ps_ret pe_bl)) pss_nil)
      (pss_cons (ps_if (pt_cmpR (show OpR _ (compareOp .NotEq) (rOwn true K CW (spWE K CF CK CH CW) E0) from op_ownNe WE_.ok WE_.bi pass0 WE_.own (hr.mono (by decide))) (pv 13) (pe_call LD_.ok (hr.mono (by decide)) rfl LD_.mg LD_.kp LD_.bi .nil pass0 (pa_cons (pe_makeK MW.made MW.ok (hr.mono (by decide)) rfl MW.gl MW.kb pass0 (pa_cons (pv 6) (pa_cons (pv 8) pa_nil)) (pk_cons (pv 9) (pk_cons (pv 10) pk_nil))) (pa_cons (pv 7) pa_nil))) (nomark _)) 
        (pss_one (ps_ret pe_bl)) pss_nil)
      (pss_cons (ps_if (pt_not (pt_val (pe_call LE.ok (hr.mono (by decide)) rfl LE.mg LE.kp LE.bi .nil pass0 (pa_cons (pv 5) (pa_cons (pv 1) pa_nil))))) 
        (pss_one (ps_ret pe_bl)) pss_nil)
      (pss_one (ps_ret (pe_call WR_.ok (hr.mono (by decide)) rfl WR_.mg WR_.kp WR_.bi .nil pass0 (pa_cons (pe_call LD_.ok (hr.mono (by decide)) rfl LD_.mg LD_.kp LD_.bi .nil pass0 (pa_cons (pv 13) (pa_cons (pv 6) pa_nil))) (pa_cons (pv 6) (pa_cons (pe_call LT.ok (hr.mono (by decide)) rfl LT.mg LT.kp LT.bi .nil pass0 (pa_cons (pv 5) (pa_cons (pv 1) (pa_cons (pv 12) pa_nil)))) (pa_cons (pv 9) (pa_cons (pv 10) pa_nil))))))))))))))))))))), ?_⟩
    refine ⟨_, rfl, p, n, rfl, pt, by omega, fun T0 L D pl f1 f2 f3 f4 S x H1 hT0 rows nL hD nD sh len nd ok b1 p1 => ⟨T0, _, rfl, SqT.of hT0, rfl, _, _, rfl, _, _, rfl, _, _, rfl, _, _, rfl, rfl, ?_⟩⟩
    refine ⟨_, rfl, _, rfl, _, rfl, 5, rfl, D, _, rfl, SqL.of hD, fun N1 hN => ?_⟩
    rw [show cutV (S.map V.str) none (some 5) = (S.map V.str).take 5 from cut_any (k := 5), ← List.map_take]
    have sN := same_new (o := .lst ((S.take 5).map V.str)) hN
    refine ⟨p, L, N1, _, pl, f1, f2, f3, f4, S.take 5, S.drop 5, rfl, p1.same sN, by omega, rows.same sN, nL, upd_same, p1.at_ hN, ?_, by rw [List.length_take, len]; rfl, by rw [List.take_append_drop]; exact nd, fun s hs => ok s (List.mem_of_mem_take hs), fun O1 g1 g2 g3 g4 H2 hO nO ro sg b2 p2 bk => ?_⟩
    · rw [List.take_append_drop]
      exact sh
    have b12 := but_trans (but_of sN) b2
    have rows2 := rows.but p1 nL b12
    have b02 := but_trans b1 b12
    refine ⟨fun σ H' => ∃ (O : Addr) (root : Str) (ks es : List KD), σ = [some (.ref p), some (.ref L), some (.str root), some (.ref D), some (.str x), some (.ref O), none, none, none, none, none, none, none, none] ∧ Rows K H' L ks ∧ Rows K H' O es ∧ O ≠ p ∧ Eds root ks es ∧ But p H H' ∧ Pot p (n + 400) H', ?_, ?_⟩
    · have tw := twin_rows (f1 := f1) (f3 := f3) (f4 := f4) (g1 := g1) (g3 := g3) (g4 := g4) bk
      have hk := sh.house
      have he := sg.house
      have ko := sheet_kinds sh
      have oe := sheet_kinds sg
      refine ⟨_, rfl, _, rfl, L, O1, pl.k0, pl.rows f1 f2 f3 f4, pl.rows g1 g2 g3 g4, rfl, rows2, ro, ⟨hk, he, ko, oe, fun _ my => tw.of my⟩, fun z mz => let ⟨y, my, e⟩ := tw.at_ mz; ⟨y, my, e.symm⟩, fun H3 s3 => ⟨_, rfl, ?_⟩⟩
      have b03 := but_trans b02 (but_of s3)
      cases hl : leadsB (pl.rows f1 f2 f3 f4) (pl.rows g1 g2 g3 g4) with
      | true =>
        exact iteF ⟨O1, pl.k0, _, _, rfl, rows2.same s3, ro.same s3, nO, ⟨hk, he, ko, oe, sh.good, sg.good, first_in, kept_of tw he hl⟩, b03, (p2.same s3).le (by omega)⟩
      | false =>
        exact iteT ⟨_, rfl, L, pl.k0, _, _, rfl, rows2.same s3, rows2.same s3, nL, ⟨hk, hk, ko, ko, sh.good, sh.good, first_in, kept_self hk⟩, b03, (p2.same s3).le (by omega)⟩
    rintro _ H3 ⟨O, root, ks, es, rfl, rk, ro3, nO3, ed, b03, p3⟩
    refine ⟨_, rfl, _, rfl, L, root, ks, rfl, rk, ed.gk, ed.hk, fun a H4 ha s4 h4 => ?_⟩
    refine ⟨_, rfl, _, rfl, O, root, es, rfl, ro3.same s4, ed.ge, ed.he, fun b H5 hb s5 h5 => ⟨_, _, rfl, ?_⟩⟩
    have s35 := s4.trans s5
    have p5 := p3.same s35
    have rk5 := rk.same s35
    have ro5 := ro3.same s35
    have h45 := h4.same s5
    refine ⟨_, rfl, _, rfl, _, rfl, p, L, n + 400, root, ks, rfl, p5, by omega, rk5, nL, ed.hk, ed.ko, ed.mr, fun T us ts H6 hT eT ev tso b6 p6 => ?_⟩
    have tv := tso.tv
    have nT : T ≠ p := p5.at_ hT
    have lu : us.length = ts.length := ev.1
    have n1 := tv.n1
    have n6 := tv.n6
    obtain ⟨_, _, _, ep5, _⟩ := id p5
    have ev6 : Ev (rThN K H5) H6 us ts := ev
    refine ⟨_, rfl, _, rfl, T, _, rfl, .inl (SqL.of eT), p, _, n + 400 + 700, rfl, p6, by omega, by omega, by omega, fun sp H7 sp0 sp1 b7 p7 => ?_⟩
    obtain ⟨here, rfl⟩ := Int.eq_ofNat_of_zero_le sp0
    obtain ⟨_, _, _, ep6, _⟩ := id p6
    obtain ⟨_, _, _, ep7, _⟩ := id p7
    have ev7 : Ev (rThN K H5) H7 us ts := ⟨ev6.1, fun i u c a q => rThN_but ep5 ep6 ep7 b7 (ev6.2 i u c a q)⟩
    have eT7 := b7 _ _ nT eT
    refine ⟨fun σ H' => ∃ old : Option Nat, σ = [some (.ref p), some (.ref L), some (.str root), some (.ref D), some (.str x), some (.ref O), some (.ref a), some (.ref b), some (.ref T), some (.int (here : Nat)), some (ovV old), none, none, none] ∧ (∀ i, old = some i → i < ts.length) ∧ H' T = some (.lst us) ∧ Ev (rThN K H5) H' us ts ∧ But p H7 H' ∧ Pot p (n + 2000) H', ?_, ?_⟩
    · refine ⟨_, rfl, p, 2, n + 400 + 700 + 1, rfl, p7, by omega, by decide, by decide, fun d H8 _ _ b8 p8 => ⟨rfl, _, rfl, ite2 (fun _ => ?_) (fun _ => ?_)⟩⟩
      · obtain ⟨_, _, _, ep8, _⟩ := id p8
        have ev8 : Ev (rThN K H5) H8 us ts := ⟨ev7.1, fun i u c a q => rThN_but ep5 ep7 ep8 b8 (ev7.2 i u c a q)⟩
        have eT8 := b8 _ _ nT eT7
        refine ⟨_, rfl, _, rfl, T, _, rfl, .inl (SqL.of eT8), p, _, n + 400 + 700 + 1 + 1, rfl, p8, by omega, by omega, by omega, fun lf H9 lf0 lf1 b9 p9 => ?_⟩
        obtain ⟨left, rfl⟩ := Int.eq_ofNat_of_zero_le lf0
        obtain ⟨_, _, _, ep9, _⟩ := id p9
        have ev9 : Ev (rThN K H5) H9 us ts := ⟨ev8.1, fun i u c a q => rThN_but ep5 ep8 ep9 b9 (ev8.2 i u c a q)⟩
        exact ⟨some left, rfl, (fun i e => by cases e; omega), b9 _ _ nT eT8, ev9, but_trans b8 b9, p9.le (by omega)⟩
      · obtain ⟨_, _, _, ep8, _⟩ := id p8
        have ev8 : Ev (rThN K H5) H8 us ts := ⟨ev7.1, fun i u c a q => rThN_but ep5 ep7 ep8 b8 (ev7.2 i u c a q)⟩
        exact ⟨none, rfl, (fun i e => by cases e), b8 _ _ nT eT7, ev8, b8, p8.le (by omega)⟩
    rintro _ H8 ⟨old, rfl, hold, eT8, ev8, b8, p8⟩
    have b58 := but_trans b6 (but_trans b7 b8)
    have h4' := house_but p5 b58 h45
    have h5' := house_but p5 b58 h5
    have rk8 := rk5.but p5 nL b58
    have ro8 := ro5.but p5 nO3 b58
    have b08 : But p H H8 := but_trans b03 (but_trans (but_of s35) b58)
    have evo : Ev (rTh K) H8 us ts := ⟨ev8.1, fun i u c a q => (ev8.2 i u c a q).old⟩
    have hsp : here < ts.length := by omega
    have tw := ed.kp.twin
    have tdue := tv.due tw ed.hk ed.he ed.oe
    refine ⟨_, rfl, _, rfl, _, rfl, _, rfl, rfl, rfl, fun w1 da hw1 hda ne => ?_⟩
    have sm := made_same (C := CW) hw1 hda
    refine ⟨w1, da, a, T, root, ks, here, old, us, ts, rfl, upd_same, h4'.same sm, ed.ko, sm _ _ eT8, ⟨evo.1, fun i u c x q => rTh_same sm (evo.2 i u c x q)⟩, tv.things ed.hk, hsp, hold, fun H9 bw web => ⟨rfl, ?_⟩⟩
    have s89 : Same H8 H9 := fun c o e => bw _ _ (ne_of_none e hw1) (sm _ _ e)
    rw [tv.id ed.hk] at web
    have evo9 := ev_ths s89 evo
    refine ⟨_, rfl, _, rfl, _, rfl, L, O, T, root, ks, es, us, ts, rfl, rk8.same s89, ro8.same s89, ed.two, fun _ mx => tw.at_ mx, s89 _ _ eT8, evo9, tv.full, by omega, fun Du us2 H10 hDu eDu evd s10 => ?_⟩
    have s810 := s89.trans s10
    refine ⟨_, rfl, _, rfl, w1, b, a, root, ks, es, here, old, ts, rfl, web.same s10, h5'.same s810, ed.ko, ed.oe, ed.kp, tv.full, tv.led tw ed.hk ed.he ed.oe, hsp, hold, fun w2 H11 hw2 s11 web2 => ?_⟩
    rw [tv.led_full tw ed.he] at web2
    have s811 := s810.trans s11
    have hspd : here < (ts.map (dueT ks es)).length := by rw [List.length_map]; exact hsp
    have holdd : ∀ i, old = some i → i < (ts.map (dueT ks es)).length := fun i e => by rw [List.length_map]; exact hold i e
    refine ⟨_, rfl, _, rfl, _, rfl, _, rfl, _, rfl, w2, b, b, Du, root, es, here, old, ts.map (dueT ks es), us2, rfl, web2, h5'.same s811, s11 _ _ eDu, ev_ths s11 evd, tdue.plain ed.he, by rw [List.length_map]; omega, fun H12 s12 => ⟨_, rfl, iteF ?_⟩⟩
    refine ⟨_, rfl, _, rfl, _, rfl, _, rfl, _, rfl, w1, a, a, T, root, ks, here, old, ts, us, rfl, web.same (s10.trans (s11.trans s12)), h4'.same (s811.trans s12), (s811.trans s12) _ _ eT8, ev_ths (s811.trans s12) evo, tv.plain ed.hk, by omega, fun H13 s13 => ⟨_, rfl, iteF ?_⟩⟩
    have s1113 := s12.trans s13
    have s813 := s811.trans s1113
    refine ⟨_, rfl, _, rfl, _, rfl, _, rfl, _, rfl, rfl, rfl, fun w3 da3 hw3 hda3 ne3 => ?_⟩
    have sm3 := made_same (C := CW) hw3 hda3
    refine ⟨w3, da3, a, T, root, ks, here, old, us, ts, rfl, upd_same, h4'.same (s813.trans sm3), ed.ko, (s813.trans sm3) _ _ eT8, ev_ths (s813.trans sm3) evo, tv.things ed.hk, hsp, hold, fun H14 bw3 web3 => ⟨rfl, ?_⟩⟩
    rw [tv.id ed.hk] at web3
    have s1314 : Same H13 H14 := fun c o e => bw3 _ _ (ne_of_none e hw3) (sm3 _ _ e)
    have s814 := s813.trans s1314
    refine ⟨_, rfl, w3, b, a, root, ks, es, here, old, ts, rfl, web3, h5'.same s814, ed.ko, ed.oe, ed.kp, tv.full, tv.led tw ed.hk ed.he ed.oe, hsp, hold, fun w4 H15 hw4 s15 web4 => ?_⟩
    rw [tv.led_full tw ed.he] at web4
    have s1115 := s1113.trans (s1314.trans s15)
    have s815 := s811.trans s1115
    have web2' := web2.same s1115
    obtain ⟨dx2, _, _, _, ew2, _⟩ := web2'.ex
    obtain ⟨dx4, _, _, _, ew4, _⟩ := web4.ex
    refine ⟨w2, dx2, _, rfl, ew2, .ins w4 CW dx4 _ ew4 WE_.nf, w2, w4, b, b, root, es, here, old, ts.map (dueT ks es), rfl, web2', web4, fun z mz => (tdue.plain ed.he z mz).nd, true, rfl, _, rfl, iteF ?_⟩
    refine ⟨_, rfl, _, rfl, O, L, root, es, ks, rfl, ro8.same s815, rk8.same s815, ed.owt, fun y my => tw.of my, fun H16 s16 => ⟨_, rfl, ?_⟩⟩
    have s816 := s815.trans s16
    have b016 := but_trans b08 (but_of s816)
    cases hl : leadsB es ks with
    | false => exact iteT (k _ b016)
    | true =>
      refine iteF ?_
      have kp2 := kept_of tw.back ed.hk hl
      have s1016 : Same H10 H16 := s11.trans (s1115.trans s16)
      refine ⟨_, rfl, _, rfl, w2, a, b, root, es, ks, here, old, ts.map (dueT ks es), rfl, web2'.same s16, h4'.same s816, ed.oe, ed.ko, kp2, tdue.full, tdue.led tw.back ed.he ed.hk ed.ko, hspd, holdd, fun w5 H17 hw5 s17 web5 => ?_⟩
      rw [tdue.led_full tw.back ed.hk] at web5
      have s817 := s816.trans s17
      refine ⟨_, rfl, _, rfl, _, rfl, _, rfl, O, L, Du, root, es, ks, us2, ts.map (dueT ks es), rfl, ro8.same s817, rk8.same s817, ed.owt, fun _ mx => tw.back.at_ mx, (s1016.trans s17) _ _ eDu, ev_ths (s1016.trans s17) evd, tdue.full, by rw [List.length_map]; omega, fun Dv us3 H18 hDv eDv evv s18 => ?_⟩
      have tdue2 := tdue.due tw.back ed.he ed.hk ed.ko
      exact ⟨_, rfl, _, rfl, w5, a, a, Dv, root, ks, here, old, _, us3, rfl, web5.same s18, h4'.same (s817.trans s18), eDv, evv, tdue2.plain ed.hk, by rw [List.length_map, List.length_map]; omega, fun H19 s19 => k _ (but_trans b08 (but_of (s817.trans (s18.trans s19))))⟩
end
end Wh
set_option Elab.async false
set_option linter.all false
set_option maxRecDepth 100000
set_option maxHeartbeats 4000000
namespace Wh
open PySem PySem.Spec PyProof.Rows L2
open Wp hiding Same.refl Same.trans same_new boot_all run_own
section
variable {P : Program} {w : World} {K : PySem.W.Frag} {mg : Str → Option Value} {base : Heap}
abbrev sLw : Stmt := top 82
abbrev nLw : List Str := ["_law_script", "_law_at"]
def spLw (K : PySem.W.Frag) : Sp := fun vs H Q _ => ∃ (a : Addr) (ns : List Int), vs = [.ref a] ∧ SqL K H a (ns.map V.int) ∧ ns.length ≤ 63 ∧ ∀ H', Q (.bl true) H'
theorem scLw : FnScope nLw ["_law_script"] (defScope sLw) := ⟨rfl, rfl, rfl, by decide +kernel, rfl, by decide +kernel, by decide +kernel⟩
theorem But.sqL {p a : Addr} {n : Nat} {H H' : Hp} {ns : List Int} (nil : H p = none) (b : But p H H') (h : SqL K H a (ns.map V.int)) : SqL K H' a (ns.map V.int) := by
  have ne : ∀ {q o}, H q = some o → q ≠ p := fun {q o} e z => by rw [z, nil] at e; cases e
  rcases h with (h | ⟨o, h⟩) | h
  · exact .inl (.inl (b _ _ (ne h) h))
  · exact .inl (.inr ⟨o, b _ _ (ne h) h⟩)
  · exact .inr h
theorem ok_Lw {f f1 f2 : Addr} {fd fd1 fd2 : FuncData} (F : Fun K "law" "law" sLw f fd) (B : Bn mg) (Bx : Bx mg) (PT_ : Known P w K mg base CX0 1 "_law_pot" ["_law_script", "_law_at"] (spPt K) f1 fd1) (RI : Known P w K mg base CX0 9 "_law_right" ["_law_pot_here"] spRi f2 fd2) :
    GOk P w K mg base CX0 10 f fd ["_law_script"] (spLw K) := by
  refine gok_of F scLw (fun vs H Q E h => ?_) (fun cdv A outer s H vs Q E hG hr h => ?_)
  · obtain ⟨a, ns, rfl, _⟩ := h
    rfl
  · obtain ⟨a, ns, rfl, hS, few, k⟩ := h
    refine ⟨_, 
      (pss_cons (ps_for PassesOwn.leaving rfl (pi_range1 rfl B.range (pa_cons (pe_callB (call_max2 rfl) (by rfl) Bx.max (by decide +kernel) (pa_cons pe_int (pa_cons (pe_callB (call_min2 rfl) (by rfl) Bx.min (by decide +kernel) (pa_cons pe_int (pa_cons (pe_callB call_len_seq (by rfl) B.len PySem.boot_len (pa_cons (pv 0) pa_nil)) pa_nil))) pa_nil))) pa_nil)) (pg_name (i := 1) scLw.nd rfl (Or.inl rfl)) 
        (pss_one (ps_if (pt_not (pt_val (pe_call RI.ok (hr.mono (by decide)) rfl RI.mg RI.kp RI.bi .nil pass0 (pa_cons (pe_call PT_.ok (hr.mono (by decide)) rfl PT_.mg PT_.kp PT_.bi .nil pass0 (pa_cons (pv 0) (pa_cons (pv 1) pa_nil))) pa_nil)))) 
          (pss_one (ps_ret pe_bl)) pss_nil)))
      (pss_one (ps_ret pe_bl))), ?_⟩
    refine ⟨_, rfl, a, _, rfl, .inl hS, _, _, rfl, _, _, rfl, _, rfl, ?_, ?_, ?_⟩
    · split <;> (try split) <;> omega
    · split <;> (try split) <;> omega
    refine for_it walk_range (fun j σ H' => ∃ v1, σ = [some (.ref a), v1] ∧ SqL K H' a (ns.map V.int)) ⟨none, rfl, hS⟩ (fun _ _ _ _ _ => trivial) ?_ ?_
    · rintro j y σ _ H1 hj ⟨v1, rfl, sq⟩ ⟨rfl, rfl⟩
      have j4 : j ≤ 1000 := by
        revert hj
        split <;> (try split) <;> (intro hj; omega)
      refine ⟨_, rfl, _, rfl, a, ns, j, by show [V.ref a, V.int (0 + (j : Int))] = _; rw [Int.zero_add], sq, j4, fun p H2 hp s2 pt => ⟨p, 0, rfl, pt, by decide, fun H3 b3 => ⟨_, rfl, iteF ⟨_, rfl, But.sqL (n := 0) hp (but_trans (but_of s2) b3) sq⟩⟩⟩⟩
    · rintro σ H1 ⟨v1, rfl, sq⟩
      exact k _
end
end Wh
set_option Elab.async false
set_option linter.all false
set_option maxRecDepth 100000
set_option maxHeartbeats 0
namespace Wh
open PySem PySem.Spec PyProof.Rows L2
open Wp hiding Same.refl Same.trans same_new boot_all run_own
/-! ## the head: facts by names -/

abbrev spLaw := spLw
structure ShI (st : Stmt) (f : Str) : Prop where
  S : FnScope ["self", f] ["self", f] (defScope st)
  hs : (defScope st).names.lookup ("self" : Str) = some NameKind.local
  hl : (defScope st).names.lookup f = some NameKind.local
  hd : (f == ("__debug__" : Str)) = false
  hc : (f == ("__classdict__" : Str)) = false
/-- a law: F gives the written part, the function object, the promise over every base -/
theorem walk_GE {l : PySem.W.OpenLaw} {n k : Nat} {q : Program} {loose : List Str} {XP : (Str → Option Value) → Heap → Prop} {YP : World → Heap → Prop} {d : DefRec} {CX : CXT} {x : Str}
    (hn : l.most = some n) (hn2 : n ≤ sizeLine) (hdf : d.params.defaults = []) (hr : Room k callerA)
    (F : ∀ (w : World) (mg : Str → Option Value) (fa : Addr) (h : Heap), YP w h → h.Ns mainGlobals mg → mg d.name = some (.ref fa) →
      ∃ (K : PySem.W.Frag) (fd : FuncData) (sp : Sp), K.In h ∧ (∀ (s : Shared) (u : Value), BindsTo s fd ⟨[u], []⟩ [(x, u)]) ∧
        (∀ (H : Hp) (a : Addr) (ns : List Int), ns.length ≤ n → Only H → SqL K H a (ns.map V.int) → sp [.ref a] H (fun v _ => v = .bl true) fun _ _ _ => False) ∧
        ∀ base : Heap, K.In base → base.Ns mainGlobals mg → GOk l.prog w K mg base CX k fa fd [x] sp)
    (hCX : ∀ (H : Hp) (s : Shared) (e : Value) (s' : Shared), CX [] H s (fun _ _ _ => False) e s' → False) :
    PySem.W.WalkO q loose XP YP l.row.toRowW d [] (fun f vs => PySem.call f vs) := by
  refine Att.attach_call hn hdf fun w s₀ s₁ mg mb fa o pm cd doc a vs ns G Y ho hd hcd hmg hobj hints hlen hg => ?_
  obtain ⟨K, fd, sp, KX, hb, hsp, hF⟩ := F w mg fa _ Y G.T.g hmg
  exact law_start KX G.T.g G.T.b G.T.builtins G.T.nolimit hg hobj hints (Nat.le_trans hlen hn2) hr hF hb (fun H hO hS => hsp H a ns hlen hO hS) fun H e s' => hCX H s₁ e s'

theorem facts {P : Program} {w : World} {K : PySem.W.Frag} {h : Heap} {mg : Str → Option Value} {f : Addr} (X : K.In h) (G : h.Ns mainGlobals mg) (hfa : mg ("law" : Str) = some (.ref f)) (cx : obsX K = valX) :
    ∃ fd : FuncData, (∀ (s : Shared) (v : Value), BindsTo s fd ⟨[v], []⟩ [("_law_script", v)]) ∧ ∀ base : Heap, K.In base → base.Ns mainGlobals mg → GOk P w K mg base CX0 10 f fd ["_law_script"] (spLaw K) := by
  have cb : ∀ b ∈ exs K, b = true := fun b hb => List.all_eq_true.mp (congrArg (fun z : AlX => z.1) cx) b hb
  have ex := fun (i : Nat) (b : Bool) (e : (exs K)[i]? = some b) => cb b (List.mem_of_getElem? e)
  have c : He.SaysD fa fn K := congrArg (fun z : AlX => z.2) cx
  have g := fun (i : Nat) (x : Str) (e : fa[i]? = some (.glo x)) => He.glo_ok (x := x) X G (c.fact i (f := .glo x) e)
  have fr := fun (i : Nat) (x : Str) (e : fa[i]? = some (.free x)) => He.free_ok (x := x) X G (c.fact i (f := .free x) e)
  obtain ⟨fd_isInt, F_isInt⟩ := c.def_ 0 (d := dd "is_integer" 16) rfl
  have b_isInt := FunD.bindsN (ps := ["value"]) F_isInt fun _ _ _ _ _ _ us hl => match us, hl with | [_], _ => rfl
  obtain ⟨fd_isWord, F_isWord⟩ := c.def_ 1 (d := dd "is_word" 18) rfl
  have b_isWord := FunD.bindsN (ps := ["value", "most"]) F_isWord fun _ _ _ _ _ _ us hl => match us, hl with | [_, _], _ => rfl
  obtain ⟨fd_isField, F_isField⟩ := c.def_ 2 (d := dd "is_field_name" 19) rfl
  have b_isField := FunD.bindsN (ps := ["value"]) F_isField fun _ _ _ _ _ _ us hl => match us, hl with | [_], _ => rfl
  obtain ⟨fd_isKind, F_isKind⟩ := c.def_ 3 (d := dd "is_kind_name" 20) rfl
  have b_isKind := FunD.bindsN (ps := ["value"]) F_isKind fun _ _ _ _ _ _ us hl => match us, hl with | [_], _ => rfl
  obtain ⟨fd_isDef, F_isDef⟩ := c.def_ 4 (d := dd "is_default" 22) rfl
  have b_isDef := FunD.bindsN (ps := ["value"]) F_isDef fun _ _ _ _ _ _ us hl => match us, hl with | [_], _ => rfl
  obtain ⟨fd_diff, F_diff⟩ := c.def_ 5 (d := dd "are_different" 23) rfl
  have b_diff := FunD.bindsN (ps := ["names"]) F_diff fun _ _ _ _ _ _ us hl => match us, hl with | [_], _ => rfl
  obtain ⟨fd_fits, F_fits⟩ := c.def_ 6 (d := dd "_fits_mode" 43) rfl
  have b_fits := FunD.bindsN (ps := ["mode", "target", "default"]) F_fits fun _ _ _ _ _ _ us hl => match us, hl with | [_, _, _], _ => rfl
  obtain ⟨fd_was, F_was⟩ := c.def_ 7 (d := dd "_is_was" 44) rfl
  have b_was := FunD.bindsN (ps := ["name", "was"]) F_was fun _ _ _ _ _ _ us hl => match us, hl with | [_, _], _ => rfl
  obtain ⟨fd_FI, F_FI⟩ := c.def_ 8 (d := dm "Field" "__init__" "Field.__init__" 45 0 [("target", .non), ("default", .int 0), ("was", .adr (Hb.kwdAt ("Field", some "__init__") "was"))]) rfl
  obtain ⟨fd_FE, F_FE⟩ := c.def_ 9 (d := dm "Field" "__eq__" "Field.__eq__" 45 1 []) rfl
  have b_FE := FunD.bindsN (ps := ["self", "other"]) F_FE fun _ _ _ _ _ _ us hl => match us, hl with | [_, _], _ => rfl
  obtain ⟨fd_AF, F_AF⟩ := c.def_ 10 (d := dd "_are_fields" 46) rfl
  have b_AF := FunD.bindsN (ps := ["fields"]) F_AF fun _ _ _ _ _ _ us hl => match us, hl with | [_], _ => rfl
  obtain ⟨fd_CB, F_CB⟩ := c.def_ 11 (d := dd "_can_be" 47) rfl
  have b_CB := FunD.bindsN (ps := ["base", "frozen", "heirs", "key", "registered"]) F_CB fun _ _ _ _ _ _ us hl => match us, hl with | [_, _, _, _, _], _ => rfl
  obtain ⟨fd_KI, F_KI⟩ := c.def_ 12 (d := dm "Kind" "__init__" "Kind.__init__" 48 0 [("base", .non), ("frozen", .bl false), ("heirs", .bl false), ("key", .non), ("registered", .bl false)]) rfl
  obtain ⟨fd_KE, F_KE⟩ := c.def_ 13 (d := dm "Kind" "__eq__" "Kind.__eq__" 48 1 []) rfl
  have b_KE := FunD.bindsN (ps := ["self", "other"]) F_KE fun _ _ _ _ _ _ us hl => match us, hl with | [_, _], _ => rfl
  obtain ⟨fd_BF, F_BF⟩ := c.def_ 14 (d := dm "BadField" "__init__" "BadField.__init__" 3 0 []) rfl
  have b_BF := FunD.bindsN (ps := ["self", "name"]) F_BF fun _ _ _ _ _ _ us hl => match us, hl with | [_, _], _ => rfl
  obtain ⟨fd_BK, F_BK⟩ := c.def_ 15 (d := dm "BadKind" "__init__" "BadKind.__init__" 4 0 []) rfl
  have b_BK := FunD.bindsN (ps := ["self", "name"]) F_BK fun _ _ _ _ _ _ us hl => match us, hl with | [_, _], _ => rfl
  obtain ⟨fd_UK, F_UK⟩ := c.def_ 16 (d := dm "UnknownKind" "__init__" "UnknownKind.__init__" 6 0 []) rfl
  have b_UK := FunD.bindsN (ps := ["self", "name"]) F_UK fun _ _ _ _ _ _ us hl => match us, hl with | [_, _], _ => rfl
  obtain ⟨fd_UF, F_UF⟩ := c.def_ 17 (d := dm "UnknownField" "__init__" "UnknownField.__init__" 7 0 []) rfl
  have b_UF := FunD.bindsN (ps := ["self", "kind", "name"]) F_UF fun _ _ _ _ _ _ us hl => match us, hl with | [_, _, _], _ => rfl
  obtain ⟨fd_all, F_all⟩ := c.def_ 18 (d := dd "_all_fields" 51) rfl
  have b_all := FunD.bindsN (ps := ["kind", "by_name"]) F_all fun _ _ _ _ _ _ us hl => match us, hl with | [_, _], _ => rfl
  obtain ⟨fd_chk, F_chk⟩ := c.def_ 19 (d := dd "_check_kinds" 49) rfl
  have b_chk := FunD.bindsN (ps := ["kinds"]) F_chk fun _ _ _ _ _ _ us hl => match us, hl with | [_], _ => rfl
  obtain ⟨fd_aln, F_aln⟩ := c.def_ 20 (d := dd "_holds_alone" 50) rfl
  have b_aln := FunD.bindsN (ps := ["kind", "earlier", "names"]) F_aln fun _ _ _ _ _ _ us hl => match us, hl with | [_, _, _], _ => rfl
  obtain ⟨fd_far, F_far⟩ := c.def_ 21 (d := dd "_far_from" 52) rfl
  have b_far := FunD.bindsN (ps := ["name", "leads"]) F_far fun _ _ _ _ _ _ us hl => match us, hl with | [_, _], _ => rfl
  obtain ⟨fd_lt, F_lt⟩ := c.def_ 22 (d := dm "House" "_lets" "House._lets" 53 7 []) rfl
  have b_lt := FunD.bindsN (ps := ["self", "target", "name"]) F_lt fun _ _ _ _ _ _ us hl => match us, hl with | [_, _, _], _ => rfl
  obtain ⟨fd_ld, F_ld⟩ := c.def_ 23 (d := dm "House" "_leads_from" "House._leads_from" 53 6 []) rfl
  have b_ld := FunD.bindsN (ps := ["self", "name"]) F_ld fun _ _ _ _ _ _ us hl => match us, hl with | [_, _], _ => rfl
  obtain ⟨fd_fz, F_fz⟩ := c.def_ 24 (d := dm "House" "_check_frozen" "House._check_frozen" 53 8 []) rfl
  have b_fz := FunD.bindsN (ps := ["self"]) F_fz fun _ _ _ _ _ _ us hl => match us, hl with | [_], _ => rfl
  obtain ⟨fd_HI, F_HI⟩ := c.def_ 25 (d := dm "House" "__init__" "House.__init__" 53 2 []) rfl
  have b_HI := FunD.bindsN (ps := ["self", "root", "kinds"]) F_HI fun _ _ _ _ _ _ us hl => match us, hl with | [_, _, _], _ => rfl
  obtain ⟨fd_HE, F_HE⟩ := c.def_ 26 (d := dm "House" "__eq__" "House.__eq__" 53 3 []) rfl
  have b_HE := FunD.bindsN (ps := ["self", "other"]) F_HE fun _ _ _ _ _ _ us hl => match us, hl with | [_, _], _ => rfl
  obtain ⟨fd_has, F_has⟩ := c.def_ 27 (d := dm "House" "__contains__" "House.__contains__" 53 5 []) rfl
  have b_has := FunD.bindsN (ps := ["self", "x"]) F_has fun _ _ _ _ _ _ us hl => match us, hl with | [_, _], _ => rfl
  obtain ⟨fd_ck, F_ck⟩ := c.def_ 28 (d := dm "House" "_check" "House._check" 53 9 []) rfl
  have b_ck := FunD.bindsN (ps := ["self", "kind"]) F_ck fun _ _ _ _ _ _ us hl => match us, hl with | [_, _], _ => rfl
  obtain ⟨fd_fo, F_fo⟩ := c.def_ 29 (d := dm "House" "fields_of" "House.fields_of" 53 11 []) rfl
  have b_fo := FunD.bindsN (ps := ["self", "kind"]) F_fo fun _ _ _ _ _ _ us hl => match us, hl with | [_, _], _ => rfl
  obtain ⟨fd_fd, F_fd⟩ := c.def_ 30 (d := dm "House" "field_of" "House.field_of" 53 12 []) rfl
  have b_fd := FunD.bindsN (ps := ["self", "kind", "name"]) F_fd fun _ _ _ _ _ _ us hl => match us, hl with | [_, _, _], _ => rfl
  obtain ⟨fd_ft, F_ft⟩ := c.def_ 31 (d := dd "_fits" 33) rfl
  have b_ft := FunD.bindsN (ps := ["field", "other"]) F_ft fun _ _ _ _ _ _ us hl => match us, hl with | [_, _], _ => rfl
  obtain ⟨fd_sf, F_sf⟩ := c.def_ 32 (d := dd "source_field" 34) rfl
  have b_sf := FunD.bindsN (ps := ["writer", "reader", "kind", "field"]) F_sf fun _ _ _ _ _ _ us hl => match us, hl with | [_, _, _, _], _ => rfl
  obtain ⟨fd_Dr, F_Dr⟩ := c.def_ 33 (d := dd "_law_draw" 56) rfl
  have b_Dr := FunD.bindsN (ps := ["_law_pot_here", "_law_many"]) F_Dr fun _ _ _ _ _ _ us hl => match us, hl with | [_, _], _ => rfl
  obtain ⟨fd_Pt, F_Pt⟩ := c.def_ 34 (d := dd "_law_pot" 55) rfl
  have b_Pt := FunD.bindsN (ps := ["_law_script", "_law_at"]) F_Pt fun _ _ _ _ _ _ us hl => match us, hl with | [_, _], _ => rfl
  obtain ⟨fd_Lb, F_Lb⟩ := c.def_ 35 (d := dd "_law_labels" 57) rfl
  have b_Lb := FunD.bindsN (ps := ["_law_pot_here", "_law_many"]) F_Lb fun _ _ _ _ _ _ us hl => match us, hl with | [_, _], _ => rfl
  obtain ⟨fd_Kn, F_Kn⟩ := c.def_ 36 (d := dd "_law_kind_names" 58) rfl
  have b_Kn := FunD.bindsN (ps := ["_law_pot_here", "_law_many"]) F_Kn fun _ _ _ _ _ _ us hl => match us, hl with | [_, _], _ => rfl
  obtain ⟨fd_Ps, F_Ps⟩ := c.def_ 37 (d := dd "_law_preset" 60) rfl
  have b_Ps := FunD.bindsN (ps := ["_law_pot_here"]) F_Ps fun _ _ _ _ _ _ us hl => match us, hl with | [_], _ => rfl
  obtain ⟨fd_Lf, F_Lf⟩ := c.def_ 38 (d := dd "_law_field" 61) rfl
  have b_Lf := FunD.bindsN (ps := ["_law_pot_here", "_law_name", "_law_alias", "_law_aims"]) F_Lf fun _ _ _ _ _ _ us hl => match us, hl with | [_, _, _, _], _ => rfl
  obtain ⟨fd_Rw, F_Rw⟩ := c.def_ 39 (d := dd "_law_row" 64) rfl
  have b_Rw := FunD.bindsN (ps := ["_law_rows", "_law_kind"]) F_Rw fun _ _ _ _ _ _ us hl => match us, hl with | [_, _], _ => rfl
  obtain ⟨fd_Fs, F_Fs⟩ := c.def_ 40 (d := dd "_law_fields" 65) rfl
  have b_Fs := FunD.bindsN (ps := ["_law_rows", "_law_kind"]) F_Fs fun _ _ _ _ _ _ us hl => match us, hl with | [_, _], _ => rfl
  obtain ⟨fd_Tk, F_Tk⟩ := c.def_ 41 (d := dd "_law_takes" 67) rfl
  have b_Tk := FunD.bindsN (ps := ["_law_elder", "_law_later", "_law_kind", "_law_name"]) F_Tk fun _ _ _ _ _ _ us hl => match us, hl with | [_, _, _, _], _ => rfl
  obtain ⟨fd_Bu, F_Bu⟩ := c.def_ 42 (d := dd "_law_built" 63) rfl
  have b_Bu := FunD.bindsN (ps := ["_law_rows", "_law_start"]) F_Bu fun _ _ _ _ _ _ us hl => match us, hl with | [_, _], _ => rfl
  obtain ⟨fd_Ho, F_Ho⟩ := c.def_ 43 (d := dd "_law_house" 62) rfl
  have b_Ho := FunD.bindsN (ps := ["_law_pot_here"]) F_Ho fun _ _ _ _ _ _ us hl => match us, hl with | [_], _ => rfl
  obtain ⟨fd_Cf, F_Cf⟩ := c.def_ 44 (d := dd "_law_changed_fields" 69) rfl
  have b_Cf := FunD.bindsN (ps := ["_law_pot_here", "_law_row_here", "_law_names"]) F_Cf fun _ _ _ _ _ _ us hl => match us, hl with | [_, _, _], _ => rfl
  obtain ⟨fd_Ed, F_Ed⟩ := c.def_ 45 (d := dd "_law_edition" 70) rfl
  have b_Ed := FunD.bindsN (ps := ["_law_pot_here", "_law_rows", "_law_names"]) F_Ed fun _ _ _ _ _ _ us hl => match us, hl with | [_, _, _], _ => rfl
  obtain ⟨fd_Ix, F_Ix⟩ := c.def_ 46 (d := dd "is_index" 17) rfl
  have b_Ix := FunD.bindsN (ps := ["value", "count"]) F_Ix fun _ _ _ _ _ _ us hl => match us, hl with | [_, _], _ => rfl
  obtain ⟨fd_Mv, F_Mv⟩ := c.def_ 47 (d := dd "is_mark_value" 21) rfl
  have b_Mv := FunD.bindsN (ps := ["value"]) F_Mv fun _ _ _ _ _ _ us hl => match us, hl with | [_], _ => rfl
  obtain ⟨fd_Ek, F_Ek⟩ := c.def_ 48 (d := dd "_entry_kind" 25) rfl
  have b_Ek := FunD.bindsN (ps := ["house", "entry"]) F_Ek fun _ _ _ _ _ _ us hl => match us, hl with | [_, _], _ => rfl
  obtain ⟨fd_Aa, F_Aa⟩ := c.def_ 49 (d := dd "_are_admitted" 27) rfl
  have b_Aa := FunD.bindsN (ps := ["house", "field", "numbers", "kinds"]) F_Aa fun _ _ _ _ _ _ us hl => match us, hl with | [_, _, _, _], _ => rfl
  obtain ⟨fd_Ch, F_Ch⟩ := c.def_ 50 (d := dd "_can_hold" 26) rfl
  have b_Ch := FunD.bindsN (ps := ["house", "field", "value", "kinds"]) F_Ch fun _ _ _ _ _ _ us hl => match us, hl with | [_, _, _, _], _ => rfl
  obtain ⟨fd_Ie, F_Ie⟩ := c.def_ 51 (d := dd "_is_entry" 28) rfl
  have b_Ie := FunD.bindsN (ps := ["house", "entry", "kinds"]) F_Ie fun _ _ _ _ _ _ us hl => match us, hl with | [_, _, _], _ => rfl
  obtain ⟨fd_Fv, F_Fv⟩ := c.def_ 52 (d := dd "full_values" 29) rfl
  have b_Fv := FunD.bindsN (ps := ["house", "kind", "given"]) F_Fv fun _ _ _ _ _ _ us hl => match us, hl with | [_, _, _], _ => rfl
  obtain ⟨fd_Ik, F_Ik⟩ := c.def_ 53 (d := dd "_is_kept" 35) rfl
  have b_Ik := FunD.bindsN (ps := ["writer", "reader", "name", "other"]) F_Ik fun _ _ _ _ _ _ us hl => match us, hl with | [_, _, _, _], _ => rfl
  obtain ⟨fd_Tt, F_Tt⟩ := c.def_ 54 (d := dd "_takes_twice" 36) rfl
  have b_Tt := FunD.bindsN (ps := ["writer", "reader", "kind"]) F_Tt fun _ _ _ _ _ _ us hl => match us, hl with | [_, _, _], _ => rfl
  obtain ⟨fd_Rf2, F_Rf2⟩ := c.def_ 55 (d := dd "reader_fault" 37) rfl
  have b_Rf2 := FunD.bindsN (ps := ["writer", "reader"]) F_Rf2 fun _ _ _ _ _ _ us hl => match us, hl with | [_, _], _ => rfl
  obtain ⟨fd_Ld2, F_Ld2⟩ := c.def_ 56 (d := dd "led" 38) rfl
  have b_Ld2 := FunD.bindsN (ps := ["web", "reader"]) F_Ld2 fun _ _ _ _ _ _ us hl => match us, hl with | [_, _], _ => rfl
  obtain ⟨fd_Ad, F_Ad⟩ := c.def_ 57 (d := dd "_law_admits" 66) rfl
  have b_Ad := FunD.bindsN (ps := ["_law_rows", "_law_aim", "_law_kind"]) F_Ad fun _ _ _ _ _ _ us hl => match us, hl with | [_, _, _], _ => rfl
  obtain ⟨fd_Db, F_Db⟩ := c.def_ 58 (d := dd "_law_is_doubled" 68) rfl
  have b_Db := FunD.bindsN (ps := ["_law_elder", "_law_later", "_law_kind"]) F_Db fun _ _ _ _ _ _ us hl => match us, hl with | [_, _, _], _ => rfl
  obtain ⟨fd_Le, F_Le⟩ := c.def_ 59 (d := dd "_law_leads" 71) rfl
  have b_Le := FunD.bindsN (ps := ["_law_elder", "_law_later"]) F_Le fun _ _ _ _ _ _ us hl => match us, hl with | [_, _], _ => rfl
  obtain ⟨fd_Mr, F_Mr⟩ := c.def_ 60 (d := dd "_law_mark" 59) rfl
  have b_Mr := FunD.bindsN (ps := ["_law_pot_here"]) F_Mr fun _ _ _ _ _ _ us hl => match us, hl with | [_], _ => rfl
  obtain ⟨fd_Vs, F_Vs⟩ := c.def_ 61 (d := dd "_law_values" 72) rfl
  have b_Vs := FunD.bindsN (ps := ["_law_pot_here", "_law_rows", "_law_kinds", "_law_at", "_law_start"]) F_Vs fun _ _ _ _ _ _ us hl => match us, hl with | [_, _, _, _, _], _ => rfl
  obtain ⟨fd_Tg, F_Tg⟩ := c.def_ 62 (d := dd "_law_things" 73) rfl
  have b_Tg := FunD.bindsN (ps := ["_law_pot_here", "_law_rows", "_law_start", "_law_most"]) F_Tg fun _ _ _ _ _ _ us hl => match us, hl with | [_, _, _, _], _ => rfl
  obtain ⟨fd_Sm, F_Sm⟩ := c.def_ 63 (d := dd "_law_same" 77) rfl
  have b_Sm := FunD.bindsN (ps := ["_law_told", "_law_due"]) F_Sm fun _ _ _ _ _ _ us hl => match us, hl with | [_, _], _ => rfl
  obtain ⟨fd_Wo, F_Wo⟩ := c.def_ 64 (d := dd "_law_worth" 78) rfl
  have b_Wo := FunD.bindsN (ps := ["_law_rows", "_law_others", "_law_values_here", "_law_kind", "_law_one"]) F_Wo fun _ _ _ _ _ _ us hl => match us, hl with | [_, _, _, _, _], _ => rfl
  obtain ⟨fd_Lt2, F_Lt2⟩ := c.def_ 65 (d := dd "_law_led_things" 79) rfl
  have b_Lt2 := FunD.bindsN (ps := ["_law_rows", "_law_others", "_law_things_here"]) F_Lt2 fun _ _ _ _ _ _ us hl => match us, hl with | [_, _, _], _ => rfl
  obtain ⟨fd_Wr, F_Wr⟩ := c.def_ 66 (d := dd "_law_web_right" 80) rfl
  have b_Wr := FunD.bindsN (ps := ["_law_web", "_law_house_here", "_law_things_here", "_law_spot", "_law_left"]) F_Wr fun _ _ _ _ _ _ us hl => match us, hl with | [_, _, _, _, _], _ => rfl
  obtain ⟨fd_Ri, F_Ri⟩ := c.def_ 67 (d := dd "_law_right" 81) rfl
  have b_Ri := FunD.bindsN (ps := ["_law_pot_here"]) F_Ri fun _ _ _ _ _ _ us hl => match us, hl with | [_], _ => rfl
  obtain ⟨fd_kd, F_kd⟩ := c.def_ 68 (d := dm "House" "kind_named" "House.kind_named" 53 10 []) rfl
  have b_kd := FunD.bindsN (ps := ["self", "kind"]) F_kd fun _ _ _ _ _ _ us hl => match us, hl with | [_, _], _ => rfl
  obtain ⟨fd_hl, F_hl⟩ := c.def_ 69 (d := dm "House" "__len__" "House.__len__" 53 4 []) rfl
  have b_hl := FunD.bindsN (ps := ["self"]) F_hl fun _ _ _ _ _ _ us hl => match us, hl with | [_], _ => rfl
  obtain ⟨fd_am, F_am⟩ := c.def_ 70 (d := dm "House" "admitted" "House.admitted" 53 22 []) rfl
  have b_am := FunD.bindsN (ps := ["self", "target"]) F_am fun _ _ _ _ _ _ us hl => match us, hl with | [_, _], _ => rfl
  obtain ⟨fd_WI, F_WI⟩ := c.def_ 71 (d := dm "Web" "__init__" "Web.__init__" 31 2 [("here", .int 0), ("old", .non)]) rfl
  obtain ⟨fd_WE, F_WE⟩ := c.def_ 72 (d := dm "Web" "__eq__" "Web.__eq__" 31 3 []) rfl
  have b_WE := FunD.bindsN (ps := ["self", "other"]) F_WE fun _ _ _ _ _ _ us hl => match us, hl with | [_, _], _ => rfl
  obtain ⟨fd_wl, F_wl⟩ := c.def_ 73 (d := dm "Web" "__len__" "Web.__len__" 31 4 []) rfl
  have b_wl := FunD.bindsN (ps := ["self"]) F_wl fun _ _ _ _ _ _ us hl => match us, hl with | [_], _ => rfl
  obtain ⟨fd_wc, F_wc⟩ := c.def_ 74 (d := dm "Web" "__contains__" "Web.__contains__" 31 5 []) rfl
  have b_wc := FunD.bindsN (ps := ["self", "x"]) F_wc fun _ _ _ _ _ _ us hl => match us, hl with | [_, _], _ => rfl
  obtain ⟨fd_wk, F_wk⟩ := c.def_ 75 (d := dm "Web" "_check" "Web._check" 31 8 []) rfl
  have b_wk := FunD.bindsN (ps := ["self", "thing"]) F_wk fun _ _ _ _ _ _ us hl => match us, hl with | [_, _], _ => rfl
  obtain ⟨fd_wko, F_wko⟩ := c.def_ 76 (d := dm "Web" "kind_of" "Web.kind_of" 31 10 []) rfl
  have b_wko := FunD.bindsN (ps := ["self", "thing"]) F_wko fun _ _ _ _ _ _ us hl => match us, hl with | [_, _], _ => rfl
  obtain ⟨fd_va, F_va⟩ := c.def_ 77 (d := dm "Web" "_value" "Web._value" 31 9 []) rfl
  have b_va := FunD.bindsN (ps := ["self", "thing", "field"]) F_va fun _ _ _ _ _ _ us hl => match us, hl with | [_, _, _], _ => rfl
  obtain ⟨fd_gi, F_gi⟩ := c.def_ 78 (d := dm "Web" "__getitem__" "Web.__getitem__" 31 6 []) rfl
  have b_gi := FunD.bindsN (ps := ["self", "at"]) F_gi fun _ _ _ _ _ _ us hl => match us, hl with | [_, _], _ => rfl
  obtain ⟨fd_ts, F_ts⟩ := c.def_ 79 (d := dm "Web" "things" "Web.things" 31 11 []) rfl
  have b_ts := FunD.bindsN (ps := ["self"]) F_ts fun _ _ _ _ _ _ us hl => match us, hl with | [_], _ => rfl
  obtain ⟨fd_law, F_law⟩ := c.def_ 80 (d := dd "law" 82) rfl
  have bLaw := FunD.bindsA (ps := ["_law_script"]) F_law fun _ _ _ _ _ _ us hl => match us, hl with | [_], _ => rfl
  have eL := hfa.symm.trans (g 51 "law" rfl)
  cases eL
  refine ⟨fd_law, fun s v => bLaw s [v] rfl, fun base _ _ => ?_⟩
  have B : Bn mg := ⟨fr 61 "isinstance" rfl, fr 62 "int" rfl, fr 63 "bool" rfl, fr 64 "str" rfl, fr 65 "len" rfl, fr 66 "list" rfl, fr 67 "tuple" rfl, fr 68 "all" rfl, fr 69 "set" rfl, fr 70 "repr" rfl, fr 71 "range" rfl⟩
  have bx : Bx mg := ⟨fr 73 "abs" rfl, fr 74 "max" rfl, fr 75 "min" rfl⟩
  have an : mg "any" = none := fr 72 "any" rfl
  have C : Cn mg := by
    obtain ⟨t1, e1⟩ := He.str_ok (x := "SMALL") (z := smallS) X G (c.fact 97 (f := .str "SMALL" smallS) rfl)
    obtain ⟨t2, e2⟩ := He.str_ok (x := "LARGE") (z := largeS) X G (c.fact 98 (f := .str "LARGE" largeS) rfl)
    obtain ⟨t3, e3⟩ := He.int_ok (x := "NAME_LETTERS") (i := 8) X G (c.fact 99 (f := .int "NAME_LETTERS" 8) rfl)
    obtain ⟨t4, e4⟩ := He.int_ok (x := "DEFAULT_BOUND") (i := 1000000000000) X G (c.fact 100 (f := .int "DEFAULT_BOUND" 1000000000000) rfl)
    obtain ⟨t5, e5⟩ := He.str_ok (x := "ANY") (z := "any") X G (c.fact 101 (f := .str "ANY" "any") rfl)
    obtain ⟨t6, e6⟩ := He.int_ok (x := "OLD_NAMES") (i := 2) X G (c.fact 102 (f := .int "OLD_NAMES" 2) rfl)
    exact ⟨⟨_, e1, ⟨t1, rfl⟩⟩, ⟨_, e2, ⟨t2, rfl⟩⟩, ⟨_, e3, ⟨t3, rfl⟩⟩, ⟨_, e4, ⟨t4, rfl⟩⟩, ⟨_, e5, ⟨t5, rfl⟩⟩, ⟨_, e6, ⟨t6, rfl⟩⟩⟩
  have gA : ∃ u, mg "ANY" = some u ∧ RelV (.str "any") u := by
    obtain ⟨t5, e5⟩ := He.str_ok (x := "ANY") (z := "any") X G (c.fact 101 (f := .str "ANY" "any") rfl)
    exact ⟨_, e5, ⟨t5, rfl⟩⟩
  have mo : Mo K mg := ⟨He.ga K "SLOT_MODES", default, [], 0, (g 144 "SLOT_MODES" rfl), fun H => Hb.tupB_ok (ex 0 _ rfl) H⟩
  have gF := (g 52 "Field" rfl)
  have gK := (g 53 "Kind" rfl)
  have gH := (g 54 "House" rfl)
  have gW := (g 60 "WayError" rfl)
  have pF : PlainC K (He.ga K "Field") ["name", "mode", "target", "default", "was"] := ⟨He.cls_ok (c.fact 103 (f := .cls "Field") rfl), fun m hm => by
    simp only [List.mem_cons, List.not_mem_nil, or_false] at hm
    rcases hm with rfl | rfl | rfl | rfl | rfl
    · exact He.noat_ok (c.fact 106 (f := .noat "Field" "name") rfl)
    · exact He.noat_ok (c.fact 107 (f := .noat "Field" "mode") rfl)
    · exact He.noat_ok (c.fact 108 (f := .noat "Field" "target") rfl)
    · exact He.noat_ok (c.fact 109 (f := .noat "Field" "default") rfl)
    · exact He.noat_ok (c.fact 110 (f := .noat "Field" "was") rfl)⟩
  have pK : PlainC K (He.ga K "Kind") ["name", "fields", "base", "frozen", "heirs", "key", "registered"] := ⟨He.cls_ok (c.fact 104 (f := .cls "Kind") rfl), fun m hm => by
    simp only [List.mem_cons, List.not_mem_nil, or_false] at hm
    rcases hm with rfl | rfl | rfl | rfl | rfl | rfl | rfl
    · exact He.noat_ok (c.fact 111 (f := .noat "Kind" "name") rfl)
    · exact He.noat_ok (c.fact 112 (f := .noat "Kind" "fields") rfl)
    · exact He.noat_ok (c.fact 113 (f := .noat "Kind" "base") rfl)
    · exact He.noat_ok (c.fact 114 (f := .noat "Kind" "frozen") rfl)
    · exact He.noat_ok (c.fact 115 (f := .noat "Kind" "heirs") rfl)
    · exact He.noat_ok (c.fact 116 (f := .noat "Kind" "key") rfl)
    · exact He.noat_ok (c.fact 117 (f := .noat "Kind" "registered") rfl)⟩
  have pH : PlainC K (He.ga K "House") houseAt := ⟨He.cls_ok (c.fact 105 (f := .cls "House") rfl), fun m hm => by
    simp only [List.mem_cons, List.not_mem_nil, or_false] at hm
    rcases hm with rfl | rfl | rfl | rfl | rfl | rfl | rfl
    · exact He.noat_ok (c.fact 118 (f := .noat "House" "root") rfl)
    · exact He.noat_ok (c.fact 119 (f := .noat "House" "names") rfl)
    · exact He.noat_ok (c.fact 120 (f := .noat "House" "_kinds") rfl)
    · exact He.noat_ok (c.fact 121 (f := .noat "House" "_by_name") rfl)
    · exact He.noat_ok (c.fact 122 (f := .noat "House" "_fields") rfl)
    · exact He.noat_ok (c.fact 123 (f := .noat "House" "_leads") rfl)
    · exact He.noat_ok (c.fact 124 (f := .noat "House" "_far") rfl)⟩
  have oF : OwnC K (He.ga K "Field") := Hb.ownB_ok pF.cl (ex 1 _ rfl)
  have oK : OwnC K (He.ga K "Kind") := Hb.ownB_ok pK.cl (ex 2 _ rfl)
  have oH : OwnC K (He.ga K "House") := Hb.ownB_ok pH.cl (ex 3 _ rfl)
  obtain ⟨crd, u10, cvl⟩ := Hb.conB_ok (ex 4 _ rfl)
  obtain ⟨_, u12, cvk⟩ := Hb.conB_ok (ex 5 _ rfl)
  have nFH : He.ga K "Field" ≠ He.ga K "House" := of_decide_eq_true (ex 6 _ rfl)
  have nKH : He.ga K "Kind" ≠ He.ga K "House" := of_decide_eq_true (ex 7 _ rfl)
  have MB : ∃ u, mg "MARK_BOUND" = some u ∧ RelV (.int bigM) u := by
    obtain ⟨t7, e7⟩ := He.int_ok (x := "MARK_BOUND") (i := 1000000000000000000000000000000) X G (c.fact 79 (f := .int "MARK_BOUND" 1000000000000000000000000000000) rfl)
    exact ⟨_, e7, ⟨t7, rfl⟩⟩
  have gE : mg "enumerate" = none := fr 76 "enumerate" rfl
  have gZ : mg "zip" = none := fr 77 "zip" rfl
  have gD : mg "dict" = none := fr 78 "dict" rfl
  have gWb := (g 55 "Web" rfl)
  have pW : PlainC K (He.ga K "Web") webAt := ⟨He.cls_ok (c.fact 80 (f := .cls "Web") rfl), fun m hm => by
    simp only [List.mem_cons, List.not_mem_nil, or_false] at hm
    rcases hm with rfl | rfl | rfl | rfl | rfl
    · exact He.noat_ok (c.fact 82 (f := .noat "Web" "house") rfl)
    · exact He.noat_ok (c.fact 83 (f := .noat "Web" "here") rfl)
    · exact He.noat_ok (c.fact 84 (f := .noat "Web" "old") rfl)
    · exact He.noat_ok (c.fact 85 (f := .noat "Web" "_kinds") rfl)
    · exact He.noat_ok (c.fact 86 (f := .noat "Web" "_values") rfl)⟩
  have oW : OwnC K (He.ga K "Web") := Hb.ownB_ok pW.cl (ex 8 _ rfl)
  obtain ⟨cw, u4000, cvT⟩ := Hb.conB_ok (ex 9 _ rfl)
  obtain ⟨_, u200, cvP⟩ := Hb.conB_ok (ex 10 _ rfl)
  have nFW : He.ga K "Field" ≠ He.ga K "Web" := of_decide_eq_true (ex 11 _ rfl)
  have nKW : He.ga K "Kind" ≠ He.ga K "Web" := of_decide_eq_true (ex 12 _ rfl)
  have nHW : He.ga K "House" ≠ He.ga K "Web" := of_decide_eq_true (ex 13 _ rfl)
  have fnGi : PySem.W.fnIn K (He.ma K (He.ga K "Web") "__getitem__") = true := (ex 14 _ rfl)
  have shBF : ShI (meth 3 0) "name" := ⟨⟨rfl, rfl, rfl, by decide +kernel, rfl, by decide +kernel, by decide +kernel⟩, by decide +kernel, by decide +kernel, by decide +kernel, by decide +kernel⟩
  have shBK : ShI (meth 4 0) "name" := ⟨⟨rfl, rfl, rfl, by decide +kernel, rfl, by decide +kernel, by decide +kernel⟩, by decide +kernel, by decide +kernel, by decide +kernel, by decide +kernel⟩
  have shUK : ShI (meth 6 0) "name" := ⟨⟨rfl, rfl, rfl, by decide +kernel, rfl, by decide +kernel, by decide +kernel⟩, by decide +kernel, by decide +kernel, by decide +kernel, by decide +kernel⟩
  have mBF : Mk1 P w K mg base "BadField" "name" (He.ga K "BadField") (He.ma K (He.ga K "BadField") "__init__") fd_BF := by
    refine ⟨Hb.oexB_ok (ex 15 _ rfl), Hb.excB_ok (ex 16 _ rfl), He.eqO_ok (c.fact 128 (f := .noat "BadField" "name") rfl), (g 56 "BadField" rfl), He.eqO_ok (He.ba (c.fact 133 (f := .meth "BadField" "__init__") rfl)).1, beq_iff_eq.mp (He.ba (He.ba (c.fact 133 (f := .meth "BadField" "__init__") rfl)).2).1, ok_init1 (He5.fun_of (st := meth 3 0) F_BF) rfl shBF.S shBF.hs shBF.hl shBF.hd shBF.hc (Hb.oexB_ok (ex 15 _ rfl)) (He.eqO_ok (c.fact 128 (f := .noat "BadField" "name") rfl)), b_BF⟩
  have mBK : Mk1 P w K mg base "BadKind" "name" (He.ga K "BadKind") (He.ma K (He.ga K "BadKind") "__init__") fd_BK := by
    refine ⟨Hb.oexB_ok (ex 17 _ rfl), Hb.excB_ok (ex 18 _ rfl), He.eqO_ok (c.fact 129 (f := .noat "BadKind" "name") rfl), (g 57 "BadKind" rfl), He.eqO_ok (He.ba (c.fact 134 (f := .meth "BadKind" "__init__") rfl)).1, beq_iff_eq.mp (He.ba (He.ba (c.fact 134 (f := .meth "BadKind" "__init__") rfl)).2).1, ok_init1 (He5.fun_of (st := meth 4 0) F_BK) rfl shBK.S shBK.hs shBK.hl shBK.hd shBK.hc (Hb.oexB_ok (ex 17 _ rfl)) (He.eqO_ok (c.fact 129 (f := .noat "BadKind" "name") rfl)), b_BK⟩
  have mUK : Mk1 P w K mg base "UnknownKind" "name" (He.ga K "UnknownKind") (He.ma K (He.ga K "UnknownKind") "__init__") fd_UK := by
    refine ⟨Hb.oexB_ok (ex 19 _ rfl), Hb.excB_ok (ex 20 _ rfl), He.eqO_ok (c.fact 130 (f := .noat "UnknownKind" "name") rfl), (g 58 "UnknownKind" rfl), He.eqO_ok (He.ba (c.fact 135 (f := .meth "UnknownKind" "__init__") rfl)).1, beq_iff_eq.mp (He.ba (He.ba (c.fact 135 (f := .meth "UnknownKind" "__init__") rfl)).2).1, ok_init1 (He5.fun_of (st := meth 6 0) F_UK) rfl shUK.S shUK.hs shUK.hl shUK.hd shUK.hc (Hb.oexB_ok (ex 19 _ rfl)) (He.eqO_ok (c.fact 130 (f := .noat "UnknownKind" "name") rfl)), b_UK⟩
  have mUF : Mk2 P w K mg base "UnknownField" "kind" "name" (He.ga K "UnknownField") (He.ma K (He.ga K "UnknownField") "__init__") fd_UF := by
    refine ⟨Hb.oexB_ok (ex 21 _ rfl), Hb.excB_ok (ex 22 _ rfl), He.eqO_ok (c.fact 132 (f := .noat "UnknownField" "kind") rfl), He.eqO_ok (c.fact 131 (f := .noat "UnknownField" "name") rfl), (g 59 "UnknownField" rfl), He.eqO_ok (He.ba (c.fact 136 (f := .meth "UnknownField" "__init__") rfl)).1, beq_iff_eq.mp (He.ba (He.ba (c.fact 136 (f := .meth "UnknownField" "__init__") rfl)).2).1, ok_init2 (He5.fun_of (st := meth 7 0) F_UF) rfl ⟨rfl, rfl, rfl, by decide +kernel, rfl, by decide +kernel, by decide +kernel⟩ (by decide +kernel) (by decide +kernel) (by decide +kernel) (by decide +kernel) (by decide +kernel) (by decide +kernel) (by decide +kernel) (Hb.oexB_ok (ex 21 _ rfl)) (He.eqO_ok (c.fact 132 (f := .noat "UnknownField" "kind") rfl)) (He.eqO_ok (c.fact 131 (f := .noat "UnknownField" "name") rfl)), b_UF⟩
  have k_isInt : Known P w K mg base _ _ "is_integer" _ _ _ fd_isInt := ⟨ok_isInt (He5.fun_of (st := top 16) F_isInt) B, g 0 "is_integer" rfl, F_isInt.kp, b_isInt⟩
  have k_isWord : Known P w K mg base _ _ "is_word" _ _ _ fd_isWord := ⟨ok_isWord (He5.fun_of (st := top 18) F_isWord) B C, g 1 "is_word" rfl, F_isWord.kp, b_isWord⟩
  have k_isField : Known P w K mg base _ _ "is_field_name" _ _ _ fd_isField := ⟨ok_isField (He5.fun_of (st := top 19) F_isField) C k_isWord, g 2 "is_field_name" rfl, F_isField.kp, b_isField⟩
  have k_isKind : Known P w K mg base _ _ "is_kind_name" _ _ _ fd_isKind := ⟨ok_isKind (He5.fun_of (st := top 20) F_isKind) B C, g 3 "is_kind_name" rfl, F_isKind.kp, b_isKind⟩
  have k_isDef : Known P w K mg base _ _ "is_default" _ _ _ fd_isDef := ⟨ok_isDef (He5.fun_of (st := top 22) F_isDef) C k_isInt, g 4 "is_default" rfl, F_isDef.kp, b_isDef⟩
  have k_diff : Known P w K mg base _ _ "are_different" _ _ _ fd_diff := ⟨ok_diff (He5.fun_of (st := top 23) F_diff) B, g 5 "are_different" rfl, F_diff.kp, b_diff⟩
  have k_fits : Known P w K mg base _ _ "_fits_mode" _ _ _ fd_fits := ⟨ok_fits (He5.fun_of (st := top 43) F_fits) C mo k_isInt k_isDef k_isKind, g 6 "_fits_mode" rfl, F_fits.kp, b_fits⟩
  have k_was : Known P w K mg base _ _ "_is_was" _ _ _ fd_was := ⟨ok_was (He5.fun_of (st := top 44) F_was) B C k_isField k_diff, g 7 "_is_was" rfl, F_was.kp, b_was⟩
  have mF : MkF P w K mg base (He.ga K "Field") _ _ fd_FI := ⟨ok_FI F_FI B k_isField k_fits k_was mBF pF, He.mkr_ok (c.fact 125 (f := .mkr "Field") rfl), gF, FunD_kbN (ps := psF) F_FI 3 ["target", "default", "was"] fun _ _ _ _ _ _ us ws h1 h2 => match us, h1, ws, h2 with | [_, _, _], _, [_, _, _], _ => rfl⟩
  have k_AF : Known P w K mg base _ _ "_are_fields" _ _ _ fd_AF := ⟨ok_AF (He5.fun_of (st := top 46) F_AF) B oF pF gF gH crd cvl k_diff, g 8 "_are_fields" rfl, F_AF.kp, b_AF⟩
  have k_CB : Known P w K mg base _ _ "_can_be" _ _ _ fd_CB := ⟨ok_CB (He5.fun_of (st := top 47) F_CB) B, g 9 "_can_be" rfl, F_CB.kp, b_CB⟩
  have mK : MkKd P w K mg base (He.ga K "Field") (He.ga K "Kind") _ _ fd_KI := ⟨ok_KI F_KI B k_isKind k_isField k_AF k_CB mBK pK, He.mkr_ok (c.fact 126 (f := .mkr "Kind") rfl), gK, FunD_kbN (ps := psK) F_KI 3 ["base", "frozen", "heirs", "key", "registered"] fun _ _ _ _ _ _ us ws h1 h2 => match us, h1, ws, h2 with | [_, _, _], _, [_, _, _, _, _], _ => rfl⟩
  have k_all : Known P w K mg base _ _ "_all_fields" _ _ _ fd_all := ⟨ok_all (CF := He.ga K "Field") (He5.fun_of (st := top 51) F_all) pK, g 10 "_all_fields" rfl, F_all.kp, b_all⟩
  have k_chk : Known P w K mg base _ _ "_check_kinds" _ _ _ fd_chk := ⟨ok_chk (CF := He.ga K "Field") (He5.fun_of (st := top 49) F_chk) B oK gK gH crd cvk, g 11 "_check_kinds" rfl, F_chk.kp, b_chk⟩
  have k_aln : Known P w K mg base _ _ "_holds_alone" _ _ _ fd_aln := ⟨ok_aln (He5.fun_of (st := top 50) F_aln) B pK pF k_all k_diff gA gH crd cvl, g 12 "_holds_alone" rfl, F_aln.kp, b_aln⟩
  have k_far : Known P w K mg base _ _ "_far_from" _ _ _ fd_far := ⟨ok_far (He5.fun_of (st := top 52) F_far) B, g 13 "_far_from" rfl, F_far.kp, b_far⟩
  have m_lt : KMt P w K mg base (He.ga K "House") CX0 1 "_lets" _ (spLt K (He.ga K "Field") (He.ga K "Kind") (He.ga K "House")) _ fd_lt := ⟨ok_lt (He5.fun_of (st := meth 53 7) F_lt) pK pH gA, He.meth_ok (c.fact 137 (f := .meth "House" "_lets") rfl), b_lt⟩
  have m_ld : KMt P w K mg base (He.ga K "House") CX0 2 "_leads_from" _ (spLd K (He.ga K "Field") (He.ga K "Kind") (He.ga K "House")) _ fd_ld := ⟨ok_ld (He5.fun_of (st := meth 53 6) F_ld) B an pF pH m_lt, He.meth_ok (c.fact 138 (f := .meth "House" "_leads_from") rfl), b_ld⟩
  have m_fz : KMt P w K mg base (He.ga K "House") CX0 1 "_check_frozen" _ (spFz K (He.ga K "Field") (He.ga K "Kind") (He.ga K "House")) _ fd_fz := ⟨ok_fz (He5.fun_of (st := meth 53 8) F_fz) an pK pH, He.meth_ok (c.fact 139 (f := .meth "House" "_check_frozen") rfl), b_fz⟩
  have mH : MkH P w K mg base (He.ga K "Field") (He.ga K "Kind") (He.ga K "House") _ fd_HI := ⟨ok_HI (He5.fun_of (st := meth 53 2) F_HI) B pK pH nFH nKH k_chk k_aln k_all m_ld k_far m_fz, He.mkr_ok (c.fact 127 (f := .mkr "House") rfl), gH, b_HI⟩
  have m_has : KMt P w K mg base (He.ga K "House") CX0 1 "__contains__" _ (spHas K (He.ga K "Field") (He.ga K "Kind") (He.ga K "House")) _ fd_has := ⟨ok_has (He5.fun_of (st := meth 53 5) F_has) B pH, He.meth_ok (c.fact 140 (f := .meth "House" "__contains__") rfl), b_has⟩
  have m_ck : KMt P w K mg base (He.ga K "House") (L2N.CX P w) 3 "_check" _ (spCk K (He.ga K "Field") (He.ga K "Kind") (He.ga K "House") (He.ga K "UnknownKind")) _ fd_ck := ⟨ok_ck (He5.fun_of (st := meth 53 9) F_ck) m_has m_has.mt.at_ m_has.mt.fn mUK, He.meth_ok (c.fact 141 (f := .meth "House" "_check") rfl), b_ck⟩
  have m_fo : KMt P w K mg base (He.ga K "House") (L2N.CX P w) 4 "fields_of" _ (spFo K (He.ga K "Field") (He.ga K "Kind") (He.ga K "House")) _ fd_fo := ⟨ok_fo (He5.fun_of (st := meth 53 11) F_fo) B pH m_ck, He.meth_ok (c.fact 142 (f := .meth "House" "fields_of") rfl), b_fo⟩
  have m_fd : KMt P w K mg base (He.ga K "House") (L2N.CX P w) 4 "field_of" _ (spFd K (He.ga K "Field") (He.ga K "Kind") (He.ga K "House") (He.ga K "UnknownKind") (He.ga K "UnknownField")) _ fd_fd := ⟨ok_fd (He5.fun_of (st := meth 53 12) F_fd) pH pF m_ck mUF, He.meth_ok (c.fact 143 (f := .meth "House" "field_of") rfl), b_fd⟩
  have eF : EqM P w K mg base (He.ga K "Field") 1 (spFE K (He.ga K "Field")) _ fd_FE := ⟨ok_FE (He5.fun_of (st := meth 45 1) F_FE) B oF pF gF, b_FE, Hb.eqB_ok (ex 23 _ rfl), (ex 24 _ rfl)⟩
  have eK : EqM P w K mg base (He.ga K "Kind") 3 (spKT K (He.ga K "Field") (He.ga K "Kind")) _ fd_KE := ⟨ok_KT (He5.fun_of (st := meth 48 1) F_KE) B oK pK gK eF, b_KE, Hb.eqB_ok (ex 25 _ rfl), (ex 26 _ rfl)⟩
  have eH : EqM P w K mg base (He.ga K "House") 5 (spHE K (He.ga K "Field") (He.ga K "Kind") (He.ga K "House")) _ fd_HE := ⟨ok_HE (He5.fun_of (st := meth 53 3) F_HE) B oH pH gH eK, b_HE, Hb.eqB_ok (ex 27 _ rfl), (ex 28 _ rfl)⟩
  have m_kd : KMt P w K mg base (He.ga K "House") (L2N.CX P w) 4 "kind_named" _ (spKd K (He.ga K "Field") (He.ga K "Kind") (He.ga K "House")) _ fd_kd := ⟨ok_Kd (He5.fun_of (st := meth 53 10) F_kd) pH m_ck, He.meth_ok (c.fact 94 (f := .meth "House" "kind_named") rfl), b_kd⟩
  have m_hl : KMt P w K mg base (He.ga K "House") CX0 1 "__len__" _ (spHl K (He.ga K "Field") (He.ga K "Kind") (He.ga K "House")) _ fd_hl := ⟨ok_Hl (He5.fun_of (st := meth 53 4) F_hl) B pH, He.meth_ok (c.fact 95 (f := .meth "House" "__len__") rfl), b_hl⟩
  have m_am : KMt P w K mg base (He.ga K "House") CX0 2 "admitted" _ (spAm K (He.ga K "Field") (He.ga K "Kind") (He.ga K "House")) _ fd_am := ⟨ok_Am (He5.fun_of (st := meth 53 22) F_am) B pH gA m_lt m_has m_has.mt.at_ m_has.mt.fn, He.meth_ok (c.fact 96 (f := .meth "House" "admitted") rfl), b_am⟩
  have k_ft : Known P w K mg base _ _ "_fits" _ _ _ fd_ft := ⟨ok_ft (He5.fun_of (st := top 33) F_ft) pF, g 14 "_fits" rfl, F_ft.kp, b_ft⟩
  have k_sf : Known P w K mg base _ _ "source_field" _ _ _ fd_sf := ⟨ok_sf (He5.fun_of (st := top 34) F_sf) pH pF k_ft m_fo m_fd, g 15 "source_field" rfl, F_sf.kp, b_sf⟩
  have k_Ix : Known P w K mg base _ _ "is_index" _ _ _ fd_Ix := ⟨ok_Ix (He5.fun_of (st := top 17) F_Ix) k_isInt, g 29 "is_index" rfl, F_Ix.kp, b_Ix⟩
  have k_Mv : Known P w K mg base _ _ "is_mark_value" _ _ _ fd_Mv := ⟨ok_Mv (He5.fun_of (st := top 21) F_Mv) MB k_isInt, g 30 "is_mark_value" rfl, F_Mv.kp, b_Mv⟩
  have k_Ek : Known P w K mg base _ _ "_entry_kind" _ _ _ fd_Ek := ⟨ok_Ek (He5.fun_of (st := top 25) F_Ek) B m_has m_has.mt.at_ m_has.mt.fn, g 31 "_entry_kind" rfl, F_Ek.kp, b_Ek⟩
  have k_Aa : Known P w K mg base _ _ "_are_admitted" _ _ _ fd_Aa := ⟨ok_Aa (He5.fun_of (st := top 27) F_Aa) B pH pF m_am k_Ix, g 32 "_are_admitted" rfl, F_Aa.kp, b_Aa⟩
  have k_Ch : Known P w K mg base _ _ "_can_hold" _ _ _ fd_Ch := ⟨ok_Ch (He5.fun_of (st := top 26) F_Ch) B pF k_Mv k_Aa gWb cw cvP, g 33 "_can_hold" rfl, F_Ch.kp, b_Ch⟩
  have k_Ie : Known P w K mg base _ _ "_is_entry" _ _ _ fd_Ie := ⟨ok_Ie (He5.fun_of (st := top 28) F_Ie) B pH pF gD k_Ek k_Ch m_fo, g 34 "_is_entry" rfl, F_Ie.kp, b_Ie⟩
  have k_Fv : Known P w K mg base _ _ "full_values" _ _ _ fd_Fv := ⟨ok_Fv (He5.fun_of (st := top 29) F_Fv) B pH pF m_fo, g 35 "full_values" rfl, F_Fv.kp, b_Fv⟩
  have mW : MkW P w K mg base (He.ga K "Field") (He.ga K "Kind") (He.ga K "House") (He.ga K "Web") _ fd_WI := ⟨ok_WI F_WI B gE pW nFW nKW nHW gWb cw cvT k_Ek k_Ie k_Ix k_Fv, He.mkr_ok (c.fact 81 (f := .mkr "Web") rfl), gWb, FunD_kbN (ps := ["self", "house", "things", "here", "old"]) F_WI 3 ["here", "old"] fun _ _ _ _ _ _ us ws h1 h2 => match us, h1, ws, h2 with | [_, _, _], _, [_, _], _ => rfl⟩
  have m_wl : KMt P w K mg base (He.ga K "Web") CX0 1 "__len__" _ (spWl K (He.ga K "Field") (He.ga K "Kind") (He.ga K "House") (He.ga K "Web")) _ fd_wl := ⟨ok_Wl (He5.fun_of (st := meth 31 4) F_wl) B pW, He.meth_ok (c.fact 87 (f := .meth "Web" "__len__") rfl), b_wl⟩
  have m_wc : KMt P w K mg base (He.ga K "Web") CX0 3 "__contains__" _ (spWc K (He.ga K "Field") (He.ga K "Kind") (He.ga K "House") (He.ga K "Web")) _ fd_wc := ⟨ok_Wc (He5.fun_of (st := meth 31 5) F_wc) B pW k_Ix, He.meth_ok (c.fact 88 (f := .meth "Web" "__contains__") rfl), b_wc⟩
  have m_wk : KMt P w K mg base (He.ga K "Web") CX0 4 "_check" _ (spWk K (He.ga K "Field") (He.ga K "Kind") (He.ga K "House") (He.ga K "Web")) _ fd_wk := ⟨ok_Wk (He5.fun_of (st := meth 31 8) F_wk) m_wc m_wc.mt.at_ m_wc.mt.fn, He.meth_ok (c.fact 89 (f := .meth "Web" "_check") rfl), b_wk⟩
  have m_wko : KMt P w K mg base (He.ga K "Web") CX0 5 "kind_of" _ (spWko K (He.ga K "Field") (He.ga K "Kind") (He.ga K "House") (He.ga K "Web")) _ fd_wko := ⟨ok_Wko (He5.fun_of (st := meth 31 10) F_wko) pW m_wk, He.meth_ok (c.fact 90 (f := .meth "Web" "kind_of") rfl), b_wko⟩
  have m_va : KMt P w K mg base (He.ga K "Web") CX0 5 "_value" _ (spVa K (He.ga K "Field") (He.ga K "Kind") (He.ga K "House") (He.ga K "Web")) _ fd_va := ⟨ok_Va (He5.fun_of (st := meth 31 9) F_va) B pW m_wk, He.meth_ok (c.fact 91 (f := .meth "Web" "_value") rfl), b_va⟩
  have m_gi : KMt P w K mg base (He.ga K "Web") CX0 6 "__getitem__" _ (spGi K (He.ga K "Field") (He.ga K "Kind") (He.ga K "House") (He.ga K "Web")) _ fd_gi := ⟨ok_Gi (He5.fun_of (st := meth 31 6) F_gi) B pW m_va, He.meth_ok (c.fact 92 (f := .meth "Web" "__getitem__") rfl), b_gi⟩
  have m_ts : KMt P w K mg base (He.ga K "Web") CX0 6 "things" _ (spTs K (He.ga K "Field") (He.ga K "Kind") (He.ga K "House") (He.ga K "Web")) _ fd_ts := ⟨ok_Ts (He5.fun_of (st := meth 31 11) F_ts) B gZ pW k_Fv, He.meth_ok (c.fact 93 (f := .meth "Web" "things") rfl), b_ts⟩
  have eW : EqM P w K mg base (He.ga K "Web") 6 (spWE K (He.ga K "Field") (He.ga K "Kind") (He.ga K "House") (He.ga K "Web")) _ fd_WE := ⟨ok_WE (He5.fun_of (st := meth 31 3) F_WE) B oW pW gWb eH, b_WE, Hb.eqB_ok (ex 29 _ rfl), (ex 30 _ rfl)⟩
  have k_Dr : Known P w K mg base _ _ "_law_draw" _ _ _ fd_Dr := ⟨ok_Dr (He5.fun_of (st := top 56) F_Dr) B, g 16 "_law_draw" rfl, F_Dr.kp, b_Dr⟩
  have k_Pt : Known P w K mg base _ _ "_law_pot" _ _ _ fd_Pt := ⟨ok_Pt (He5.fun_of (st := top 55) F_Pt) B bx, g 17 "_law_pot" rfl, F_Pt.kp, b_Pt⟩
  have k_Lb : Known P w K mg base _ _ "_law_labels" _ _ _ fd_Lb := ⟨ok_Lb (He5.fun_of (st := top 57) F_Lb) B k_Dr, g 18 "_law_labels" rfl, F_Lb.kp, b_Lb⟩
  have k_Kn : Known P w K mg base _ _ "_law_kind_names" _ _ _ fd_Kn := ⟨ok_Kn (He5.fun_of (st := top 58) F_Kn) B k_Dr, g 19 "_law_kind_names" rfl, F_Kn.kp, b_Kn⟩
  have k_Ps : Known P w K mg base _ _ "_law_preset" _ _ _ fd_Ps := ⟨ok_Ps (He5.fun_of (st := top 60) F_Ps) k_Dr, g 20 "_law_preset" rfl, F_Ps.kp, b_Ps⟩
  have k_Lf : Known P w K mg base _ _ "_law_field" _ _ _ fd_Lf := ⟨ok_Lf (He5.fun_of (st := top 61) F_Lf) B k_Dr k_Ps, g 21 "_law_field" rfl, F_Lf.kp, b_Lf⟩
  have k_Rw : Known P w K mg base _ _ "_law_row" _ _ _ fd_Rw := ⟨ok_Rw (He5.fun_of (st := top 64) F_Rw), g 22 "_law_row" rfl, F_Rw.kp, b_Rw⟩
  have k_Fs : Known P w K mg base _ _ "_law_fields" _ _ _ fd_Fs := ⟨ok_Fs (He5.fun_of (st := top 65) F_Fs) B k_Rw, g 23 "_law_fields" rfl, F_Fs.kp, b_Fs⟩
  have k_Tk : Known P w K mg base _ _ "_law_takes" _ _ _ fd_Tk := ⟨ok_Tk (He5.fun_of (st := top 67) F_Tk) k_Fs, g 24 "_law_takes" rfl, F_Tk.kp, b_Tk⟩
  have k_Bu : Known P w K mg base _ _ "_law_built" _ _ _ fd_Bu := ⟨ok_Bu (He5.fun_of (st := top 63) F_Bu) mF mK mH, g 25 "_law_built" rfl, F_Bu.kp, b_Bu⟩
  have k_Ho : Known P w K mg base _ _ "_law_house" _ _ _ fd_Ho := ⟨ok_Ho (He5.fun_of (st := top 62) F_Ho) B k_Dr k_Lf k_Ps k_Lb k_Kn, g 26 "_law_house" rfl, F_Ho.kp, b_Ho⟩
  have k_Cf : Known P w K mg base _ _ "_law_changed_fields" _ _ _ fd_Cf := ⟨ok_Cf (He5.fun_of (st := top 69) F_Cf) B k_Dr k_Ps, g 27 "_law_changed_fields" rfl, F_Cf.kp, b_Cf⟩
  have k_Ed : Known P w K mg base _ _ "_law_edition" _ _ _ fd_Ed := ⟨ok_Ed (He5.fun_of (st := top 70) F_Ed) B k_Rw k_Cf, g 28 "_law_edition" rfl, F_Ed.kp, b_Ed⟩
  have k_Ik : Known P w K mg base _ _ "_is_kept" _ _ _ fd_Ik := ⟨ok_Ik (He5.fun_of (st := top 35) F_Ik) pH pK m_kd m_fo eF, g 36 "_is_kept" rfl, F_Ik.kp, b_Ik⟩
  have k_Tt : Known P w K mg base _ _ "_takes_twice" _ _ _ fd_Tt := ⟨ok_Tt (He5.fun_of (st := top 36) F_Tt) B an pH pF m_fo k_sf, g 37 "_takes_twice" rfl, F_Tt.kp, b_Tt⟩
  have k_Rf2 : Known P w K mg base _ _ "reader_fault" _ _ _ fd_Rf2 := ⟨ok_Rf2 (He5.fun_of (st := top 37) F_Rf2) B gE pH m_hl m_hl.mt.at_ m_hl.mt.fn k_Ik k_Tt, g 38 "reader_fault" rfl, F_Rf2.kp, b_Rf2⟩
  have k_Ld2 : Known P w K mg base _ _ "led" _ _ _ fd_Ld2 := ⟨ok_Ld2 (He5.fun_of (st := top 38) F_Ld2) B pH pW pF m_fo k_sf k_Rf2 m_ts mW, g 39 "led" rfl, F_Ld2.kp, b_Ld2⟩
  have k_Ad : Known P w K mg base _ _ "_law_admits" _ _ _ fd_Ad := ⟨ok_Ad (He5.fun_of (st := top 66) F_Ad) k_Rw, g 40 "_law_admits" rfl, F_Ad.kp, b_Ad⟩
  have k_Db : Known P w K mg base _ _ "_law_is_doubled" _ _ _ fd_Db := ⟨ok_Db (He5.fun_of (st := top 68) F_Db) B k_Fs k_Tk, g 41 "_law_is_doubled" rfl, F_Db.kp, b_Db⟩
  have k_Le : Known P w K mg base _ _ "_law_leads" _ _ _ fd_Le := ⟨ok_Le (He5.fun_of (st := top 71) F_Le) k_Db, g 42 "_law_leads" rfl, F_Le.kp, b_Le⟩
  have k_Mr : Known P w K mg base _ _ "_law_mark" _ _ _ fd_Mr := ⟨ok_Mr (He5.fun_of (st := top 59) F_Mr) k_Dr, g 43 "_law_mark" rfl, F_Mr.kp, b_Mr⟩
  have k_Vs : Known P w K mg base _ _ "_law_values" _ _ _ fd_Vs := ⟨ok_Vs (He5.fun_of (st := top 72) F_Vs) B k_Dr k_Rw k_Fs k_Ad k_Mr, g 44 "_law_values" rfl, F_Vs.kp, b_Vs⟩
  have k_Tg : Known P w K mg base _ _ "_law_things" _ _ _ fd_Tg := ⟨ok_Tg (He5.fun_of (st := top 73) F_Tg) B k_Dr k_Vs, g 45 "_law_things" rfl, F_Tg.kp, b_Tg⟩
  have k_Sm : Known P w K mg base _ _ "_law_same" _ _ _ fd_Sm := ⟨ok_Sm (He5.fun_of (st := top 77) F_Sm) B, g 46 "_law_same" rfl, F_Sm.kp, b_Sm⟩
  have k_Wo : Known P w K mg base _ _ "_law_worth" _ _ _ fd_Wo := ⟨ok_Wo (He5.fun_of (st := top 78) F_Wo) k_Tk, g 47 "_law_worth" rfl, F_Wo.kp, b_Wo⟩
  have k_Lt2 : Known P w K mg base _ _ "_law_led_things" _ _ _ fd_Lt2 := ⟨ok_Lt2 (He5.fun_of (st := top 79) F_Lt2) k_Fs k_Wo, g 48 "_law_led_things" rfl, F_Lt2.kp, b_Lt2⟩
  have k_Wr : Known P w K mg base _ _ "_law_web_right" _ _ _ fd_Wr := ⟨ok_Wr (He5.fun_of (st := top 80) F_Wr) B pW eH m_wl m_wl.mt.at_ m_wl.mt.fn m_wko m_gi m_gi.mt.at_ fnGi m_gi.mt.fn k_Sm, g 49 "_law_web_right" rfl, F_Wr.kp, b_Wr⟩
  have k_Ri : Known P w K mg base _ _ "_law_right" _ _ _ fd_Ri := ⟨ok_Ri (He5.fun_of (st := top 81) F_Ri) B k_Dr k_Ho k_Ed k_Le k_Bu k_Tg k_Lt2 k_Ld2 k_Wr mW eW, g 50 "_law_right" rfl, F_Ri.kp, b_Ri⟩
  exact ok_Lw (He5.fun_of (st := top 82) F_law) B bx k_Pt k_Ri
end Wh
open PySem PySem.W PySem.Calls PyProof.Rows
theorem PySem.Challenge.cw_waypairs_k36_webs_led_holds : PySem.Challenge.rw_waypairs_k36_webs_led.Holds := by
  w_on; o_law
  refine HandSHeadRun.head_any (r := OpenLaw.row PySem.Challenge.rw_waypairs_k36_webs_led) (q := view (OpenLaw.row PySem.Challenge.rw_waypairs_k36_webs_led).prog [82]) (H := Wh.hk) (ob := Wh.ob) (M := 8000) (loose := Wr.loose) (d := HandSHeadRun.topDef (OpenLaw.row PySem.Challenge.rw_waypairs_k36_webs_led).prog 82) (kwd := []) Wh.ob_eq
    (by kernel_rfl) (fun s => by kernel_rfl) Wr.run (by kernel_rfl) (by kernel_rfl) (by kernel_rfl) (by rfl) (by first | assumption | decide +kernel) (by decide +kernel) ⟨rfl, rfl, rfl, rfl, rfl, by decide +kernel⟩ ?hw ?hc
  case hw => w_witness2
  case hc =>
    refine Wh.walk_GE (l := PySem.Challenge.rw_waypairs_k36_webs_led) (n := 63) (k := 10) (x := "_law_script") (CX := L2.CX0) rfl (by decide) (by kernel_rfl) ⟨rfl, by decide, by decide⟩ ?F (fun _ _ _ _ z => z)
    intro w mg fa h Y G hmg0
    obtain ⟨K, KX, c⟩ := Y
    have hmg : mg ("law" : PySem.Str) = some (.ref fa) := by
      have e : (HandSHeadRun.topDef (OpenLaw.row PySem.Challenge.rw_waypairs_k36_webs_led).prog 82).name = ("law" : PySem.Str) := by kernel_rfl
      rw [← e]
      exact hmg0
    obtain ⟨fd, hb, hF⟩ := Wh.facts (P := (PySem.Challenge.rw_waypairs_k36_webs_led).prog) (w := w) KX G hmg c
    exact ⟨K, fd, Wh.spLaw K, KX, hb, fun H a ns hl _ hS => ⟨a, ns, rfl, hS, hl, fun _ => rfl⟩, hF⟩
