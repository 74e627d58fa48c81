import PyProof.Rows.All
import Wide.All
import OpenK.AllK
import Wide.FinOn
import HandS.ForMost
import HandS.Wide
import HandS.DictTup
import HandS.TupLen
import HandS.More
import KE.KDictKeyed
import KE.KDictLaw
import KE.KDictItemsList
import HandS.ReCall
import HandS.OwnEq
import HandS.IsInst
import HandS.Flow
import HandS.Walk
import HandS.Defaults
import HandS.MakeKwOnly
import HandS.Comp
import PyProof.ReprRoads
import PyProof.ReprLen
import HandS.TryOnly
import HandS.Words
import HandS.WordsExc
import HandS.Head0
import HandS.Head1
import HandS.Head2
import HandS.HeadEnd
import HandS.HeadHook1
import HandS.HeadHook2
import HandS.HeadNt
import PySem.Challenge.RW_waypairs_k24_memos
set_option Elab.async false
set_option linter.all false
set_option maxRecDepth 100000
set_option maxHeartbeats 4000000
/-! None asked of a dict whose keys are tuples. -/
namespace Wk
open PySem PySem.Spec PyProof.Rows L2
section
variable {prog : Program} {w : World} {A : Around} {E : Value → Shared → Prop} {s : Shared} {d : Addr} {xs : List (NestedKey × Addr × Value)}
theorem eq_keyNone {k : NestedKey} {a : Addr} (hu : A.units + 8 < cLine) (k0 : (nestedKind prog w).is s.heap k a) : SeqAt.EqAt A s (.ref a) .none false := by
  have z := eqAt_key k .none A s (.ref a) .none k0.1 .none (by
    have := k0.2
    show A.units + min k.depth 0 < cLine
    omega)
  have e0 : NestedKey.beq k .none = false := by
    have k1 := k0.1
    generalize k = kk at k1
    cases k1
    rfl
  rw [e0] at z
  exact z
theorem none_find {o : Obj} {es ep} {hh : Int} {Q : Option Nat → Shared → Prop} (hu : A.units + 8 < cLine) (ho : s.heap.get? d = some o) (hd : o.data = .dict es ep) (he : es.toList = xs.map (entryOfKey (nestedKind prog w)))
    (his : ∀ x ∈ xs, (nestedKind prog w).is s.heap x.1 x.2.1) (q : Q none s) : wpAny (model prog w) A (dictFind d .none hh) Q E s := by
  have hmem : ∀ e ∈ es, ∃ x ∈ xs, e = entryOfKey (nestedKind prog w) x := by
    intro e hin
    have : e ∈ xs.map (entryOfKey (nestedKind prog w)) := he ▸ Array.mem_toList_iff.mpr hin
    obtain ⟨x, hx, rfl⟩ := List.mem_map.mp this
    exact ⟨x, hx, rfl⟩
  have hst : ∀ v ∈ (placesWithHash es.size (fun i => es[i]?.map (·.hash)) hh).filterMap (fun i => es[i]?.map (·.key)), ∃ k' b, v = .ref b ∧ (nestedKind prog w).is s.heap k' b := by
    intro v hv
    obtain ⟨i, _, hi⟩ := List.mem_filterMap.mp hv
    cases hei : es[i]? with
    | none => rw [hei] at hi; cases hi
    | some e =>
      rw [hei] at hi
      obtain rfl : e.key = v := by simpa using hi
      obtain ⟨x, hx, rfl⟩ := hmem e (Array.mem_of_getElem? hei)
      exact ⟨x.1, x.2.1, rfl, his x hx⟩
  have step : ∀ (i : Nat) (e : DictEntry), es[i]? = some e → SeqAt.EqAt A s e.key .none false := by
    intro i e hei
    obtain ⟨x, hx, rfl⟩ := hmem e (Array.mem_of_getElem? hei)
    exact eq_keyNone hu (his x hx)
  unfold dictFind
  try with_reducible refine wpAny_holding ?_
  refine wpAny_bind (wpAny_dictEntries ho hd ?_)
  dsimp only
  generalize hpl : placesWithHash es.size (fun i => es[i]?.map (·.hash)) hh = places at hst ⊢
  cases hstored : places.filterMap (fun i => es[i]?.map (·.key)) with
  | nil =>
    have no : ∀ i ∈ places, es[i]? = none := by
      intro i hi
      cases e : es[i]? with
      | none => rfl
      | some x =>
        have := List.filterMap_eq_nil_iff.mp hstored i hi
        rw [e] at this
        cases this
    rw [if_pos (by rfl)]
    unfold dictWalkPlain
    try refine wpAny_bind ?_
    try refine wpAny_bind ?_
    refine wpAny_forIn_list _ (fun rest b s' => s' = s ∧ b = (none, ()) ∧ ∀ i ∈ rest, i ∈ places) _ ?_ ?_ _ _ ⟨rfl, rfl, fun _ h => h⟩
    · rintro x rest b s' ⟨rfl, rfl, hr⟩
      rw [no x (hr x List.mem_cons_self)]
      exact wpAny_pure ⟨rfl, rfl, fun i hi => hr i (List.mem_cons_of_mem _ hi)⟩
    · rintro b s' ⟨rfl, rfl, _⟩
      first
        | exact wpAny_pure q
        | exact wpAny_pure (wpAny_pure q)
  | cons v0 vr =>
    obtain ⟨k0, b0, ev0, hk0⟩ := hst v0 (by rw [hstored]; exact List.mem_cons_self)
    rw [if_neg (by rw [ev0]; simp [carriedByValue])]
    rw [if_neg (by rw [ev0]; simp)]
    rw [hstored] at hst
    have tell : ∀ Q' : Bool → Shared → Prop, Q' false s → wpAny (model prog w) A (tableMayTell .none (v0 :: vr)) Q' E s := by
      intro Q' h
      unfold tableMayTell
      rw [if_neg (by simp)]
      refine wpAny_bind (QuietAt.byValue (n := 8) (v := .none) rfl A E _ ?_)
      simp only [Bool.not_true, Bool.false_eq_true, if_false]
      refine wpAny_bind ?_
      refine wpAny_forIn_list _ (fun rest r s' => s' = s ∧ r = (none, ()) ∧ ∀ v ∈ rest, ∃ k' b, v = .ref b ∧ (nestedKind prog w).is s.heap k' b) _ ?_ ?_ _ _ ⟨rfl, rfl, hst⟩
      · rintro x rest r s' ⟨rfl, rfl, hr⟩
        obtain ⟨k', b, rfl, hb⟩ := hr x List.mem_cons_self
        refine wpAny_bind ((nestedKind prog w).quiet hb ?_)
        simp only [Bool.not_true, Bool.false_eq_true, if_false]
        exact wpAny_pure ⟨rfl, rfl, fun v hv => hr v (List.mem_cons_of_mem _ hv)⟩
      · rintro r s' ⟨rfl, rfl, _⟩
        exact wpAny_pure h
    refine wpAny_bind (tell _ ?_)
    rw [if_neg (by simp)]
    refine wpAny_bind ?_
    refine wpAny_forIn_list _ (fun rest b s' => s' = s ∧ b = (none, none)) _ ?_ ?_ _ _ ⟨rfl, rfl⟩
    · rintro x rest b s' ⟨rfl, rfl⟩
      cases hei : es[x]? with
      | none => exact wpAny_pure ⟨rfl, rfl⟩
      | some e =>
        dsimp only
        split
        · refine wpAny_bind (wpAny_dictEpoch ho hd (wpAny_bind (step x e hei prog w E _ (wpAny_bind (wpAny_dictEpoch ho hd ?_)))))
          rw [if_neg (by simp)]
          simp only [Bool.false_eq_true, if_false]
          refine wpAny_bind (wpAny_rule ?_)
          first | rw [if_neg (by simp)] | skip
          first
            | exact wpAny_pure ⟨rfl, rfl⟩
            | exact wpAny_bind (wpAny_pure (wpAny_pure ⟨rfl, rfl⟩))
        · exact wpAny_pure ⟨rfl, rfl⟩
    · rintro b s' ⟨rfl, rfl⟩
      exact wpAny_pure q
end
end Wk
set_option Elab.async false
set_option linter.all false
set_option maxRecDepth 100000
set_option maxHeartbeats 4000000
/-! A dict whose keys are the tuples of a memo, at the hand layer. -/
namespace Wk
open PySem PySem.Spec PyProof.Rows L2
section
variable {prog : Program} {w : World} {A : Around} {E : Value → Shared → Prop} {s : Shared} {d : Addr} {xs : List (NestedKey × Addr × Value)}
theorem none_get {Q : Option Value → Shared → Prop} (hu : A.units + 8 < cLine) (hm : s.heap.DictOfH (nestedKind prog w) d xs) (h : Q none { s with toks := s.toks + 1 }) : wpAny (model prog w) A (dictGet d .none) Q E s := by
  obtain ⟨o, es, ep, ho, _, hd, he, his, hn⟩ := hm
  unfold dictGet
  try with_reducible refine wpAny_holding ?_
  refine wpAny_bind (pyHash_key (w := w) .none .none A s _ .none (show A.units + 0 < cLine by omega) (wpAny_bind (none_find (s := { s with toks := s.toks + 1 }) (o := o) hu ho hd he his ?_)))
  exact wpAny_pure h
theorem none_in {Q : Value → Shared → Prop} (hu : A.in1.units + 8 < cLine) (hd : (d == sysModules) = false) (hm : s.heap.DictOfH (nestedKind prog w) d xs) (h : Q (.bool false) { s with toks := s.toks + 1 }) :
    wpAny (model prog w) A (compareOp .In .none (.ref d)) Q E s := by
  show wpAny _ _ (do return .bool (← contains (.ref d) .none)) Q E s
  refine wpAny_bind (wpAny_contains_slot hm.typeIs PySem.F.slot_dict_contains ?_)
  refine call_meetsIn PySem.F.slot_dict_contains hm.typeIs PySem.F.entry_dict_contains (PySem.F.args_dict_contains_2 _ _) (S := fun A' R s' => A' = A ∧ s' = s ∧ R (.ok (.ret (.bool false))) { s with toks := s.toks + 1 }) (.of_wp fun A' R s' hS => ?_) ⟨rfl, rfl, wpAny_truthy_bool (wpAny_pure h)⟩
  obtain ⟨rfl, rfl, hq⟩ := hS
  show wpAny _ _ (dictGet d .none >>= _) _ _ _
  refine wpAny_bind (none_get hu hm ?_)
  show wpAny _ _ (Builtin.Dict.pendingKey? d .none >>= _) _ _ _
  exact wpAny_bind (wpAny_pendingKey_other hd (wpAny_pure ⟨_, rfl, hq⟩))
theorem none_getm {Q : Value → Shared → Prop} (hu : A.in1.units + 8 < cLine) (hd : (d == sysModules) = false) (hm : s.heap.DictOfH (nestedKind prog w) d xs) (h : Q .none { s with toks := s.toks + 1 }) :
    wpAny (model prog w) A (call (.builtin "dict.get") [.ref d, .none]) Q E s := by
  refine call_meetsIn PySem.F.slot_dict_get hm.typeIs PySem.F.entry_dict_get (PySem.F.args_dict_get_2 _ _) (S := fun A' R s' => A' = A ∧ s' = s ∧ R (.ok (.ret .none)) { s with toks := s.toks + 1 }) (.of_wp fun A' R s' hS => ?_) ⟨rfl, rfl, h⟩
  obtain ⟨rfl, rfl, hq⟩ := hS
  show wpAny _ _ (dictGet d .none >>= _) _ _ _
  refine wpAny_bind (none_get hu hm ?_)
  show wpAny _ _ (Builtin.Dict.missed d .none >>= _) _ _ _
  exact wpAny_bind (wpAny_missed_other hd (wpAny_pure ⟨.none, rfl, hq⟩))
end
/-! ## the dict of a memo -/
/-- an entry: the key, where its tuple stands, the number -/
abbrev Ent := NestedKey × Addr × Int
def EntR (e : Ent) (x : NestedKey × Addr × Value) : Prop := x.1 = e.1 ∧ x.2.1 = e.2.1 ∧ ∃ t, x.2.2 = .int e.2.2 t
def memoD (P : Program) (w : World) (d : Addr) (l : List Ent) : HO := .ext fun h => (d == sysModules) = false ∧ l.length ≤ 1000 ∧ ∃ xs, Paired EntR l xs ∧
  ∃ o es ep, h.get? d = some o ∧ o.ExactDict ∧ o.data = .dict es ep ∧ es.toList = xs.map (entryOfKey (nestedKind P w)) ∧ (xs.map (·.1)).Nodup
/-- the tuple of a key -/
inductive KeyAt (H : Hp) : NestedKey → Addr → Prop
  | its {a : Addr} {n : Int} : H a = some (.tup [.str "itself", .int n]) → KeyAt H (.tup [.text "itself", .num n]) a
  | mks {a q : Addr} {z : Str} {ns : List Int} : H a = some (.tup [.str "marks", .str z, .ref q]) → H q = some (.tup (ns.map V.int)) → KeyAt H (.tup [.text "marks", .text z, .tup (ns.map .num)]) a
def KeysAt (H : Hp) (l : List Ent) : Prop := ∀ e ∈ l, KeyAt H e.1 e.2.1
theorem KeyAt.keeps {H H' : Hp} {k : NestedKey} {a : Addr} (h : KeyAt H k a) (t : ∀ b xs, H b = some (.tup xs) → H' b = some (.tup xs)) : KeyAt H' k a := by
  cases h with
  | its e => exact .its (t _ _ e)
  | mks e e2 => exact .mks (t _ _ e) (t _ _ e2)
theorem KeysAt.keeps {H H' : Hp} {l : List Ent} (h : KeysAt H l) (t : ∀ b xs, H b = some (.tup xs) → H' b = some (.tup xs)) : KeysAt H' l := fun e he => (h e he).keeps t
theorem nums_all {h : Heap} : ∀ {ns : List Int} {us : List Value}, Vals (ns.map V.int) us → NestedAll h (ns.map NestedKey.num) us
  | [], _, .nil => .nil
  | n :: ns, _, .cons r t => by
    obtain ⟨k, rfl⟩ := r
    exact .cons (.int n k) (nums_all t)
theorem nums_flat : ∀ ns : List Int, NestedKey.depthAll (ns.map NestedKey.num) = 0
  | [] => rfl
  | n :: ns => by
    show max 0 (NestedKey.depthAll (ns.map NestedKey.num)) = 0
    rw [nums_flat ns]
    rfl
theorem key_is {P : Program} {w : World} {H : Hp} {h : Heap} {k : NestedKey} {a : Addr} (ok : HOk P w H h) (x : KeyAt H k a) : (nestedKind P w).is h k a := by
  cases x with
  | its e =>
    obtain ⟨_, its, r, o, h1, h2, n, h3⟩ := (show ObjOk P w H h a (.tup _) from ok a _ e)
    cases r with
    | cons r1 r =>
      cases r with
      | cons r2 r =>
        cases r
        obtain ⟨t1, rfl⟩ := r1
        obtain ⟨t2, rfl⟩ := r2
        exact ⟨.tup h1 h2 h3 (.cons (.text _ _) (.cons (.int _ _) .nil)), by show 0 + 1 ≤ 8; decide⟩
  | @mks _ q z ns e e2 =>
    obtain ⟨_, its, r, o, h1, h2, n, h3⟩ := (show ObjOk P w H h a (.tup _) from ok a _ e)
    obtain ⟨_, jts, rr, o2, g1, g2, n2, g3⟩ := (show ObjOk P w H h q (.tup _) from ok q _ e2)
    cases r with
    | cons r1 r =>
      cases r with
      | cons r2 r =>
        cases r with
        | cons r3 r =>
          cases r
          obtain ⟨t1, rfl⟩ := r1
          obtain ⟨t2, rfl⟩ := r2
          cases r3
          refine ⟨.tup h1 h2 h3 (.cons (.text _ _) (.cons (.text _ _) (.cons (.tup g1 g2 g3 (nums_all rr)) .nil))), ?_⟩
          show max 0 (max 0 (max (NestedKey.depthAll (ns.map NestedKey.num) + 1) 0)) + 1 ≤ 8
          rw [nums_flat]
          decide
theorem memo_at {P : Program} {w : World} {H : Hp} {h : Heap} {d : Addr} {l : List Ent} (ok : HOk P w H h) (e : H d = some (memoD P w d l)) (hk : KeysAt H l) :
    ∃ xs, (d == sysModules) = false ∧ l.length ≤ 1000 ∧ Paired EntR l xs ∧ h.DictOfH (nestedKind P w) d xs := by
  obtain ⟨⟨hd, hl, xs, r, o, es, ep, h1, h2, h3, h4, h5⟩, _⟩ := (show ObjOk P w H h d (memoD P w d l) from ok d _ e)
  refine ⟨xs, hd, hl, r, o, es, ep, h1, h2, h3, h4, ?_, h5⟩
  have all : ∀ {l : List Ent} {m : List (NestedKey × Addr × Value)}, Paired EntR l m → KeysAt H l → ∀ x ∈ m, (nestedKind P w).is h x.1 x.2.1 := by
    intro l m q
    induction q with
    | nil => intro _ x hx; exact nomatch hx
    | @cons p q ps qs hq t ih =>
      intro hk x hx
      rcases List.mem_cons.mp hx with e | hx
      · subst e
        rw [hq.1, hq.2.1]
        exact key_is ok (hk p List.mem_cons_self)
      · exact ih (fun e he => hk e (List.mem_cons_of_mem _ he)) x hx
  exact all r hk
theorem memo_new {P : Program} {w : World} {H' : Hp} {h' : Heap} {d : Addr} {l : List Ent} {xs : List (NestedKey × Addr × Value)} (hd : (d == sysModules) = false) (hl : l.length ≤ 1000) (r : Paired EntR l xs)
    (dd : h'.DictOfH (nestedKind P w) d xs) : ObjOk P w H' h' d (memoD P w d l) := by
  obtain ⟨o, es, ep, h1, h2, h3, h4, _, h5⟩ := dd
  refine ⟨⟨hd, hl, xs, r, o, es, ep, h1, h2, h3, h4, h5⟩, ⟨o, h1⟩, ?_⟩
  rintro g1 g2 ⟨hd, hl, xs, r, o, es, ep, h1, h2, h3, h4, h5⟩ k
  exact ⟨hd, hl, xs, r, o, es, ep, k o h1, h2, h3, h4, h5⟩
/-- the number that is kept for a key -/
def findE : List Ent → NestedKey → Option Int
  | [], _ => none
  | e :: l, k => if e.1 = k then some e.2.2 else findE l k
theorem find_at {l : List Ent} {xs : List (NestedKey × Addr × Value)} (r : Paired EntR l xs) (k : NestedKey) :
    (∃ n t, findE l k = some n ∧ (atKey xs k).map (·.2) = some (.int n t)) ∨ (findE l k = none ∧ atKey xs k = none) := by
  induction r with
  | nil => exact .inr ⟨rfl, rfl⟩
  | @cons p q ps qs hq t ih =>
    obtain ⟨e1, e2, t, e3⟩ := hq
    by_cases h : p.1 = k
    · refine .inl ⟨p.2.2, t, by simp [findE, h], ?_⟩
      simp [atKey, e1, h, e3]
    · have h1 : findE (p :: ps) k = findE ps k := by simp [findE, h]
      have h2 : atKey (q :: qs) k = atKey qs k := by simp [atKey, e1, h]
      rw [h1, h2]
      exact ih
def V.ofN : Option Int → V
  | some n => .int n
  | none => .non
end Wk
set_option Elab.async false
set_option linter.all false
set_option maxRecDepth 100000
set_option maxHeartbeats 4000000
/-! What is asked of the dict of a memo. -/
namespace Wk
open PySem PySem.Spec PyProof.Rows L2
theorem find_isSome {l : List Ent} {xs : List (NestedKey × Addr × Value)} (r : Paired EntR l xs) (k : NestedKey) : (atKey xs k).isSome = (findE l k).isSome := by
  rcases find_at r k with ⟨n, t, e1, e2⟩ | ⟨e1, e2⟩
  · rw [e1]
    cases h : atKey xs k with
    | none => rw [h] at e2; cases e2
    | some p => rfl
  · rw [e1, e2]
    rfl
section
variable {X : Cx}
/-- {} -/
def tMNew (P : Program) (w : World) : TE := fun _ H Q => ∀ p, H p = none → Q (.ref p) (upd H p (memoD P w p []))
theorem pe_mnew {pos : Pos} : PE X (.Dict [] [] pos) (tMNew X.prog X.w) := ⟨fun pins s σ H Q I h =>
  wpAny_Dict_empty ⟨.ref s.heap.objs.size, _, I.laid (a := s.heap.objs.size) (o := memoD X.prog X.w s.heap.objs.size []) (t' := s.toks) (fun _ _ q => Heap.get?_push_of_some _ q) (Nat.le_refl _)
    (memo_new (beq_eq_false_iff_ne.mpr (Ne.symm (Nat.ne_of_lt I.big))) (Nat.zero_le _) .nil (Heap.DictOfH.new _)), rfl, h _ (I.hok.fresh (Nat.le_refl _))⟩⟩
/-- the value asked for: None, or a key's tuple -/
def AskedAs (H : Hp) (y : V) (l : List Ent) (r : Option Int) : Prop := (y = .non ∧ r = none) ∨ ∃ k b, y = .ref b ∧ KeyAt H k b ∧ r = findE l k
/-- y in d -/
def rMIn (P : Program) (w : World) : R2 := fun y x H Q => ∃ a l r, x = .ref a ∧ H a = some (memoD P w a l) ∧ KeysAt H l ∧ AskedAs H y l r ∧ Q (.bl r.isSome) H
theorem op_min (hu : X.A.units + 10 < cLine) : OpR X (compareOp .In) (rMIn X.prog X.w) := by
  rintro pins s σ H y x v u Q I ry rx ⟨a, l, r, rfl, ha, hk, as, q⟩
  cases rx
  obtain ⟨xs, hd, hl, rel, dd⟩ := memo_at I.hok ha hk
  rcases as with ⟨rfl, rfl⟩ | ⟨k, b, rfl, kb, rfl⟩
  · cases ry
    exact none_in (show X.A.units + 1 + 8 < cLine by omega) hd dd ⟨.bl false, H, I.tok _, rfl, q⟩
  · cases ry
    refine wpAny_in_heap (show X.A.units + 1 + 8 < cLine by omega) (key_is I.hok kb) hd dd ?_
    rw [find_isSome rel k]
    exact ⟨.bl _, H, I.tok _, rfl, q⟩
/-- y not in d -/
def rMNotIn (P : Program) (w : World) : R2 := fun y x H Q => ∃ a l k b, x = .ref a ∧ H a = some (memoD P w a l) ∧ KeysAt H l ∧ y = .ref b ∧ KeyAt H k b ∧ Q (.bl (!(findE l k).isSome)) H
theorem op_mnotin (hu : X.A.units + 10 < cLine) : OpR X (compareOp .NotIn) (rMNotIn X.prog X.w) := by
  rintro pins s σ H y x v u Q I ry rx ⟨a, l, k, b, rfl, ha, hk, rfl, kb, q⟩
  cases rx
  cases ry
  obtain ⟨xs, hd, hl, rel, dd⟩ := memo_at I.hok ha hk
  refine wpAny_notIn_heap (show X.A.units + 1 + 8 < cLine by omega) (key_is I.hok kb) hd dd ?_
  rw [find_isSome rel k]
  exact ⟨.bl _, H, I.tok _, rfl, q⟩
/-- d.get(y) -/
def tyMemo (P : Program) (w : World) (x : V) (H : Hp) : Prop := ∃ a l, x = .ref a ∧ H a = some (memoD P w a l)
theorem ty_memo : TyOk X "dict" (tyMemo X.prog X.w) := by
  intro pins σ H s x v I r ty
  obtain ⟨a, l, rfl, ha⟩ := ty
  cases r
  obtain ⟨⟨hd, hl, xs, r, o, es, ep, h1, h2, h3, h4, h5⟩, _⟩ := (show ObjOk X.prog X.w H s.heap a (memoD X.prog X.w a l) from I.hok a _ ha)
  refine ⟨⟨_, h1, h2.1⟩, fun b e => ?_⟩
  cases e
  exact ⟨_, h1, h2.2.1⟩
def rMGet (P : Program) (w : World) : V → List V → Hp → VK → Prop := fun x ys H Q => ∃ a l y r, x = .ref a ∧ ys = [y] ∧ H a = some (memoD P w a l) ∧ KeysAt H l ∧ AskedAs H y l r ∧ Q (V.ofN r) H
theorem mt_mget (hu : X.A.units + 10 < cLine) : MtR X "dict.get" (rMGet X.prog X.w) := by
  intro pins s σ H x ys v us Q I rx rys h
  obtain ⟨a, l, y, r, rfl, rfl, ha, hk, as, q⟩ := h
  cases rx
  obtain ⟨u, rfl, ry⟩ := vals1 rys
  obtain ⟨xs, hd, hl, rel, dd⟩ := memo_at I.hok ha hk
  rcases as with ⟨rfl, rfl⟩ | ⟨k, b, rfl, kb, rfl⟩
  · cases ry
    exact none_getm (show X.A.units + 1 + 8 < cLine by omega) hd dd ⟨.non, H, I.tok _, rfl, q⟩
  · cases ry
    refine call_meetsIn PySem.F.slot_dict_get dd.typeIs PySem.F.entry_dict_get (PySem.F.args_dict_get_2 _ _) (meetsH_dict_get (nestedKind X.prog X.w) a b hd) ⟨(show X.A.units + 1 + 8 < cLine by omega), k, xs, key_is I.hok kb, dd, ?_⟩
    rcases find_at rel k with ⟨n, t, e1, e2⟩ | ⟨e1, e2⟩
    · rw [e2]
      rw [e1] at q
      exact ⟨.int n, H, I.tok _, ⟨t, rfl⟩, q⟩
    · rw [e2]
      rw [e1] at q
      exact ⟨.non, H, I.tok _, rfl, q⟩
/-- d[y] = v, where y is new -/
def sMPut (P : Program) (w : World) (td ty tv : TE) : TS := fun D σ H => tv σ H fun v H1 => td σ H1 fun x H2 => ty σ H2 fun y H3 => ∃ a l k b n, x = .ref a ∧ v = .int n ∧ H3 a = some (memoD P w a l) ∧ KeysAt H3 l ∧ l.length < 1000 ∧
  y = .ref b ∧ KeyAt H3 k b ∧ findE l k = none ∧ D.nx σ (upd H3 a (memoD P w a (l ++ [(k, b, n)])))
theorem ps_mput {o i value : Expr} {pos pos' : Pos} {td ty tv : TE} (hu : X.A.units + 10 < cLine) (ho : PE X o td) (hi : PE X i ty) (hv : PE X value tv) (hs : swapsWith value (some (.Subscript o i pos')) pos.line X.env = pure false) :
    PS X (.Assign [.Subscript o i pos'] value pos) (sMPut X.prog X.w td ty tv) := by
  refine ⟨fun pins s σ H D I h => ?_⟩
  refine wpAny_Assign_Subscript (thn (hv.run pins s σ H _ I h) fun r s1 ⟨v, H1, I1, rv, q1⟩ => thn (ho.run pins s1 σ H1 _ I1 q1) fun u s2 ⟨x, H2, I2, rx, q2⟩ => thn (hi.run pins s2 σ H2 _ I2 q2) fun iv s3 ⟨y, H3, I3, ry, a, l, k, b, n, ex, ev, ha, hk, hl, ey, kb, no, q3⟩ => ?_) hs
  subst ex ev ey
  cases rx
  cases ry
  obtain ⟨t, rfl⟩ := rv
  obtain ⟨xs, hd, _, rel, dd⟩ := memo_at I3.hok ha hk
  have no2 : atKey xs k = none := by
    rcases find_at rel k with ⟨n, t, e1, e2⟩ | ⟨e1, e2⟩
    · rw [no] at e1; cases e1
    · exact e2
  have hz : xs.length ≤ sizeLine := by
    rw [← Paired.length rel, sizeLine_eq]
    omega
  refine wpAny_setItem_heap (hsz := hz) (show X.A.units + 1 + 8 < cLine by omega) (key_is I3.hok kb) dd fun h' dd' hs => ?_
  rw [storedH_new no2] at dd'
  have he : ∃ q, h'.get? a = some q := let ⟨q, _, _, hq, _⟩ := dd'; ⟨q, hq⟩
  exact ⟨σ, _, d_write I3 (by rw [ha]; exact True.intro) hs he (memo_new hd (by rw [List.length_append]; show l.length + 1 ≤ 1000; omega) (Paired.snoc rel ⟨rfl, rfl, t, rfl⟩) dd'), q3⟩
/-- len(d) -/
def rMLen (P : Program) (w : World) : List V → Hp → VK → Prop := fun xs H Q => ∃ a l, xs = [.ref a] ∧ H a = some (memoD P w a l) ∧ KeysAt H l ∧ Q (.int ((l.length : Nat) : Int)) H
theorem call_mlen : CallR X (.builtin "len") (rMLen X.prog X.w) := by
  intro pins s σ H xs us Q I r h
  obtain ⟨a, l, rfl, ha, hk, q⟩ := h
  obtain ⟨u, rfl, rx⟩ := vals1 r
  cases rx
  obtain ⟨ys, hd, hl, rel, dd⟩ := memo_at I.hok ha hk
  have e := Paired.length rel
  refine call_len_dictH hd dd (by rw [← e]; omega) ?_
  rw [← e]
  exact ⟨.int ((l.length : Nat) : Int), H, I.tok _, ⟨_, rfl⟩, q⟩
/-- d.items() -/
def rMItems (P : Program) (w : World) : V → List V → Hp → VK → Prop := fun x xs H Q => ∃ a l, x = .ref a ∧ xs = [] ∧ H a = some (memoD P w a l) ∧ ∀ p, H p = none → Q (.ref p) (upd H p (DX.itemsO p a))
theorem mt_mitems : MtR X "dict.items" (rMItems X.prog X.w) := by
  intro pins s σ H x xs v us Q I rx rxs h
  obtain ⟨a, l, rfl, rfl, ha, q⟩ := h
  cases rx
  cases rxs
  obtain ⟨⟨hd, hl, xs, r, o, es, ep, h1, h2, h3, h4, h5⟩, _⟩ := (show ObjOk X.prog X.w H s.heap a (memoD X.prog X.w a l) from I.hok a _ ha)
  refine DT.callItems (es := es) (ep := ep) hd ⟨o, h1, h2, h3⟩ ?_
  have hf : H s.heap.objs.size = none := I.hok.fresh (Nat.le_refl _)
  exact ⟨.ref s.heap.objs.size, upd H s.heap.objs.size (DX.itemsO s.heap.objs.size a), I.laid (t' := s.toks) (fun b u e => Heap.get?_push_of_some _ e) (Nat.le_refl _) (DX.itemsO_ok (Heap.get?_push_size _ rfl)), rfl, q _ hf⟩
/-- list(d.items()) -/
def rMList (P : Program) (w : World) : List V → Hp → VK → Prop := fun xs H Q => ∃ p a l, xs = [.ref p] ∧ H p = some (DX.itemsO p a) ∧ H a = some (memoD P w a l) ∧ KeysAt H l ∧
  ∀ (H2 : Hp) (L : Addr) (bs : List Addr), (∀ b o, H b = some o → H2 b = some o) → H L = none → (∀ b ∈ bs, H b = none) → bs.length = l.length → H2 L = some (.lst (bs.map V.ref)) →
    (∀ (j : Nat) (b : Addr) (e : Ent), bs[j]? = some b → l[j]? = some e → H2 b = some (.tup [.ref e.2.1, .int e.2.2])) → Q (.ref L) H2
theorem call_mlist (hc : X.calm = true) : CallR X (.type "list") (rMList X.prog X.w) := by
  intro pins s σ H xs us Q I r h
  obtain ⟨p, a, l, rfl, hp, ha, hk, q⟩ := h
  obtain rfl := Vals.ref1 r
  have view : s.heap.IsItemsView p a := (show ObjOk X.prog X.w H s.heap p (DX.itemsO p a) from I.hok p _ hp).1
  obtain ⟨xs', hd, hl, rel, o, es, ep, ho, hx, hdat, hes, his, hn⟩ := memo_at I.hok ha hk
  have l1 := Paired.length rel
  have l2 : es.size = xs'.length := size_of_entries hes
  have hh : X.A.handled = none := I.ok.hd hc
  refine PySem.W.dil_call (es := es) (ep := ep) hh view ⟨o, ho, hx, hdat⟩ (by rw [sizeLine_eq]; omega) fun h' tk acc c as hkp hS hla hG hacc => ?_
  have nd : as.Nodup := List.Pairwise.imp (fun h => Nat.ne_of_lt h) hG.rise
  have pr : ∀ (j : Nat) (b : Addr), as[j]? = some b → ∃ (e : Ent) (t : Tok), l[j]? = some e ∧ h'.get? b = some { cls := .type "tuple", data := .seq #[Value.ref e.2.1, Value.int e.2.2 t] } := by
    intro j b hj
    obtain ⟨hje, hg⟩ := hG.pairs j b hj
    have he : es[j]? = some es[j] := Array.getElem?_eq_getElem hje
    rw [entry_at hes j] at he
    cases hxj : xs'[j]? with
    | none =>
      rw [hxj] at he
      cases he
    | some x =>
      rw [hxj] at he
      have een : entryOfKey (nestedKind X.prog X.w) x = es[j] := Option.some.inj he
      obtain ⟨e0, he0, r1, r2, t, r3⟩ := DX.pget rel hxj
      refine ⟨e0, t, he0, ?_⟩
      rw [hg, ← een]
      show some _ = some _
      rw [← r2, ← r3]
      rfl
  have hn0 : H s.heap.objs.size = none := I.hok.fresh (Nat.le_refl _)
  have I1 : Inv X pins σ H { s with heap := h', toks := tk } := I.kept (t' := tk) hkp
  have hlen : (as.map V.ref).length ≤ sizeLine := by
    rw [List.length_map, sizeLine_eq]
    omega
  have rv : Vals (as.map V.ref) acc.toList := by
    rw [hacc]
    exact vals_maps (fun z : Addr => V.ref z) (fun z => Value.ref z) as fun _ _ => rfl
  have I2 : Inv X pins σ (upd H s.heap.objs.size (.lst (as.map V.ref))) { s with heap := h', toks := tk } :=
    I1.take (h' := h') (t' := tk) (fun b ob _ e => e) (I.fpOk (Nat.le_refl _) hn0) ⟨hlen, acc.toList, c, rv, by simpa using hS⟩
  obtain ⟨H2, I3, g, qt⟩ := DX.takeT (P := fun b vs => ∃ (j : Nat) (e : Ent), as[j]? = some b ∧ l[j]? = some e ∧ vs = [.ref e.2.1, .int e.2.2]) I as _ I2 nd fun b hb => by
    obtain ⟨j, hj⟩ := List.mem_iff_getElem?.mp hb
    obtain ⟨e, t, he, hg⟩ := pr j b hj
    have hbl : s.heap.objs.size < b := hG.above b hb
    refine ⟨Nat.le_of_lt hbl, ?_, [.ref e.2.1, .int e.2.2], ⟨j, e, hj, he, rfl⟩, fun H3 => ⟨(by rw [sizeLine_eq]; show 2 ≤ 16777216; omega), [Value.ref e.2.1, Value.int e.2.2 t], .cons rfl (.cons ⟨t, rfl⟩ .nil), ⟨_, hg, rfl, 0, rfl⟩⟩⟩
    rw [upd_ne (Nat.ne_of_gt hbl)]
    exact I.hok.fresh (Nat.le_of_lt hbl)
  have gr : ∀ b o, H b = some o → H2 b = some o := fun b o e => g b o (by rw [upd_ne (ne_of_none e hn0)]; exact e)
  refine ⟨.ref s.heap.objs.size, H2, I3, rfl, q H2 s.heap.objs.size as gr hn0 (fun b hb => I.hok.fresh (Nat.le_of_lt (hG.above b hb))) (by omega) (g _ _ upd_same) fun j b e hj he => ?_⟩
  obtain ⟨vs, ⟨j', e', j1, j2, ev⟩, hH⟩ := qt b (List.mem_of_getElem? hj)
  have eij : j = j' := (List.getElem?_inj (List.getElem?_eq_some_iff.mp hj).1 nd).mp (hj.trans j1.symm)
  subst eij
  rw [he] at j2
  cases j2
  rw [ev] at hH
  exact hH
end
end Wk
set_option Elab.async false
set_option linter.all false
set_option maxRecDepth 100000
set_option maxHeartbeats 4000000
/-! Things of a class of one's own: len, in, == and != by identity. -/
namespace Wk
open PySem PySem.Spec PyProof.Rows L2
open PySem.W (InstAt Looks findIn isFn mroIn notFirst)
section
variable {prog : Program} {w : World} {A : Around} {E : Value → Shared → Prop} {s : Shared} {K : PySem.W.Frag} {x y C : Addr} {ox oy : Obj} {od odo : Option Obj} {b : Value}
theorem bound_blt {id : String} {name : Str} {T : String} {args : List Value} {Q : Option Value → Shared → Prop} (X : K.In s.heap) (I : InstAt s.heap x ox C od) (S : Slot T name id) (hs : findIn K (.ref C) name = some (some (.builtin id)))
    (h : wpAny (model prog w) A (call (.builtin id) (.ref x :: args)) (fun v => Q (some v)) E s) : wpAny (model prog w) A (callSpecialIfBound? (.ref x) name args) Q E s := by
  unfold callSpecialIfBound? bindSpecialIfBound?
  apply wpAny_holding
  apply wpAny_bind
  apply wpAny_bind
  apply wpAny_bind
  apply I.type.here
  apply (PySem.W.looks_findIn X hs).here
  apply wpAny_bind
  refine wpAny_askSetting (wpAny_ite ?_)
  have run : wpAny (model prog w) A (call (.builtin id) ([.ref x] ++ args) >>= fun v => pure (some v)) Q E s := wpAny_bind (wpAny_mono h (fun _ _ q => wpAny_pure q) fun _ _ e => e)
  split
  · exact wpAny_bind (wpAny_of_eq (S.bind _) (wpAny_pure run))
  · exact wpAny_tryCatch (wpAny_bind (wpAny_of_eq (S.bind _) (wpAny_pure run)))
theorem inst_tup (I : InstAt s.heap x ox C od) : ox.cls ≠ .type "tuple" := by
  rw [I.cls]
  intro z
  cases z
/-- object.__eq__ -/
theorem eq_obj0 {Q : Value → Shared → Prop} (X : K.In s.heap) (I : InstAt s.heap x ox C od) (hm : mroIn K C (.type "object") = some true) (hq : Q (.bool true) s) :
    wpAny (model prog w) A (call (.builtin "object.__eq__") [.ref x, .ref x]) Q E s := by
  refine wpAny_call (codeAny_call_builtin F.cmp_object.eq.plain F.cmpEntry_eq (PySem.W.check_slot F.cmpKind_eq F.cmpSplit_eq (I.type.andThen (PySem.W.looks_mroIn X hm)) (F.cmpArgs_eq _ _) ?_))
  unfold Builtin.«object.__eq__»
  repeat (first | with_reducible refine wpAny_isSame_ref_self ?_ | wp_step)
  exact hq
theorem eq_obj1 {Q : Value → Shared → Prop} (X : K.In s.heap) (I : InstAt s.heap x ox C od) (J : s.heap.get? y = some oy) (hne : x ≠ y) (hm : mroIn K C (.type "object") = some true) (hq : Q .notImplemented s) :
    wpAny (model prog w) A (call (.builtin "object.__eq__") [.ref x, .ref y]) Q E s := by
  refine wpAny_call (codeAny_call_builtin F.cmp_object.eq.plain F.cmpEntry_eq (PySem.W.check_slot F.cmpKind_eq F.cmpSplit_eq (I.type.andThen (PySem.W.looks_mroIn X hm)) (F.cmpArgs_eq _ _) ?_))
  unfold Builtin.«object.__eq__»
  repeat (first | with_reducible refine wpAny_isSame_ref_other hne I.at_ J (inst_tup I) ?_ | wp_step)
  exact hq
/-- object.__ne__ of two things -/
theorem ne_obj {Q : Value → Shared → Prop} (hu : A.in1.units < cLine) (X : K.In s.heap) (I : InstAt s.heap x ox C od) (J : s.heap.get? y = some oy) (hm : mroIn K C (.type "object") = some true) (he : findIn K (.ref C) "__eq__" = some (some (.builtin "object.__eq__")))
    (hne : x ≠ y) (hq : Q .notImplemented s) : wpAny (model prog w) A (call (.builtin "object.__ne__") [.ref x, .ref y]) Q E s := by
  refine wpAny_call (codeAny_call_builtin F.cmp_object.ne.plain F.cmpEntry_ne (PySem.W.check_slot F.cmpKind_ne F.cmpSplit_ne (I.type.andThen (PySem.W.looks_mroIn X hm)) (F.cmpArgs_ne _ _) ?_))
  unfold Builtin.«object.__ne__»
  have one : wpAny (model prog w) A.in1 (callSpecialIfBound? (.ref x) "__eq__" [.ref y]) (fun r s' => r = some .notImplemented ∧ s' = s) (fun z s' => E z s') s :=
    bound_blt X I F.cmp_object.eq he (eq_obj1 X I J hne hm ⟨rfl, rfl⟩)
  generalize callSpecialIfBound? = CS at one ⊢
  repeat (first | with_reducible refine wpAny_cRoomFor hu ?_ | with_reducible refine wpAny_mono one (fun r s1 got => ?_) (fun _ _ e => e) | wp_step)
  obtain ⟨rfl, rfl⟩ := got
  repeat wp_step
  exact hq
theorem ne_two (hu : A.units + 1 < cLine) (X : K.In s.heap) (I : InstAt s.heap x ox C od) (J : InstAt s.heap y oy C odo) (hm : mroIn K C (.type "object") = some true) (he : findIn K (.ref C) "__eq__" = some (some (.builtin "object.__eq__")))
    (hn : findIn K (.ref C) "__ne__" = some (some (.builtin "object.__ne__"))) (hne : x ≠ y) {Q : Value → Shared → Prop} (h : Q (.bool true) s) : wpAny (model prog w) A (richCompare .NotEq (.ref x) (.ref y)) Q E s := by
  have one : wpAny (model prog w) A (tryCompare (.ref x) "__ne__" (.ref y)) (fun r s' => r = none ∧ s' = s) E s := by
    unfold tryCompare
    exact wpAny_bind (bound_blt X I F.cmp_object.ne hn (ne_obj hu X I J.at_ hm he hne (wpAny_pure ⟨rfl, rfl⟩)))
  have two : wpAny (model prog w) A (tryCompare (.ref y) "__ne__" (.ref x)) (fun r s' => r = none ∧ s' = s) E s := by
    unfold tryCompare
    exact wpAny_bind (bound_blt X J F.cmp_object.ne hn (ne_obj hu X J I.at_ hm he (Ne.symm hne) (wpAny_pure ⟨rfl, rfl⟩)))
  unfold richCompare
  simp only [oneThing_ref, cmpInfo_NotEq]
  refine wpAny_holding (wpAny_bind (wpAny_cRoomFor (by omega) ?_))
  refine wpAny_bind (I.type.here ?_)
  refine wpAny_bind (J.type.here ?_)
  rw [if_neg (by simp)]
  refine wpAny_bind (wpAny_pure ?_)
  simp only [Bool.false_eq_true, if_false, Bool.not_false, if_true]
  refine wpAny_bind (m := tryCompare (.ref x) _ (.ref y)) (wpAny_mono one (fun r s1 z => ?_) fun _ _ e => e)
  obtain ⟨z1, z2⟩ := z
  subst z1 z2
  refine wpAny_bind (m := tryCompare (.ref y) _ (.ref x)) (wpAny_mono two (fun r s2 z => ?_) fun _ _ e => e)
  obtain ⟨z1, z2⟩ := z
  subst z1 z2
  exact wpAny_bind (wpAny_rule (wpAny_bind (wpAny_isSame_ref_other hne I.at_ J.at_ (inst_tup I) (wpAny_pure h))))
theorem eq_one (hu : A.units + 1 < cLine) (X : K.In s.heap) (I : InstAt s.heap x ox C od) (hm : mroIn K C (.type "object") = some true) (he : findIn K (.ref C) "__eq__" = some (some (.builtin "object.__eq__")))
    {Q : Value → Shared → Prop} (h : Q (.bool true) s) : wpAny (model prog w) A (richCompare .Eq (.ref x) (.ref x)) Q E s := by
  have one : wpAny (model prog w) A (tryCompare (.ref x) "__eq__" (.ref x)) (fun r s' => r = some (.bool true) ∧ s' = s) E s := by
    unfold tryCompare
    exact wpAny_bind (bound_blt X I F.cmp_object.eq he (eq_obj0 X I hm (wpAny_pure ⟨rfl, rfl⟩)))
  unfold richCompare
  simp only [oneThing_ref, cmpInfo_Eq]
  refine wpAny_holding (wpAny_bind (wpAny_cRoomFor (by omega) ?_))
  refine wpAny_bind (I.type.here ?_)
  refine wpAny_bind (I.type.here ?_)
  rw [if_neg (by simp)]
  refine wpAny_bind (wpAny_pure ?_)
  simp only [Bool.false_eq_true, if_false, Bool.not_false, if_true]
  refine wpAny_bind (m := tryCompare (.ref x) _ (.ref x)) (wpAny_mono one (fun r s1 z => ?_) fun _ _ e => e)
  obtain ⟨z1, z2⟩ := z
  subst z1 z2
  exact wpAny_pure h
end
end Wk
set_option Elab.async false
set_option linter.all false
set_option maxRecDepth 100000
set_option maxHeartbeats 4000000
namespace Wk
open PySem PySem.Spec PyProof.Rows L2
open PySem.W (InstAt Looks findIn isFn mroIn notFirst)
/-- a class whose == and != are those of object -/
structure IdEqual (K : PySem.W.Frag) (C : Addr) : Prop where
  top : mroIn K C (.type "object") = some true
  ne : findIn K (.ref C) "__ne__" = some (some (.builtin "object.__ne__"))
  eq : findIn K (.ref C) "__eq__" = some (some (.builtin "object.__eq__"))
section
variable {X : Cx} {CX : CXT} {n : Nat} {C f : Addr} {fd : FuncData} {ps : List Str} {sp : Sp} {E : XK}
theorem inst_of {pins : List (Addr × Obj)} {σ : L2.St} {H : Hp} {s : Shared} {a dx : Addr} {fs : List (Str × V)} (I : Inv X pins σ H s) (ha : H a = some (.ins C dx fs)) : ∃ ox od, InstAt s.heap a ox C od := by
  obtain ⟨mA, J, _⟩ := ins_get I.hok ha
  obtain ⟨od, J, _⟩ := J.look
  exact ⟨_, od, J⟩
/-- x != y, two things -/
def rIdNe (C : Addr) : R2 := fun x y H Q => ∃ a b dx dy fs gs, x = .ref a ∧ y = .ref b ∧ a ≠ b ∧ H a = some (.ins C dx fs) ∧ H b = some (.ins C dy gs) ∧ Q (.bl true) H
theorem op_idNe (hu : X.A.units + 1 < cLine) (O : IdEqual X.K C) : OpR X (compareOp .NotEq) (rIdNe C) := by
  rintro pins s σ H x y v u Q I rx ry ⟨a, b, dx, dy, fs, gs, rfl, rfl, hne, ha, hb, q⟩
  cases rx
  cases ry
  obtain ⟨ox, od, J1⟩ := inst_of I ha
  obtain ⟨oy, od2, J2⟩ := inst_of I hb
  exact ne_two hu I.kIn J1 J2 O.top O.eq O.ne hne ⟨.bl true, H, I, rfl, q⟩
/-- x == x -/
def rIdEq (C : Addr) : R2 := fun x y H Q => ∃ a dx fs, x = .ref a ∧ y = .ref a ∧ H a = some (.ins C dx fs) ∧ Q (.bl true) H
theorem op_idEq (hu : X.A.units + 1 < cLine) (O : IdEqual X.K C) : OpR X (compareOp .Eq) (rIdEq C) := by
  rintro pins s σ H x y v u Q I rx ry ⟨a, dx, fs, rfl, rfl, ha, q⟩
  cases rx
  cases ry
  obtain ⟨ox, od, J1⟩ := inst_of I ha
  exact eq_one hu I.kIn J1 O.top O.eq ⟨.bl true, H, I, rfl, q⟩
theorem run_own {A : Around} {pins : List (Addr × Obj)} {σ : L2.St} {H : Hp} {s : Shared} {Q : VK} {us : List Value} {ys : List V} (F : FnOk X.prog X.w X.K X.mg X.base CX n f fd ps sp) (hb : Binds X.K fd ps []) (hx : Passes CX X E)
    (room : Room n A) (fr : A.frames = X.A.frames) (I : Inv X pins σ H s) (r : Vals ys us) (h : sp ys H Q E) : wpAny (model X.prog X.w) A (call (.ref f) us) (EP X pins σ Q) X.xe s := by
  have lenY : ys.length = ps.length := F.len _ _ _ _ h
  have lenU : us.length = ps.length := by rw [← r.length, lenY]
  have b0 := hb s us I.kIn (by simpa using lenU)
  rw [List.append_nil] at b0
  have e0 : Env0 X.prog X.w X.K X.mg X.base A X.stack s H := { I.env0 with frames := fr.trans I.env0.frames }
  apply wpAny_call
  refine codeAny_mono (F.run A X.stack s H ⟨us, []⟩ us ys Q E room e0 b0 r h) ?_
  intro res s2 got
  rcases res with e | (_ | _ | _ | u)
  · exact hx pins σ H s e s2 I got
  · exact got.elim
  · exact got.elim
  · exact got.elim
  · exact I.after got
/-- len(x), by the class's own __len__ -/
def rOwnLen (C : Addr) (sp : Sp) (E : XK) : List V → Hp → VK → Prop := fun xs H Q => ∃ a dx fs, xs = [.ref a] ∧ H a = some (.ins C dx fs) ∧ sp [.ref a] H (fun v H' => ∃ m : Int, v = .int m ∧ 0 ≤ m ∧ m < 2 ^ 63 ∧ Q (.int m) H') E
theorem call_ownLen (F : FnOk X.prog X.w X.K X.mg X.base CX n f fd ps sp) (hb : Binds X.K fd ps []) (hx : Passes CX X E) (hs : findIn X.K (.ref C) "__len__" = some (some (.ref f))) (hf : isFn X.K (.ref f) = true) (room : Room (n + 1) X.A) :
    CallR X (.builtin "len") (rOwnLen C sp E) := by
  intro pins s σ H xs us Q I r h
  obtain ⟨a, dx, fs, rfl, ha, p⟩ := h
  obtain ⟨u, rfl, rx⟩ := vals1 r
  cases rx
  obtain ⟨ox, od, J⟩ := inst_of I ha
  obtain ⟨m, fr⟩ := I.fr
  refine PySem.W.len_K fr I.ok.mod.kin J hs hf ?_
  refine wpAny_mono (run_own F hb hx room.in1 rfl I (.cons (show L2.RelV (.ref a) (.ref a) from rfl) .nil) p) ?_ fun _ _ e => e
  rintro z s2 ⟨v, H2, I2, rz, m, rfl, m0, m1, q⟩
  obtain ⟨t, rfl⟩ := rz
  exact ⟨⟨m0, m1⟩, .int m, H2, I2.tok _, ⟨_, rfl⟩, q⟩
/-- y in x, by the class's own __contains__ -/
def rOwnIn (C : Addr) (sp : Sp) (E : XK) : R2 := fun y x H Q => ∃ a dx fs, x = .ref a ∧ H a = some (.ins C dx fs) ∧ sp [.ref a, y] H (fun v H' => ∃ c : Bool, v = .bl c ∧ Q (.bl c) H') E
theorem op_ownIn (F : FnOk X.prog X.w X.K X.mg X.base CX n f fd ps sp) (hb : Binds X.K fd ps []) (hx : Passes CX X E) (hs : findIn X.K (.ref C) "__contains__" = some (some (.ref f))) (hf : isFn X.K (.ref f) = true) (room : Room n X.A) :
    OpR X (compareOp .In) (rOwnIn C sp E) := by
  rintro pins s σ H y x v u Q I ry rx ⟨a, dx, fs, rfl, ha, p⟩
  cases rx
  obtain ⟨ox, od, J⟩ := inst_of I ha
  obtain ⟨m, fr⟩ := I.fr
  refine PySem.W.in_K fr I.ok.mod.kin J hs hf ?_
  refine wpAny_mono (run_own F hb hx room rfl I (ys := [.ref a, y]) (.cons (show L2.RelV (.ref a) (.ref a) from rfl) (.cons ry .nil)) p) ?_ fun _ _ e => e
  rintro z s2 ⟨v, H2, I2, rz, c, rfl, q⟩
  obtain rfl := rz
  exact wpAny_truthy_bool ⟨.bl c, H2, I2, rfl, q⟩
end
/-! ## == of a key's tuple and of None -/
section
variable {X : Cx}
/-- a tuple that is a key, held against a key or None -/
def rKeyEq : R2 := fun x y H Q => ∃ k a, x = .ref a ∧ KeyAt H k a ∧ ((y = .non ∧ Q (.bl false) H) ∨ ∃ k2 b, y = .ref b ∧ KeyAt H k2 b ∧ Q (.bl (decide (k = k2))) H)
theorem is_tup {h : Heap} {k : NestedKey} {a : Addr} {P : Program} {w : World} (x : (nestedKind P w).is h k a) : ∃ its, h.IsTuple a its := by
  obtain ⟨x, _⟩ := x
  cases x with
  | tup h1 h2 h3 _ => exact ⟨_, _, h1, h2, _, h3⟩
end
end Wk
set_option Elab.async false
set_option linter.all false
set_option maxRecDepth 100000
set_option maxHeartbeats 4000000
namespace Wk
open PySem L2
def top (i : Nat) : Stmt := PySem.Challenge.pw_waypairs_k24_memos.main.body.getD i (.Pass ⟨0, 0, 0, 0⟩)
abbrev sPen : Stmt := top 4
abbrev sTake : Stmt := top 5
/-! ## The pen: a dict of six names -/
def penD (c : Addr) (a r d m t : Int) : List (Key × V) :=
  [(Sum.inr "cells", .ref c), (Sum.inr "at", .int a), (Sum.inr "rest", .int r), (Sum.inr "digits", .int d), (Sum.inr "mix", .int m), (Sum.inr "turn", .int t)]
theorem kne {x y : Str} (h : ¬ x = y) : ¬ (Sum.inr x : Key) = Sum.inr y := fun z => h (Sum.inr.inj z)
section
variable {c : Addr} {a r d m t z : Int}
theorem pd_cells : valV (penD c a r d m t) (Sum.inr "cells") = some (.ref c) := valV_pos rfl
theorem pd_at : valV (penD c a r d m t) (Sum.inr "at") = some (.int a) := (valV_neg (kne (by decide +kernel))).trans (valV_pos rfl)
theorem pd_rest : valV (penD c a r d m t) (Sum.inr "rest") = some (.int r) :=
  (valV_neg (kne (by decide +kernel))).trans ((valV_neg (kne (by decide +kernel))).trans (valV_pos rfl))
theorem pd_digits : valV (penD c a r d m t) (Sum.inr "digits") = some (.int d) :=
  (valV_neg (kne (by decide +kernel))).trans ((valV_neg (kne (by decide +kernel))).trans ((valV_neg (kne (by decide +kernel))).trans (valV_pos rfl)))
theorem pd_mix : valV (penD c a r d m t) (Sum.inr "mix") = some (.int m) :=
  (valV_neg (kne (by decide +kernel))).trans ((valV_neg (kne (by decide +kernel))).trans ((valV_neg (kne (by decide +kernel))).trans ((valV_neg (kne (by decide +kernel))).trans (valV_pos rfl))))
theorem pd_turn : valV (penD c a r d m t) (Sum.inr "turn") = some (.int t) :=
  (valV_neg (kne (by decide +kernel))).trans ((valV_neg (kne (by decide +kernel))).trans ((valV_neg (kne (by decide +kernel))).trans ((valV_neg (kne (by decide +kernel))).trans ((valV_neg (kne (by decide +kernel))).trans (valV_pos rfl)))))
theorem put_of {kvs : List (Key × V)} {k : Key} {u w : V} (h : valV kvs k = some u) : putK kvs k w = kvs.map fun kv => if kv.1 = k then (kv.1, w) else kv := by
  unfold putK
  rw [if_pos (by rw [valV_any, h]; rfl)]
theorem n1 : ¬ ("cells" : Str) = "at" := by decide +kernel
theorem n2 : ¬ ("cells" : Str) = "rest" := by decide +kernel
theorem n3 : ¬ ("cells" : Str) = "digits" := by decide +kernel
theorem n4 : ¬ ("cells" : Str) = "mix" := by decide +kernel
theorem n5 : ¬ ("cells" : Str) = "turn" := by decide +kernel
theorem n6 : ¬ ("at" : Str) = "rest" := by decide +kernel
theorem n7 : ¬ ("at" : Str) = "digits" := by decide +kernel
theorem n8 : ¬ ("at" : Str) = "mix" := by decide +kernel
theorem n9 : ¬ ("at" : Str) = "turn" := by decide +kernel
theorem n10 : ¬ ("rest" : Str) = "digits" := by decide +kernel
theorem n11 : ¬ ("rest" : Str) = "mix" := by decide +kernel
theorem n12 : ¬ ("rest" : Str) = "turn" := by decide +kernel
theorem n13 : ¬ ("digits" : Str) = "mix" := by decide +kernel
theorem n14 : ¬ ("digits" : Str) = "turn" := by decide +kernel
theorem n15 : ¬ ("mix" : Str) = "turn" := by decide +kernel
theorem pp_at : putK (penD c a r d m t) (Sum.inr "at") (.int z) = penD c z r d m t := by
  rw [put_of pd_at]
  simp [penD, n1, n2, n3, n4, n5, n6, n7, n8, n9, n10, n11, n12, n13, n14, n15, Ne.symm n1, Ne.symm n6, Ne.symm n7, Ne.symm n8, Ne.symm n9]
theorem pp_rest : putK (penD c a r d m t) (Sum.inr "rest") (.int z) = penD c a z d m t := by
  rw [put_of pd_rest]
  simp [penD, n1, n2, n3, n4, n5, n6, n7, n8, n9, n10, n11, n12, n13, n14, n15, Ne.symm n10, Ne.symm n11, Ne.symm n12]
theorem pp_digits : putK (penD c a r d m t) (Sum.inr "digits") (.int z) = penD c a r z m t := by
  rw [put_of pd_digits]
  simp [penD, n1, n2, n3, n4, n5, n6, n7, n8, n9, n10, n11, n12, n13, n14, n15, Ne.symm n13, Ne.symm n14]
theorem pp_mix : putK (penD c a r d m t) (Sum.inr "mix") (.int z) = penD c a r d z t := by
  rw [put_of pd_mix]
  simp [penD, n1, n2, n3, n4, n5, n6, n7, n8, n9, n10, n11, n12, n13, n14, n15, Ne.symm n15]
theorem pp_turn : putK (penD c a r d m t) (Sum.inr "turn") (.int z) = penD c a r d m z := by
  rw [put_of pd_turn]
  simp [penD, n1, n2, n3, n4, n5, n6, n7, n8, n9, n10, n11, n12, n13, n14, n15]
end
/-- the pen at p: its cells at c hold ns; at is a place, mix is small -/
structure PenAt (H : Hp) (p c : Addr) (ns : List Int) (a r d m t : Int) : Prop where
  pd : H p = some (.dK (penD c a r d m t))
  cl : H c = some (.lst (ns.map V.int))
  a0 : 0 ≤ a
  m0 : 0 ≤ m
  m1 : m < 2147483647
theorem PenAt.ne {H : Hp} {p c : Addr} {ns : List Int} {a r d m t : Int} (h : PenAt H p c ns a r d m t) : c ≠ p := ne_of h.cl h.pd (by intro z; cases z)
theorem PenAt.set {H : Hp} {p c : Addr} {ns : List Int} {a r d m t a' r' d' m' t' : Int} (h : PenAt H p c ns a r d m t) (a0 : 0 ≤ a') (m0 : 0 ≤ m') (m1 : m' < 2147483647) :
    PenAt (upd H p (.dK (penD c a' r' d' m' t'))) p c ns a' r' d' m' t' := ⟨upd_same, by rw [upd_ne h.ne]; exact h.cl, a0, m0, m1⟩
/-- all but what stands at p is as before -/
def But (p : Addr) (H H' : Hp) : Prop := ∀ b o, b ≠ p → H b = some o → H' b = some o
theorem But.refl (p : Addr) (H : Hp) : But p H H := fun _ _ _ e => e
theorem But.trans {p : Addr} {H H1 H2 : Hp} (a : But p H H1) (b : But p H1 H2) : But p H H2 := fun c o n e => b c o n (a c o n e)
theorem But.of {p : Addr} {H H1 : Hp} (a : Same H H1) : But p H H1 := fun c o _ e => a c o e
theorem same_new {H : Hp} {D : Addr} {o : HO} (h : H D = none) : Same H (upd H D o) := fun b u e => by
  rw [upd_ne (ne_of_none e h)]
  exact e
theorem Same.refl (H : Hp) : Same H H := fun _ _ e => e
theorem Same.trans {H H1 H2 : Hp} (a : Same H H1) (b : Same H1 H2) : Same H H2 := fun c o e => b c o (a c o e)
/-- the pen at p, its cells at c -/
def Pc (p c : Addr) (H : Hp) : Prop := ∃ (ns : List Int) (a r d m t : Int), PenAt H p c ns a r d m t
def Pn (p : Addr) (H : Hp) : Prop := ∃ c, Pc p c H
structure Gp (p : Addr) (H H' : Hp) : Prop where
  but : But p H H'
  pc : ∃ c, Pc p c H ∧ Pc p c H'
theorem Gp.pn {p : Addr} {H H' : Hp} (g : Gp p H H') : Pn p H' := by
  obtain ⟨c, _, h⟩ := g.pc
  exact ⟨c, h⟩
theorem Pc.same {p c : Addr} {H H' : Hp} (h : Pc p c H) (g : Same H H') : Pc p c H' := by
  obtain ⟨ns, a, r, d, m, t, S⟩ := h
  exact ⟨ns, a, r, d, m, t, g _ _ S.pd, g _ _ S.cl, S.a0, S.m0, S.m1⟩
theorem Pc.inj {p c c' : Addr} {H : Hp} (h : Pc p c H) (h' : Pc p c' H) : c = c' := by
  obtain ⟨ns, a, r, d, m, t, S⟩ := h
  obtain ⟨ns', a', r', d', m', t', S'⟩ := h'
  have e := Option.some.inj (S.pd.symm.trans S'.pd)
  have e2 : penD c a r d m t = penD c' a' r' d' m' t' := by injection e
  have e3 := (List.cons.inj e2).1
  injection e3 with _ e4
  injection e4
theorem Pn.same {p : Addr} {H H' : Hp} (h : Pn p H) (g : Same H H') : Pn p H' := by
  obtain ⟨c, h⟩ := h
  exact ⟨c, h.same g⟩
theorem Gp.refl {p : Addr} {H : Hp} (h : Pn p H) : Gp p H H := by
  obtain ⟨c, h⟩ := h
  exact ⟨But.refl p H, c, h, h⟩
theorem Gp.trans {p : Addr} {H H1 H2 : Hp} (a : Gp p H H1) (b : Gp p H1 H2) : Gp p H H2 := by
  obtain ⟨c, x, y⟩ := a.pc
  obtain ⟨c', x', y'⟩ := b.pc
  obtain rfl := y.inj x'
  exact ⟨a.but.trans b.but, c, x, y'⟩
theorem Gp.same {p : Addr} {H H1 H2 : Hp} (a : Gp p H H1) (b : Same H1 H2) : Gp p H H2 := by
  obtain ⟨c, x, y⟩ := a.pc
  exact ⟨a.but.trans (But.of b), c, x, y.same b⟩
/-- a thing that is new since H0 is filled anew -/
theorem Gp.over {p D : Addr} {H0 H : Hp} {o : HO} (g : Gp p H0 H) (e : H0 D = none) : Gp p H0 (upd H D o) := by
  obtain ⟨c, x, y⟩ := g.pc
  refine ⟨fun b u nb q => ?_, c, x, ?_⟩
  · rw [upd_ne (ne_of_none q e)]
    exact g.but b u nb q
  · obtain ⟨ns, a, r, d, m, t, S⟩ := x
    obtain ⟨ns', a', r', d', m', t', S'⟩ := y
    exact ⟨ns', a', r', d', m', t', by rw [upd_ne (ne_of_none S.pd e)]; exact S'.pd, by rw [upd_ne (ne_of_none S.cl e)]; exact S'.cl, S'.a0, S'.m0, S'.m1⟩
theorem Gp.new {p q : Addr} {H H1 : Hp} {o : HO} (a : Gp p H H1) (b : H1 q = none) : Gp p H (upd H1 q o) := a.same (same_new b)
/-- what is no pen stays -/
theorem Gp.at {p b : Addr} {H H' : Hp} {o : HO} (g : Gp p H H') (h : Pn p H) (e : H b = some o) (n : ∀ l, o ≠ .dK l) : H' b = some o := by
  obtain ⟨c, ns, a, r, d, m, t, S⟩ := h
  exact g.but b o (fun z => by rw [z, S.pd] at e; exact n _ (Option.some.inj e).symm) e
theorem Gp.key {p a : Addr} {H H' : Hp} {k : NestedKey} (g : Gp p H H') (h : Pn p H) (x : KeyAt H k a) : KeyAt H' k a := x.keeps fun b xs e => g.at h e (by intro l z; cases z)
theorem Gp.seq {K : PySem.W.Frag} {p q : Addr} {xs : List V} {H H' : Hp} (g : Gp p H H') (h : Pn p H) (e : SqL K H q xs) : SqL K H' q xs := by
  rcases e with (e | ⟨o, e⟩) | e
  · exact .inl (.inl (g.at h e (by intro l z; cases z)))
  · exact .inl (.inr ⟨o, g.at h e (by intro l z; cases z)⟩)
  · exact .inr e
/-- take(pen, bound): a number below the bound; the pen alone changes -/
def spTake : Sp := fun vs H Q _ => ∃ (p : Addr) (b : Int), vs = [.ref p, .int b] ∧ Pn p H ∧ 0 < b ∧ b < 2 ^ 60 ∧ ∀ (v : Int) (H' : Hp), 0 ≤ v → v < b → Gp p H H' → Q (.int v) H'
end Wk
set_option Elab.async false
set_option linter.all false
set_option maxRecDepth 100000
set_option maxHeartbeats 4000000
namespace Wk
open PySem L2
theorem upd_id {H : Hp} {p : Addr} {o : HO} (h : H p = some o) : upd H p o = H := by
  funext b
  by_cases e : b = p
  · rw [e, upd_same, h]
  · rw [upd_ne e]
section
variable {H : Hp} {p c : Addr} {a r d m t z : Int}
theorem gq_cells : DGet (upd H p (.dK (penD c a r d m t))) p (.str "cells") (some (.ref c)) := by
  have q := DGet.k (H := upd H p (.dK (penD c a r d m t))) (a := p) (k := Sum.inr "cells") upd_same
  rw [pd_cells] at q
  exact q
theorem gq_at : DGet (upd H p (.dK (penD c a r d m t))) p (.str "at") (some (.int a)) := by
  have q := DGet.k (H := upd H p (.dK (penD c a r d m t))) (a := p) (k := Sum.inr "at") upd_same
  rw [pd_at] at q
  exact q
theorem gq_rest : DGet (upd H p (.dK (penD c a r d m t))) p (.str "rest") (some (.int r)) := by
  have q := DGet.k (H := upd H p (.dK (penD c a r d m t))) (a := p) (k := Sum.inr "rest") upd_same
  rw [pd_rest] at q
  exact q
theorem gq_digits : DGet (upd H p (.dK (penD c a r d m t))) p (.str "digits") (some (.int d)) := by
  have q := DGet.k (H := upd H p (.dK (penD c a r d m t))) (a := p) (k := Sum.inr "digits") upd_same
  rw [pd_digits] at q
  exact q
theorem gq_mix : DGet (upd H p (.dK (penD c a r d m t))) p (.str "mix") (some (.int m)) := by
  have q := DGet.k (H := upd H p (.dK (penD c a r d m t))) (a := p) (k := Sum.inr "mix") upd_same
  rw [pd_mix] at q
  exact q
theorem gq_turn : DGet (upd H p (.dK (penD c a r d m t))) p (.str "turn") (some (.int t)) := by
  have q := DGet.k (H := upd H p (.dK (penD c a r d m t))) (a := p) (k := Sum.inr "turn") upd_same
  rw [pd_turn] at q
  exact q
theorem pq_of {kvs kvs' : List (Key × V)} {k : Key} {v : V} (e : putK kvs k v = kvs') (hl : kvs.length < sizeLine) : DPut (upd H p (.dK kvs)) p (kV k) v (upd H p (.dK kvs')) := by
  have q := DPut.k (H := upd H p (.dK kvs)) (a := p) (k := k) (v := v) upd_same hl
  rw [upd_upd, e] at q
  exact q
theorem pq_at : DPut (upd H p (.dK (penD c a r d m t))) p (.str "at") (.int z) (upd H p (.dK (penD c z r d m t))) := pq_of (k := Sum.inr "at") pp_at (by show 6 < sizeLine; decide)
theorem pq_rest : DPut (upd H p (.dK (penD c a r d m t))) p (.str "rest") (.int z) (upd H p (.dK (penD c a z d m t))) := pq_of (k := Sum.inr "rest") pp_rest (by show 6 < sizeLine; decide)
theorem pq_digits : DPut (upd H p (.dK (penD c a r d m t))) p (.str "digits") (.int z) (upd H p (.dK (penD c a r z m t))) := pq_of (k := Sum.inr "digits") pp_digits (by show 6 < sizeLine; decide)
theorem pq_mix : DPut (upd H p (.dK (penD c a r d m t))) p (.str "mix") (.int z) (upd H p (.dK (penD c a r d z t))) := pq_of (k := Sum.inr "mix") pp_mix (by show 6 < sizeLine; decide)
theorem pq_turn : DPut (upd H p (.dK (penD c a r d m t))) p (.str "turn") (.int z) (upd H p (.dK (penD c a r d m z))) := pq_of (k := Sum.inr "turn") pp_turn (by show 6 < sizeLine; decide)
end
structure Bn (mg : Str → Option Value) : Prop where
  int : mg "int" = none
  len : mg "len" = none
  list : mg "list" = none
  range : mg "range" = none
  tuple : mg "tuple" = none
  repr : mg "repr" = none
  isinstance : mg "isinstance" = none
  bool : mg "bool" = none
structure Known (P : Program) (w : World) (K : PySem.W.Frag) (mg : Str → Option Value) (base : Heap) (CX : CXT) (k : Nat) (x : Str) (ps : List Str) (sp : Sp) (f : Addr) (fd : FuncData) : Prop where
  ok : FnOk P w K mg base CX k f fd ps sp
  mg : mg x = some (.ref f)
  kp : PySem.W.keepIn K (.ref f) = true
  bi : Binds K fd ps []
section
variable {P : Program} {w : World} {K : PySem.W.Frag} {mg : Str → Option Value} {base : Heap}
theorem scT : FnScope ["_law_pen_here", "_law_bound", "_law_cell", "_law_mixed", "_law_digit"] ["_law_pen_here", "_law_bound"] (defScope sTake) :=
  ⟨rfl, rfl, rfl, by decide +kernel, rfl, by decide +kernel, by decide +kernel⟩
theorem mod7 {x b : Int} (hb : 0 < b) : 0 ≤ x % b ∧ x % b < b := ⟨Int.emod_nonneg _ (by omega), Int.emod_lt_of_pos _ hb⟩
theorem wb {b : Int} (h0 : 0 < b) (h1 : b < 2 ^ 60) : CDivW 0 b := wide_div (b := 60) h0 (by omega) (by decide) (by decide)
theorem ok_take {f : Addr} {fd : FuncData} (F : Fun K "_law_take" "_law_take" sTake f fd) (T : Bn mg) : FnOk P w K mg base CX0 1 f fd ["_law_pen_here", "_law_bound"] spTake := by
  refine F.ok scT (fun vs H Q E h => ?_) (fun cdv A outer s H vs Q E hr h => ?_)
  · obtain ⟨p, b, rfl, _⟩ := h
    rfl
  · obtain ⟨p, b, rfl, ⟨c, ns, a, r, d, m, t, S⟩, hb, hb2, k0⟩ := h
    have k : ∀ (v a' r' d' m' t' : Int), 0 ≤ v → v < b → 0 ≤ a' → 0 ≤ m' → m' < 2147483647 → Q (.int v) (upd H p (.dK (penD c a' r' d' m' t'))) := fun v a' r' d' m' t' v0 v1 a0 m0 m1 =>
      k0 v _ v0 v1 ⟨fun b o n e => by rw [upd_ne n]; exact e, c, ⟨ns, a, r, d, m, t, S⟩, ⟨ns, a', r', d', m', t', S.set a0 m0 m1⟩⟩
    have hu := hu_of hr
    -- the two ends: what is left of a number, and the mixing alone
    obtain ⟨tC, hC, qC⟩ : ∃ t, PSs (cxOf CX0 P w K mg base ["_law_pen_here", "_law_bound", "_law_cell", "_law_mixed", "_law_digit"] "_law_take" (defScope sTake) f cdv A outer s H E).nox ((defBody sTake).drop 2) t ∧
        ∀ (v2 v3 v4 : Option V) (a r d m t' : Int), 0 ≤ a → 0 ≤ m → m < 2147483647 → t { nx := fun _ H' => Q .non H', rt := Q } [some (.ref p), some (.int b), v2, v3, v4] (upd H p (.dK (penD c a r d m t'))) := by
      refine ⟨_, pss_cons (ps_if (pt_cmpR op_gt (pe_dget hu (pv 0) pe_str (fun _ _ => rfl)) pe_int (nomark _))
        (pss_cons (ps_dput hu (pv 0) pe_str (pe_op op_sub (pe_dget hu (pv 0) pe_str (fun _ _ => rfl)) pe_int) rfl)
        (pss_cons (ps_set (i := 4) scT.nd rfl (.inl rfl) (pe_op op_mod (pe_callTy call_int1 (by rfl) T.int PyProof.Rows.boot_int (pa_cons (pe_dget hu (pv 0) pe_str (fun _ _ => rfl)) pa_nil)) (pv 1)))
        (pss_cons (ps_dput hu (pv 0) pe_str (pe_op op_fdivW (pe_dget hu (pv 0) pe_str (fun _ _ => rfl)) (pv 1)) rfl)
        (pss_one (ps_ret (pv 4))))))
        pss_nil)
        (pss_cons (ps_dput hu (pv 0) pe_str (pe_op op_mod (pe_callTy call_int1 (by rfl) T.int PyProof.Rows.boot_int (pa_cons (pe_op op_add (pe_op op_add (pe_op op_mul (pe_dget hu (pv 0) pe_str (fun _ _ => rfl)) pe_int) (pe_op op_mul (pe_dget hu (pv 0) pe_str (fun _ _ => rfl)) pe_int)) pe_int) pa_nil)) pe_int) rfl)
        (pss_one (ps_ret (pe_op op_mod (pe_op op_fdiv (pe_op op_mod (pe_callTy call_int1 (by rfl) T.int PyProof.Rows.boot_int (pa_cons (pe_op op_add (pe_op op_mul (pe_dget hu (pv 0) pe_str (fun _ _ => rfl)) (pe_dget hu (pv 0) pe_str (fun _ _ => rfl))) (pe_dget hu (pv 0) pe_str (fun _ _ => rfl))) pa_nil)) pe_int) pe_int) (pv 1))))), ?_⟩
      intro v2 v3 v4 a r d m t' ha hm hm2
      refine ⟨_, rfl, p, _, rfl, gq_digits, _, _, rfl, rfl, _, rfl, ?_⟩
      refine ite2 (fun _ => ?_) (fun _ => ?_)
      · refine ⟨_, rfl, p, _, rfl, gq_digits, _, _, rfl, rfl, _, rfl, p, _, rfl, pq_digits, ?_⟩
        refine ⟨_, rfl, p, _, rfl, gq_rest, .inl ⟨_, rfl, _, rfl, _, _, rfl, rfl, hb, ?_⟩⟩
        refine ⟨_, rfl, p, _, rfl, gq_rest, _, rfl, _, _, rfl, rfl, wide_div (b := 60) hb (by omega) (by decide) (by decide), _, rfl, p, _, rfl, pq_rest, ?_⟩
        refine ⟨_, rfl, ?_⟩
        exact k _ _ _ _ _ _ (mod7 hb).1 (mod7 hb).2 ha hm hm2
      · refine ⟨_, rfl, p, _, rfl, gq_mix, _, _, rfl, rfl, .inr (by decide), _, rfl, p, _, rfl, gq_turn, _, _, rfl, rfl, .inr (by decide), _, _, rfl, rfl, _, _, rfl, rfl, .inl ⟨_, rfl, _, _, rfl, rfl, (by show (0 : Int) < 2147483647; decide), _, rfl, p, _, rfl, pq_mix, ?_⟩⟩
        have q1 := mod7 (x := m * 16807 + t' * 40692 + 7) (b := 2147483647) (by decide)
        refine ⟨_, rfl, p, _, rfl, gq_mix, _, rfl, p, _, rfl, gq_mix, _, _, rfl, rfl, .inl ⟨by omega, by omega⟩, _, rfl, p, _, rfl, gq_turn, _, _, rfl, rfl, .inl ⟨_, rfl, _, _, rfl, rfl, (by show (0 : Int) < 2147483563; decide), _, _, rfl, rfl, ⟨by decide, by decide⟩, _, rfl, _, _, rfl, rfl, hb, ?_⟩⟩
        exact k _ _ _ _ _ _ (mod7 hb).1 (mod7 hb).2 ha q1.1 q1.2
    refine ⟨_, pss_cons (ps_dput hu (pv 0) pe_str (pe_op op_add (pe_dget hu (pv 0) pe_str (fun _ _ => rfl)) pe_int) rfl)
      (pss_cons (ps_if (PW.pt (pw_and (pt_cmpR op_eq (pe_dget hu (pv 0) pe_str (fun _ _ => rfl)) pe_int (nomark _))
          (pw_and1 (pt_cmpR op_lt (pe_dget hu (pv 0) pe_str (fun _ _ => rfl)) (pe_callB call_len_seq (by rfl) T.len PySem.boot_len (pa_cons (pe_dget hu (pv 0) pe_str (fun _ _ => rfl)) pa_nil)) (nomark _)))))
        (pss_cons (ps_set (i := 2) scT.nd rfl (.inl rfl) (pe_ix ix_list (pe_dget hu (pv 0) pe_str (fun _ _ => rfl)) (pe_dget hu (pv 0) pe_str (fun _ _ => rfl)) (fun _ _ => rfl)))
        (pss_cons (ps_dput hu (pv 0) pe_str (pe_op op_add (pe_dget hu (pv 0) pe_str (fun _ _ => rfl)) pe_int) rfl)
        (pss_cons (ps_if (pt_cmpR op_lt (pv 2) (pe_op op_pow pe_int pe_int) (nomark _))
          (pss_cons (ps_set (i := 3) scT.nd rfl (.inl rfl) (pe_op op_mod (pe_callTy call_int1 (by rfl) T.int PyProof.Rows.boot_int (pa_cons (pv 2) pa_nil)) pe_int))
          (pss_cons (ps_set (i := 3) scT.nd rfl (.inl rfl) (pe_op op_mod (pe_callTy call_int1 (by rfl) T.int PyProof.Rows.boot_int (pa_cons (pe_op op_add (pe_op op_add (pe_op op_mul (pv 3) pe_int) (pe_dget hu (pv 0) pe_str (fun _ _ => rfl))) (pe_op op_mul (pe_dget hu (pv 0) pe_str (fun _ _ => rfl)) pe_int)) pa_nil)) pe_int))
          (pss_cons (ps_dput hu (pv 0) pe_str (pe_op op_mod (pe_callTy call_int1 (by rfl) T.int PyProof.Rows.boot_int (pa_cons (pe_op op_add (pe_op op_add (pe_op op_mul (pe_dget hu (pv 0) pe_str (fun _ _ => rfl)) pe_int) (pv 3)) pe_int) pa_nil)) pe_int) rfl)
          (pss_one (ps_ret (pe_op op_mod (pe_op op_fdiv (pe_op op_mod (pe_callTy call_int1 (by rfl) T.int PyProof.Rows.boot_int (pa_cons (pe_op op_add (pe_op op_mul (pv 3) (pv 3)) (pe_dget hu (pv 0) pe_str (fun _ _ => rfl))) pa_nil)) pe_int) pe_int) (pv 1)))))))
          pss_nil)
        (pss_cons (ps_dput hu (pv 0) pe_str (pe_op op_sub (pv 2) (pe_op op_pow pe_int pe_int)) rfl)
        (pss_one (ps_dput hu (pv 0) pe_str pe_int rfl))))))
        pss_nil)
      hC), ?_⟩
    have hc2 : ∀ {a r d m t : Int}, upd H p (.dK (penD c a r d m t)) c = some (.lst (ns.map V.int)) := by
      intro a r d m t
      rw [upd_ne S.ne]
      exact S.cl
    have e0 : H = upd H p (.dK (penD c a r d m t)) := (upd_id S.pd).symm
    rw [e0]
    refine ⟨_, rfl, p, _, rfl, gq_turn, _, _, rfl, rfl, _, rfl, p, _, rfl, pq_turn, ?_⟩
    refine ⟨_, rfl, p, _, rfl, gq_digits, rfl, _, rfl, ?_⟩
    refine ite2 (fun _ => ?_) (fun _ => ?_)
    · refine ⟨_, rfl, p, _, rfl, gq_at, _, rfl, p, _, rfl, gq_cells, c, _, rfl, .inl (SqL.of hc2), _, _, rfl, rfl, _, rfl, ?_⟩
      refine ite2 (fun hlt => ?_) (fun _ => ?_)
      · have hlt := of_decide_eq_true hlt
        rw [List.length_map] at hlt
        obtain ⟨j, rfl⟩ := Int.eq_ofNat_of_zero_le S.a0
        have hj : j < ns.length := by omega
        have hx : (ns.map V.int)[j]? = some (V.int ns[j]) := by
          rw [List.getElem?_map, List.getElem?_eq_getElem hj]
          rfl
        refine ⟨_, rfl, p, _, rfl, gq_cells, _, rfl, p, _, rfl, gq_at, c, _, _, _, rfl, rfl, SqL.of hc2, atI_nat hx, ?_⟩
        refine ⟨_, rfl, p, _, rfl, gq_at, _, _, rfl, rfl, _, rfl, p, _, rfl, pq_at, ?_⟩
        refine ⟨_, rfl, _, _, rfl, rfl, ⟨by decide, by decide, by decide⟩, _, _, rfl, rfl, _, rfl, ?_⟩
        have a1 : (0 : Int) ≤ (j : Int) + 1 := by omega
        refine ite2 (fun _ => ?_) (fun _ => ?_)
        · refine ⟨_, rfl, .inl ⟨_, rfl, _, _, rfl, rfl, (by show (0 : Int) < 2147483629; decide), ?_⟩⟩
          refine ⟨_, rfl, _, _, rfl, rfl, .inr (by decide), _, rfl, p, _, rfl, gq_mix, _, _, rfl, rfl, _, rfl, p, _, rfl, gq_turn, _, _, rfl, rfl, .inr (by decide), _, _, rfl, rfl, .inl ⟨_, rfl, _, _, rfl, rfl, (by show (0 : Int) < 2147483647; decide), ?_⟩⟩
          have q1 := mod7 (x := ns[j] % 2147483629 * 48271 + m + (t + 1) * 69621) (b := 2147483647) (by decide)
          refine ⟨_, rfl, p, _, rfl, gq_mix, _, _, rfl, rfl, .inr (by decide), _, rfl, _, _, rfl, rfl, _, _, rfl, rfl, .inl ⟨_, rfl, _, _, rfl, rfl, (by show (0 : Int) < 2147483629; decide), _, rfl, p, _, rfl, pq_mix, ?_⟩⟩
          have q2 := mod7 (x := m * 16807 + (ns[j] % 2147483629 * 48271 + m + (t + 1) * 69621) % 2147483647 + 11) (b := 2147483629) (by decide)
          refine ⟨_, rfl, _, rfl, _, _, rfl, rfl, .inl ⟨by omega, by omega⟩, _, rfl, p, _, rfl, gq_mix, _, _, rfl, rfl, .inl ⟨_, rfl, _, _, rfl, rfl, (by show (0 : Int) < 2147483579; decide), _, _, rfl, rfl, ⟨by decide, by decide⟩, _, rfl, _, _, rfl, rfl, hb, ?_⟩⟩
          exact k _ _ _ _ _ _ (mod7 hb).1 (mod7 hb).2 a1 q2.1 (by omega)
        · refine ⟨_, rfl, _, _, rfl, rfl, ⟨by decide, by decide, by decide⟩, _, _, rfl, rfl, _, rfl, p, _, rfl, pq_rest, ?_⟩
          refine ⟨_, rfl, p, _, rfl, pq_digits, ?_⟩
          exact qC _ _ _ _ _ _ _ _ a1 S.m0 S.m1
      · exact qC _ _ _ _ _ _ _ _ S.a0 S.m0 S.m1
    · exact qC _ _ _ _ _ _ _ _ S.a0 S.m0 S.m1
end
end Wk
set_option Elab.async false
set_option linter.all false
set_option maxRecDepth 100000
set_option maxHeartbeats 4000000
namespace Wk
open PySem L2
/-! ## one of a menu; the pen made; a plain value -/
theorem SqL.over {K : PySem.W.Frag} {H : Hp} {p q : Addr} {xs : List V} {kvs kvs' : List (Key × V)} (h : SqL K H q xs) (hp : H p = some (.dK kvs)) : SqL K (upd H p (.dK kvs')) q xs := by
  have key : ∀ o, H q = some o → (∀ l, o ≠ .dK l) → upd H p (.dK kvs') q = some o := fun o e n => by
    rw [upd_ne (fun z => by rw [z, hp] at e; exact n kvs (Option.some.inj e).symm)]
    exact e
  rcases h with (h | ⟨o, h⟩) | h
  · exact .inl (.inl (key _ h fun l z => by cases z))
  · exact .inl (.inr ⟨o, key _ h fun l z => by cases z⟩)
  · exact .inr h
section
variable {P : Program} {w : World} {K : PySem.W.Frag} {mg : Str → Option Value} {base : Heap}
def spPen (K : PySem.W.Frag) : Sp := fun vs H Q _ => ∃ (s : Addr) (ns : List Int), vs = [.ref s] ∧ SqL K H s (ns.map V.int) ∧ ns.length ≤ 63 ∧
  ∀ (p : Addr) (H' : Hp), Same H H' → H p = none → Pn p H' → Q (.ref p) H'
theorem scP : FnScope ["_law_script", "_law_total", "_law_cell"] ["_law_script"] (defScope sPen) := ⟨rfl, rfl, rfl, by decide +kernel, rfl, by decide +kernel, by decide +kernel⟩
theorem pen_made {c : Addr} {m : Int} : mergeK [] ([(Sum.inr "cells", .ref c), (Sum.inr "at", .int 0), (Sum.inr "rest", .int 0), (Sum.inr "digits", .int 0), (Sum.inr "mix", .int m), (Sum.inr "turn", .int 0)] : List (Key × V)) = penD c 0 0 0 m 0 := by
  simp [mergeK, putK, penD, n1, n2, n3, n4, n5, n6, n7, n8, n9, n10, n11, n12, n13, n14, n15]
theorem ok_pen {f : Addr} {fd : FuncData} (F : Fun K "_law_pen" "_law_pen" sPen f fd) (T : Bn mg) : FnOk P w K mg base CX0 1 f fd ["_law_script"] (spPen K) := by
  refine F.ok scP (fun vs H Q E h => ?_) (fun cdv A outer s H vs Q E hr h => ?_)
  · obtain ⟨a, ns, rfl, _⟩ := h
    rfl
  · obtain ⟨a, ns, rfl, hS, hl, k⟩ := h
    refine ⟨_, pss_cons (ps_set (i := 1) scP.nd rfl (.inl rfl) pe_int)
      (pss_cons (ps_for PassesOwn.never rfl (pi_list (pv 0)) (pg_name (i := 2) scP.nd rfl (.inl rfl))
        (pss_one (ps_set (i := 1) scP.nd rfl (.inl rfl) (pe_op op_mod (pe_callTy call_int1 (by rfl) T.int PyProof.Rows.boot_int (pa_cons (pe_op op_add (pe_op op_mul (pv 1) pe_int) (pv 2)) pa_nil)) pe_int))))
      (pss_one (ps_ret (pe_disp (pps_cons pe_str (pe_callTy call_list_of (by rfl) T.list PyProof.Rows.boot_list (pa_cons (pv 0) pa_nil)) (pps_cons pe_str pe_int (pps_cons pe_str pe_int (pps_cons pe_str pe_int (pps_cons pe_str (pv 1) (pps_cons pe_str pe_int pps_nil)))))) rfl rfl (by simp) (by decide))))), ?_⟩
    refine ⟨_, rfl, a, rfl, ⟨_, hS⟩, for_list (K := K) (a := a) (xs := ns.map V.int) (fun i σ H2 => H2 = H ∧ ∃ (z : Int) (v : Option V), σ = [some (.ref a), some (.int z), v] ∧ 0 ≤ z ∧ z < 2147483647)
      ⟨rfl, 31, none, rfl, by decide, by decide⟩ (fun i σ H2 _ ⟨e, _⟩ => by rw [e]; exact hS) ?_ ?_⟩
    · rintro i y σ H2 hi ⟨rfl, z, v, rfl, z0, z1⟩
      obtain ⟨x, hx, rfl⟩ : ∃ x, ns[i]? = some x ∧ y = V.int x := by
        rw [List.getElem?_map] at hi
        cases e : ns[i]? with
        | none =>
          rw [e] at hi
          cases hi
        | some x =>
          rw [e] at hi
          exact ⟨x, rfl, (Option.some.inj hi).symm⟩
      refine ⟨_, rfl, _, _, rfl, rfl, .inr (by decide), _, rfl, _, _, rfl, rfl, .inl ⟨_, rfl, _, _, rfl, rfl, (by show (0 : Int) < 2147483629; decide), ?_⟩⟩
      have q := mod7 (x := z * 40503 + x) (b := 2147483629) (by decide)
      exact ⟨rfl, _, _, rfl, q.1, by omega⟩
    · rintro σ H2 ⟨rfl, z, v, rfl, z0, z1⟩
      intro p hp
      have hSp : SqL K (upd H2 p (.dK [])) a (ns.map V.int) := (show Same H2 (upd H2 p (.dK [])) from fun b o e => by rw [upd_ne (ne_of_none e hp)]; exact e).seq hS
      refine ⟨_, rfl, a, _, rfl, .inl hSp, fun l hl' => ?_⟩
      have hlp : l ≠ p := fun e => by rw [e, upd_same] at hl'; cases hl'
      have hlH : H2 l = none := by rw [upd_ne hlp] at hl'; exact hl'
      refine ⟨_, rfl, by rw [upd_ne (Ne.symm hlp)]; exact upd_same, [(Sum.inr "cells", .ref l), (Sum.inr "at", .int 0), (Sum.inr "rest", .int 0), (Sum.inr "digits", .int 0), (Sum.inr "mix", .int z), (Sum.inr "turn", .int 0)], rfl, (by show 6 ≤ 15; decide), ?_⟩
      rw [pen_made]
      refine k p _ (fun b o e => ?_) hp ⟨l, ns, _, _, _, _, _, upd_same, ?_, by decide, z0, z1⟩
      · rw [upd_ne (ne_of_none e hp), upd_ne (ne_of_none e hlH), upd_ne (ne_of_none e hp)]
        exact e
      · rw [upd_ne hlp]
        exact upd_same
end
end Wk
set_option Elab.async false
set_option linter.all false
set_option maxRecDepth 100000
set_option maxHeartbeats 4000000
namespace Wk
open PySem PySem.Spec PyProof.Rows L2
/-- no defaults at all: n values are written by place, the others by their names -/
theorem FunD_kbN {K : PySem.W.Frag} {x qual : Str} {params : Arguments} {body : List Stmt} {scope : Scope} {kws : List (Str × V)} {f : Addr} {fd : FuncData} {ps : List Str} (F : FunD K x qual params body scope [] kws f fd) (n : Nat) (ks : List Str)
    (h : ∀ (kV doc pm : Value) (an : Option Addr) (cdv ct : Value) (us ws : List Value), us.length = n → ws.length = ks.length → bindArgs (PySem.W.fnOf x qual params body scope .none kV doc pm an cdv ct) ⟨us, ks.zip ws⟩ = pure (ps.zip (us ++ ws))) :
    KBn K fd ps n ks (fun us ws => us ++ ws) (fun vs zs => vs ++ zs) := by
  obtain ⟨oc, od, dV, kV, doc, pm, an, cdv, ct, osl, rfl, lk, hcd, hD, hK⟩ := F.ex
  rcases hD with ⟨_, rfl⟩ | ⟨e, _⟩
  · exact ⟨fun s us ws _ l1 l2 => .of_eq (h kV doc pm an cdv ct us ws l1 l2), fun a b => a.append b⟩
  · exact absurd rfl e
abbrev sKey : Stmt := top 1
abbrev sNum : Stmt := top 6
def spKey (K : PySem.W.Frag) : Sp := fun vs H Q _ => ∃ (r : Str) (t : Int) (z : Str) (q : Addr) (ns : List Int), vs = [.str r, .int t, .str z, .ref q] ∧ SqL K H q (ns.map V.int) ∧
  (r = "itself" → ∀ a, H a = none → Q (.ref a) (upd H a (.tup [.str "itself", .int t]))) ∧
  (r ≠ "itself" → r = "marks" → ∀ b a, H b = none → upd H b (.tup (ns.map V.int)) a = none → Q (.ref a) (upd (upd H b (.tup (ns.map V.int))) a (.tup [.str "marks", .str z, .ref b]))) ∧
  (r ≠ "itself" → r ≠ "marks" → Q .non H)
def spNum : Sp := fun vs H Q _ => ∃ (p : Addr), vs = [.ref p] ∧ Pn p H ∧ ∀ (n : Int) H', n.natAbs < 10 ^ 31 → Gp p H H' → Q (.int n) H'
section
variable {P : Program} {w : World} {K : PySem.W.Frag} {mg : Str → Option Value} {base : Heap}
theorem boot_ttuple : bootBuiltins "tuple" = some (.type "tuple") := by decide +kernel
theorem scKey : FnScope ["rule", "thing", "kind", "marks"] ["rule", "thing", "kind", "marks"] (defScope sKey) := ⟨rfl, rfl, rfl, by decide +kernel, rfl, by decide +kernel, by decide +kernel⟩
theorem str_dec {x y : Str} : decide (V.str x = V.str y) = decide (x = y) := by
  by_cases e : x = y
  · rw [e]
    simp
  · rw [decide_eq_false e]
    exact decide_eq_false fun z => e (by injection z)
theorem ok_key {f : Addr} {fd : FuncData} (F : Fun K "memo_key" "memo_key" sKey f fd) (B : Bn mg) : FnOk P w K mg base CX0 1 f fd ["rule", "thing", "kind", "marks"] (spKey K) := by
  refine F.ok scKey (fun vs H Q E h => ?_) (fun cdv A outer s H vs Q E hr h => ?_)
  · obtain ⟨r, t, z, q, ns, rfl, _⟩ := h
    rfl
  · obtain ⟨r, t, z, q, ns, rfl, hq, k1, k2, k3⟩ := h
    refine ⟨_, pss_cons (ps_if (pt_cmpR op_eq (pv 0) pe_str (nomark _)) (pss_one (ps_ret (pe_tup (pa_cons pe_str (pa_cons (pv 1) pa_nil))))) pss_nil)
      (pss_cons (ps_if (pt_cmpR op_eq (pv 0) pe_str (nomark _)) (pss_one (ps_ret (pe_tup (pa_cons pe_str (pa_cons (pv 2) (pa_cons (pe_callTy call_tuple_of (by rfl) B.tuple boot_ttuple (pa_cons (pv 3) pa_nil)) pa_nil)))))) pss_nil)
      (pss_one (ps_ret pe_non))), ?_⟩
    refine ⟨_, rfl, rfl, _, rfl, ?_⟩
    rw [str_dec]
    refine ite2 (fun e => ?_) (fun e => ?_)
    · have e := of_decide_eq_true e
      exact ⟨_, rfl, (by show 2 ≤ sizeLine; decide), fun a ha => k1 e a ha⟩
    · have e : r ≠ "itself" := fun z => e (decide_eq_true z)
      refine ⟨_, rfl, rfl, _, rfl, ?_⟩
      rw [str_dec]
      refine ite2 (fun e2 => ?_) (fun e2 => ?_)
      · have e2 := of_decide_eq_true e2
        exact ⟨_, rfl, _, rfl, q, _, rfl, .inl ⟨hq, fun b hb => ⟨(by show 3 ≤ sizeLine; decide), fun a ha => k2 e e2 b a hb ha⟩⟩⟩
      · exact k3 e fun z => e2 (decide_eq_true z)
theorem scNum : FnScope ["_law_pen_here", "_law_shift"] ["_law_pen_here"] (defScope sNum) := ⟨rfl, rfl, rfl, by decide +kernel, rfl, by decide +kernel, by decide +kernel⟩
abbrev KT (P : Program) (w : World) (K : PySem.W.Frag) (mg : Str → Option Value) (base : Heap) := Known P w K mg base CX0 1 "_law_take" ["_law_pen_here", "_law_bound"] spTake
theorem ok_num {f fT : Addr} {fd fdT : FuncData} (F : Fun K "_law_number" "_law_number" sNum f fd) (T : KT P w K mg base fT fdT) : FnOk P w K mg base CX0 2 f fd ["_law_pen_here"] spNum := by
  refine F.ok scNum (fun vs H Q E h => ?_) (fun cdv A outer s H vs Q E hr h => ?_)
  · obtain ⟨p, rfl, _⟩ := h
    rfl
  · obtain ⟨p, rfl, S, k⟩ := h
    refine ⟨_, pss_cons (ps_set (i := 1) scNum.nd rfl (.inl rfl) (pe_ix ix_list (pe_lst (pa_cons pe_int (pa_cons pe_int (pa_cons pe_int (pa_cons (pe_op op_sub (pe_op op_pow pe_int pe_int) pe_int) (pa_cons (pe_op op_sub pe_int (pe_op op_pow pe_int pe_int)) pa_nil))))))
        (pe_call T.ok (hr.mono (by decide)) rfl T.mg T.kp T.bi .nil pass0 (pa_cons (pv 0) (pa_cons pe_int pa_nil))) (fun _ _ => rfl)))
      (pss_one (ps_ret (pe_op op_add (pv 1) (pe_call T.ok (hr.mono (by decide)) rfl T.mg T.kp T.bi .nil pass0 (pa_cons (pv 0) (pa_cons pe_int pa_nil)))))), ?_⟩
    have pw : CPow 10 30 := ⟨by decide, by decide, by decide⟩
    have e30 : ((10 : Int) ^ (30 : Int).toNat) = 1000000000000000000000000000000 := by decide
    refine ⟨_, _, rfl, rfl, pw, _, _, rfl, rfl, _, _, rfl, rfl, pw, _, _, rfl, rfl, (by show 5 ≤ sizeLine; decide), fun q hq => ?_⟩
    rw [e30]
    have g1 : Gp p H (upd H q (.lst [V.int 0, V.int 0, V.int 0, V.int (1000000000000000000000000000000 - 3), V.int (1 - 1000000000000000000000000000000)])) := (Gp.refl S).new hq
    refine ⟨_, rfl, p, 5, rfl, g1.pn, by decide, by decide, fun v H1 v0 v1 g2 => ?_⟩
    obtain ⟨j, rfl⟩ := Int.eq_ofNat_of_zero_le v0
    have hj : j < 5 := by omega
    have hl := g2.at g1.pn upd_same (by intro l z; cases z)
    obtain ⟨x, hx, hb⟩ : ∃ x : Int, ([V.int 0, V.int 0, V.int 0, V.int (1000000000000000000000000000000 - 3), V.int (1 - 1000000000000000000000000000000)] : List V)[j]? = some (.int x) ∧ x.natAbs ≤ 10 ^ 30 := by
      match j, hj with
      | 0, _ => exact ⟨_, rfl, by decide⟩
      | 1, _ => exact ⟨_, rfl, by decide⟩
      | 2, _ => exact ⟨_, rfl, by decide⟩
      | 3, _ => exact ⟨_, rfl, by decide⟩
      | 4, _ => exact ⟨_, rfl, by decide⟩
    refine ⟨q, _, _, _, rfl, rfl, SqL.of hl, atI_nat hx, ?_⟩
    refine ⟨_, rfl, _, rfl, p, 3, rfl, g2.pn, by decide, by decide, fun v2 H2 w0 w1 g3 => ?_⟩
    refine ⟨_, _, rfl, rfl, k _ _ ?_ ((g1.trans g2).trans g3)⟩
    have : (10 : Nat) ^ 30 = 1000000000000000000000000000000 := by decide
    have : (10 : Nat) ^ 31 = 10000000000000000000000000000000 := by decide
    omega
end
end Wk
set_option Elab.async false
set_option linter.all false
set_option maxRecDepth 100000
set_option maxHeartbeats 4000000
namespace Wk
open PySem L2 PySem.Spec PyProof.Rows
/-! ## defs that are called where no repr is on its way: the promise of a def may then lean on it -/
structure GOk (P : Program) (w : World) (K : PySem.W.Frag) (mg : Str → Option Value) (bs : Heap)
    (CX : CXT) (k : Nat) (f : Addr) (fd : FuncData) (ps : List Str) (sp : Sp) : Prop where
  len : ∀ ys H Q E, sp ys H Q E → ys.length = ps.length
  run : ∀ (A : Around) (out : List Env) (s : Shared) (H : Hp) (ar : Args) (us : List Value) (ys : List V) (Q : VK) (E : XK),
    A.guards = some [] → Room k A → Env0 P w K mg bs A out s H → BindsTo s fd ar (ps.zip us) →
    Vals ys us → sp ys H Q E → codeAny (model P w) A (.call (.ref f) ar) (CR CX out P w H s Q E) s
theorem gok_of {CX : CXT} {P : Program} {w : World} {K : PySem.W.Frag} {mg : Str → Option Value} {bs : Heap} {k : Nat} {f : Addr} {fd : FuncData} {x qual : Str} {st : Stmt} {N ps : List Str} {sp : Sp}
    (F : Fun K x qual st f fd) (S : FnScope N ps (defScope st)) (len : ∀ ys H Q E, sp ys H Q E → ys.length = ps.length)
    (body : ∀ (cd : Value) (A : Around) (out : List Env) (s : Shared) (H : Hp) (ys : List V) (Q : VK) (E : XK),
      (A.deeper (envOfC qual (defScope st) s.heap.objs.size f cd)).guards = some [] → Room k (A.deeper (envOfC qual (defScope st) s.heap.objs.size f cd)) → sp ys H Q E →
      ∃ t, PSs (cxOf CX P w K mg bs N qual (defScope st) f cd A out s H E) (defBody st) t ∧
        t { nx := fun _ H' => Q .non H', rt := Q } (start N ys) H) : GOk P w K mg bs CX (k + 1) f fd ps sp := by
  obtain ⟨oc, od, kV, doc, pm, an, cd, ct, osl, rfl, lk, hcd⟩ := F.ex
  constructor
  · exact len
  · intro A out s H ar us ys Q E hG hR e0 hB hV hP
    have hLen := len _ _ _ _ hP
    have inK : K.In s.heap := e0.mod.kin.keeps fun b o e => (e0.bs b o e).1
    have noL : s.heap.NoLimit := e0.mod.nolimit.keeps fun b o e => (e0.bs b o e).1
    have kinds : ∀ y ∈ ps.zip us, (defScope st).names.lookup y.1 = some .local ∨
        ((defScope st).names.lookup y.1 = some .cell ∧ ((cellsFrom (s.heap.objs.size + 1) (defScope st).names []).lookup y.1).isSome = true) := by
      intro y hy
      obtain ⟨n, v⟩ := y
      cases S.par n (List.of_mem_zip hy).1 with
      | inl z => exact Or.inl z
      | inr z => exact Or.inr ⟨z, PySem.W.cellsFrom_some _ _ _ (Or.inl z)⟩
    apply codeAny_call_function hR.depth (inK _ _ lk) rfl S.co S.gen rfl (PySem.W.codeRec_of inK hcd)
    apply hB
    refine wpAny_newFunctionEnv_cells S.kind kinds ?_
    intro env ee s1 hin
    subst ee
    refine ⟨noL.keeps hin.toInCall.keep, ?_⟩
    apply codeAny_func
    obtain ⟨t, ht, hq⟩ := body cd A out s H ys Q E hG (hR.deeper _) hP
    have J : Inv (cxOf CX P w K mg bs N qual (defScope st) f cd A out s H E) [] (start N ys) H s1 := inv_start S hR.hd e0 hLen hV hin
    refine wpAny_mono (ht.run [] s1 (start N ys) H _ J hq) ?_ (fun _ _ z => z)
    intro fl s2 hs
    cases fl with
    | ret u =>
      obtain ⟨v, σ2, H2, J2, rv, q⟩ := hs
      exact ⟨v, H2, J2.os, J2.bare, J2.base, J2.hok, rv, q⟩
    | next =>
      obtain ⟨σ2, H2, J2, q⟩ := hs
      exact ⟨V.non, H2, J2.os, J2.bare, J2.base, J2.hok, rfl, q⟩
    | brk =>
      obtain ⟨_, _, _, q⟩ := hs
      exact q.elim
    | cont =>
      obtain ⟨_, _, _, q⟩ := hs
      exact q.elim
section
variable {X : Cx} {CX : CXT} {k : Nat} {f : Addr} {fd : FuncData} {ps : List Str} {sp : Sp} {E : XK} {x : Str} {p pos : Pos} {e : Expr} {es : List Expr} {t : TA}
/-- f(e, ..) of such a def -/
theorem pe_callG (hG : X.A.guards = some []) (F : GOk X.prog X.w X.K X.mg X.base CX k f fd ps sp) (hr : Room k X.A) (hg : Gl X x) (hm : X.mg x = some (.ref f)) (hk : PySem.W.keepIn X.K (.ref f) = true)
    (hb : Binds X.K fd ps []) (hx : Passes CX X E) (ha : PA X (e :: es) t) (hdb : (x == ("__debug__" : Str)) = false := by decide)
    (he : starEach (e :: es) X.env = (false, eval e X.env) :: starEach es X.env := by rfl) (hpl : (backTo pos (starEach es X.env)).any (·.1) = false := by rfl) :
    PE X (.Call (.Name x p) (e :: es) [] pos) (tCall sp [] E t) := by
  constructor
  intro pins s σ H Q I h
  apply wpAny_Call_Name_kw
  refine ld_glob I hg hm ?_ hdb
  refine PySem.W.callWith_K (h₀ := X.base) I.ok.mod.kin hk ?_ he hpl
  refine thn (ha.run pos pins s σ H _ I h) ?_
  intro us s1 hh
  obtain ⟨ys, H1, I1, rv, q⟩ := hh
  refine ⟨I1.kIn, ?_⟩
  rw [List.append_nil] at q
  have hl : us.length = ps.length := by
    rw [← rv.length]
    exact F.len _ _ _ _ q
  have hb1 := hb s1 us I1.kIn (by simpa using hl)
  rw [List.append_nil] at hb1
  apply wpAny_call
  refine codeAny_mono (F.run X.A X.stack s1 H1 ⟨us, []⟩ us ys Q E hG hr I1.env0 hb1 rv q) ?_
  intro r s2 hq
  cases r with
  | error z => exact hx pins σ H1 s1 z s2 I1 hq
  | ok fl =>
    cases fl with
    | ret u => exact I1.after hq
    | next => exact hq.elim
    | brk => exact hq.elim
    | cont => exact hq.elim
end
/-! ## the law's own call, for a promise that leans on the empty list of guards -/
theorem law_start {P : Program} {w : World} {K : PySem.W.Frag} {mg mb : Str → Option Value} {CX : CXT} {k : Nat} {fa a : Addr} {fd : FuncData} {x : Str} {sp : Sp} {s0 : Shared} {vs : List Value} {ns : List Int}
    (hK : K.In s0.heap) (hN : s0.heap.Ns mainGlobals mg) (hB : s0.heap.Ns builtinsNs mb) (hBB : ∀ y : Str, y ≠ "__name__" → mb y = bootBuiltins y) (hL : s0.heap.NoLimit) (hg : s0.gens = #[])
    (hA : s0.heap.get? a = some { cls := .type "list", data := .seq vs.toArray }) (hI : IntsAre vs ns) (hz : ns.length ≤ sizeLine) (hR : Room k callerA)
    (F : ∀ bs : Heap, K.In bs → bs.Ns mainGlobals mg → GOk P w K mg bs CX k fa fd [x] sp) (hbind : ∀ (s : Shared) (u : Value), BindsTo s fd ⟨[u], []⟩ [(x, u)])
    (hsp : ∀ H : Hp, Only H → SqL K H a (ns.map V.int) → sp [.ref a] H (fun v _ => v = .bl true) fun _ _ _ => False)
    (hCX : ∀ H e s', CX [] H s0 (fun _ _ _ => False) e s' → False) :
    codeAny (model P w) callerA (.call (.ref fa) ⟨[.ref a], []⟩) (fun r s' => r = .ok (.ret (.bool true)) ∧ OldK s0.heap s'.heap ∧ s'.os = s0.os ∧ AllBare s'.gens) s0 := by
  have vI := vals_ints hI
  have lI := hI.length
  have main : ∀ H : Hp, Only H → SqL K H a (ns.map V.int) → HOk P w H s0.heap → (∀ b, H b ≠ none → b = a) → (H a ≠ none → K.lookup a = none) →
      codeAny (model P w) callerA (.call (.ref fa) ⟨[.ref a], []⟩)
        (fun r s' => r = .ok (.ret (.bool true)) ∧ OldK s0.heap s'.heap ∧ s'.os = s0.os ∧ AllBare s'.gens) s0 := by
    intro H oH sH okH onA outK
    have low : ∀ {b : Addr} {o : Obj}, s0.heap.get? b = some o → H b = none → (hidT s0.heap H).get? b = some o := fun e n => hidT_get e n
    have free : ∀ {b : Addr} {o : Obj} {es : Array DictEntry} {ep : Nat}, s0.heap.get? b = some o → o.data = .dict es ep → H b = none := by
      intro b o es ep e d
      cases q : H b with
      | none => rfl
      | some u =>
        have eb : b = a := onA b (by rw [q]; simp)
        rw [eb, hA] at e
        cases e
        cases (show Data.seq vs.toArray _ = Data.dict es ep from d)
    have nsOf : ∀ {b : Addr} {m : Str → Option Value}, s0.heap.Ns b m → (hidT s0.heap H).Ns b m := by
      intro b m hn
      obtain ⟨o, es, ep, e, d, r⟩ := hn
      exact ⟨o, es, ep, low e (free e d), d, r⟩
    have inB : K.In (hidT s0.heap H) := by
      intro b o e
      refine low (hK b o e) ?_
      cases q : H b with
      | none => rfl
      | some u =>
        have eb : b = a := onA b (by rw [q]; simp)
        rw [eb, outK (by rw [← eb, q]; simp)] at e
        cases e
    have hLim : (hidT s0.heap H).NoLimit := by
      obtain ⟨mc, z1, z2⟩ := hL
      exact ⟨mc, nsOf z1, z2⟩
    have md : Mod K mg (hidT s0.heap H) := ⟨inB, nsOf hN, ⟨mb, nsOf hB, hBB⟩, hLim⟩
    have e0 : Env0 P w K mg (hidT s0.heap H) callerA [] s0 H := {
      frames := rfl
      mod := md
      bs := fun b o e => of_hidT e
      bsz := Nat.le_of_eq (hidT_size _ _)
      funs := trivial
      frf := fun b hb => by cases (show b ∈ ([] : List Addr) from hb)
      hok := okH
      bare := .of_eq hg }
    have run := (F _ inB (nsOf hN)).run callerA [] s0 H ⟨[.ref a], []⟩ [.ref a] [.ref a] _ _ rfl hR e0 (hbind s0 (.ref a)) (.cons rfl .nil) (hsp H oH sH)
    refine codeAny_mono run ?_
    intro r s' h
    cases r with
    | error e => exact (hCX H e s' h).elim
    | ok fl =>
      cases fl with
      | ret u =>
        obtain ⟨v, H', os, bare, un, okH', rv, q⟩ := h
        have ev : v = .bl true := q
        rw [ev] at rv
        have eu : u = Value.bool true := rv
        rw [eu]
        refine ⟨rfl, OldK.of_keep ?_, os, bare⟩
        intro b o e
        cases q : H b with
        | none => exact un.keep b o e q (fun z => by cases (show b ∈ ([] : List Addr) from z)) (fun z => by cases z)
        | some z =>
          cases oH b with
          | inl y =>
            rw [q] at y
            cases y
          | inr y =>
            obtain ⟨ob, xs, y⟩ := y
            have y2 := (okH' b _ (un.frzs b ob _ y)).1
            have y1 := (okH b _ y).1
            rw [e] at y1
            cases y1
            exact y2
      | next => exact h.elim
      | brk => exact h.elim
      | cont => exact h.elim
  cases hk : K.lookup a with
  | some o =>
    have e := hK a o hk
    rw [hA] at e
    cases e
    refine main (fun _ => none) (fun _ => .inl rfl) (.inr ⟨_, vs.toArray, _, hk, rfl, rfl, rfl, ?_, by simpa using vI⟩) ?_ (fun b z => absurd rfl z) fun z => absurd rfl z
    · rw [List.size_toArray, lI]
      exact hz
    · intro b u z
      cases (show (none : Option HO) = some u from z)
  | none =>
    let ob : Obj := { cls := .type "list", data := .seq vs.toArray }
    refine main (fun b => if b = a then some (.frz ob (.lst (ns.map V.int))) else none) ?_ (.inl (.inr ⟨ob, if_pos rfl⟩)) ?_ ?_ fun _ => hk
    · intro b
      by_cases hb : b = a
      · exact .inr ⟨ob, _, if_pos hb⟩
      · exact .inl (if_neg hb)
    · intro b u z
      by_cases hb : b = a
      · have z2 := (if_pos hb).symm.trans z
        cases z2
        subst hb
        refine ⟨hA, ?_, vs, _, vI, hA⟩
        rw [List.length_map]
        exact hz
      · have z2 := (if_neg hb).symm.trans z
        cases z2
    · intro b z
      by_cases hb : b = a
      · exact hb
      · exact absurd (if_neg hb) z
end Wk
set_option Elab.async false
set_option linter.all false
set_option maxRecDepth 100000
set_option maxHeartbeats 4000000
namespace Wk
open PySem L2 PySem.Spec PyProof.Rows
/-! ## repr of data -/
section
variable {X : Cx}
theorem boot_repr : bootBuiltins "repr" = some (.builtin "repr") := by decide +kernel
def rReprD (K : PySem.W.Frag) : List V → Hp → VK → Prop := fun xs H Q => ∃ (v : V) (d : PyData), xs = [v] ∧ Dp K H v d ∧ d.showable = true ∧ d.hasDict = false ∧ d.depth ≤ 10 ∧ d.shown.length ≤ sizeLine ∧ Q (.str d.shown) H
theorem call_reprD (hG : X.A.guards = some []) (hu : X.A.units + 20 < cLine) : CallR X (.builtin "repr") (rReprD X.K) := by
  rintro pins s σ H xs us Q I r ⟨v, d, rfl, q, h1, h2, h3, h4, k⟩
  obtain ⟨u, rfl, rx⟩ := vals1 r
  obtain ⟨as, rd⟩ := Dp.reads I d v u q rx
  have no := PyData.noDict_hsm (as := as) h2
  have fin : ∀ (t : Tok) (tk : Nat), EP X pins σ Q (.str d.shown t) { s with toks := tk } := fun t tk => ⟨.str d.shown, H, I.tok _, ⟨_, rfl⟩, k⟩
  cases rd with
  | none => exact call_repr_gives (typeIs_none s) F.slot_NoneType_repr F.entry_NoneType_repr (F.args_NoneType_repr_1 _) gives_none_repr (fin _ _) (hx := h4)
  | bool b => exact call_repr_gives (PySem.typeIs_bool s b) F.slot_bool_repr F.entry_bool_repr (F.args_bool_repr_1 _) (gives_bool_repr b) (fin _ _) (hx := h4)
  | int i t => exact call_repr_gives (typeIs_int s i t) F.slot_int_repr F.entry_int_repr (F.args_int_repr_1 _) (gives_int_repr i t (by simpa [PyData.showable] using h1)) (fin _ _) (hx := h4)
  | str x t => exact call_repr_gives (typeIs_str s x t) F.slot_str_repr F.entry_str_repr (F.args_str_repr_1 _) (gives_str_repr x t) (fin _ _) (hx := h4)
  | list a b c e => exact PySem.repr_of_reads' (.list a b c e) h1 no hG (by omega) (fun _ _ e => e) (fun h' u tk hk => ⟨.str _, H, I.kept hk, ⟨_, rfl⟩, k⟩) h4
  | tuple a b c e => exact PySem.repr_of_reads' (.tuple a b c e) h1 no hG (by omega) (fun _ _ e => e) (fun h' u tk hk => ⟨.str _, H, I.kept hk, ⟨_, rfl⟩, k⟩) h4
  | dict a b c e f => exact PySem.repr_of_reads' (.dict a b c e f) h1 no hG (by omega) (fun _ _ e => e) (fun h' u tk hk => ⟨.str _, H, I.kept hk, ⟨_, rfl⟩, k⟩) h4
end
/-! ## small data -/
structure Sm (n m : Nat) (d : PyData) : Prop where
  sh : d.showable = true
  nd : d.hasDict = false
  dp : d.depth ≤ n
  ls : d.leavesShort 40 = true
  wt : d.weight ≤ m
theorem log_of {i : Int} (h : i.natAbs < 10 ^ 35) : i.natAbs.log2 < 1920 := by
  have h2 : i.natAbs < 2 ^ 1920 := Nat.lt_of_lt_of_le h (by decide +kernel)
  by_cases z : i.natAbs = 0
  · rw [z]
    decide
  · exact (Nat.log2_lt z).mpr h2
theorem short_of {i : Int} (h : i.natAbs < 10 ^ 35) : (PyData.shown (.int i)).length ≤ 40 := by
  have e := int_text_length_le10 (k := 35) (by decide) h
  show (Str.ofString (toString i)).length ≤ 40
  rw [PySem.ofString_length]
  omega
theorem wi_of {i : Int} (h : i.natAbs < 10 ^ 35) : (PyData.int i).weight ≤ 118 := by
  have h2 : i.natAbs < 2 ^ 117 := Nat.lt_of_lt_of_le h (by decide +kernel)
  simp only [PyData.weight]
  split
  · exact Nat.zero_le _
  · by_cases z : i.natAbs = 0
    · rw [z]
      decide
    · have := (Nat.log2_lt z).mpr h2
      omega

theorem sm_int {i : Int} (h : i.natAbs < 10 ^ 35) : Sm 0 118 (.int i) := ⟨decide_eq_true (log_of h), rfl, by simp [PyData.depth], by show decide _ = true; exact decide_eq_true (short_of h), wi_of h⟩
theorem sm_str {x : Str} (h1 : ∀ c ∈ x.cps.toList, c < 16 ^ 8) (h2 : x.length ≤ 20) : Sm 0 118 (.str x) := by
  refine ⟨rfl, rfl, by simp [PyData.depth], ?_, ?_⟩
  · show (x.cps.toList.all fun c => decide (c < 16 ^ 8)) = true
    exact List.all_eq_true.mpr fun c hc => decide_eq_true (h1 c hc)
  · have : x.cps.size = x.length := rfl
    simp only [PyData.weight]
    omega
theorem cp_of (x : String) : ∀ c ∈ (Str.ofString x).cps.toList, c < 16 ^ 8 := by
  intro c hc
  have e : (16 : Nat) ^ 8 = 4294967296 := by decide
  rw [Str.ofString_eq_toList] at hc
  simp at hc
  obtain ⟨ch, _, rfl⟩ := hc
  rw [e]
  exact ch.val.toNat_lt
theorem sm_all {n m : Nat} : ∀ ds : List PyData, (∀ d ∈ ds, Sm n m d) → PyData.showableAll ds = true ∧ PyData.hasDictAll ds = false ∧ PyData.depthAll ds ≤ n ∧ PyData.leavesShortAll 40 ds = true ∧ PyData.weightAll ds ≤ (m + 1) * ds.length
  | [], _ => ⟨rfl, rfl, by simp [PyData.depthAll], rfl, by simp [PyData.weightAll]⟩
  | d :: ds, h => by
    obtain ⟨a, b, c, e, f⟩ := sm_all ds fun x hx => h x (List.mem_cons_of_mem _ hx)
    have g := h d List.mem_cons_self
    refine ⟨?_, ?_, ?_, ?_, ?_⟩
    · show (d.showable && PyData.showableAll ds) = true
      rw [g.sh, a]
      rfl
    · show (d.hasDict || PyData.hasDictAll ds) = false
      rw [g.nd, b]
      rfl
    · have := g.dp
      simp only [PyData.depthAll]
      omega
    · show (d.leavesShort 40 && PyData.leavesShortAll 40 ds) = true
      rw [g.ls, e]
      rfl
    · have := g.wt
      simp only [PyData.weightAll, List.length_cons, Nat.mul_add]
      omega
theorem sm_tup {n m : Nat} {ds : List PyData} (h : ∀ d ∈ ds, Sm n m d) : Sm (n + 1) ((m + 1) * ds.length) (.tuple ds) := by
  obtain ⟨a, b, c, e, f⟩ := sm_all ds h
  exact ⟨a, b, by simp only [PyData.depth]; omega, e, by simp only [PyData.weight]; omega⟩
theorem sm_lst {n m : Nat} {ds : List PyData} (h : ∀ d ∈ ds, Sm n m d) : Sm (n + 1) ((m + 1) * ds.length) (.list ds) := by
  obtain ⟨a, b, c, e, f⟩ := sm_all ds h
  exact ⟨a, b, by simp only [PyData.depth]; omega, e, by simp only [PyData.weight]; omega⟩
theorem Sm.le {n m n' m' : Nat} {d : PyData} (h : Sm n m d) (a : n ≤ n') (b : m ≤ m') : Sm n' m' d := ⟨h.sh, h.nd, Nat.le_trans h.dp a, h.ls, Nat.le_trans h.wt b⟩
theorem Sm.shown {n m : Nat} {d : PyData} (h : Sm n m d) (hm : m ≤ 100000) : d.shown.length ≤ sizeLine := by
  have q := PyData.shown_le 40 (by decide) d h.ls
  have := h.wt
  rw [sizeLine_eq]
  omega
/-! ## keys, small ones -/
def kI (n : Int) : NestedKey := .tup [.text "itself", .num n]
def kM (z : Str) (ns : List Int) : NestedKey := .tup [.text "marks", .text z, .tup (ns.map .num)]
inductive SmK : NestedKey → Prop
  | its {n : Int} : n.natAbs < 10 ^ 35 → SmK (kI n)
  | mks {z : Str} {ns : List Int} : (∀ c ∈ z.cps.toList, c < 16 ^ 8) → PyData.strOk z = true → z.length ≤ 20 → ns.length ≤ 3 → (∀ n ∈ ns, n.natAbs < 10 ^ 35) → SmK (kM z ns)
theorem datas_nums : ∀ ns : List Int, NestedKey.datas (ns.map NestedKey.num) = ns.map PyData.int
  | [] => rfl
  | n :: ns => by
    show NestedKey.data (.num n) :: NestedKey.datas (ns.map NestedKey.num) = _
    rw [datas_nums ns]
    rfl
theorem SmK.sm {k : NestedKey} (h : SmK k) : Sm 2 1200 k.data := by
  have s1 : Sm 0 118 (.str "itself") := sm_str (cp_of _) (by decide +kernel)
  have s2 : Sm 0 118 (.str "marks") := sm_str (cp_of _) (by decide +kernel)
  cases h with
  | @its n h =>
    show Sm 2 1200 (.tuple [.str "itself", .int n])
    refine (sm_tup (n := 0) (m := 118) fun d hd => ?_).le (by decide) (by show 119 * 2 ≤ 1200; decide)
    simp only [List.mem_cons, List.not_mem_nil, or_false] at hd
    rcases hd with rfl | rfl
    · exact s1
    · exact sm_int h
  | @mks z ns h1 h0 h2 h3 h4 =>
    show Sm 2 1200 (.tuple [.str "marks", .str z, .tuple (NestedKey.datas (ns.map NestedKey.num))])
    rw [datas_nums]
    have s3 : Sm 1 357 (.tuple (ns.map PyData.int)) := by
      refine (sm_tup (n := 0) (m := 118) fun d hd => ?_).le (by decide) (by rw [List.length_map]; omega)
      obtain ⟨n, hn, rfl⟩ := List.mem_map.mp hd
      exact sm_int (h4 n hn)
    refine (sm_tup (n := 1) (m := 357) fun d hd => ?_).le (by decide) (by show 358 * 3 ≤ 1200; decide)
    simp only [List.mem_cons, List.not_mem_nil, or_false] at hd
    rcases hd with rfl | rfl | rfl
    · exact s2.le (by decide) (by decide)
    · exact (sm_str h1 h2).le (by decide) (by decide)
    · exact s3
theorem KeyAt.dp {K : PySem.W.Frag} {H : Hp} {k : NestedKey} {a : Addr} (h : KeyAt H k a) : Dp K H (.ref a) k.data := by
  cases h with
  | its e => exact .tup (SqT.of e) (.cons (.str _) (.cons (.int _) .nil))
  | @mks _ q z ns e e2 =>
    have all : ∀ ns : List Int, DpAll K H (ns.map V.int) (NestedKey.datas (ns.map NestedKey.num)) := by
      intro ns
      induction ns with
      | nil => exact .nil
      | cons n ns ih => exact .cons (.int n) ih
    exact .tup (SqT.of e) (.cons (.str _) (.cons (.str _) (.cons (.tup (SqT.of e2) (all ns)) .nil)))
/-- a token: None, or the tuple of a key -/
def TokIs (H : Hp) (v : V) : Option NestedKey → Prop
  | none => v = .non
  | some k => ∃ a, v = .ref a ∧ KeyAt H k a
def tokD : Option NestedKey → PyData
  | none => .none
  | some k => k.data
theorem TokIs.dp {K : PySem.W.Frag} {H : Hp} {v : V} {o : Option NestedKey} (h : TokIs H v o) : Dp K H v (tokD o) := by
  cases o with
  | none =>
    obtain rfl := h
    exact .non
  | some k =>
    obtain ⟨a, rfl, h⟩ := h
    exact h.dp
theorem TokIs.keeps {H H' : Hp} {v : V} {o : Option NestedKey} (h : TokIs H v o) (t : ∀ b xs, H b = some (.tup xs) → H' b = some (.tup xs)) : TokIs H' v o := by
  cases o with
  | none => exact h
  | some k =>
    obtain ⟨a, rfl, h⟩ := h
    exact ⟨a, rfl, h.keeps t⟩
theorem tok_sm {o : Option NestedKey} (h : ∀ k, o = some k → SmK k) : Sm 2 1200 (tokD o) := by
  cases o with
  | none => exact ⟨rfl, rfl, by simp [tokD, PyData.depth], rfl, by simp [tokD, PyData.weight]⟩
  | some k => exact (h k rfl).sm
mutual
theorem eqv_key : ∀ x y : NestedKey, PyData.eqv x.data y.data = NestedKey.beq x y
  | .none, y => by cases y <;> simp [PyData.eqv, NestedKey.data, NestedKey.beq]
  | .num a, y => by cases y <;> simp [PyData.eqv, NestedKey.data, NestedKey.beq, Bool.beq_eq_decide_eq]
  | .text a, y => by cases y <;> simp [PyData.eqv, NestedKey.data, NestedKey.beq, Bool.beq_eq_decide_eq]
  | .tup xs, .none => by simp [PyData.eqv, NestedKey.data, NestedKey.beq]
  | .tup xs, .num _ => by simp [PyData.eqv, NestedKey.data, NestedKey.beq]
  | .tup xs, .text _ => by simp [PyData.eqv, NestedKey.data, NestedKey.beq]
  | .tup xs, .tup ys => by
    show PyData.eqv (.tuple (NestedKey.datas xs)) (.tuple (NestedKey.datas ys)) = NestedKey.beqAll xs ys
    simp only [PyData.eqv]
    exact eqv_keys xs ys
theorem eqv_keys : ∀ xs ys : List NestedKey, PyData.eqvAll (NestedKey.datas xs) (NestedKey.datas ys) = NestedKey.beqAll xs ys
  | [], [] => rfl
  | [], _ :: _ => rfl
  | _ :: _, [] => rfl
  | x :: xs, y :: ys => by
    show PyData.eqvAll (x.data :: NestedKey.datas xs) (y.data :: NestedKey.datas ys) = _
    rw [PyData.eqvAll, eqv_key x y, eqv_keys xs ys, NestedKey.beqAll]
end
theorem lay_ints : ∀ ns : List Int, PyData.canLayAll0 (ns.map PyData.int) = true
  | [] => rfl
  | n :: ns => by
    show (PyData.canLay0 (.int n) && PyData.canLayAll0 (ns.map PyData.int)) = true
    rw [lay_ints ns]
    rfl
theorem lay_key {k : NestedKey} (h : SmK k) : k.data.canLay0 = true := by
  cases h with
  | @its n h =>
    show (PyData.strOk "itself" && (PyData.canLay0 (.int n) && true)) = true
    rw [show PyData.strOk "itself" = true by decide +kernel]
    rfl
  | @mks z ns h1 h0 h2 h3 h4 =>
    show (PyData.strOk "marks" && (PyData.strOk z && (PyData.canLayAll0 (NestedKey.datas (ns.map NestedKey.num)) && true))) = true
    rw [datas_nums, lay_ints, h0, show PyData.strOk "marks" = true by decide +kernel]
    rfl
theorem shaped_tok {o : Option NestedKey} (h : ∀ k, o = some k → SmK k) : SeqAt.shaped (tokD o) = true := by
  have l : (tokD o).canLay0 = true := by
    cases o with
    | none => rfl
    | some k => exact lay_key (h k rfl)
  have d := (tok_sm h).dp
  unfold SeqAt.shaped
  rw [l, Bool.true_and]
  exact decide_eq_true (by omega)
end Wk
set_option Elab.async false
set_option linter.all false
set_option maxRecDepth 100000
set_option maxHeartbeats 4000000
namespace Wk
open PySem L2 PySem.Spec PyProof.Rows
abbrev sTok : Stmt := top 7
def keyOf (r : Str) (t : Int) (z : Str) (ns : List Int) : Option NestedKey := if r = "itself" then some (kI t) else if r = "marks" then some (kM z ns) else none
def spTok : Sp := fun vs H Q _ => ∃ (p : Addr), vs = [.ref p] ∧ Pn p H ∧ ∀ (L : Addr) (tok : V) (o : Option NestedKey) H', Gp p H H' → H' L = some (.lst [.bl true, tok]) → TokIs H' tok o → (∀ k, o = some k → SmK k) → Q (.ref L) H'
abbrev nTok : List Str := ["_law_pen_here", "_law_rule", "_law_thing", "_law_name", "_law_worths", "_law_handed", "_law_told", "_law_due", "_law_turn"]
section
variable {P : Program} {w : World} {K : PySem.W.Frag} {mg : Str → Option Value} {base : Heap}
theorem scTok : FnScope nTok ["_law_pen_here"] (defScope sTok) := ⟨rfl, rfl, rfl, by decide +kernel, rfl, by decide +kernel, by decide +kernel⟩
structure KnownK (P : Program) (w : World) (K : PySem.W.Frag) (mg : Str → Option Value) (base : Heap) (f : Addr) (fd : FuncData) : Prop where
  ok : FnOk P w K mg base CX0 1 f fd ["rule", "thing", "kind", "marks"] (spKey K)
  mg : mg "memo_key" = some (.ref f)
  kp : PySem.W.keepIn K (.ref f) = true
  bi : KBn K fd ["rule", "thing", "kind", "marks"] 3 ["marks"] (fun us ws => us ++ ws) (fun vs zs => vs ++ zs)
theorem same_none {H H' : Hp} {d : Addr} (s : Same H H') (h : H' d = none) : H d = none := by
  cases e : H d with
  | none => rfl
  | some o =>
    rw [s _ _ e] at h
    cases h
theorem tok_rest {fK : Addr} {fdK : FuncData} {cdv : Value} {A : Around} {outer : List Env} {s : Shared} {H : Hp} {Q : VK} {E : XK} {f : Addr} (B : Bn mg) (MK : KnownK P w K mg base fK fdK)
    (hG : (A.deeper (envOfC "_law_token" (defScope sTok) s.heap.objs.size f cdv)).guards = some []) (hr : Room 2 (A.deeper (envOfC "_law_token" (defScope sTok) s.heap.objs.size f cdv)))
    {p : Addr} (k : ∀ (L : Addr) (tok : V) (o : Option NestedKey) H', Gp p H H' → H' L = some (.lst [.bl true, tok]) → TokIs H' tok o → (∀ k, o = some k → SmK k) → Q (.ref L) H') :
    ∃ t, PSs (cxOf CX0 P w K mg base nTok "_law_token" (defScope sTok) f cdv A outer s H E) ((defBody sTok).drop 4) t ∧
      ∀ (r z : Str) (th : Int) (W : Addr) (ns : List Int) (v8 : Option V) (H1 : Hp), Gp p H H1 → th.natAbs < 10 ^ 35 → (∀ c ∈ z.cps.toList, c < 16 ^ 8) → PyData.strOk z = true → z.length ≤ 20 → ns.length ≤ 3 → (∀ n ∈ ns, n.natAbs < 10 ^ 35) → H1 W = some (.lst (ns.map V.int)) →
        t { nx := fun _ H' => Q .non H', rt := Q } [some (.ref p), some (.str r), some (.int th), some (.str z), some (.ref W), none, none, none, v8] H1 := by
  have hu : (A.deeper (envOfC "_law_token" (defScope sTok) s.heap.objs.size f cdv)).units + 64 < cLine := by
    have := hr.un
    omega
  have hu20 : (A.deeper (envOfC "_law_token" (defScope sTok) s.heap.objs.size f cdv)).units + 20 < cLine := by omega
  obtain ⟨tR, hR, qR⟩ : ∃ t, PSs (cxOf CX0 P w K mg base nTok "_law_token" (defScope sTok) f cdv A outer s H E) ((defBody sTok).drop 11) t ∧
      ∀ (v1 v2 v3 v4 v5 v8 : Option V) (told due : V) (o : Option NestedKey) (H1 : Hp), Gp p H H1 → TokIs H1 told o → TokIs H1 due o → (∀ k, o = some k → SmK k) →
        t { nx := fun _ H' => Q .non H', rt := Q } [some (.ref p), v1, v2, v3, v4, v5, some told, some due, v8] H1 := by
    refine ⟨_, pss_one (ps_ret (pe_lst (pa_cons (pe_cmpR op_eq (pe_callB (call_reprD hG hu20) (by rfl) B.repr boot_repr (pa_cons (pv 6) pa_nil)) (pe_callB (call_reprD hG hu20) (by rfl) B.repr boot_repr (pa_cons (pv 7) pa_nil)) (nomark _)) (pa_cons (pv 7) pa_nil)))), ?_⟩
    intro v1 v2 v3 v4 v5 v8 told due o H1 g T1 T2 sm
    have S := tok_sm sm
    refine ⟨_, rfl, told, tokD o, rfl, T1.dp, S.sh, S.nd, Nat.le_trans S.dp (by decide), S.shown (by decide), _, rfl, due, tokD o, rfl, T2.dp, S.sh, S.nd, Nat.le_trans S.dp (by decide), S.shown (by decide), rfl, ?_⟩
    rw [decide_eq_true rfl]
    refine ⟨_, rfl, (by show 2 ≤ sizeLine; decide), fun L hL => ?_⟩
    exact k L due o _ (g.new hL) upd_same (T2.keeps fun b xs e => same_new hL _ _ e) sm
  obtain ⟨tM, hM, qM⟩ : ∃ t, PSs (cxOf CX0 P w K mg base nTok "_law_token" (defScope sTok) f cdv A outer s H E) ((defBody sTok).drop 6) t ∧
      ∀ (r z : Str) (th : Int) (W D : Addr) (ns : List Int) (told : V) (v8 : Option V) (H1 : Hp), Gp p H H1 → Gp p H (upd H1 D (.lst (ns.map V.int ++ [.int 0]))) → (∀ k, keyOf r th z ns = some k → SmK k) → ns.length ≤ 3 → H1 W = some (.lst (ns.map V.int)) → H1 D = some (.lst (ns.map V.int)) → W ≠ D → TokIs H1 told (keyOf r th z ns) →
        t { nx := fun _ H' => Q .non H', rt := Q } [some (.ref p), some (.str r), some (.int th), some (.str z), some (.ref W), some (.ref D), some told, none, v8] H1 := by
    refine ⟨_, pss_cons (ps_if (pt_cmpR (op_neD hu) (pv 5) (pv 4) (nomark _)) (pss_one (ps_ret (pe_lst (pa_cons pe_bl (pa_cons (pv 6) pa_nil))))) pss_nil)
      (pss_cons (ps_expr (pe_bm PySem.F.plainAttrs_list PySem.F.slot_list_append PySem.F.type_list_append mt_append (pv 5) (pa_cons pe_int pa_nil)))
      (pss_cons (ps_set (i := 7) scTok.nd rfl (.inl rfl) pe_non)
      (pss_cons (ps_if (pt_cmpR op_eq (pv 1) pe_str (nomark _)) (pss_one (ps_set (i := 7) scTok.nd rfl (.inl rfl) (pe_tup (pa_cons pe_str (pa_cons (pv 2) pa_nil))))) pss_nil)
      (pss_cons (ps_if (pt_cmpR op_eq (pv 1) pe_str (nomark _)) (pss_one (ps_set (i := 7) scTok.nd rfl (.inl rfl) (pe_tup (pa_cons pe_str (pa_cons (pv 3) (pa_cons (pe_callTy call_tuple_of (by rfl) B.tuple boot_ttuple (pa_cons (pv 4) pa_nil)) pa_nil)))))) pss_nil)
      hR)))), ?_⟩
    intro r z th W D ns told v8 H1 g g2 sm hl hW hD ne T
    have dl : ∀ a, H1 a = some (.lst (ns.map V.int)) → Dp K H1 (.ref a) (.list (ns.map PyData.int)) := by
      intro a ha
      refine .lst (SqL.of ha) ?_
      clear hl hW hD T sm g2 ha
      induction ns with
      | nil => exact .nil
      | cons n ns ih => exact .cons (.int n) ih
    have lay : PyData.canLay0 (.list (ns.map PyData.int)) = true := lay_ints ns
    have dp0 : ∀ ns : List Int, PyData.depthAll (ns.map PyData.int) = 0 := by
      intro ns
      induction ns with
      | nil => simp [PyData.depthAll]
      | cons n ns ih => simp [PyData.depthAll, PyData.depth, ih]
    have sh : SeqAt.shaped (.list (ns.map PyData.int)) = true := by
      unfold SeqAt.shaped
      rw [lay, Bool.true_and]
      refine decide_eq_true ?_
      simp only [PyData.depth, dp0]
      decide
    refine ⟨_, rfl, _, rfl, _, _, dl D hD, dl W hW, sh, sh, _, rfl, ?_⟩
    rw [SeqAt.eqv_refl _ lay]
    refine ite2 (fun z => (by cases z)) (fun _ => ?_)
    refine ⟨_, rfl, .inl ⟨rfl, _, SqL.of hD⟩, D, _, _, rfl, rfl, hD, ?_, ?_⟩
    · rw [List.length_map, sizeLine_eq]
      omega
    have T2 : TokIs (upd H1 D (.lst (ns.map V.int ++ [.int 0]))) told (keyOf r th z ns) := T.keeps fun b xs e => by
      rw [upd_ne (ne_of e hD (by intro z; cases z))]
      exact e
    have hW2 : upd H1 D (.lst (ns.map V.int ++ [.int 0])) W = some (.lst (ns.map V.int)) := by
      rw [upd_ne ne]
      exact hW
    generalize upd H1 D (.lst (ns.map V.int ++ [.int 0])) = H2 at *
    refine ⟨_, rfl, rfl, _, rfl, ?_⟩
    rw [str_dec]
    by_cases e1 : r = "itself"
    · refine ite2 (fun _ => ?_) (fun z => absurd (decide_eq_true e1) z)
      refine ⟨_, rfl, (by show 2 ≤ sizeLine; decide), fun a ha => ?_⟩
      refine ⟨_, rfl, rfl, _, rfl, ?_⟩
      rw [str_dec]
      refine ite2 (fun z => absurd (e1.symm.trans (of_decide_eq_true z)) (by decide +kernel)) (fun _ => ?_)
      have ek : keyOf r th z ns = some (kI th) := by
        unfold keyOf
        rw [if_pos e1]
      refine qR _ _ _ _ _ _ told (.ref a) (keyOf r th z ns) _ (g2.new ha) (T2.keeps fun b xs e => same_new ha _ _ e) ?_ sm
      rw [ek]
      exact ⟨a, rfl, .its upd_same⟩
    · refine ite2 (fun z => absurd (of_decide_eq_true z) e1) (fun _ => ?_)
      refine ⟨_, rfl, rfl, _, rfl, ?_⟩
      rw [str_dec]
      by_cases e2 : r = "marks"
      · refine ite2 (fun _ => ?_) (fun z => absurd (decide_eq_true e2) z)
        have ek : keyOf r th z ns = some (kM z ns) := by
          unfold keyOf
          rw [if_neg e1, if_pos e2]
        refine ⟨_, rfl, _, rfl, W, _, rfl, .inl ⟨SqL.of hW2, fun b hb => ⟨(by show 3 ≤ sizeLine; decide), fun a ha => ?_⟩⟩⟩
        have n1 := same_new (o := HO.tup (ns.map V.int)) hb
        have n2 := same_new (o := HO.tup [.str "marks", .str z, .ref b]) ha
        refine qR _ _ _ _ _ _ told (.ref a) (keyOf r th z ns) _ ((g2.new hb).new ha) (T2.keeps fun c xs e => n2 _ _ (n1 _ _ e)) ?_ sm
        rw [ek]
        exact ⟨a, rfl, .mks upd_same (n2 _ _ upd_same)⟩
      · refine ite2 (fun z => absurd (of_decide_eq_true z) e2) (fun _ => ?_)
        refine qR _ _ _ _ _ _ told .non (keyOf r th z ns) _ g2 T2 ?_ sm
        unfold keyOf
        rw [if_neg e1, if_neg e2]
        exact rfl
  refine ⟨_, pss_cons (ps_set (i := 5) scTok.nd rfl (.inl rfl) (pe_callTy call_list_of (by rfl) B.list PyProof.Rows.boot_list (pa_cons (pv 4) pa_nil)))
    (pss_cons (ps_set (i := 6) scTok.nd rfl (.inl rfl) (pe_callN MK.ok (hr.mono (by decide)) rfl MK.mg MK.kp MK.bi pass0 (pa_cons (pv 1) (pa_cons (pv 2) (pa_cons (pv 3) pa_nil))) (pk_cons (pv 5) pk_nil)))
    hM), ?_⟩
  intro r z th W ns v8 H1 g hth hz1 hz2 hz3 hl hns hW
  have sm : ∀ k, keyOf r th z ns = some k → SmK k := by
    intro k e
    unfold keyOf at e
    split at e
    · cases e
      exact .its hth
    · split at e
      · cases e
        exact .mks hz1 hz2 hz3 hl hns
      · cases e
  refine ⟨_, rfl, W, _, rfl, .inl (SqL.of hW), fun D hD => ?_⟩
  have s2 := same_new (o := HO.lst (ns.map V.int)) hD
  have hD2 : upd H1 D (.lst (ns.map V.int)) D = some (.lst (ns.map V.int)) := upd_same
  have nWD : W ≠ D := ne_of_none hW hD
  generalize upd H1 D (.lst (ns.map V.int)) = H2 at *
  have rest : ∀ (told : V) (H3 : Hp), Same H2 H3 → TokIs H3 told (keyOf r th z ns) → tM { nx := fun _ H' => Q .non H', rt := Q } [some (.ref p), some (.str r), some (.int th), some (.str z), some (.ref W), some (.ref D), some told, none, v8] H3 := by
    intro told H3 s3 T
    have g3 := (g.same s2).same s3
    refine qM r z th W D ns told v8 H3 g3 ?_ sm hl (s3 _ _ (s2 _ _ hW)) (s3 _ _ hD2) nWD T
    have o3 := Gp.over (o := HO.lst (ns.map V.int ++ [.int 0])) ((Gp.refl g.pn).same (s2.trans s3)) hD
    exact g.trans o3
  refine ⟨_, rfl, _, rfl, _, rfl, _, rfl, rfl, rfl, r, th, z, D, ns, rfl, SqL.of hD2, fun e1 a ha => ?_, fun e1 e2 b a hb ha => ?_, fun e1 e2 => ?_⟩
  · refine rest (.ref a) _ (same_new ha) ?_
    unfold keyOf
    rw [if_pos e1]
    exact ⟨a, rfl, .its upd_same⟩
  · have n1 := same_new (o := HO.tup (ns.map V.int)) hb
    have n2 := same_new (o := HO.tup [.str "marks", .str z, .ref b]) ha
    refine rest (.ref a) _ (n1.trans n2) ?_
    unfold keyOf
    rw [if_neg e1, if_pos e2]
    exact ⟨a, rfl, .mks upd_same (n2 _ _ upd_same)⟩
  · refine rest .non _ (Same.refl _) ?_
    unfold keyOf
    rw [if_neg e1, if_neg e2]
    exact rfl
end
end Wk
set_option Elab.async false
set_option linter.all false
set_option maxRecDepth 100000
set_option maxHeartbeats 4000000
namespace Wk
open PySem L2 PySem.Spec PyProof.Rows
section
variable {P : Program} {w : World} {K : PySem.W.Frag} {mg : Str → Option Value} {base : Heap}
abbrev KN (P : Program) (w : World) (K : PySem.W.Frag) (mg : Str → Option Value) (base : Heap) := Known P w K mg base CX0 2 "_law_number" ["_law_pen_here"] spNum
theorem ok_tok {f fT fN fK : Addr} {fd fdT fdN fdK : FuncData} (F : Fun K "_law_token" "_law_token" sTok f fd) (B : Bn mg) (T : KT P w K mg base fT fdT) (N : KN P w K mg base fN fdN) (MK : KnownK P w K mg base fK fdK) : GOk P w K mg base CX0 3 f fd ["_law_pen_here"] spTok := by
  refine gok_of F scTok (fun vs H Q E h => ?_) (fun cdv A outer s H vs Q E hG hr h => ?_)
  · obtain ⟨p, rfl, _⟩ := h
    rfl
  · obtain ⟨p, rfl, S, k⟩ := h
    obtain ⟨tC, hC, qC⟩ := tok_rest (cdv := cdv) (A := A) (outer := outer) (s := s) (H := H) (Q := Q) (E := E) (f := f) B MK hG hr k
    refine ⟨_, pss_cons (ps_set (i := 1) scTok.nd rfl (.inl rfl) (pe_ix ix_list (pe_lst (pa_cons pe_str (pa_cons pe_str (pa_cons pe_str (pa_cons pe_str (pa_cons pe_str pa_nil)))))) (pe_call T.ok (hr.mono (by decide)) rfl T.mg T.kp T.bi .nil pass0 (pa_cons (pv 0) (pa_cons pe_int pa_nil))) (fun _ _ => rfl)))
      (pss_cons (ps_set (i := 2) scTok.nd rfl (.inl rfl) (pe_op op_add (pe_ix ix_list (pe_lst (pa_cons pe_int (pa_cons pe_int (pa_cons pe_int (pa_cons pe_int pa_nil))))) (pe_call T.ok (hr.mono (by decide)) rfl T.mg T.kp T.bi .nil pass0 (pa_cons (pv 0) (pa_cons pe_int pa_nil))) (fun _ _ => rfl)) (pe_call T.ok (hr.mono (by decide)) rfl T.mg T.kp T.bi .nil pass0 (pa_cons (pv 0) (pa_cons pe_int pa_nil)))))
      (pss_cons (ps_set (i := 3) scTok.nd rfl (.inl rfl) (pe_ix ix_list (pe_lst (pa_cons pe_str (pa_cons pe_str (pa_cons pe_str (pa_cons pe_str pa_nil))))) (pe_call T.ok (hr.mono (by decide)) rfl T.mg T.kp T.bi .nil pass0 (pa_cons (pv 0) (pa_cons pe_int pa_nil))) (fun _ _ => rfl)))
      (pss_cons (ps_setLc (i := 4) (own := [("_law_turn", 8)]) (g := gName 8) (tt := tYes) (te := tCall spNum [] E0 (tCons (tVar 0) tNil)) rfl scTok.nd rfl rfl (sw_true rfl rfl rfl (by decide +kernel)) (pi_range1 rfl B.range (pa_cons (pe_call T.ok (hr.mono (by decide)) rfl T.mg T.kp T.bi .nil pass0 (pa_cons (pv 0) (pa_cons pe_int pa_nil))) pa_nil))
        (blkOk_by (N := nTok) (sc := defScope sTok) (by decide +kernel)) (fun _ _ _ _ _ => pg_name (i := 8) scTok.nd rfl (Or.inl rfl)) (fun _ _ _ _ _ => pts_nil)
        (fun _ _ _ _ _ => pe_call N.ok hr rfl N.mg N.kp N.bi .nil pass0 (pa_cons (pv 0) pa_nil)))
      hC))), ?_⟩
    refine ⟨(by show 5 ≤ sizeLine; decide), fun q hq => ?_⟩
    have g1 : Gp p H (upd H q (.lst [.str "itself", .str "marks", .str "never", .str "marks", .str "itself"])) := (Gp.refl S).new hq
    refine ⟨_, rfl, p, 5, rfl, g1.pn, by decide, by decide, fun v H1 v0 v1 g2 => ?_⟩
    have hl := g2.at g1.pn upd_same (by intro l z; cases z)
    have g12 := g1.trans g2
    obtain ⟨j, rfl⟩ := Int.eq_ofNat_of_zero_le v0
    have hj : j < 5 := by omega
    obtain ⟨r, hx⟩ : ∃ r : Str, ([V.str "itself", V.str "marks", V.str "never", V.str "marks", V.str "itself"] : List V)[j]? = some (.str r) := by
      match j, hj with
      | 0, _ => exact ⟨_, rfl⟩
      | 1, _ => exact ⟨_, rfl⟩
      | 2, _ => exact ⟨_, rfl⟩
      | 3, _ => exact ⟨_, rfl⟩
      | 4, _ => exact ⟨_, rfl⟩
    refine ⟨q, _, _, _, rfl, rfl, SqL.of hl, atI_nat hx, ?_⟩
    clear hl hx hq g1 g2 v0 v1 hj
    refine ⟨(by show 4 ≤ sizeLine; decide), fun q hq => ?_⟩
    have g3 : Gp p H1 (upd H1 q (.lst [.int 0, .int 0, .int 1, .int 3999])) := (Gp.refl g12.pn).new hq
    refine ⟨_, rfl, p, 4, rfl, g3.pn, by decide, by decide, fun v H2 v0 v1 g4 => ?_⟩
    have hl := g4.at g3.pn upd_same (by intro l z; cases z)
    obtain ⟨j2, rfl⟩ := Int.eq_ofNat_of_zero_le v0
    have hj : j2 < 4 := by omega
    obtain ⟨x, hx, x0, x1⟩ : ∃ x : Int, ([V.int 0, V.int 0, V.int 1, V.int 3999] : List V)[j2]? = some (.int x) ∧ 0 ≤ x ∧ x ≤ 3999 := by
      match j2, hj with
      | 0, _ => exact ⟨_, rfl, by decide, by decide⟩
      | 1, _ => exact ⟨_, rfl, by decide, by decide⟩
      | 2, _ => exact ⟨_, rfl, by decide, by decide⟩
      | 3, _ => exact ⟨_, rfl, by decide, by decide⟩
    refine ⟨q, _, _, _, rfl, rfl, SqL.of hl, atI_nat hx, ?_⟩
    have g14 := g12.trans (g3.trans g4)
    clear hl hx hq g12 g3 g4 v0 v1 hj
    refine ⟨_, rfl, p, 3, rfl, g14.pn, by decide, by decide, fun v3 H3 w0 w1 g5 => ?_⟩
    refine ⟨_, _, rfl, rfl, ?_⟩
    have g15 := g14.trans g5
    have hth : (x + v3).natAbs < 10 ^ 35 := by
      have : (10 : Nat) ^ 35 = 100000000000000000000000000000000000 := by decide
      omega
    clear g14 g5
    refine ⟨(by show 4 ≤ sizeLine; decide), fun q hq => ?_⟩
    have g3 : Gp p H3 (upd H3 q (.lst [.str "Box", .str "Bo", .str "B", .str "Boxes"])) := (Gp.refl g15.pn).new hq
    refine ⟨_, rfl, p, 4, rfl, g3.pn, by decide, by decide, fun v H4 v0 v1 g4 => ?_⟩
    have hl := g4.at g3.pn upd_same (by intro l z; cases z)
    obtain ⟨j3, rfl⟩ := Int.eq_ofNat_of_zero_le v0
    have hj : j3 < 4 := by omega
    obtain ⟨z, hx, z1, z2, z3⟩ : ∃ z : Str, ([V.str "Box", V.str "Bo", V.str "B", V.str "Boxes"] : List V)[j3]? = some (.str z) ∧ (∀ c ∈ z.cps.toList, c < 16 ^ 8) ∧ PyData.strOk z = true ∧ z.length ≤ 20 := by
      match j3, hj with
      | 0, _ => exact ⟨_, rfl, cp_of _, by decide +kernel, by decide +kernel⟩
      | 1, _ => exact ⟨_, rfl, cp_of _, by decide +kernel, by decide +kernel⟩
      | 2, _ => exact ⟨_, rfl, cp_of _, by decide +kernel, by decide +kernel⟩
      | 3, _ => exact ⟨_, rfl, cp_of _, by decide +kernel, by decide +kernel⟩
    refine ⟨q, _, _, _, rfl, rfl, SqL.of hl, atI_nat hx, ?_⟩
    have g16 := g15.trans (g3.trans g4)
    clear hl hx hq g15 g3 g4 v0 v1 hj
    refine ⟨_, rfl, p, 4, rfl, g16.pn, by decide, by decide, fun v H5 v0 v1 g7 => ?_⟩
    have g17 := g16.trans g7
    obtain ⟨m, rfl⟩ := Int.eq_ofNat_of_zero_le v0
    refine ⟨(m : Int), rfl, by omega, by omega, fun D hD => ?_⟩
    have en : (m : Int).toNat = m := by omega
    rw [en]
    refine lc_it walk_range (fun i H' => Gp p H5 H' ∧ ∃ ns : List Int, ns.length = i ∧ (∀ n ∈ ns, n.natAbs < 10 ^ 35) ∧ H' D = some (.lst (ns.map V.int))) ⟨(Gp.refl g17.pn).new hD, [], rfl, fun n hn => (by cases hn), upd_same⟩ (fun _ _ _ _ => trivial) ?_ ?_
    · rintro i y H6 H7 hi ⟨go, ns, ln, bn, eD⟩ ⟨rfl, rfl⟩
      refine ⟨rfl, ⟨_, rfl, p, rfl, go.pn, fun n H7 hn g8 => ?_⟩⟩
      have eD2 := g8.at go.pn eD (by intro l z; cases z)
      refine ⟨ns.map V.int, eD2, ?_, (go.trans g8).over hD, ns ++ [n], ?_, ?_, ?_⟩
      · rw [List.length_map, sizeLine_eq]
        omega
      · rw [List.length_append]
        show ns.length + 1 = i + 1
        omega
      · intro y hy
        rcases List.mem_append.mp hy with hy | hy
        · exact bn y hy
        · rw [List.mem_singleton] at hy
          rw [hy]
          exact Nat.lt_of_lt_of_le hn (by decide)
      · rw [upd_same, List.map_append]
        rfl
    · rintro H6 ⟨go, ns, ln, bn, eD⟩
      exact qC r z (x + v3) D ns _ H6 (g17.trans go) hth z1 z2 z3 (by omega) bn eD
end
end Wk
set_option Elab.async false
set_option linter.all false
set_option maxRecDepth 100000
set_option maxHeartbeats 4000000
namespace Wk
open PySem L2 PySem.Spec PyProof.Rows
/-! ## the memo -/
def meth (j : Nat) : Stmt := match top 2 with
  | .ClassDef _ _ _ body _ _ _ _ _ _ _ => body.getD j (.Pass ⟨0, 0, 0, 0⟩)
  | s => s
abbrev mInit : Stmt := meth 0
abbrev mLen : Stmt := meth 1
abbrev mIn : Stmt := meth 2
abbrev mKnown : Stmt := meth 3
abbrev mKeep : Stmt := meth 4
abbrev mKept : Stmt := meth 5
def fsM (n : Int) (d : Addr) : List (Str × V) := [("number", .int n), ("_copies", .ref d)]
/-- the memo at x: its number, its dict at d with the entries l -/
structure MemoAt (P : Program) (w : World) (C : Addr) (H : Hp) (x d : Addr) (n : Int) (l : List Ent) : Prop where
  ob : ∃ dx, H x = some (.ins C dx (fsM n d))
  dc : H d = some (memoD P w d l)
  ks : KeysAt H l
structure PlainC (K : PySem.W.Frag) (C : Addr) (fs : List Str) : Prop where
  cl : Cls K C
  no : ∀ f ∈ fs, NoAttr K C f
abbrev PM (K : PySem.W.Frag) (C : Addr) := PlainC K C ["number", "_copies"]
def spInit (P : Program) (w : World) (C : Addr) : Sp := fun vs H Q _ => ∃ (x dx : Addr) (n : Int), vs = [.ref x, .int n] ∧ H x = some (.ins C dx []) ∧
  ∀ (H' : Hp) (d : Addr), (∀ b o, b ≠ x → H b = some o → H' b = some o) → H d = none → d ≠ x → H' x = some (.ins C dx (fsM n d)) → H' d = some (memoD P w d []) → Q .non H'
def spLen (P : Program) (w : World) (C : Addr) : Sp := fun vs H Q _ => ∃ (x d : Addr) (n : Int) (l : List Ent), vs = [.ref x] ∧ MemoAt P w C H x d n l ∧ Q (.int ((l.length : Nat) : Int)) H
def spIn (P : Program) (w : World) (C : Addr) : Sp := fun vs H Q _ => ∃ (x d : Addr) (n : Int) (l : List Ent) (y : V) (o : Option NestedKey), vs = [.ref x, y] ∧ MemoAt P w C H x d n l ∧ TokIs H y o ∧ Q (.bl (o.bind (findE l)).isSome) H
def spKnown (P : Program) (w : World) (C : Addr) : Sp := fun vs H Q _ => ∃ (x d : Addr) (n : Int) (l : List Ent) (y : V) (o : Option NestedKey), vs = [.ref x, y] ∧ MemoAt P w C H x d n l ∧ TokIs H y o ∧ Q (V.ofN (o.bind (findE l))) H
def spKeep (P : Program) (w : World) (C : Addr) : Sp := fun vs H Q _ => ∃ (x d : Addr) (n v : Int) (l : List Ent) (y : V) (o : Option NestedKey), vs = [.ref x, y, .int v] ∧ MemoAt P w C H x d n l ∧ TokIs H y o ∧ l.length < 1000 ∧
  ((o.bind (findE l)).isSome = true ∨ o = none → Q .non H) ∧ (∀ k a, o = some k → y = .ref a → KeyAt H k a → findE l k = none → Q .non (upd H d (memoD P w d (l ++ [(k, a, v)]))))
def spKept (P : Program) (w : World) (C : Addr) : Sp := fun vs H Q _ => ∃ (x d : Addr) (n : Int) (l : List Ent), vs = [.ref x] ∧ MemoAt P w C H x d n l ∧
  ∀ (H2 : Hp) (L : Addr) (bs : List Addr), Same H H2 → H L = none → (∀ b ∈ bs, H b = none) → bs.length = l.length → H2 L = some (.lst (bs.map V.ref)) → (∀ (j : Nat) (b : Addr) (e : Ent), bs[j]? = some b → l[j]? = some e → H2 b = some (.tup [.ref e.2.1, .int e.2.2])) → Q (.ref L) H2
theorem asked {H : Hp} {y : V} {o : Option NestedKey} (h : TokIs H y o) (l : List Ent) : AskedAs H y l (o.bind (findE l)) := by
  cases o with
  | none =>
    obtain rfl := h
    exact .inl ⟨rfl, rfl⟩
  | some k =>
    obtain ⟨a, rfl, h⟩ := h
    exact .inr ⟨k, a, rfl, h, rfl⟩
theorem ne_cn : (("_copies" : Str) == "number") = false := by decide +kernel
theorem lk_number (n : Int) (d : Addr) : List.lookup ("number" : Str) (fsM n d) = some (V.int n) := by simp [fsM, List.lookup]
theorem lk_copies (n : Int) (d : Addr) : List.lookup ("_copies" : Str) (fsM n d) = some (V.ref d) := by simp [fsM, List.lookup, ne_cn]
section
variable {P : Program} {w : World} {K : PySem.W.Frag} {mg : Str → Option Value} {base : Heap}
theorem scInit : FnScope ["self", "number"] ["self", "number"] (defScope mInit) := ⟨rfl, rfl, rfl, by decide +kernel, rfl, by decide +kernel, by decide +kernel⟩
theorem ok_init {f C : Addr} {fd : FuncData} (F : Fun K "__init__" "Memo.__init__" mInit f fd) (M : PM K C) : FnOk P w K mg base CX0 1 f fd ["self", "number"] (spInit P w C) := by
  refine F.ok scInit (fun vs H Q E h => ?_) (fun cdv A outer s H vs Q E hr h => ?_)
  · obtain ⟨x, dx, n, rfl, _⟩ := h
    rfl
  · obtain ⟨x, dx, n, rfl, hx, k⟩ := h
    refine ⟨_, pss_cons (ps_fld (pv 0) (pv 1) rfl) (pss_one (ps_fld (pv 0) pe_mnew rfl)), ?_⟩
    refine ⟨_, rfl, _, rfl, x, C, dx, _, rfl, hx, M.cl, M.no _ (by simp), (by decide), ?_⟩
    intro d hd
    have nd : d ≠ x := fun z => by rw [z, upd_same] at hd; cases hd
    refine ⟨_, rfl, x, C, dx, _, rfl, (by rw [upd_ne (Ne.symm nd)]; exact upd_same), M.cl, M.no _ (by simp), (by show 1 < 1000; decide), ?_⟩
    refine k _ d (fun b o nb e => ?_) (by rw [upd_ne nd] at hd; exact hd) nd ?_ ?_
    · rw [upd_ne nb, upd_ne (fun z => by rw [z] at e; rw [upd_ne nd, e] at hd; cases hd), upd_ne nb]
      exact e
    · rw [upd_same]
      rfl
    · rw [upd_ne nd]
      exact upd_same
theorem scLen : FnScope ["self"] ["self"] (defScope mLen) := ⟨rfl, rfl, rfl, by decide +kernel, rfl, by decide +kernel, by decide +kernel⟩
theorem ok_len {f C : Addr} {fd : FuncData} (F : Fun K "__len__" "Memo.__len__" mLen f fd) (B : Bn mg) (M : PM K C) : FnOk P w K mg base CX0 1 f fd ["self"] (spLen P w C) := by
  refine F.ok scLen (fun vs H Q E h => ?_) (fun cdv A outer s H vs Q E hr h => ?_)
  · obtain ⟨x, d, n, l, rfl, _⟩ := h
    rfl
  · obtain ⟨x, d, n, l, rfl, ⟨⟨dx, hx⟩, hd, hk⟩, k⟩ := h
    refine ⟨_, pss_one (ps_ret (pe_callB call_mlen (by rfl) B.len PySem.boot_len (pa_cons (pe_fld (pv 0) rfl) pa_nil))), ?_⟩
    exact ⟨_, rfl, x, C, dx, _, _, rfl, hx, M.cl, M.no _ (by simp), lk_copies _ _, d, l, rfl, hd, hk, k⟩
theorem scIn : FnScope ["self", "x"] ["self", "x"] (defScope mIn) := ⟨rfl, rfl, rfl, by decide +kernel, rfl, by decide +kernel, by decide +kernel⟩
theorem ok_in {f C : Addr} {fd : FuncData} (F : Fun K "__contains__" "Memo.__contains__" mIn f fd) (M : PM K C) : FnOk P w K mg base CX0 1 f fd ["self", "x"] (spIn P w C) := by
  refine F.ok scIn (fun vs H Q E h => ?_) (fun cdv A outer s H vs Q E hr h => ?_)
  · obtain ⟨x, d, n, l, y, o, rfl, _⟩ := h
    rfl
  · obtain ⟨x, d, n, l, y, o, rfl, ⟨⟨dx, hx⟩, hd, hk⟩, ty, k⟩ := h
    refine ⟨_, pss_one (ps_ret (pe_cmpR (op_min (by have := hr.un; show (A.deeper _).units + 10 < cLine; omega)) (pv 1) (pe_fld (pv 0) rfl) (by rfl))), ?_⟩
    exact ⟨_, rfl, _, rfl, x, C, dx, _, _, rfl, hx, M.cl, M.no _ (by simp), lk_copies _ _, d, l, _, rfl, hd, hk, asked ty l, k⟩
theorem scKnown : FnScope ["self", "key"] ["self", "key"] (defScope mKnown) := ⟨rfl, rfl, rfl, by decide +kernel, rfl, by decide +kernel, by decide +kernel⟩
theorem ok_known {f C : Addr} {fd : FuncData} (F : Fun K "known" "Memo.known" mKnown f fd) (M : PM K C) : FnOk P w K mg base CX0 1 f fd ["self", "key"] (spKnown P w C) := by
  refine F.ok scKnown (fun vs H Q E h => ?_) (fun cdv A outer s H vs Q E hr h => ?_)
  · obtain ⟨x, d, n, l, y, o, rfl, _⟩ := h
    rfl
  · obtain ⟨x, d, n, l, y, o, rfl, ⟨⟨dx, hx⟩, hd, hk⟩, ty, k⟩ := h
    refine ⟨_, pss_one (ps_ret (pe_mG ty_memo PySem.F.plainAttrs_dict PySem.F.slot_dict_get PySem.F.type_dict_get (mt_mget (by have := hr.un; show (A.deeper _).units + 10 < cLine; omega)) (pe_fld (pv 0) rfl) (pa_cons (pv 1) pa_nil))), ?_⟩
    exact ⟨_, rfl, x, C, dx, _, _, rfl, hx, M.cl, M.no _ (by simp), lk_copies _ _, ⟨d, l, rfl, hd⟩, _, rfl, d, l, _, _, rfl, rfl, hd, hk, asked ty l, k⟩
theorem scKept : FnScope ["self"] ["self"] (defScope mKept) := ⟨rfl, rfl, rfl, by decide +kernel, rfl, by decide +kernel, by decide +kernel⟩
theorem ok_kept {f C : Addr} {fd : FuncData} (F : Fun K "kept" "Memo.kept" mKept f fd) (B : Bn mg) (M : PM K C) : FnOk P w K mg base CX0 1 f fd ["self"] (spKept P w C) := by
  refine F.ok scKept (fun vs H Q E h => ?_) (fun cdv A outer s H vs Q E hr h => ?_)
  · obtain ⟨x, d, n, l, rfl, _⟩ := h
    rfl
  · obtain ⟨x, d, n, l, rfl, ⟨⟨dx, hx⟩, hd, hk⟩, k⟩ := h
    refine ⟨_, pss_one (ps_ret (pe_callTy (call_mlist rfl) (by rfl) B.list PyProof.Rows.boot_list (pa_cons (pe_mG0 ty_memo PySem.F.plainAttrs_dict PySem.F.slot_dict_items PySem.F.type_dict_items mt_mitems (pe_fld (pv 0) rfl)) pa_nil))), ?_⟩
    refine ⟨_, rfl, x, C, dx, _, _, rfl, hx, M.cl, M.no _ (by simp), lk_copies _ _, ⟨d, l, rfl, hd⟩, d, l, rfl, rfl, hd, fun p hp => ?_⟩
    have s1 := same_new (o := DX.itemsO p d) hp
    refine ⟨p, d, l, rfl, upd_same, s1 _ _ hd, hk.keeps fun b xs e => s1 _ _ e, fun H2 L bs s2 hL hbs lb h2 all => ?_⟩
    refine k H2 L bs (s1.trans s2) (same_none s1 hL) (fun b hb => same_none s1 (hbs b hb)) lb h2 all
theorem scKeep : FnScope ["self", "key", "new"] ["self", "key", "new"] (defScope mKeep) := ⟨rfl, rfl, rfl, by decide +kernel, rfl, by decide +kernel, by decide +kernel⟩
theorem ok_keep {f C : Addr} {fd : FuncData} (F : Fun K "keep" "Memo.keep" mKeep f fd) (M : PM K C) : FnOk P w K mg base CX0 1 f fd ["self", "key", "new"] (spKeep P w C) := by
  refine F.ok scKeep (fun vs H Q E h => ?_) (fun cdv A outer s H vs Q E hr h => ?_)
  · obtain ⟨x, d, n, v, l, y, o, rfl, _⟩ := h
    rfl
  · obtain ⟨x, d, n, v, l, y, o, rfl, ⟨⟨dx, hx⟩, hd, hk⟩, ty, few, k1, k2⟩ := h
    have hu : (A.deeper (envOfC "Memo.keep" (defScope mKeep) s.heap.objs.size f cdv)).units + 10 < cLine := by
      have := hr.un
      omega
    refine ⟨_, pss_one (ps_if (PW.pt (pw_and (pt_cmp (pc_notN (pv 1))) (pw_and1 (pt_cmpR (op_mnotin hu) (pv 1) (pe_fld (pv 0) rfl) (by rfl))))) (pss_one (ps_mput hu (pe_fld (pv 0) rfl) (pv 1) (pv 2) rfl)) pss_nil), ?_⟩
    refine ⟨_, rfl, _, rfl, ?_⟩
    cases o with
    | none =>
      obtain rfl := ty
      exact k1 (.inr rfl)
    | some ky =>
      obtain ⟨a, rfl, ka⟩ := ty
      refine ⟨_, rfl, _, rfl, x, C, dx, _, _, rfl, hx, M.cl, M.no _ (by simp), lk_copies _ _, d, l, ky, a, rfl, hd, hk, rfl, ka, _, rfl, ?_⟩
      cases e : findE l ky with
      | some m => exact k1 (.inl (by show (findE l ky).isSome = true; rw [e]; rfl))
      | none => exact ⟨_, rfl, _, rfl, x, C, dx, _, _, rfl, hx, M.cl, M.no _ (by simp), lk_copies _ _, _, rfl, d, l, ky, a, v, rfl, rfl, hd, hk, few, rfl, ka, e, k2 ky a rfl rfl ka e⟩
end
end Wk
set_option Elab.async false
set_option linter.all false
set_option maxRecDepth 100000
set_option maxHeartbeats 4000000
namespace Wk
open PySem L2 PySem.Spec PyProof.Rows
/-! ## found -/
abbrev sFound : Stmt := top 8
/-- the law's own list of pairs -/
structure PairsAt (H : Hp) (q : Addr) (rows : List Addr) (l : List Ent) : Prop where
  at_ : H q = some (.lst (rows.map V.ref))
  rw : Paired (fun r (e : Ent) => H r = some (.lst [.ref e.2.1, .int e.2.2])) rows l
structure SmE (e : Ent) : Prop where
  k : SmK e.1
  n : e.2.2.natAbs < 10 ^ 35
theorem PairsAt.same {H H' : Hp} {q : Addr} {rows : List Addr} {l : List Ent} (h : PairsAt H q rows l) (s : Same H H') : PairsAt H' q rows l := ⟨s _ _ h.at_, Paired.mapP h.rw fun _ _ e => s _ _ e⟩
theorem PairsAt.len {H : Hp} {q : Addr} {rows : List Addr} {l : List Ent} (h : PairsAt H q rows l) : rows.length = l.length := Paired.length h.rw
theorem paired_at {α β : Type} {F : α → β → Prop} : ∀ {l₁ : List α} {l₂ : List β}, Paired F l₁ l₂ → ∀ (i : Nat) (x : α), l₁[i]? = some x → ∃ y, l₂[i]? = some y ∧ F x y
  | _, _, .nil, i, x, h => by simp at h
  | _, _, .cons r t, 0, x, h => by
    simp at h
    subst h
    exact ⟨_, rfl, r⟩
  | _, _, .cons r t, i + 1, x, h => by
    simp at h
    obtain ⟨y, hy, hr⟩ := paired_at t i x h
    exact ⟨y, by simpa using hy, hr⟩
theorem find_none : ∀ {l : List Ent} {o : Option NestedKey}, (∀ e ∈ l, o ≠ some e.1) → o.bind (findE l) = none
  | _, none, _ => rfl
  | [], some k, _ => rfl
  | e :: l, some k, h => by
    have h1 : ¬ e.1 = k := fun z => h e List.mem_cons_self (by rw [z])
    show findE (e :: l) k = none
    rw [findE, if_neg h1]
    exact find_none (o := some k) fun e he => h e (List.mem_cons_of_mem _ he)
theorem find_hit : ∀ {l : List Ent} {o : Option NestedKey} (i : Nat) (e : Ent), l[i]? = some e → o = some e.1 → (∀ (j : Nat) (e' : Ent), j < i → l[j]? = some e' → o ≠ some e'.1) → o.bind (findE l) = some e.2.2
  | [], _, i, e, h, _, _ => by simp at h
  | e0 :: l, _, 0, e, h, rfl, _ => by
    simp at h
    subst h
    show findE (e0 :: l) e0.1 = _
    rw [findE, if_pos rfl]
  | e0 :: l, _, i + 1, e, h, rfl, no => by
    have h1 : ¬ e0.1 = e.1 := fun z => no 0 e0 (by omega) rfl (by rw [z])
    show findE (e0 :: l) e.1 = _
    rw [findE, if_neg h1]
    exact find_hit (o := some e.1) i e (by simpa using h) rfl fun j e' hj he => no (j + 1) e' (by omega) (by simpa using he)
theorem eqv_tok {k : NestedKey} (h : SmK k) (o : Option NestedKey) : PyData.eqv k.data (tokD o) = decide (o = some k) := by
  cases o with
  | none => cases h <;> simp [kI, kM, tokD, NestedKey.data, PyData.eqv]
  | some k2 =>
    show PyData.eqv k.data k2.data = _
    rw [eqv_key, ← NestedKey.decide_eq]
    by_cases e : k = k2
    · rw [e]
      simp
    · rw [decide_eq_false e, decide_eq_false fun z => e (Option.some.inj z).symm]
def spFound : Sp := fun vs H Q _ => ∃ (q : Addr) (rows : List Addr) (l : List Ent) (y : V) (o : Option NestedKey), vs = [.ref q, y] ∧ PairsAt H q rows l ∧ KeysAt H l ∧ (∀ e ∈ l, SmE e) ∧ TokIs H y o ∧ (∀ k, o = some k → SmK k) ∧ Q (V.ofN (o.bind (findE l))) H
section
variable {P : Program} {w : World} {K : PySem.W.Frag} {mg : Str → Option Value} {base : Heap}
theorem scFound : FnScope ["_law_pairs", "_law_token_here", "_law_pair"] ["_law_pairs", "_law_token_here"] (defScope sFound) := ⟨rfl, rfl, rfl, by decide +kernel, rfl, by decide +kernel, by decide +kernel⟩
theorem ok_found {f : Addr} {fd : FuncData} (F : Fun K "_law_found" "_law_found" sFound f fd) : FnOk P w K mg base CX0 1 f fd ["_law_pairs", "_law_token_here"] spFound := by
  refine F.ok scFound (fun vs H Q E h => ?_) (fun cdv A outer s H vs Q E hr h => ?_)
  · obtain ⟨q, rows, l, y, o, rfl, _⟩ := h
    rfl
  · obtain ⟨q, rows, l, y, o, rfl, pa, hk, sm, ty, so, k⟩ := h
    refine ⟨_, pss_cons (ps_for PassesOwn.never rfl (pi_list (pv 0)) (pg_name (i := 2) scFound.nd rfl (.inl rfl))
        (pss_one (ps_if (pt_cmpR (op_eqD hr.units) (pe_ix ix_list (pv 2) pe_int (fun _ _ => rfl)) (pv 1) (nomark _)) (pss_one (ps_ret (pe_ix ix_list (pv 2) pe_int (fun _ _ => rfl)))) pss_nil)))
      (pss_one (ps_ret pe_non)), ?_⟩
    refine ⟨_, rfl, q, rfl, ⟨_, SqL.of pa.at_⟩, for_list (K := K) (a := q) (xs := rows.map V.ref) (fun i σ H2 => H2 = H ∧ (∃ v : Option V, σ = [some (.ref q), some y, v]) ∧ ∀ (j : Nat) (e : Ent), j < i → l[j]? = some e → o ≠ some e.1)
      ⟨rfl, ⟨none, rfl⟩, fun j e h => by omega⟩ (fun i σ H2 _ ⟨e, _⟩ => by rw [e]; exact SqL.of pa.at_) ?_ ?_⟩
    · rintro i x σ H2 hi ⟨rfl, ⟨v, rfl⟩, no⟩
      obtain ⟨r, hr2, rfl⟩ : ∃ r, rows[i]? = some r ∧ x = V.ref r := by
        rw [List.getElem?_map] at hi
        cases e : rows[i]? with
        | none => rw [e] at hi; cases hi
        | some r => rw [e] at hi; exact ⟨r, rfl, (Option.some.inj hi).symm⟩
      obtain ⟨e, he, hrow⟩ := paired_at pa.rw i r hr2
      have em := List.mem_of_getElem? he
      refine ⟨_, rfl, r, _, _, _, rfl, rfl, SqL.of hrow, atI_nat (j := 0) rfl, _, rfl, e.1.data, tokD o, (hk e em).dp, ty.dp, shaped_tok (o := some e.1) (fun k z => by cases z; exact (sm e em).k), shaped_tok so, _, rfl, ?_⟩
      rw [eqv_tok (sm e em).k]
      refine ite2 (fun z => ?_) (fun z => ?_)
      · refine ⟨_, rfl, r, _, _, _, rfl, rfl, SqL.of hrow, atI_nat (j := 1) rfl, ?_⟩
        rw [find_hit i e he (of_decide_eq_true z) no] at k
        exact k
      · refine ⟨rfl, ⟨_, rfl⟩, fun j e' hj he' => ?_⟩
        by_cases q : j = i
        · subst q
          rw [he] at he'
          cases he'
          exact fun q => z (decide_eq_true q)
        · exact no j e' (by omega) he'
    · rintro σ H2 ⟨rfl, ⟨v, rfl⟩, no⟩
      rw [find_none (l := l) (o := o) fun e he => by
        obtain ⟨j, hj⟩ := List.mem_iff_getElem?.mp he
        have lt : j < l.length := (List.getElem?_eq_some_iff.mp hj).1
        exact no j e (by rw [List.length_map, pa.len]; exact lt) hj] at k
      exact k
end
end Wk
set_option Elab.async false
set_option linter.all false
set_option maxRecDepth 100000
set_option maxHeartbeats 4000000
namespace Wk
open PySem L2 PySem.Spec PyProof.Rows
/-! ## right -/
abbrev sRight : Stmt := top 9
structure KnownMe (P : Program) (w : World) (K : PySem.W.Frag) (mg : Str → Option Value) (base : Heap) (C : Addr) (m : Str) (ps : List Str) (sp : Sp) (f : Addr) (fd : FuncData) : Prop where
  ok : FnOk P w K mg base CX0 1 f fd ps sp
  me : Meth K C m f
  bi : Binds K fd ps []
/-- the class Memo -/
structure MemoC (P : Program) (w : World) (K : PySem.W.Frag) (mg : Str → Option Value) (base : Heap) (C f1 f2 f3 f4 f5 : Addr) (fd1 fd2 fd3 fd4 fd5 : FuncData) : Prop where
  pl : PM K C
  len : KnownMe P w K mg base C "__len__" ["self"] (spLen P w C) f1 fd1
  in_ : KnownMe P w K mg base C "__contains__" ["self", "x"] (spIn P w C) f2 fd2
  known : KnownMe P w K mg base C "known" ["self", "key"] (spKnown P w C) f3 fd3
  keep : KnownMe P w K mg base C "keep" ["self", "key", "new"] (spKeep P w C) f4 fd4
  kept : KnownMe P w K mg base C "kept" ["self"] (spKept P w C) f5 fd5
theorem lk_none {n : Int} {d : Addr} {m : Str} (h1 : (m == ("number" : Str)) = false) (h2 : (m == ("_copies" : Str)) = false) : List.lookup m (fsM n d) = none := by
  simp [fsM, List.lookup, h1, h2]
def entD (e : Ent) : PyData := .tuple [e.1.data, .int e.2.2]
theorem entD_sm {e : Ent} (h : SmE e) : Sm 3 2402 (entD e) := by
  refine (sm_tup (n := 2) (m := 1200) fun d hd => ?_).le (by decide) (by show 1201 * 2 ≤ 2402; decide)
  simp only [List.mem_cons, List.not_mem_nil, or_false] at hd
  rcases hd with rfl | rfl
  · exact h.k.sm
  · exact (sm_int h.n).le (by decide) (by decide)
theorem ents_sm {l : List Ent} (h : ∀ e ∈ l, SmE e) (hl : l.length ≤ 41) : Sm 4 100000 (.list (l.map entD)) := by
  refine (sm_lst (n := 3) (m := 2402) fun d hd => ?_).le (by decide) (by rw [List.length_map]; omega)
  obtain ⟨e, he, rfl⟩ := List.mem_map.mp hd
  exact entD_sm (h e he)
/-- the tuples bs hold the entries l -/
theorem ents_dp {K : PySem.W.Frag} {H : Hp} : ∀ {bs : List Addr} {l : List Ent}, KeysAt H l → bs.length = l.length → (∀ (j : Nat) (b : Addr) (e : Ent), bs[j]? = some b → l[j]? = some e → H b = some (.tup [.ref e.2.1, .int e.2.2])) → DpAll K H (bs.map V.ref) (l.map entD)
  | [], [], _, _, _ => .nil
  | [], _ :: _, _, h, _ => by simp at h
  | _ :: _, [], _, h, _ => by simp at h
  | b :: bs, e :: l, hk, hl, all => .cons (.tup (SqT.of (all 0 b e rfl rfl)) (.cons (hk e List.mem_cons_self).dp (.cons (.int _) .nil)))
      (ents_dp (fun e he => hk e (List.mem_cons_of_mem _ he)) (by simpa using hl) fun j b e hb he => all (j + 1) b e (by simpa using hb) (by simpa using he))
theorem MemoAt.same {P : Program} {w : World} {C : Addr} {H H' : Hp} {x d : Addr} {n : Int} {l : List Ent} (h : MemoAt P w C H x d n l) (s : Same H H') : MemoAt P w C H' x d n l := by
  obtain ⟨dx, e⟩ := h.ob
  exact ⟨⟨dx, s _ _ e⟩, s _ _ h.dc, h.ks.keeps fun b xs e => s _ _ e⟩
def spRight (P : Program) (w : World) (C : Addr) : Sp := fun vs H Q _ => ∃ (x q d : Addr) (n : Int) (l : List Ent) (rows : List Addr) (y : V) (o : Option NestedKey), vs = [.ref x, .ref q, y, .int n] ∧ MemoAt P w C H x d n l ∧ PairsAt H q rows l ∧ (∀ e ∈ l, SmE e) ∧ l.length ≤ 41 ∧
  TokIs H y o ∧ (∀ k, o = some k → SmK k) ∧ ∀ H', Same H H' → Q (.bl true) H'
abbrev nRight : List Str := ["_law_memo", "_law_pairs", "_law_token_here", "_law_count", "_law_told", "_law_due", "_law_pair"]
theorem boot_isi : bootBuiltins "isinstance" = some (.builtin "isinstance") := by decide +kernel
theorem boot_tbool : bootBuiltins "bool" = some (.type "bool") := by decide +kernel
theorem boot_tlist : bootBuiltins "list" = some (.type "list") := by decide +kernel
theorem scal_ofN (a b : Option Int) : scal (V.ofN a) (V.ofN b) = true := by cases a <;> cases b <;> rfl
theorem ofN_non (a : Option Int) : (!decide (V.ofN a = V.non)) = a.isSome := by
  cases a with
  | none => rfl
  | some n => simp [V.ofN]
section
variable {P : Program} {w : World} {K : PySem.W.Frag} {mg : Str → Option Value} {base : Heap}
theorem scRight : FnScope nRight ["_law_memo", "_law_pairs", "_law_token_here", "_law_count"] (defScope sRight) := ⟨rfl, rfl, rfl, by decide +kernel, rfl, by decide +kernel, by decide +kernel⟩
abbrev KF (P : Program) (w : World) (K : PySem.W.Frag) (mg : Str → Option Value) (base : Heap) := Known P w K mg base CX0 1 "_law_found" ["_law_pairs", "_law_token_here"] spFound
theorem ok_right {f fF C f1 f2 f3 f4 f5 : Addr} {fd fdF fd1 fd2 fd3 fd4 fd5 : FuncData} (F : Fun K "_law_right" "_law_right" sRight f fd) (B : Bn mg) (FO : KF P w K mg base fF fdF) (M : MemoC P w K mg base C f1 f2 f3 f4 f5 fd1 fd2 fd3 fd4 fd5) :
    GOk P w K mg base CX0 3 f fd ["_law_memo", "_law_pairs", "_law_token_here", "_law_count"] (spRight P w C) := by
  refine gok_of F scRight (fun vs H Q E h => ?_) (fun cdv A outer s H vs Q E hG hr h => ?_)
  · obtain ⟨x, q, d, n, l, rows, y, o, rfl, _⟩ := h
    rfl
  · obtain ⟨x, q, d, n, l, rows, y, o, rfl, mm, pa, sm, few, ty, so, k⟩ := h
    have hr1 := hr.mono (j := 1) (by decide)
    have hu20 : (A.deeper (envOfC "_law_right" (defScope sRight) s.heap.objs.size f cdv)).units + 20 < cLine := by
      have := hr.un
      omega
    obtain ⟨dx, hx⟩ := mm.ob
    -- the rest: what is told
    obtain ⟨tC, hC, qC⟩ : ∃ t, PSs (cxOf CX0 P w K mg base nRight "_law_right" (defScope sRight) f cdv A outer s H E) ((defBody sRight).drop 2) t ∧
        t { nx := fun _ H' => Q .non H', rt := Q } [some (.ref x), some (.ref q), some y, some (.int n), none, none, none] H := by
      refine ⟨_, pss_cons (ps_set (i := 4) scRight.nd rfl (.inl rfl) (pe_meth0 (pv 0) M.pl.cl M.kept.me M.kept.ok hr1 M.kept.bi .nil pass0))
        (pss_cons (ps_setLc (i := 5) (own := [("_law_pair", 6)]) (g := gName 6) (tt := tYes) (te := tTup (tCons (tOp (rIxL K) (tVar 6) (tC (.int 0))) (tCons (tOp (rIxL K) (tVar 6) (tC (.int 1))) tNil))) rfl scRight.nd rfl rfl (sw_true rfl rfl rfl (by decide +kernel)) (pi_list (pv 1))
          (blkOk_by (N := nRight) (sc := defScope sRight) (by decide +kernel)) (fun _ _ _ _ _ => pg_name (i := 6) scRight.nd rfl (Or.inl rfl)) (fun _ _ _ _ _ => pts_nil)
          (fun _ _ _ _ _ => pe_tup (pa_cons (pe_ix ix_list (pv 6) pe_int (fun _ _ => rfl)) (pa_cons (pe_ix ix_list (pv 6) pe_int (fun _ _ => rfl)) pa_nil))))
        (pss_cons (ps_if (PW.pt (pw_or (pt_not (pt_val (pe_callB call_isi (by rfl) B.isinstance boot_isi (pa_cons (pv 4) (pa_cons (pe_bltn (v := .ty "list") (by rfl) B.list boot_tlist rfl) pa_nil)))))
            (pw_or1 (pt_cmpR op_ne (pe_callB (call_reprD hG hu20) (by rfl) B.repr boot_repr (pa_cons (pv 4) pa_nil)) (pe_callB (call_reprD hG hu20) (by rfl) B.repr boot_repr (pa_cons (pv 5) pa_nil)) (nomark _)))))
          (pss_one (ps_ret pe_bl)) pss_nil)
        (pss_cons (ps_expr (pe_bm PySem.F.plainAttrs_list PySem.F.slot_list_append PySem.F.type_list_append mt_append (pv 4) (pa_cons (pe_tup (pa_cons pe_non (pa_cons pe_int pa_nil))) pa_nil)))
        (pss_one (ps_ret (pe_cmpR op_eq (pe_callB (call_reprD hG hu20) (by rfl) B.repr boot_repr (pa_cons (pe_meth0 (pv 0) M.pl.cl M.kept.me M.kept.ok hr1 M.kept.bi .nil pass0) pa_nil)) (pe_callB (call_reprD hG hu20) (by rfl) B.repr boot_repr (pa_cons (pv 5) pa_nil)) (nomark _))))))), ?_⟩
      refine ⟨_, rfl, x, dx, _, rfl, hx, lk_none (by decide +kernel) (by decide +kernel), x, d, n, l, rfl, mm, fun H2 L bs s2 hL hbs lb eL all => ?_⟩
      refine ⟨_, rfl, q, rfl, ⟨_, SqL.of (s2 _ _ pa.at_)⟩, fun D hD => ?_⟩
      refine lc_it (walk_list (xs := rows.map V.ref)) (fun i H' => Same H2 H' ∧ ∃ ts : List Addr, ts.length = i ∧ H' D = some (.lst (ts.map V.ref)) ∧ ∀ (j : Nat) (b : Addr) (e : Ent), ts[j]? = some b → l[j]? = some e → H' b = some (.tup [.ref e.2.1, .int e.2.2]))
        ⟨same_new hD, [], rfl, upd_same, fun j b e h => by simp at h⟩ (fun i H' _ r => SqL.of (r.1 _ _ (s2 _ _ pa.at_))) ?_ ?_
      · rintro i v H3 H4 hi ⟨s3, ts, lt, eD, al⟩ ⟨rfl, hv⟩
        obtain ⟨r, hr2, rfl⟩ : ∃ r, rows[i]? = some r ∧ v = V.ref r := by
          rw [List.getElem?_map] at hv
          cases e : rows[i]? with
          | none => rw [e] at hv; cases hv
          | some r => rw [e] at hv; exact ⟨r, rfl, (Option.some.inj hv).symm⟩
        obtain ⟨e, he, hrow⟩ := paired_at pa.rw i r hr2
        have hrow3 := s3 _ _ (s2 _ _ hrow)
        refine ⟨rfl, _, rfl, r, _, _, _, rfl, rfl, SqL.of hrow3, atI_nat (j := 0) rfl, _, rfl, r, _, _, _, rfl, rfl, SqL.of hrow3, atI_nat (j := 1) rfl, (by show 2 ≤ sizeLine; decide), fun t ht => ?_⟩
        have s4 := same_new (o := HO.tup [V.ref e.2.1, V.int e.2.2]) ht
        refine ⟨ts.map V.ref, s4 _ _ eD, ?_, fun b u q => ?_, ts ++ [t], ?_, ?_, ?_⟩
        · rw [List.length_map, lt, sizeLine_eq]
          rw [List.length_map, pa.len] at hi
          omega
        · rw [upd_ne (ne_of_none q hD)]
          exact s4 _ _ (s3 _ _ q)
        · rw [List.length_append]
          show ts.length + 1 = i + 1
          omega
        · rw [upd_same, List.map_append]
          rfl
        · intro j b e' hj he'
          have ntD : ∀ b', upd H4 t (.tup [V.ref e.2.1, V.int e.2.2]) b' = some (.tup [.ref e'.2.1, .int e'.2.2]) → b' ≠ D := fun b' z => ne_of z (s4 _ _ eD) (by intro z; cases z)
          by_cases hlt : j < ts.length
          · rw [List.getElem?_append_left hlt] at hj
            have z := s4 _ _ (al j b e' hj he')
            rw [upd_ne (ntD _ z)]
            exact z
          · have hj2 : j = i := by
              have := (List.getElem?_eq_some_iff.mp hj).1
              rw [List.length_append] at this
              simp at this
              omega
            subst hj2
            rw [← lt, List.getElem?_append_right (Nat.le_refl _), Nat.sub_self] at hj
            simp at hj
            subst hj
            rw [he] at he'
            cases he'
            have z : upd H4 t (.tup [V.ref e.2.1, V.int e.2.2]) t = some (.tup [V.ref e.2.1, V.int e.2.2]) := upd_same
            rw [upd_ne (ntD _ z)]
            exact z
      · rintro H3 ⟨s3, ts, lt, eD, al⟩
        have eL3 := s3 _ _ eL
        have mm3 := (mm.same s2).same s3
        have lt2 : ts.length = l.length := by rw [lt, List.length_map, pa.len]
        have S := ents_sm sm few
        have d1 : Dp K H3 (.ref L) (.list (l.map entD)) := .lst (SqL.of eL3) (ents_dp mm3.ks lb fun j b e hj he => s3 _ _ (all j b e hj he))
        have d2 : Dp K H3 (.ref D) (.list (l.map entD)) := .lst (SqL.of eD) (ents_dp mm3.ks lt2 al)
        refine ⟨_, rfl, .ref L, .ty "list", .type "list", .type "list", true, rfl, .ty _, .base (.lst eL3), kit_ty (by decide +kernel), _, rfl, ?_⟩
        refine ⟨_, rfl, _, _, rfl, d1, S.sh, S.nd, Nat.le_trans S.dp (by decide), S.shown (by decide), _, rfl, _, _, rfl, d2, S.sh, S.nd, Nat.le_trans S.dp (by decide), S.shown (by decide), rfl, _, rfl, ?_⟩
        rw [decide_eq_true rfl]
        refine ⟨_, rfl, .inl ⟨rfl, _, SqL.of eL3⟩, (by show 2 ≤ sizeLine; decide), fun a ha => ?_⟩
        have s4 := same_new (o := HO.tup [V.non, V.int 0]) ha
        refine ⟨L, _, _, rfl, rfl, s4 _ _ eL3, ?_, ?_⟩
        · rw [List.length_map, lb, sizeLine_eq]
          omega
        have s04 : Same H (upd (upd H3 a (.tup [V.non, V.int 0])) L (.lst (bs.map V.ref ++ [.ref a]))) := fun b u e => by
          rw [upd_ne (ne_of_none e hL)]
          exact s4 _ _ (s3 _ _ (s2 _ _ e))
        have d4 : ∀ H5, Same (upd (upd H3 a (.tup [V.non, V.int 0])) L (.lst (bs.map V.ref ++ [.ref a]))) H5 → Dp K H5 (.ref D) (.list (l.map entD)) := by
          intro H5 s5
          have nDL : D ≠ L := Ne.symm (ne_of_none eL hD)
          have key : ∀ b u, b ≠ L → H3 b = some u → H5 b = some u := fun b u nb e => s5 _ _ (by rw [upd_ne nb]; exact s4 _ _ e)
          refine .lst (SqL.of (key _ _ nDL eD)) (ents_dp ((mm.same s04).same s5).ks lt2 fun j b e hj he => ?_)
          have z := al j b e hj he
          exact key _ _ (ne_of z eL3 (by intro q; cases q)) z
        have mm4 := mm.same s04
        obtain ⟨dx4, hx4⟩ := mm4.ob
        refine ⟨_, rfl, x, dx4, _, rfl, hx4, lk_none (by decide +kernel) (by decide +kernel), x, d, n, l, rfl, mm4, fun H5 L5 bs5 s5 hL5 hbs5 lb5 eL5 all5 => ?_⟩
        have d5 : Dp K H5 (.ref L5) (.list (l.map entD)) := .lst (SqL.of eL5) (ents_dp (mm4.same s5).ks lb5 all5)
        refine ⟨_, _, rfl, d5, S.sh, S.nd, Nat.le_trans S.dp (by decide), S.shown (by decide), _, rfl, _, _, rfl, d4 H5 s5, S.sh, S.nd, Nat.le_trans S.dp (by decide), S.shown (by decide), rfl, ?_⟩
        rw [decide_eq_true rfl]
        exact k _ (s04.trans s5)
    have hr2 := hr.mono (j := 2) (by decide)
    refine ⟨_, pss_cons (ps_if (PW.pt (pw_or (pt_cmpR op_ne (pe_callB (call_ownLen M.len.ok M.len.bi pass0 M.len.me.at_ M.len.me.fn hr2) (by rfl) B.len PySem.boot_len (pa_cons (pv 0) pa_nil)) (pe_callB call_len_seq (by rfl) B.len PySem.boot_len (pa_cons (pv 1) pa_nil)) (nomark _))
        (pw_or (pt_cmpR op_ne (pe_fld (pv 0) rfl) (pv 3) (nomark _))
        (pw_or1 (pt_val (pe_callB call_isi (by rfl) B.isinstance boot_isi (pa_cons (pe_callB (call_ownLen M.len.ok M.len.bi pass0 M.len.me.at_ M.len.me.fn hr2) (by rfl) B.len PySem.boot_len (pa_cons (pv 0) pa_nil)) (pa_cons (pe_bltn (v := .ty "bool") (by rfl) B.bool boot_tbool rfl) pa_nil))))))))
        (pss_one (ps_ret pe_bl)) pss_nil)
      (pss_cons (ps_if (PW.pt (pw_or (pt_cmpR op_ne (pe_meth (pv 0) M.pl.cl M.known.me M.known.ok hr1 M.known.bi .nil pass0 (pa_cons (pv 2) pa_nil)) (pe_call FO.ok hr1 rfl FO.mg FO.kp FO.bi .nil pass0 (pa_cons (pv 1) (pa_cons (pv 2) pa_nil))) (nomark _))
        (pw_or1 (pt_cmpR op_ne (pe_cmpR (op_ownIn M.in_.ok M.in_.bi pass0 M.in_.me.at_ M.in_.me.fn hr1) (pv 2) (pv 0) (by rfl)) (pe_cmp (pc_notN (pe_call FO.ok hr1 rfl FO.mg FO.kp FO.bi .nil pass0 (pa_cons (pv 1) (pa_cons (pv 2) pa_nil))))) (nomark _)))))
        (pss_one (ps_ret pe_bl)) pss_nil)
      hC), ?_⟩
    have ll : (l.length : Int) < 2 ^ 63 := by
      have : (2 : Int) ^ 63 = 9223372036854775808 := by decide
      omega
    refine ⟨_, rfl, x, dx, _, rfl, hx, x, d, n, l, rfl, mm, _, rfl, by omega, ll, _, rfl, q, _, rfl, .inl (SqL.of pa.at_), rfl, _, rfl, ?_⟩
    rw [show (!decide (V.int ((l.length : Nat) : Int) = V.int (((rows.map V.ref).length : Nat) : Int))) = false by rw [List.length_map, pa.len, decide_eq_true rfl]; rfl]
    refine ⟨_, rfl, x, C, dx, _, _, rfl, hx, M.pl.cl, M.pl.no _ (by simp), lk_number _ _, _, rfl, rfl, _, rfl, ?_⟩
    rw [decide_eq_true rfl]
    refine ⟨_, rfl, x, dx, _, rfl, hx, x, d, n, l, rfl, mm, _, rfl, by omega, ll, .int _, .ty "bool", .type "int", .type "bool", false, rfl, .ty _, .base (.int _), kit_ty (by decide +kernel), _, rfl, ?_⟩
    refine ⟨_, rfl, x, dx, _, rfl, hx, lk_none (by decide +kernel) (by decide +kernel), _, rfl, x, d, n, l, y, o, rfl, mm, ty, _, rfl, _, rfl, q, rows, l, y, o, rfl, pa, mm.ks, sm, ty, so, scal_ofN _ _, _, rfl, ?_⟩
    rw [decide_eq_true rfl]
    refine ⟨_, rfl, _, rfl, x, dx, _, rfl, hx, x, d, n, l, y, o, rfl, mm, ty, _, rfl, _, rfl, _, rfl, q, rows, l, y, o, rfl, pa, mm.ks, sm, ty, so, rfl, _, rfl, ?_⟩
    rw [ofN_non, decide_eq_true rfl]
    exact qC
end
end Wk
set_option Elab.async false
set_option linter.all false
set_option maxRecDepth 100000
set_option maxHeartbeats 4000000
namespace Wk
open PySem L2 PySem.Spec PyProof.Rows
/-! ## two memos and the law's own pairs -/
structure Ss (P : Program) (w : World) (C : Addr) (Hb H : Hp) (p nb mb kb : Addr) (x d q : Bool → Addr) (n : Bool → Int) (l : Bool → List Ent) (rows : Bool → List Addr) (i : Nat) : Prop where
  g : Gp p Hb H
  nums : H nb = some (.lst [.int (n false), .int (n true)])
  mems : H mb = some (.lst [.ref (x false), .ref (x true)])
  kn : H kb = some (.lst [.ref (q false), .ref (q true)])
  mm : ∀ b, MemoAt P w C H (x b) (d b) (n b) (l b)
  pa : ∀ b, PairsAt H (q b) (rows b) (l b)
  sm : ∀ b, ∀ e ∈ l b, SmE e
  few : ∀ b, (l b).length ≤ i
  dne : ∀ b c, b ≠ c → d b ≠ d c
  qne : ∀ b c, b ≠ c → q b ≠ q c
  qm : ∀ b, q b ≠ nb ∧ q b ≠ mb ∧ q b ≠ kb
  hb : ∀ b, Hb (q b) = none ∧ Hb (d b) = none
section
variable {P : Program} {w : World} {C : Addr} {Hb H H' : Hp} {p nb mb kb : Addr} {x d q : Bool → Addr} {n : Bool → Int} {l : Bool → List Ent} {rows : Bool → List Addr} {i : Nat}
theorem memoD_ne {d : Addr} {l : List Ent} : ∀ ks, memoD P w d l ≠ HO.dK ks := by
  intro ks z
  unfold memoD at z
  cases z
theorem Ss.gp (S : Ss P w C Hb H p nb mb kb x d q n l rows i) (g : Gp p H H') : Ss P w C Hb H' p nb mb kb x d q n l rows i := by
  have at_ : ∀ {b : Addr} {o : HO}, H b = some o → (∀ l, o ≠ .dK l) → H' b = some o := fun e n => g.at S.g.pn e n
  refine ⟨S.g.trans g, at_ S.nums (by intro l z; cases z), at_ S.mems (by intro l z; cases z), at_ S.kn (by intro l z; cases z), fun b => ?_, fun b => ⟨at_ (S.pa b).at_ (by intro l z; cases z), Paired.mapP (S.pa b).rw fun _ _ e => at_ e (by intro l z; cases z)⟩, S.sm, S.few, S.dne, S.qne, S.qm, S.hb⟩
  obtain ⟨dx, e⟩ := (S.mm b).ob
  exact ⟨⟨dx, at_ e (by intro l z; cases z)⟩, at_ (S.mm b).dc memoD_ne, (S.mm b).ks.keeps fun c xs e => at_ e (by intro l z; cases z)⟩
theorem Ss.same (S : Ss P w C Hb H p nb mb kb x d q n l rows i) (g : Same H H') : Ss P w C Hb H' p nb mb kb x d q n l rows i := S.gp ((Gp.refl S.g.pn).same g)
theorem Ss.le {j : Nat} (S : Ss P w C Hb H p nb mb kb x d q n l rows i) (h : i ≤ j) : Ss P w C Hb H p nb mb kb x d q n l rows j :=
  ⟨S.g, S.nums, S.mems, S.kn, S.mm, S.pa, S.sm, fun b => Nat.le_trans (S.few b) h, S.dne, S.qne, S.qm, S.hb⟩
theorem row_ne {u : Addr} {m : Int} {rs : List Addr} : HO.lst [.ref u, .int m] ≠ HO.lst (rs.map V.ref) := by
  intro z
  injection z with z
  match rs, z with
  | [], z => cases z
  | [_], z => cases z
  | a :: b :: _, z =>
    simp at z
theorem Ss.put (S : Ss P w C Hb H p nb mb kb x d q n l rows i) {b : Bool} {k : NestedKey} {a r : Addr} {v : Int} (ka : KeyAt H k a) (sk : SmK k) (sv : v.natAbs < 10 ^ 35)
    (hr : upd H (d b) (memoD P w (d b) (l b ++ [(k, a, v)])) r = none) :
    Ss P w C Hb (upd (upd (upd H (d b) (memoD P w (d b) (l b ++ [(k, a, v)]))) r (.lst [.ref a, .int v])) (q b) (.lst ((rows b).map V.ref ++ [.ref r]))) p nb mb kb x d q n
      (fun c => if c = b then l b ++ [(k, a, v)] else l c) (fun c => if c = b then rows b ++ [r] else rows c) (i + 1) := by
  have hd := (S.mm b).dc
  have hq := (S.pa b).at_
  have ndq : d b ≠ q b := ne_of hd hq (by unfold memoD; intro z; cases z)
  have nrd : r ≠ d b := fun z => by rw [z, upd_same] at hr; cases hr
  have hrH : H r = none := by
    rw [upd_ne nrd] at hr
    exact hr
  have nrq : r ≠ q b := Ne.symm (ne_of_none hq hrH)
  have keep : ∀ z o, z ≠ d b → z ≠ q b → H z = some o → upd (upd (upd H (d b) (memoD P w (d b) (l b ++ [(k, a, v)]))) r (.lst [.ref a, .int v])) (q b) (.lst ((rows b).map V.ref ++ [.ref r])) z = some o := fun z o n1 n2 e => by
    rw [upd_ne n2, upd_ne (ne_of_none e hrH), upd_ne n1]
    exact e
  have fd : upd (upd (upd H (d b) (memoD P w (d b) (l b ++ [(k, a, v)]))) r (.lst [.ref a, .int v])) (q b) (.lst ((rows b).map V.ref ++ [.ref r])) (d b) = some (memoD P w (d b) (l b ++ [(k, a, v)])) := by
    rw [upd_ne ndq, upd_ne (Ne.symm nrd), upd_same]
  have fq : upd (upd (upd H (d b) (memoD P w (d b) (l b ++ [(k, a, v)]))) r (.lst [.ref a, .int v])) (q b) (.lst ((rows b).map V.ref ++ [.ref r])) (q b) = some (.lst ((rows b).map V.ref ++ [.ref r])) := upd_same
  have fr : upd (upd (upd H (d b) (memoD P w (d b) (l b ++ [(k, a, v)]))) r (.lst [.ref a, .int v])) (q b) (.lst ((rows b).map V.ref ++ [.ref r])) r = some (.lst [.ref a, .int v]) := by
    rw [upd_ne nrq, upd_same]
  have gg : Gp p Hb (upd (upd (upd H (d b) (memoD P w (d b) (l b ++ [(k, a, v)]))) r (.lst [.ref a, .int v])) (q b) (.lst ((rows b).map V.ref ++ [.ref r]))) := ((S.g.over (S.hb b).2).new hr).over (S.hb b).1
  generalize upd (upd (upd H (d b) (memoD P w (d b) (l b ++ [(k, a, v)]))) r (.lst [.ref a, .int v])) (q b) (.lst ((rows b).map V.ref ++ [.ref r])) = H4 at *
  -- of other shapes
  have lst : ∀ z xs, H z = some (.lst xs) → z ≠ d b := fun z xs e => ne_of e hd (by unfold memoD; intro q; cases q)
  have tup : ∀ z xs, H z = some (.tup xs) → H4 z = some (.tup xs) := fun z xs e => keep z _ (ne_of e hd (by unfold memoD; intro q; cases q)) (ne_of e hq (by intro q; cases q)) e
  have row : ∀ z u m, H z = some (.lst [.ref u, .int m]) → H4 z = some (.lst [.ref u, .int m]) := fun z u m e => keep z _ (lst _ _ e) (ne_of e hq row_ne) e
  obtain ⟨q1, q2, q3⟩ := S.qm b
  refine ⟨gg, keep _ _ (lst _ _ S.nums) (Ne.symm q1) S.nums, keep _ _ (lst _ _ S.mems) (Ne.symm q2) S.mems, keep _ _ (lst _ _ S.kn) (Ne.symm q3) S.kn, fun c => ?_, fun c => ?_, fun c e he => ?_, fun c => ?_, S.dne, S.qne, S.qm, S.hb⟩
  · obtain ⟨dx, ex⟩ := (S.mm c).ob
    have ex4 := keep _ _ (ne_of ex hd (by unfold memoD; intro q; cases q)) (ne_of ex hq (by intro q; cases q)) ex
    have ks4 := (S.mm c).ks.keeps tup
    by_cases z : c = b
    · subst z
      rw [if_pos rfl]
      refine ⟨⟨dx, ex4⟩, fd, fun e he => ?_⟩
      rcases List.mem_append.mp he with he | he
      · exact ks4 e he
      · rw [List.mem_singleton] at he
        subst he
        exact ka.keeps tup
    · rw [if_neg z]
      exact ⟨⟨dx, ex4⟩, keep _ _ (S.dne _ _ z) (ne_of (S.mm c).dc hq (by unfold memoD; intro q; cases q)) (S.mm c).dc, ks4⟩
  · by_cases z : c = b
    · subst z
      simp only [if_true]
      refine ⟨by rw [List.map_append]; exact fq, Paired.snoc (Paired.mapP (S.pa c).rw fun _ _ e => row _ _ _ e) fr⟩
    · simp only [if_neg z]
      exact ⟨keep _ _ (lst _ _ (S.pa c).at_) (S.qne _ _ z) (S.pa c).at_, Paired.mapP (S.pa c).rw fun _ _ e => row _ _ _ e⟩
  · by_cases z : c = b
    · subst z
      simp only [if_true] at he
      rcases List.mem_append.mp he with he | he
      · exact S.sm c e he
      · rw [List.mem_singleton] at he
        subst he
        exact ⟨sk, sv⟩
    · simp only [if_neg z] at he
      exact S.sm c e he
  · have f := S.few
    by_cases z : c = b
    · subst z
      simp only [if_true]
      rw [List.length_append]
      show (l c).length + 1 ≤ i + 1
      exact Nat.succ_le_succ (f c)
    · simp only [if_neg z]
      exact Nat.le_succ_of_le (f c)
def bI (b : Bool) : Int := if b = true then 1 else 0
theorem at_two (u : Bool → V) (b : Bool) : atI [u false, u true] (bI b) = some (u b) := by
  cases b
  · exact atI_nat (j := 0) rfl
  · exact atI_nat (j := 1) rfl
theorem bI_not (b : Bool) : 1 - bI b = bI (!b) := by cases b <;> rfl
end
end Wk
set_option Elab.async false
set_option linter.all false
set_option maxRecDepth 100000
set_option maxHeartbeats 4000000
namespace Wk
open PySem L2 PySem.Spec PyProof.Rows
abbrev sLaw : Stmt := top 10
def loopBody : Stmt → List Stmt
  | .For _ _ b _ _ => b
  | _ => []
def ifBody : Stmt → List Stmt
  | .If _ b _ _ => b
  | _ => []
abbrev sFor : Stmt := (defBody sLaw).getD 5 (.Pass ⟨0, 0, 0, 0⟩)
abbrev lb : List Stmt := loopBody sFor
abbrev nLaw : List Str := ["_law_script", "_law_pen_here", "_law_first", "_law_numbers", "_law_memos", "_law_known", "_law_turn", "_law_at", "_law_memo", "_law_pairs", "_law_right_here", "_law_token_here", "_law_new"]
structure KnownG (P : Program) (w : World) (K : PySem.W.Frag) (mg : Str → Option Value) (base : Heap) (k : Nat) (x : Str) (ps : List Str) (sp : Sp) (f : Addr) (fd : FuncData) : Prop where
  ok : GOk P w K mg base CX0 k f fd ps sp
  mg : mg x = some (.ref f)
  kp : PySem.W.keepIn K (.ref f) = true
  bi : Binds K fd ps []
abbrev KR (P : Program) (w : World) (K : PySem.W.Frag) (mg : Str → Option Value) (base : Heap) (C : Addr) := KnownG P w K mg base 3 "_law_right" ["_law_memo", "_law_pairs", "_law_token_here", "_law_count"] (spRight P w C)
abbrev KTk (P : Program) (w : World) (K : PySem.W.Frag) (mg : Str → Option Value) (base : Heap) := KnownG P w K mg base 3 "_law_token" ["_law_pen_here"] spTok
section
variable {P : Program} {w : World} {K : PySem.W.Frag} {mg : Str → Option Value} {base : Heap}
theorem scLaw : FnScope nLaw ["_law_script"] (defScope sLaw) := ⟨rfl, rfl, rfl, by decide +kernel, rfl, by decide +kernel, by decide +kernel⟩
variable {f : Addr} {cdv : Value} {A : Around} {outer : List Env} {s : Shared} {H0 : Hp} {E : XK}
abbrev cxL (P : Program) (w : World) (K : PySem.W.Frag) (mg : Str → Option Value) (base : Heap) (f : Addr) (cdv : Value) (A : Around) (outer : List Env) (s : Shared) (H0 : Hp) (E : XK) := (cxOf CX0 P w K mg base nLaw "law" (defScope sLaw) f cdv A outer s H0 E).nox
theorem turn_end {C fR f1 f2 f3 f4 f5 : Addr} {fdR fd1 fd2 fd3 fd4 fd5 : FuncData} (hG : (A.deeper (envOfC "law" (defScope sLaw) s.heap.objs.size f cdv)).guards = some []) (hr : Room 3 (A.deeper (envOfC "law" (defScope sLaw) s.heap.objs.size f cdv)))
    (R : KR P w K mg base C fR fdR) (M : MemoC P w K mg base C f1 f2 f3 f4 f5 fd1 fd2 fd3 fd4 fd5) :
    ∃ t, PSs (cxL P w K mg base f cdv A outer s H0 E) (lb.drop 6) t ∧
      ∀ (D : Ends) (Hb H : Hp) (p nb mb kb : Addr) (x d q : Bool → Addr) (n : Bool → Int) (l : Bool → List Ent) (rows : Bool → List Addr) (i : Nat) (b : Bool) (y : V) (o : Option NestedKey) (y0 y1 y2 y6 y10 y12 : Option V),
        Ss P w C Hb H p nb mb kb x d q n l rows i → i ≤ 41 → TokIs H y o → (∀ k, o = some k → SmK k) →
        (∀ H', Same H H' → D.nx [y0, y1, y2, some (.ref nb), some (.ref mb), some (.ref kb), y6, some (.int (bI b)), some (.ref (x b)), some (.ref (q b)), y10, some y, y12] H') →
        t D [y0, y1, y2, some (.ref nb), some (.ref mb), some (.ref kb), y6, some (.int (bI b)), some (.ref (x b)), some (.ref (q b)), y10, some y, y12] H := by
  have hr1 := hr.mono (j := 1) (by decide)
  refine ⟨_, pss_cons (ps_if (PW.pt (pw_or (pt_not (pt_val (pe_callG hG R.ok hr rfl R.mg R.kp R.bi pass0 (pa_cons (pv 8) (pa_cons (pv 9) (pa_cons (pv 11) (pa_cons (pe_ix ix_list (pv 3) (pv 7) (fun _ _ => rfl)) pa_nil)))))))
        (pw_or (pt_cmpR (op_ownIn M.in_.ok M.in_.bi pass0 M.in_.me.at_ M.in_.me.fn hr1) pe_non (pv 8) (by rfl))
        (pw_or1 (pt_cmp (pc_notN (pe_meth (pv 8) M.pl.cl M.known.me M.known.ok hr1 M.known.bi .nil pass0 (pa_cons pe_non pa_nil))))))))
      (pss_one (ps_ret pe_bl)) pss_nil)
    (pss_one (ps_if (pt_not (pt_val (pe_callG hG R.ok hr rfl R.mg R.kp R.bi pass0 (pa_cons (pe_ix ix_list (pv 4) (pe_op op_sub pe_int (pv 7)) (fun _ _ => rfl)) (pa_cons (pe_ix ix_list (pv 5) (pe_op op_sub pe_int (pv 7)) (fun _ _ => rfl)) (pa_cons (pv 11) (pa_cons (pe_ix ix_list (pv 3) (pe_op op_sub pe_int (pv 7)) (fun _ _ => rfl)) pa_nil)))))))
      (pss_one (ps_ret pe_bl)) pss_nil)), ?_⟩
  intro D Hb H p nb mb kb x d q n l rows i b y o y0 y1 y2 y6 y10 y12 S hi T so k
  refine ⟨_, rfl, _, rfl, _, rfl, _, rfl, _, rfl, nb, _, _, _, rfl, rfl, SqL.of S.nums, at_two (fun b => .int (n b)) b, ?_⟩
  dsimp only [tCons, L2.tC, tNil, List.append_nil]
  refine ⟨x b, q b, d b, n b, l b, rows b, y, o, rfl, S.mm b, S.pa b, S.sm b, Nat.le_trans (S.few b) hi, T, so, fun H1 s1 => ⟨_, rfl, ?_⟩⟩
  have S1 := S.same s1
  obtain ⟨dx, hx⟩ := (S1.mm b).ob
  refine ⟨_, rfl, x b, dx, _, rfl, hx, x b, d b, n b, l b, .non, none, rfl, S1.mm b, rfl, _, rfl, _, rfl, ?_⟩
  refine ⟨_, rfl, x b, dx, _, rfl, hx, lk_none (by decide +kernel) (by decide +kernel), x b, d b, n b, l b, .non, none, rfl, S1.mm b, rfl, _, rfl, ?_⟩
  rw [ofN_non]
  refine ite2 (fun z => (by cases z)) (fun _ => ?_)
  have at1 : ∀ u : Bool → V, atI [u false, u true] (1 - bI b) = some (u (!b)) := fun u => by
    rw [bI_not]
    exact at_two u (!b)
  refine ⟨_, rfl, _, rfl, _, _, rfl, rfl, mb, _, _, _, rfl, rfl, SqL.of S1.mems, at1 (fun b => .ref (x b)), _, rfl, _, rfl, _, _, rfl, rfl, kb, _, _, _, rfl, rfl, SqL.of S1.kn, at1 (fun b => .ref (q b)), _, rfl, _, rfl, _, rfl, _, _, rfl, rfl, nb, _, _, _, rfl, rfl, SqL.of S1.nums, at1 (fun b => .int (n b)), ?_⟩
  dsimp only [tCons, L2.tC, tNil, List.append_nil]
  refine ⟨x (!b), q (!b), d (!b), n (!b), l (!b), rows (!b), y, o, rfl, S1.mm _, S1.pa _, S1.sm _, Nat.le_trans (S1.few _) hi, T.keeps fun c xs e => s1 _ _ e, so, fun H2 s2 => ⟨_, rfl, ?_⟩⟩
  exact k H2 (s1.trans s2)
end
end Wk
set_option Elab.async false
set_option linter.all false
set_option maxRecDepth 100000
set_option maxHeartbeats 4000000
namespace Wk
open PySem L2 PySem.Spec PyProof.Rows
section
variable {P : Program} {w : World} {K : PySem.W.Frag} {mg : Str → Option Value} {base : Heap} {f : Addr} {cdv : Value} {A : Around} {outer : List Env} {s : Shared} {H0 : Hp} {E : XK}
theorem turn_mid {C fR fT fF f1 f2 f3 f4 f5 : Addr} {fdR fdT fdF fd1 fd2 fd3 fd4 fd5 : FuncData} (hG : (A.deeper (envOfC "law" (defScope sLaw) s.heap.objs.size f cdv)).guards = some []) (hr : Room 3 (A.deeper (envOfC "law" (defScope sLaw) s.heap.objs.size f cdv)))
    (R : KR P w K mg base C fR fdR) (T : KT P w K mg base fT fdT) (FO : KF P w K mg base fF fdF) (M : MemoC P w K mg base C f1 f2 f3 f4 f5 fd1 fd2 fd3 fd4 fd5) :
    ∃ t, PSs (cxL P w K mg base f cdv A outer s H0 E) (lb.drop 5) t ∧
      ∀ (D : Ends) (Hb H : Hp) (p nb mb kb : Addr) (x d q : Bool → Addr) (n : Bool → Int) (l : Bool → List Ent) (rows : Bool → List Addr) (i : Nat) (b : Bool) (y : V) (o : Option NestedKey) (y0 y2 y6 y10 y12 : Option V),
        Ss P w C Hb H p nb mb kb x d q n l rows i → i ≤ 40 → TokIs H y o → (∀ k, o = some k → SmK k) →
        (∀ H' l' rows' z12, Ss P w C Hb H' p nb mb kb x d q n l' rows' (i + 1) → D.nx [y0, some (.ref p), y2, some (.ref nb), some (.ref mb), some (.ref kb), y6, some (.int (bI b)), some (.ref (x b)), some (.ref (q b)), y10, some y, z12] H') →
        t D [y0, some (.ref p), y2, some (.ref nb), some (.ref mb), some (.ref kb), y6, some (.int (bI b)), some (.ref (x b)), some (.ref (q b)), y10, some y, y12] H := by
  have hr1 := hr.mono (j := 1) (by decide)
  obtain ⟨tE, hE, qE⟩ := turn_end (P := P) (w := w) (K := K) (mg := mg) (base := base) (f := f) (cdv := cdv) (A := A) (outer := outer) (s := s) (H0 := H0) (E := E) hG hr R M
  refine ⟨_, pss_cons (ps_if (pt_cmpR op_gt (pe_call T.ok hr1 rfl T.mg T.kp T.bi .nil pass0 (pa_cons (pv 1) (pa_cons pe_int pa_nil))) pe_int (nomark _))
      (pss_cons (ps_set (i := 12) scLaw.nd rfl (.inl rfl) (pe_op op_add (pe_ix ix_list (pe_lst (pa_cons pe_int (pa_cons pe_int (pa_cons pe_int pa_nil)))) (pe_call T.ok hr1 rfl T.mg T.kp T.bi .nil pass0 (pa_cons (pv 1) (pa_cons pe_int pa_nil))) (fun _ _ => rfl)) (pe_call T.ok hr1 rfl T.mg T.kp T.bi .nil pass0 (pa_cons (pv 1) (pa_cons pe_int pa_nil)))))
      (pss_cons (ps_if (pt_cmp (pc_notN (pe_meth (pv 8) M.pl.cl M.keep.me M.keep.ok hr1 M.keep.bi .nil pass0 (pa_cons (pv 11) (pa_cons (pv 12) pa_nil))))) (pss_one (ps_ret pe_bl)) pss_nil)
      (pss_one (ps_if (PW.pt (pw_and (pt_cmp (pc_notN (pv 11))) (pw_and1 (pt_cmp (pc_isN (pe_call FO.ok hr1 rfl FO.mg FO.kp FO.bi .nil pass0 (pa_cons (pv 9) (pa_cons (pv 11) pa_nil))))))))
        (pss_one (ps_expr (pe_bm PySem.F.plainAttrs_list PySem.F.slot_list_append PySem.F.type_list_append mt_append (pv 9) (pa_cons (pe_lst (pa_cons (pv 11) (pa_cons (pv 12) pa_nil))) pa_nil)))) pss_nil))))
      pss_nil) hE, ?_⟩
  intro D Hb H p nb mb kb x d q n l rows i b y o y0 y2 y6 y10 y12 S hi Tk so k
  have tg : ∀ {H1 H2 : Hp}, Pn p H1 → Gp p H1 H2 → TokIs H1 y o → TokIs H2 y o := fun pn g t => t.keeps fun c xs e => g.at pn e (by intro l z; cases z)
  refine ⟨_, rfl, p, 3, rfl, S.g.pn, by decide, by decide, fun v1 H1 a0 a1 g1 => ?_⟩
  have S1 := S.gp g1
  have T1 := tg S.g.pn g1 Tk
  refine ⟨_, _, rfl, rfl, _, rfl, ?_⟩
  refine ite2 (fun _ => ?_) (fun _ => ?_)
  · refine ⟨(by show 3 ≤ sizeLine; decide), fun u hu => ?_⟩
    have g2 : Gp p H1 (upd H1 u (.lst [.int 1, .int 5, .int 3999])) := (Gp.refl S1.g.pn).new hu
    refine ⟨_, rfl, p, 3, rfl, g2.pn, by decide, by decide, fun v2 H2 b0 b1 g3 => ?_⟩
    have hl := g3.at g2.pn upd_same (by intro l z; cases z)
    obtain ⟨j, rfl⟩ := Int.eq_ofNat_of_zero_le b0
    have hj : j < 3 := by omega
    obtain ⟨z, hz, z0, z1⟩ : ∃ z : Int, ([V.int 1, V.int 5, V.int 3999] : List V)[j]? = some (.int z) ∧ 0 ≤ z ∧ z ≤ 3999 := by
      match j, hj with
      | 0, _ => exact ⟨_, rfl, by decide, by decide⟩
      | 1, _ => exact ⟨_, rfl, by decide, by decide⟩
      | 2, _ => exact ⟨_, rfl, by decide, by decide⟩
    refine ⟨u, _, _, _, rfl, rfl, SqL.of hl, atI_nat hz, ?_⟩
    refine ⟨_, rfl, p, 2, rfl, g3.pn, by decide, by decide, fun v3 H3 c0 c1 g4 => ?_⟩
    refine ⟨_, _, rfl, rfl, ?_⟩
    have g14 := (g2.trans g3).trans g4
    have S3 := S1.gp g14
    have T3 := tg S1.g.pn g14 T1
    have sv : (z + v3).natAbs < 10 ^ 35 := by
      have : (10 : Nat) ^ 35 = 100000000000000000000000000000000000 := by decide
      omega
    clear hl hz hu g1 g2 g3 g4 g14
    obtain ⟨dx, hx⟩ := (S3.mm b).ob
    have fw := S3.few b
    refine ⟨_, rfl, x b, dx, _, rfl, hx, lk_none (by decide +kernel) (by decide +kernel), _, rfl, _, rfl, x b, d b, n b, z + v3, l b, y, o, rfl, S3.mm b, T3, by omega, fun hc => ?_, fun ky a eo ey ka no => ?_⟩
    · refine ⟨_, rfl, ?_⟩
      refine ite2 (fun q => (by cases q)) (fun _ => ?_)
      have fin := fun (y12 : Option V) => qE D Hb H3 p nb mb kb x d q n l rows (i + 1) b y o y0 (some (.ref p)) y2 y6 y10 y12 (S3.le (Nat.le_succ i)) (by omega) T3 so fun H' s' => k H' l rows _ ((S3.le (Nat.le_succ i)).same s')
      cases o with
      | none =>
        obtain rfl := T3
        exact ⟨_, rfl, _, rfl, fin _⟩
      | some ky =>
        obtain ⟨a, rfl, ka⟩ := T3
        refine ⟨_, rfl, _, rfl, _, rfl, _, rfl, q b, rows b, l b, .ref a, some ky, rfl, S3.pa b, (S3.mm b).ks, S3.sm b, ⟨a, rfl, ka⟩, so, _, rfl, ?_⟩
        rcases hc with hc | hc
        · obtain ⟨m, hm⟩ := Option.isSome_iff_exists.mp hc
          rw [hm]
          exact fin _
        · cases hc
    · refine ⟨_, rfl, ?_⟩
      refine ite2 (fun q => (by cases q)) (fun _ => ?_)
      subst eo ey
      have hd := (S3.mm b).dc
      have hq := (S3.pa b).at_
      have keep2 : ∀ c o, c ≠ d b → H3 c = some o → upd H3 (d b) (memoD P w (d b) (l b ++ [(ky, a, z + v3)])) c = some o := fun c o nc e => by
        rw [upd_ne nc]
        exact e
      have lst : ∀ c xs, H3 c = some (.lst xs) → upd H3 (d b) (memoD P w (d b) (l b ++ [(ky, a, z + v3)])) c = some (.lst xs) := fun c xs e => keep2 c _ (ne_of e hd (by unfold memoD; intro q; cases q)) e
      have tup : ∀ c xs, H3 c = some (.tup xs) → upd H3 (d b) (memoD P w (d b) (l b ++ [(ky, a, z + v3)])) c = some (.tup xs) := fun c xs e => keep2 c _ (ne_of e hd (by unfold memoD; intro q; cases q)) e
      refine ⟨_, rfl, _, rfl, _, rfl, _, rfl, q b, rows b, l b, .ref a, some ky, rfl, ⟨lst _ _ hq, Paired.mapP (S3.pa b).rw fun _ _ e => lst _ _ e⟩, (S3.mm b).ks.keeps tup, S3.sm b, ⟨a, rfl, ka.keeps tup⟩, so, _, rfl, ?_⟩
      rw [show Option.bind (some ky) (findE (l b)) = none from no]
      refine ⟨_, rfl, .inl ⟨rfl, _, SqL.of (lst _ _ hq)⟩, _, rfl, _, rfl, (by show 2 ≤ sizeLine; decide), fun r hr => ?_⟩
      refine ⟨q b, _, _, rfl, rfl, same_new hr _ _ (lst _ _ hq), ?_, ?_⟩
      · rw [List.length_map, (S3.pa b).len, sizeLine_eq]
        omega
      have S4 := S3.put (b := b) ka (so ky rfl) sv hr
      refine qE D Hb _ p nb mb kb x d q n _ _ (i + 1) b (.ref a) (some ky) y0 (some (.ref p)) y2 y6 y10 _ S4 (by omega) ⟨a, rfl, ?_⟩ so fun H' s' => k H' _ _ _ (S4.same s')
      refine ka.keeps fun c xs e => ?_
      rw [upd_ne (ne_of e hq (by intro q; cases q))]
      exact same_new hr _ _ (tup _ _ e)
  · exact qE D Hb H1 p nb mb kb x d q n l rows (i + 1) b y o y0 (some (.ref p)) y2 y6 y10 y12 (S1.le (Nat.le_succ i)) (by omega) T1 so fun H' s' => k H' l rows _ ((S1.le (Nat.le_succ i)).same s')
end
end Wk
set_option Elab.async false
set_option linter.all false
set_option maxRecDepth 100000
set_option maxHeartbeats 4000000
namespace Wk
open PySem L2 PySem.Spec PyProof.Rows
section
variable {P : Program} {w : World} {K : PySem.W.Frag} {mg : Str → Option Value} {base : Heap} {f : Addr} {cdv : Value} {A : Around} {outer : List Env} {s : Shared} {H0 : Hp} {E : XK}
theorem turn_all {C fR fT fF fK f1 f2 f3 f4 f5 : Addr} {fdR fdT fdF fdK fd1 fd2 fd3 fd4 fd5 : FuncData} (hG : (A.deeper (envOfC "law" (defScope sLaw) s.heap.objs.size f cdv)).guards = some []) (hr : Room 3 (A.deeper (envOfC "law" (defScope sLaw) s.heap.objs.size f cdv)))
    (R : KR P w K mg base C fR fdR) (T : KT P w K mg base fT fdT) (FO : KF P w K mg base fF fdF) (TK : KTk P w K mg base fK fdK) (M : MemoC P w K mg base C f1 f2 f3 f4 f5 fd1 fd2 fd3 fd4 fd5) :
    ∃ t, PSs (cxL P w K mg base f cdv A outer s H0 E) lb t ∧
      ∀ (D : Ends) (Hb H : Hp) (p nb mb kb : Addr) (x d q : Bool → Addr) (n : Bool → Int) (l : Bool → List Ent) (rows : Bool → List Addr) (i : Nat) (y0 y2 y6 y7 y8 y9 y10 y11 y12 : Option V),
        Ss P w C Hb H p nb mb kb x d q n l rows i → i ≤ 40 →
        (∀ H' l' rows' z7 z8 z9 z10 z11 z12, Ss P w C Hb H' p nb mb kb x d q n l' rows' (i + 1) → D.nx [y0, some (.ref p), y2, some (.ref nb), some (.ref mb), some (.ref kb), y6, z7, z8, z9, z10, z11, z12] H') →
        t D [y0, some (.ref p), y2, some (.ref nb), some (.ref mb), some (.ref kb), y6, y7, y8, y9, y10, y11, y12] H := by
  have hr1 := hr.mono (j := 1) (by decide)
  obtain ⟨tE, hE, qE⟩ := turn_mid (P := P) (w := w) (K := K) (mg := mg) (base := base) (f := f) (cdv := cdv) (A := A) (outer := outer) (s := s) (H0 := H0) (E := E) hG hr R T FO M
  refine ⟨_, pss_cons (ps_set (i := 7) scLaw.nd rfl (.inl rfl) (pe_call T.ok hr1 rfl T.mg T.kp T.bi .nil pass0 (pa_cons (pv 1) (pa_cons pe_int pa_nil))))
    (pss_cons (ps_set (i := 8) scLaw.nd rfl (.inl rfl) (pe_ix ix_list (pv 4) (pv 7) (fun _ _ => rfl)))
    (pss_cons (ps_set (i := 9) scLaw.nd rfl (.inl rfl) (pe_ix ix_list (pv 5) (pv 7) (fun _ _ => rfl)))
    (pss_cons (ps_asg (pe_callG hG TK.ok hr rfl TK.mg TK.kp TK.bi pass0 (pa_cons (pv 1) pa_nil)) (pg_lst rfl (pgs_cons (pg_name (i := 10) scLaw.nd rfl (.inl rfl)) (pgs_cons (pg_name (i := 11) scLaw.nd rfl (.inl rfl)) pgs_nil))))
    (pss_cons (ps_if (pt_not (pt_val (pv 10))) (pss_one (ps_ret pe_bl)) pss_nil) hE)))), ?_⟩
  intro D Hb H p nb mb kb x d q n l rows i y0 y2 y6 y7 y8 y9 y10 y11 y12 S hi k
  refine ⟨_, rfl, p, 2, rfl, S.g.pn, by decide, by decide, fun v H1 v0 v1 g1 => ?_⟩
  have S1 := S.gp g1
  obtain ⟨b, rfl⟩ : ∃ b : Bool, v = bI b := by
    have hv : v = 0 ∨ v = 1 := by omega
    rcases hv with rfl | rfl
    · exact ⟨false, rfl⟩
    · exact ⟨true, rfl⟩
  refine ⟨_, rfl, _, rfl, mb, _, _, _, rfl, rfl, SqL.of S1.mems, at_two (fun b => .ref (x b)) b, ?_⟩
  refine ⟨_, rfl, _, rfl, kb, _, _, _, rfl, rfl, SqL.of S1.kn, at_two (fun b => .ref (q b)) b, ?_⟩
  refine ⟨_, rfl, p, rfl, S1.g.pn, fun L tok o H2 g2 hL T2 so => ?_⟩
  refine ⟨L, _, rfl, SqL.of hL, rfl, ?_⟩
  have S2 := S1.gp g2
  refine ⟨_, _, rfl, _, _, rfl, rfl, ?_⟩
  refine ⟨_, rfl, _, rfl, ?_⟩
  exact qE D Hb H2 p nb mb kb x d q n l rows i b tok o y0 y2 y6 _ _ S2 hi T2 so fun H' l' rows' z12 S' => k H' l' rows' _ _ _ _ _ _ S'
end
end Wk
set_option Elab.async false
set_option linter.all false
set_option maxRecDepth 100000
set_option maxHeartbeats 4000000
namespace Wk
open PySem L2 PySem.Spec PyProof.Rows
def spLaw (K : PySem.W.Frag) : Sp := fun vs H Q _ => ∃ (a : Addr) (ns : List Int), vs = [.ref a] ∧ SqL K H a (ns.map V.int) ∧ ns.length ≤ 63 ∧ ∀ H', Q (.bl true) H'
structure MkC (P : Program) (w : World) (K : PySem.W.Frag) (mg : Str → Option Value) (base : Heap) (C fI : Addr) (fdI : FuncData) : Prop where
  ok : FnOk P w K mg base CX0 1 fI fdI ["self", "number"] (spInit P w C)
  made : Mk K C fI
  gl : mg "Memo" = some (.ref C)
  bi : Binds K fdI ["self", "number"] []
  kb : KBn K fdI ["self", "number"] 1 ["number"] (fun us ws => us ++ ws) (fun vs zs => vs ++ zs)
theorem Gp.none {p z : Addr} {H H' : Hp} (g : Gp p H H') (h : H' z = none) : H z = none := by
  cases e : H z with
  | none => rfl
  | some o =>
    by_cases q : z = p
    · obtain ⟨c, ns, a, r, d, m, t, S⟩ := g.pn
      rw [q, S.pd] at h
      cases h
    · rw [g.but _ _ q e] at h
      cases h
theorem made_same {H H' : Hp} {x dx C : Addr} (hx : H x = none) (hdx : H dx = none) (keep : ∀ b o, b ≠ x → upd (upd H dx (.own x)) x (.ins C dx []) b = some o → H' b = some o) : Same H H' := fun b o e =>
  keep b o (ne_of_none e hx) (by rw [upd_ne (ne_of_none e hx), upd_ne (ne_of_none e hdx)]; exact e)
theorem made_none {H : Hp} {x dx C d : Addr} (hx : H x = none) (h : upd (upd H dx (.own x)) x (.ins C dx []) d = none) : H d = none := by
  cases e : H d with
  | none => rfl
  | some o =>
    exfalso
    by_cases z : d = dx
    · subst z
      by_cases y : d = x
      · subst y
        rw [upd_same] at h
        cases h
      · rw [upd_ne y, upd_same] at h
        cases h
    · rw [upd_ne (ne_of_none e hx), upd_ne z, e] at h
      cases h
section
variable {P : Program} {w : World} {K : PySem.W.Frag} {mg : Str → Option Value} {base : Heap}
abbrev KP (P : Program) (w : World) (K : PySem.W.Frag) (mg : Str → Option Value) (base : Heap) := Known P w K mg base CX0 1 "_law_pen" ["_law_script"] (spPen K)
theorem ok_law {f fP fR fT fF fK C fI f1 f2 f3 f4 f5 : Addr} {fd fdP fdR fdT fdF fdK fdI fd1 fd2 fd3 fd4 fd5 : FuncData} (F : Fun K "law" "law" sLaw f fd) (B : Bn mg) (PN : KP P w K mg base fP fdP)
    (R : KR P w K mg base C fR fdR) (T : KT P w K mg base fT fdT) (FO : KF P w K mg base fF fdF) (TK : KTk P w K mg base fK fdK) (M : MemoC P w K mg base C f1 f2 f3 f4 f5 fd1 fd2 fd3 fd4 fd5) (I : MkC P w K mg base C fI fdI) (O : IdEqual K C) :
    GOk P w K mg base CX0 4 f fd ["_law_script"] (spLaw K) := by
  refine gok_of F scLaw (fun vs H Q E h => ?_) (fun cdv A outer s H vs Q E hG hr h => ?_)
  · obtain ⟨a, ns, rfl, _⟩ := h
    rfl
  · obtain ⟨a, ns, rfl, hS, few, k⟩ := h
    have hr1 := hr.mono (j := 1) (by decide)
    have hr2 := hr.mono (j := 2) (by decide)
    have hu1 : (A.deeper (envOfC "law" (defScope sLaw) s.heap.objs.size f cdv)).units + 1 < cLine := by
      have := hr.un
      omega
    obtain ⟨tT, hT, qT⟩ := turn_all (P := P) (w := w) (K := K) (mg := mg) (base := base) (f := f) (cdv := cdv) (A := A) (outer := outer) (s := s) (H0 := H) (E := E) hG hr R T FO TK M
    -- the loop and what is told behind it
    obtain ⟨tL, hL, qL⟩ : ∃ t, PSs (cxL P w K mg base f cdv A outer s H E) ((defBody sLaw).drop 5) t ∧
        ∀ (Hb H1 : Hp) (p nb mb kb : Addr) (x d q : Bool → Addr) (n : Bool → Int) (y0 y2 y6 y7 y8 y9 y10 y11 y12 : Option V), Ss P w C Hb H1 p nb mb kb x d q n (fun _ => []) (fun _ => []) 0 → x false ≠ x true →
          t { nx := fun _ H' => Q .non H', rt := Q } [y0, some (.ref p), y2, some (.ref nb), some (.ref mb), some (.ref kb), y6, y7, y8, y9, y10, y11, y12] H1 := by
      refine ⟨_, pss_cons (ps_for PassesOwn.never rfl (pi_range1 rfl B.range (pa_cons (pe_call T.ok hr1 rfl T.mg T.kp T.bi .nil pass0 (pa_cons (pv 1) (pa_cons pe_int pa_nil))) pa_nil)) (pg_name (i := 6) scLaw.nd rfl (.inl rfl)) hT)
        (pss_one (ps_ret (pe_and (pe_cmpR (op_idNe hu1 O) (pe_ix ix_list (pv 4) pe_int (fun _ _ => rfl)) (pe_ix ix_list (pv 4) pe_int (fun _ _ => rfl)) (nomark _))
          (pe_and (pe_cmpR (op_idEq hu1 O) (pe_ix ix_list (pv 4) pe_int (fun _ _ => rfl)) (pe_ix ix_list (pv 4) pe_int (fun _ _ => rfl)) (nomark _))
          (pe_one (pe_cmpR op_eq (pe_callB (call_ownLen M.len.ok M.len.bi pass0 M.len.me.at_ M.len.me.fn hr2) (by rfl) B.len PySem.boot_len (pa_cons (pe_ix ix_list (pv 4) pe_int (fun _ _ => rfl)) pa_nil))
            (pe_callB call_len_seq (by rfl) B.len PySem.boot_len (pa_cons (pe_ix ix_list (pv 5) pe_int (fun _ _ => rfl)) pa_nil)) (nomark _))))))), ?_⟩
      intro Hb H1 p nb mb kb x d q n y0 y2 y6 y7 y8 y9 y10 y11 y12 S xne
      refine ⟨_, rfl, p, 41, rfl, S.g.pn, by decide, by decide, fun v H2 v0 v1 g1 => ?_⟩
      obtain ⟨m, rfl⟩ := Int.eq_ofNat_of_zero_le v0
      refine ⟨(m : Int), rfl, by omega, by omega, ?_⟩
      have en : (m : Int).toNat = m := by omega
      rw [en]
      refine for_range (fun i σ H' => ∃ (l : Bool → List Ent) (rows : Bool → List Addr), Ss P w C Hb H' p nb mb kb x d q n l rows i ∧ ∃ z6 z7 z8 z9 z10 z11 z12, σ = [y0, some (.ref p), y2, some (.ref nb), some (.ref mb), some (.ref kb), z6, z7, z8, z9, z10, z11, z12])
        ⟨_, _, S.gp g1, _, _, _, _, _, _, _, rfl⟩ ?_ ?_
      · rintro i σ H3 hi ⟨l, rows, S3, z6, z7, z8, z9, z10, z11, z12, rfl⟩
        exact qT _ Hb H3 p nb mb kb x d q n l rows i _ _ _ _ _ _ _ _ _ S3 (by omega) fun H' l' rows' z7 z8 z9 z10 z11 z12 S' => ⟨l', rows', S', _, _, _, _, _, _, _, rfl⟩
      · rintro σ H3 ⟨l, rows, S3, z6, z7, z8, z9, z10, z11, z12, rfl⟩
        obtain ⟨dx0, e0⟩ := (S3.mm false).ob
        obtain ⟨dx1, e1⟩ := (S3.mm true).ob
        refine ⟨_, rfl, mb, _, _, _, rfl, rfl, SqL.of S3.mems, atI_nat (j := 0) rfl, _, rfl, mb, _, _, _, rfl, rfl, SqL.of S3.mems, atI_nat (j := 1) rfl, x false, x true, dx0, dx1, _, _, rfl, rfl, xne, e0, e1, _, rfl, ?_⟩
        refine ⟨_, rfl, mb, _, _, _, rfl, rfl, SqL.of S3.mems, atI_nat (j := 0) rfl, _, rfl, mb, _, _, _, rfl, rfl, SqL.of S3.mems, atI_nat (j := 0) rfl, x false, dx0, _, rfl, rfl, e0, _, rfl, ?_⟩
        have pa := S3.pa false
        have fw := S3.few false
        have ll : ((l false).length : Int) < 2 ^ 63 := by
          have : (2 : Int) ^ 63 = 9223372036854775808 := by decide
          omega
        refine ⟨_, rfl, mb, _, _, _, rfl, rfl, SqL.of S3.mems, atI_nat (j := 0) rfl, x false, dx0, _, rfl, e0, x false, d false, n false, l false, rfl, S3.mm false, _, rfl, by omega, ll, _, rfl, kb, _, _, _, rfl, rfl, SqL.of S3.kn, atI_nat (j := 0) rfl, q false, _, rfl, .inl (SqL.of pa.at_), rfl, ?_⟩
        rw [show decide (V.int (((l false).length : Nat) : Int) = V.int ((((rows false).map V.ref).length : Nat) : Int)) = true by rw [List.length_map, pa.len]; exact decide_eq_true rfl]
        exact k _
    refine ⟨_, PSs.nox (pss_cons (ps_set (i := 1) scLaw.nd rfl (.inl rfl) (pe_call PN.ok hr1 rfl PN.mg PN.kp PN.bi .nil pass0 (pa_cons (pv 0) pa_nil)))
      (pss_cons (ps_set (i := 2) scLaw.nd rfl (.inl rfl) (pe_call T.ok hr1 rfl T.mg T.kp T.bi .nil pass0 (pa_cons (pv 1) (pa_cons pe_int pa_nil))))
      (pss_cons (ps_set (i := 3) scLaw.nd rfl (.inl rfl) (pe_lst (pa_cons (pv 2) (pa_cons (pe_ix ix_list (pe_lst (pa_cons (pv 2) (pa_cons (pe_op op_add (pv 2) pe_int) (pa_cons pe_int pa_nil)))) (pe_call T.ok hr1 rfl T.mg T.kp T.bi .nil pass0 (pa_cons (pv 1) (pa_cons pe_int pa_nil))) (fun _ _ => rfl)) pa_nil))))
      (pss_cons (ps_set (i := 4) scLaw.nd rfl (.inl rfl) (pe_lst (pa_cons (pe_make I.made I.ok hr2 rfl I.gl I.bi .nil pass0 (pa_cons (pe_ix ix_list (pv 3) pe_int (fun _ _ => rfl)) pa_nil)) (pa_cons (pe_makeK0 I.made I.ok hr2 rfl I.gl I.kb pass0 (pk_cons (pe_ix ix_list (pv 3) pe_int (fun _ _ => rfl)) pk_nil)) pa_nil))))
      (pss_cons (ps_set (i := 5) scLaw.nd rfl (.inl rfl) (pe_lst (pa_cons (pe_lst pa_nil) (pa_cons (pe_lst pa_nil) pa_nil))))
      hL))))), ?_⟩
    refine ⟨_, rfl, a, ns, rfl, hS, few, fun p Hb s1 hp pn => ?_⟩
    refine ⟨_, rfl, p, 9, rfl, pn, by decide, by decide, fun v1 H2 a0 a1 g2 => ?_⟩
    refine ⟨_, rfl, _, rfl, _, rfl, _, _, rfl, rfl, (by show 3 ≤ sizeLine; decide), fun u hu => ?_⟩
    have g3 : Gp p H2 (upd H2 u (.lst [.int v1, .int (v1 + 1), .int 3999])) := (Gp.refl g2.pn).new hu
    refine ⟨_, rfl, p, 3, rfl, g3.pn, by decide, by decide, fun v2 H4 b0 b1 g4 => ?_⟩
    have hl := g4.at g3.pn upd_same (by intro l z; cases z)
    obtain ⟨j, rfl⟩ := Int.eq_ofNat_of_zero_le b0
    have hj : j < 3 := by omega
    obtain ⟨n1, hz⟩ : ∃ z : Int, ([V.int v1, V.int (v1 + 1), V.int 3999] : List V)[j]? = some (.int z) := by
      match j, hj with
      | 0, _ => exact ⟨_, rfl⟩
      | 1, _ => exact ⟨_, rfl⟩
      | 2, _ => exact ⟨_, rfl⟩
    refine ⟨u, _, _, _, rfl, rfl, SqL.of hl, atI_nat hz, (by show 2 ≤ sizeLine; decide), fun nb hnb => ?_⟩
    have g5 : Gp p Hb (upd H4 nb (.lst [.int v1, .int n1])) := (g2.trans (g3.trans g4)).new hnb
    have e5 : upd H4 nb (.lst [.int v1, .int n1]) nb = some (.lst [.int v1, .int n1]) := upd_same
    generalize upd H4 nb (.lst [.int v1, .int n1]) = H5 at g5 e5
    clear hl hz hu hnb g2 g3 g4
    -- the first memo
    refine ⟨_, rfl, nb, _, _, _, rfl, rfl, SqL.of e5, atI_nat (j := 0) rfl, fun x0 dx0 hx0 hdx0 nx0 => ?_⟩
    dsimp only [tCons, L2.tC, tNil, List.append_nil]
    refine ⟨x0, dx0, v1, rfl, upd_same, fun H6 d0 kp0 hd0 nd0 ex0 ed0 => ⟨rfl, ?_⟩⟩
    have s6 : Same H5 H6 := made_same hx0 hdx0 kp0
    have hd0' : H5 d0 = none := made_none hx0 hd0
    clear kp0 hd0
    -- the second one
    refine ⟨_, rfl, nb, _, _, _, rfl, rfl, SqL.of (s6 _ _ e5), atI_nat (j := 1) rfl, rfl, rfl, fun x1 dx1 hx1 hdx1 nx1 => ?_⟩
    refine ⟨x1, dx1, n1, rfl, upd_same, fun H7 d1 kp1 hd1 nd1 ex1 ed1 => ⟨rfl, ?_⟩⟩
    have s7 : Same H6 H7 := made_same hx1 hdx1 kp1
    have hd1' : H6 d1 = none := made_none hx1 hd1
    clear kp1 hd1
    refine ⟨(by show 2 ≤ sizeLine; decide), fun mb hmb => ?_⟩
    refine ⟨(by show 0 ≤ sizeLine; decide), fun q0 hq0 => ⟨(by show 0 ≤ sizeLine; decide), fun q1 hq1 => ⟨(by show 2 ≤ sizeLine; decide), fun kb hkb => ?_⟩⟩⟩
    have t8 := same_new (o := HO.lst [V.ref x0, V.ref x1]) hmb
    have e8 : upd H7 mb (.lst [.ref x0, .ref x1]) mb = some (.lst [.ref x0, .ref x1]) := upd_same
    generalize e : upd H7 mb (.lst [.ref x0, .ref x1]) = H8 at *
    have t9 := same_new (o := HO.lst []) hq0
    have e9 : upd H8 q0 (.lst []) q0 = some (.lst []) := upd_same
    generalize e : upd H8 q0 (.lst []) = H9 at *
    have t10 := same_new (o := HO.lst []) hq1
    have e10 : upd H9 q1 (.lst []) q1 = some (.lst []) := upd_same
    generalize e : upd H9 q1 (.lst []) = H10 at *
    have t11 := same_new (o := HO.lst [V.ref q0, V.ref q1]) hkb
    have e11 : upd H10 kb (.lst [.ref q0, .ref q1]) kb = some (.lst [.ref q0, .ref q1]) := upd_same
    generalize e : upd H10 kb (.lst [.ref q0, .ref q1]) = H11 at *
    have u10 := t10.trans t11
    have u9 := t9.trans u10
    have u8 := t8.trans u9
    have u7 := s7.trans u8
    have u6 := s6.trans u7
    have g11 := g5.same u6
    have nil0 : KeysAt H11 ([] : List Ent) := fun e he => by cases he
    have nq : q0 ≠ q1 := ne_of_none e9 hq1
    have hb0 : ∀ z, H5 z = none → Hb z = none := fun z h => g5.none h
    have f5 : ∀ z, H6 z = none → H5 z = none := fun z h => same_none s6 h
    have f6 : ∀ z, H8 z = none → H5 z = none := fun z h => f5 z (same_none s7 (same_none t8 h))
    have nn : ∀ z o, H8 z = some o → q0 ≠ z ∧ q1 ≠ z := fun z o h => ⟨Ne.symm (ne_of_none h hq0), Ne.symm (ne_of_none (t9 _ _ h) hq1)⟩
    have S : Ss P w C Hb H11 p nb mb kb (fun b => cond b x1 x0) (fun b => cond b d1 d0) (fun b => cond b q1 q0) (fun b => cond b n1 v1) (fun _ => []) (fun _ => []) 0 := by
      refine ⟨g11, u6 _ _ e5, u9 _ _ e8, e11, fun b => ?_, fun b => ?_, fun b e he => (by cases he), fun b => Nat.le_refl _, fun b c h => ?_, fun b c h => ?_, fun b => ?_, fun b => ?_⟩
      · cases b
        · exact ⟨⟨dx0, u7 _ _ ex0⟩, u7 _ _ ed0, nil0⟩
        · exact ⟨⟨dx1, u8 _ _ ex1⟩, u8 _ _ ed1, nil0⟩
      · cases b
        · exact ⟨u10 _ _ e9, .nil⟩
        · exact ⟨t11 _ _ e10, .nil⟩
      · have n2 : d0 ≠ d1 := ne_of_none ed0 hd1'
        cases b <;> cases c
        · exact absurd rfl h
        · exact n2
        · exact Ne.symm n2
        · exact absurd rfl h
      · cases b <;> cases c
        · exact absurd rfl h
        · exact nq
        · exact Ne.symm nq
        · exact absurd rfl h
      · have m1 := nn nb _ ((s6.trans (s7.trans t8)) _ _ e5)
        have m2 := nn mb _ e8
        have m3 := ne_of_none (t10 _ _ e9) hkb
        have m4 := ne_of_none e10 hkb
        cases b
        · exact ⟨m1.1, m2.1, m3⟩
        · exact ⟨m1.2, m2.2, m4⟩
      · cases b
        · exact ⟨hb0 _ (f6 _ hq0), hb0 _ hd0'⟩
        · exact ⟨hb0 _ (f6 _ (same_none t9 hq1)), hb0 _ (f5 _ hd1')⟩
    have xne : x0 ≠ x1 := ne_of_none ex0 hx1
    exact qL Hb H11 p nb mb kb _ _ _ _ _ _ _ _ _ _ _ _ _ S xne
end
end Wk
set_option Elab.async false
set_option linter.all false
set_option maxRecDepth 100000
set_option maxHeartbeats 0
namespace Wk
open PySem PySem.Spec PyProof.Rows L2
/-! ## the head: facts by names -/
def dd (x : Str) (i : Nat) : He.DefD := ⟨(x, none), x, x, defArgs (top i), defBody (top i), defScope (top i), [], []⟩
def dm (x q : Str) (j : Nat) : He.DefD := ⟨("Memo", some x), x, q, defArgs (meth j), defBody (meth j), defScope (meth j), [], []⟩
def fn : List He.DefD := [dd "memo_key" 1, dm "__init__" "Memo.__init__" 0, dm "__len__" "Memo.__len__" 1, dm "__contains__" "Memo.__contains__" 2, dm "known" "Memo.known" 3, dm "keep" "Memo.keep" 4, dm "kept" "Memo.kept" 5,
  dd "_law_pen" 4, dd "_law_take" 5, dd "_law_number" 6, dd "_law_token" 7, dd "_law_found" 8, dd "_law_right" 9, dd "law" 10]
def fa : List He.Fa := [.glo "memo_key", .glo "Memo", .cls "Memo", .noat "Memo" "number", .noat "Memo" "_copies", .mkr "Memo", .meth "Memo" "__len__", .meth "Memo" "__contains__", .meth "Memo" "known", .meth "Memo" "keep", .meth "Memo" "kept",
  .glo "_law_pen", .glo "_law_take", .glo "_law_number", .glo "_law_token", .glo "_law_found", .glo "_law_right", .glo "law",
  .free "int", .free "len", .free "list", .free "range", .free "tuple", .free "repr", .free "isinstance", .free "bool"]
def exB (K : PySem.W.Frag) : Bool := decide (PySem.W.mroIn K (He.ga K "Memo") (.type "object") = some true) && (He.eqO (PySem.W.findIn K (.ref (He.ga K "Memo")) "__ne__") (some (some (.builtin "object.__ne__"))) && He.eqO (PySem.W.findIn K (.ref (He.ga K "Memo")) "__eq__") (some (some (.builtin "object.__eq__"))))
theorem exB_ok {K : PySem.W.Frag} (h : exB K = true) : IdEqual K (He.ga K "Memo") := by
  unfold exB at h
  rw [Bool.and_eq_true, Bool.and_eq_true] at h
  exact ⟨of_decide_eq_true h.1, He.eqO_ok h.2.1, He.eqO_ok h.2.2⟩
abbrev AlX : Type := Bool × He.AlD
def obsX (K : PySem.W.Frag) : AlX := (exB K, He.obsD fa fn K)
def valX : AlX := (true, He.valD fn)
def obsXG (n : Nat) (g : Addr → Option Obj) : AlX := obsX (He.frG g (He.asD g n))
def hk : PySem.W.Hook where
  α := AlX
  obs := fun s => obsXG 4 s.heap.get?
  val := fun _ => valX
  says := fun _ h => ∃ K : PySem.W.Frag, K.In h ∧ obsX K = valX
  of := fun _ _ e => ⟨_, He.frG_in, e⟩
  keeps := fun _ _ _ ⟨K, hK, c⟩ k => ⟨K, PySem.W.Frag.In.keeps hK k, c⟩
abbrev R : PySem.W.OpenRow := PySem.W.OpenLaw.row PySem.Challenge.rw_waypairs_k24_memos
def ob (s : PySem.W.SharedT) : AlX := obsXG 4 (HandSHeadRun.getT s)
theorem ob_eq (s : PySem.W.SharedT) : ob s = hk.obs s.abs := by
  have e : HandSHeadRun.getT s = s.abs.heap.get? := funext (HandSHeadRun.getT_eq s)
  show obsXG 4 (HandSHeadRun.getT s) = obsXG 4 s.abs.heap.get?
  rw [e]
theorem run (w : World) : HandSHeadRun.RunEq R (PySem.W.view R.prog [10]) hk ob 2000 ["memo_key", "Memo", "_law_pen", "_law_take", "_law_number", "_law_token", "_law_found", "_law_right"] w := by
  intro os
  kernel_rfl
/-- a law: F gives the written part, the function object, the promise over every base -/
theorem walk_GE {l : PySem.W.OpenLaw} {n k : Nat} {q : Program} {loose : List Str} {XP : (Str → Option Value) → Heap → Prop} {YP : World → Heap → Prop} {d : DefRec} {CX : CXT} {x : Str}
    (hn : l.most = some n) (hn2 : n ≤ sizeLine) (hdf : d.params.defaults = []) (hr : Room k callerA)
    (F : ∀ (w : World) (mg : Str → Option Value) (fa : Addr) (h : Heap), YP w h → h.Ns mainGlobals mg → mg d.name = some (.ref fa) →
      ∃ (K : PySem.W.Frag) (fd : FuncData) (sp : Sp), K.In h ∧ (∀ (s : Shared) (u : Value), BindsTo s fd ⟨[u], []⟩ [(x, u)]) ∧
        (∀ (H : Hp) (a : Addr) (ns : List Int), ns.length ≤ n → Only H → SqL K H a (ns.map V.int) → sp [.ref a] H (fun v _ => v = .bl true) fun _ _ _ => False) ∧
        ∀ base : Heap, K.In base → base.Ns mainGlobals mg → GOk l.prog w K mg base CX k fa fd [x] sp)
    (hCX : ∀ (H : Hp) (s : Shared) (e : Value) (s' : Shared), CX [] H s (fun _ _ _ => False) e s' → False) :
    PySem.W.WalkO q loose XP YP l.row.toRowW d [] (fun f vs => PySem.call f vs) := by
  refine Att.attach_call hn hdf fun w s₀ s₁ mg mb fa o pm cd doc a vs ns G Y ho hd hcd hmg hobj hints hlen hg => ?_
  obtain ⟨K, fd, sp, KX, hb, hsp, hF⟩ := F w mg fa _ Y G.T.g hmg
  exact law_start KX G.T.g G.T.b G.T.builtins G.T.nolimit hg hobj hints (Nat.le_trans hlen hn2) hr hF hb (fun H hO hS => hsp H a ns hlen hO hS) fun H e s' => hCX H s₁ e s'
theorem facts {P : Program} {w : World} {K : PySem.W.Frag} {h : Heap} {mg : Str → Option Value} {f : Addr} (X : K.In h) (G : h.Ns mainGlobals mg) (hfa : mg ("law" : Str) = some (.ref f)) (cx : obsX K = valX) :
    ∃ fd : FuncData, (∀ (s : Shared) (v : Value), BindsTo s fd ⟨[v], []⟩ [("_law_script", v)]) ∧ ∀ base : Heap, K.In base → base.Ns mainGlobals mg → GOk P w K mg base CX0 4 f fd ["_law_script"] (spLaw K) := by
  have O := exB_ok (congrArg (fun z : AlX => z.1) cx)
  have c : He.SaysD fa fn K := congrArg (fun z : AlX => z.2) cx
  obtain ⟨fdK, FK⟩ := c.def_ 0 (d := dd "memo_key" 1) rfl
  obtain ⟨fdI, FI⟩ := c.def_ 1 (d := dm "__init__" "Memo.__init__" 0) rfl
  obtain ⟨fd1, F1⟩ := c.def_ 2 (d := dm "__len__" "Memo.__len__" 1) rfl
  obtain ⟨fd2, F2⟩ := c.def_ 3 (d := dm "__contains__" "Memo.__contains__" 2) rfl
  obtain ⟨fd3, F3⟩ := c.def_ 4 (d := dm "known" "Memo.known" 3) rfl
  obtain ⟨fd4, F4⟩ := c.def_ 5 (d := dm "keep" "Memo.keep" 4) rfl
  obtain ⟨fd5, F5⟩ := c.def_ 6 (d := dm "kept" "Memo.kept" 5) rfl
  obtain ⟨fdP, FP⟩ := c.def_ 7 (d := dd "_law_pen" 4) rfl
  obtain ⟨fdT, FT⟩ := c.def_ 8 (d := dd "_law_take" 5) rfl
  obtain ⟨fdN, FN⟩ := c.def_ 9 (d := dd "_law_number" 6) rfl
  obtain ⟨fdTk, FTk⟩ := c.def_ 10 (d := dd "_law_token" 7) rfl
  obtain ⟨fdF, FF⟩ := c.def_ 11 (d := dd "_law_found" 8) rfl
  obtain ⟨fdR, FR⟩ := c.def_ 12 (d := dd "_law_right" 9) rfl
  obtain ⟨fdL, FL⟩ := c.def_ 13 (d := dd "law" 10) rfl
  have g := fun (i : Nat) (x : Str) (e : fa[i]? = some (.glo x)) => He.glo_ok (x := x) X G (c.fact i (f := .glo x) e)
  have fr := fun (i : Nat) (x : Str) (e : fa[i]? = some (.free x)) => He.free_ok (x := x) X G (c.fact i (f := .free x) e)
  have mt := fun (i : Nat) (m : Str) (e : fa[i]? = some (.meth "Memo" m)) => He.meth_ok (x := "Memo") (m := m) (c.fact i (f := .meth "Memo" m) e)
  have e := hfa.symm.trans (g 17 "law" rfl)
  cases e
  have B : Bn mg := ⟨fr 18 "int" rfl, fr 19 "len" rfl, fr 20 "list" rfl, fr 21 "range" rfl, fr 22 "tuple" rfl, fr 23 "repr" rfl, fr 24 "isinstance" rfl, fr 25 "bool" rfl⟩
  have pl : PM K (He.ga K "Memo") := ⟨He.cls_ok (c.fact 2 (f := .cls "Memo") rfl), fun m hm => by
    simp only [List.mem_cons, List.not_mem_nil, or_false] at hm
    rcases hm with rfl | rfl
    · exact He.noat_ok (c.fact 3 (f := .noat "Memo" "number") rfl)
    · exact He.noat_ok (c.fact 4 (f := .noat "Memo" "_copies") rfl)⟩
  have b := FunD.bindsA (ps := ["_law_script"]) FL fun _ _ _ _ _ _ us hl => match us, hl with | [_], _ => rfl
  have bK := FunD_kbN (ps := ["rule", "thing", "kind", "marks"]) FK 3 ["marks"] fun _ _ _ _ _ _ us ws h1 h2 => match us, h1, ws, h2 with | [_, _, _], _, [_], _ => rfl
  have bI := FunD.bindsN (ps := ["self", "number"]) FI fun _ _ _ _ _ _ us hl => match us, hl with | [_, _], _ => rfl
  have kI := FunD_kbN (ps := ["self", "number"]) FI 1 ["number"] fun _ _ _ _ _ _ us ws h1 h2 => match us, h1, ws, h2 with | [_], _, [_], _ => rfl
  have b1 := FunD.bindsN (ps := ["self"]) F1 fun _ _ _ _ _ _ us hl => match us, hl with | [_], _ => rfl
  have b2 := FunD.bindsN (ps := ["self", "x"]) F2 fun _ _ _ _ _ _ us hl => match us, hl with | [_, _], _ => rfl
  have b3 := FunD.bindsN (ps := ["self", "key"]) F3 fun _ _ _ _ _ _ us hl => match us, hl with | [_, _], _ => rfl
  have b4 := FunD.bindsN (ps := ["self", "key", "new"]) F4 fun _ _ _ _ _ _ us hl => match us, hl with | [_, _, _], _ => rfl
  have b5 := FunD.bindsN (ps := ["self"]) F5 fun _ _ _ _ _ _ us hl => match us, hl with | [_], _ => rfl
  have bP := FunD.bindsN (ps := ["_law_script"]) FP fun _ _ _ _ _ _ us hl => match us, hl with | [_], _ => rfl
  have bT := FunD.bindsN (ps := ["_law_pen_here", "_law_bound"]) FT fun _ _ _ _ _ _ us hl => match us, hl with | [_, _], _ => rfl
  have bN := FunD.bindsN (ps := ["_law_pen_here"]) FN fun _ _ _ _ _ _ us hl => match us, hl with | [_], _ => rfl
  have bTk := FunD.bindsN (ps := ["_law_pen_here"]) FTk fun _ _ _ _ _ _ us hl => match us, hl with | [_], _ => rfl
  have bF := FunD.bindsN (ps := ["_law_pairs", "_law_token_here"]) FF fun _ _ _ _ _ _ us hl => match us, hl with | [_, _], _ => rfl
  have bR := FunD.bindsN (ps := ["_law_memo", "_law_pairs", "_law_token_here", "_law_count"]) FR fun _ _ _ _ _ _ us hl => match us, hl with | [_, _, _, _], _ => rfl
  refine ⟨fdL, fun s v => b s [v] rfl, fun base _ _ => ?_⟩
  have kK : KnownK P w K mg base _ fdK := ⟨ok_key (He5.fun_of (st := top 1) FK) B, g 0 "memo_key" rfl, FK.kp, bK⟩
  have I : MkC P w K mg base _ _ fdI := ⟨ok_init (He5.fun_of (st := mInit) FI) pl, He.mkr_ok (c.fact 5 (f := .mkr "Memo") rfl), g 1 "Memo" rfl, bI, kI⟩
  have M : MemoC P w K mg base _ _ _ _ _ _ fd1 fd2 fd3 fd4 fd5 := ⟨pl, ⟨ok_len (He5.fun_of (st := mLen) F1) B pl, mt 6 "__len__" rfl, b1⟩, ⟨ok_in (He5.fun_of (st := mIn) F2) pl, mt 7 "__contains__" rfl, b2⟩, ⟨ok_known (He5.fun_of (st := mKnown) F3) pl, mt 8 "known" rfl, b3⟩,
    ⟨ok_keep (He5.fun_of (st := mKeep) F4) pl, mt 9 "keep" rfl, b4⟩, ⟨ok_kept (He5.fun_of (st := mKept) F5) B pl, mt 10 "kept" rfl, b5⟩⟩
  have kP : KP P w K mg base _ fdP := ⟨ok_pen (He5.fun_of (st := sPen) FP) B, g 11 "_law_pen" rfl, FP.kp, bP⟩
  have kT : KT P w K mg base _ fdT := ⟨ok_take (He5.fun_of (st := sTake) FT) B, g 12 "_law_take" rfl, FT.kp, bT⟩
  have kN : KN P w K mg base _ fdN := ⟨ok_num (He5.fun_of (st := sNum) FN) kT, g 13 "_law_number" rfl, FN.kp, bN⟩
  have kTk : KTk P w K mg base _ fdTk := ⟨ok_tok (He5.fun_of (st := sTok) FTk) B kT kN kK, g 14 "_law_token" rfl, FTk.kp, bTk⟩
  have kF : KF P w K mg base _ fdF := ⟨ok_found (He5.fun_of (st := sFound) FF), g 15 "_law_found" rfl, FF.kp, bF⟩
  have kR : KR P w K mg base _ _ fdR := ⟨ok_right (He5.fun_of (st := sRight) FR) B kF M, g 16 "_law_right" rfl, FR.kp, bR⟩
  exact ok_law (He5.fun_of (st := sLaw) FL) B kP kR kT kF kTk M I O
end Wk
open PySem PySem.W PySem.Calls PyProof.Rows
theorem PySem.Challenge.cw_waypairs_k24_memos_holds : PySem.Challenge.rw_waypairs_k24_memos.Holds := by
  w_on; o_law
  refine HandSHeadRun.head_any (r := OpenLaw.row PySem.Challenge.rw_waypairs_k24_memos) (q := view (OpenLaw.row PySem.Challenge.rw_waypairs_k24_memos).prog [10]) (H := Wk.hk) (ob := Wk.ob) (M := 2000) (loose := ["memo_key", "Memo", "_law_pen", "_law_take", "_law_number", "_law_token", "_law_found", "_law_right"]) (d := HandSHeadRun.topDef (OpenLaw.row PySem.Challenge.rw_waypairs_k24_memos).prog 10) (kwd := []) Wk.ob_eq
    (by kernel_rfl) (fun s => by kernel_rfl) Wk.run (by kernel_rfl) (by kernel_rfl) (by kernel_rfl) (by rfl) (by first | assumption | decide +kernel) (by decide +kernel) ⟨rfl, rfl, rfl, rfl, rfl, by decide +kernel⟩ ?hw ?hc
  case hw => w_witness2
  case hc =>
    refine Wk.walk_GE (l := PySem.Challenge.rw_waypairs_k24_memos) (n := 63) (k := 4) (x := "_law_script") (CX := L2.CX0) rfl (by decide) (by kernel_rfl) ⟨rfl, by decide, by decide⟩ ?F (fun _ _ _ _ z => z)
    intro w mg fa h Y G hmg0
    obtain ⟨K, KX, c⟩ := Y
    have hmg : mg ("law" : PySem.Str) = some (.ref fa) := by
      have e : (HandSHeadRun.topDef (OpenLaw.row PySem.Challenge.rw_waypairs_k24_memos).prog 10).name = ("law" : PySem.Str) := by kernel_rfl
      rw [← e]
      exact hmg0
    obtain ⟨fd, hb, hF⟩ := Wk.facts (P := (PySem.Challenge.rw_waypairs_k24_memos).prog) (w := w) KX G hmg c
    exact ⟨K, fd, Wk.spLaw K, KX, hb, fun H a ns hl _ hS => ⟨a, ns, rfl, hS, hl, fun _ => rfl⟩, hF⟩
