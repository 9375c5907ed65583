import PyProof.Rows.All
import Wide.All
import OpenK.AllK
import Wide.FinOn
import KE.KStateDown
import KE.KeyNested
import HandS.Dict
import HandS.ExcOwn
import HandS.Call
import HandS.ForMost
import HandS.IsInst
import HandS.Conv
import HandS.Wide
import HandS.WideBits
import HandS.SortInts
import HandS.DictComp
import HandS.Zip
import HandS.Rev
import HandS.Flow
import HandS.Steps
import HandS.Defaults
import HandS.Head0
import HandS.Head1
import HandS.Head2
import HandS.HeadEnd
import HandS.HeadHook1
import HandS.HeadHook2
import HandS.Strs
import HandS.TupSets
import HandS.ExcInit
import HandS.ClsMeth
import HandS.Exc
import HandS.WordsExc
import HandS.ExcIs
import HandS.ExcField
import HandS.CallSlots
import KE.KExcIs
import HandS.Deep
import HandS.SetFor
import HandS.Lambda
import HandS.HeadHook4
import HandS.HeadWalk
import HandS.NestedK
import HandS.Walk
import HandS.Text
import HandS.TupAny
import KE.DatumOrd
import HandS.SortKw
import HandS.DeepEq
import HandS.DictTup
import KE.SortData
import HandS.ExcValue
import KE.KDictSum
import HandS.AnyAll
import KE.KCallOwn
import HandS.More
import PyProof.EqKinds
import HandS.MakeKwOnly
import PySem.Challenge.RW_fewasks_k80_houses_of_a_town
set_option Elab.async false
set_option linter.all false
set_option maxRecDepth 100000
set_option maxHeartbeats 4000000
/-! Dicts whose keys are nested tuples: tracked by what is true of their one object; the keys' tuples are tracked tuples. -/
namespace Fw
open PySem PySem.Spec PyProof.Rows L2
/-- the world of the run: a text's hash is the world's -/
class HasW where
  w : World
mutual
/-- the value v is the key k -/
inductive NKey (H : Hp) : NestedKey → V → Prop
  | non : NKey H .none .non
  | bl (b : Bool) : NKey H (.num (if b = true then 1 else 0)) (.bl b)
  | int (i : Int) : NKey H (.num i) (.int i)
  | str (x : Str) : NKey H (.text x) (.str x)
  | tup {a : Addr} {xs : List V} {ks : List NestedKey} : H a = some (.tup xs) → NKeys H ks xs → NKey H (.tup ks) (.ref a)
inductive NKeys (H : Hp) : List NestedKey → List V → Prop
  | nil : NKeys H [] []
  | cons {k : NestedKey} {ks : List NestedKey} {v : V} {vs : List V} : NKey H k v → NKeys H ks vs → NKeys H (k :: ks) (v :: vs)
end
mutual
theorem NKey.mono {H H' : Hp} (m : ∀ a xs, H a = some (.tup xs) → H' a = some (.tup xs)) : ∀ {k : NestedKey} {v : V}, NKey H k v → NKey H' k v
  | _, _, .non => .non
  | _, _, .bl b => .bl b
  | _, _, .int i => .int i
  | _, _, .str x => .str x
  | _, _, .tup h r => .tup (m _ _ h) (NKeys.mono m r)
theorem NKeys.mono {H H' : Hp} (m : ∀ a xs, H a = some (.tup xs) → H' a = some (.tup xs)) : ∀ {ks : List NestedKey} {vs : List V}, NKeys H ks vs → NKeys H' ks vs
  | _, _, .nil => .nil
  | _, _, .cons a b => .cons (NKey.mono m a) (NKeys.mono m b)
end
mutual
theorem NKey.is {P : Program} {w : World} {H : Hp} {h : Heap} (ok : HOk P w H h) : ∀ {k : NestedKey} {v : V} {u : Value}, NKey H k v → RelV v u → NestedIs h k u
  | _, _, u, .non, r => by
    obtain rfl : u = .none := r
    exact .none
  | _, _, u, .bl b, r => by
    obtain rfl : u = .bool b := r
    exact .bool rfl
  | _, _, u, .int i, r => by
    obtain ⟨t, rfl⟩ : ∃ t, u = .int i t := r
    exact .int i t
  | _, _, u, .str x, r => by
    obtain ⟨t, rfl⟩ : ∃ t, u = .str x t := r
    exact .text x t
  | _, _, u, @NKey.tup _ a xs ks e q, r => by
    obtain rfl : u = .ref a := r
    obtain ⟨_, its, rel, o, h1, h2, n, h3⟩ := (show ObjOk P w H h a (.tup xs) from ok a _ e)
    exact .tup h1 h2 h3 (by simpa using NKeys.is ok q rel)
theorem NKeys.is {P : Program} {w : World} {H : Hp} {h : Heap} (ok : HOk P w H h) : ∀ {ks : List NestedKey} {vs : List V} {us : List Value}, NKeys H ks vs → Vals vs us → NestedAll h ks us
  | _, _, _, .nil, .nil => .nil
  | _, _, _, .cons a b, .cons r t => .cons (NKey.is ok a r) (NKeys.is ok b t)
end
/-- an entry: the key, where its tuple stands, the value -/
abbrev NEnt := NestedKey × Addr × V
abbrev NRel : List NEnt → List (NestedKey × Addr × Value) → Prop := Paired fun p q => p.1 = q.1 ∧ p.2.1 = q.2.1 ∧ RelV p.2.2 q.2.2
def nEntry (w : World) (x : NestedKey × Addr × Value) : DictEntry := ⟨x.1.hash w, .ref x.2.1, x.2.2⟩
/-- what is true of the object at a -/
def NDφ (w : World) (a : Addr) (xs : List NEnt) : Heap → Prop := fun h =>
  xs.length ≤ sizeLine ∧ (a == sysModules) = false ∧ ∃ ys, NRel xs ys ∧ ∃ o es ep, h.get? a = some o ∧ o.ExactDict ∧ o.data = .dict es ep ∧ es.toList = ys.map (nEntry w) ∧ (ys.map (·.1)).Nodup
/-- a dict with nested keys -/
def ND [HasW] (a : Addr) (xs : List NEnt) : HO := .ext (NDφ HasW.w a xs)
/-- the keys of the entries stand as tracked tuples -/
def NKs (H : Hp) (xs : List NEnt) : Prop := ∀ x ∈ xs, NKey H x.1 (.ref x.2.1) ∧ x.1.depth ≤ 8
theorem NKs.mono {H H' : Hp} {xs : List NEnt} (k : NKs H xs) (m : ∀ a xs, H a = some (.tup xs) → H' a = some (.tup xs)) : NKs H' xs := fun x hx => ⟨(k x hx).1.mono m, (k x hx).2⟩
/-- the value at a key -/
def nAt (xs : List NEnt) (k : NestedKey) : Option V := (xs.find? fun x => decide (x.1 = k)).map (·.2.2)
def nPut (xs : List NEnt) (k : NestedKey) (b : Addr) (v : V) : List NEnt := if (nAt xs k).isSome then xs.map fun x => if x.1 = k then (x.1, x.2.1, v) else x else xs ++ [(k, b, v)]
theorem nPut_new {xs : List NEnt} {k : NestedKey} {b : Addr} {v : V} (h : nAt xs k = none) : nPut xs k b v = xs ++ [(k, b, v)] := by
  unfold nPut
  rw [h]
  rfl
theorem NRel.val {xs : List NEnt} {ys : List (NestedKey × Addr × Value)} (r : NRel xs ys) (k : NestedKey) : RelO (nAt xs k) ((atKey ys k).map (·.2)) := by
  induction r with
  | nil => exact True.intro
  | @cons p q ps qs h t ih =>
    obtain ⟨h1, _, h2⟩ := h
    by_cases e : p.1 = k
    · have e' : q.1 = k := h1.symm.trans e
      have b : atKey (q :: qs) k = some q.2 := by simp [atKey, List.find?_cons, e']
      have c : nAt (p :: ps) k = some p.2.2 := by simp [nAt, List.find?_cons, e]
      rw [c, b]; exact h2
    · have e' : ¬ q.1 = k := fun z => e (h1.trans z)
      have b : atKey (q :: qs) k = atKey qs k := by simp [atKey, List.find?_cons, e']
      have c : nAt (p :: ps) k = nAt ps k := by simp [nAt, List.find?_cons, e]
      rw [c, b]; exact ih
theorem NRel.put {xs : List NEnt} {ys : List (NestedKey × Addr × Value)} (r : NRel xs ys) (k : NestedKey) (b : Addr) {v : V} {u : Value} (rv : RelV v u) : NRel (nPut xs k b v) (storedH ys k b u) := by
  have e : (nAt xs k).isSome = (atKey ys k).isSome := by rw [(r.val k).isSome_eq, Option.isSome_map]
  unfold nPut storedH
  rw [e]
  by_cases q : (atKey ys k).isSome = true
  · rw [if_pos q, if_pos q]
    clear e q
    induction r with
    | nil => exact .nil
    | @cons p q ps qs h t ih =>
      rw [List.map_cons, List.map_cons]
      refine .cons ?_ ih
      obtain ⟨h1, h2, h3⟩ := h
      unfold putAt
      by_cases e : p.1 = k
      · rw [if_pos e, if_pos (h1.symm.trans e)]; exact ⟨h1, h2, rv⟩
      · rw [if_neg e, if_neg (fun z => e (h1.trans z))]; exact ⟨h1, h2, h3⟩
  · rw [if_neg q, if_neg q]; exact Paired.snoc r ⟨rfl, rfl, rv⟩
theorem length_nPut (xs : List NEnt) (k : NestedKey) (b : Addr) (v : V) : (nPut xs k b v).length ≤ xs.length + 1 := by
  unfold nPut
  split
  · rw [List.length_map]; omega
  · rw [List.length_append]; exact Nat.le_refl _
theorem nd_entries {P : Program} {w : World} {ys : List (NestedKey × Addr × Value)} : ys.map (nEntry w) = ys.map (entryOfKey (nestedKind P w)) := rfl
theorem nd_dict {P : Program} {w : World} {H : Hp} {h : Heap} {a : Addr} {xs : List NEnt} (ok : HOk P w H h) (ks : NKs H xs) (d : NDφ w a xs h) : xs.length ≤ sizeLine ∧ (a == sysModules) = false ∧ ∃ ys, NRel xs ys ∧ h.DictOfH (nestedKind P w) a ys := by
  obtain ⟨z, y, ys, r, o, es, ep, h1, h2, h3, h4, h5⟩ := d
  refine ⟨z, y, ys, r, o, es, ep, h1, h2, h3, h4, fun x hx => ?_, h5⟩
  have all : ∀ {l : List NEnt} {m : List (NestedKey × Addr × Value)}, NRel l m → NKs H l → ∀ x ∈ m, (nestedKind P w).is h x.1 x.2.1 := by
    intro l m q
    induction q with
    | nil => intro _ x hx; exact nomatch hx
    | @cons p q ps qs hq t ih =>
      intro kk x hx
      rcases List.mem_cons.mp hx with e | hx
      · subst e
        obtain ⟨k1, k2⟩ := kk p List.mem_cons_self
        rw [hq.1, hq.2.1] at k1
        rw [hq.1] at k2
        exact ⟨k1.is ok rfl, k2⟩
      · exact ih (fun x hx => kk x (List.mem_cons_of_mem _ hx)) x hx
  exact all r ks x hx
theorem nd_of [HasW] {P : Program} {H : Hp} {h : Heap} {a : Addr} {xs : List NEnt} (ok : HOk P HasW.w H h) (e : H a = some (ND a xs)) (ks : NKs H xs) : xs.length ≤ sizeLine ∧ (a == sysModules) = false ∧ ∃ ys, NRel xs ys ∧ h.DictOfH (nestedKind P HasW.w) a ys :=
  nd_dict ok ks (show ObjOk P HasW.w H h a (ND a xs) from ok a _ e).1
theorem nd_new {w : World} {a : Addr} {xs : List NEnt} {ys : List (NestedKey × Addr × Value)} {P : Program} {h : Heap} {H : Hp} (z : xs.length ≤ sizeLine) (y : (a == sysModules) = false) (r : NRel xs ys) (d : h.DictOfH (nestedKind P w) a ys) : ObjOk P w H h a (.ext (NDφ w a xs)) := by
  obtain ⟨o, es, ep, h1, h2, h3, h4, _, h5⟩ := d
  refine ⟨⟨z, y, ys, r, o, es, ep, h1, h2, h3, h4, h5⟩, ⟨o, h1⟩, ?_⟩
  rintro g1 g2 ⟨z, y, ys, r, o, es, ep, h1, h2, h3, h4, h5⟩ k
  exact ⟨z, y, ys, r, o, es, ep, k _ h1, h2, h3, h4, h5⟩
/-- what the dict at a holds at the key y -/
def NGet [HasW] (H : Hp) (a : Addr) (y : V) (r : Option V) : Prop := ∃ xs k b, H a = some (ND a xs) ∧ NKs H xs ∧ y = .ref b ∧ NKey H k y ∧ k.depth ≤ 8 ∧ r = nAt xs k
/-- the heap behind a[y] = v -/
def NPut [HasW] (H : Hp) (a : Addr) (y v : V) (H' : Hp) : Prop := ∃ xs k b, H a = some (ND a xs) ∧ NKs H xs ∧ y = .ref b ∧ NKey H k y ∧ k.depth ≤ 8 ∧ xs.length < sizeLine ∧ H' = upd H a (ND a (nPut xs k b v))
section
variable [HasW] {X : Cx} {pins : List (Addr × Obj)} {σ : L2.St} {H : Hp} {s : Shared} {a : Addr} {y v : V} {u r : Value} {o : Option V} {A : Around} {E : Value → Shared → Prop}
theorem room8 {A : Around} (hu : A.units + 64 < cLine) : A.in1.units + 8 < cLine := by
  rw [Around.in1_units]
  omega
theorem n_getItem {Q : Value → Shared → Prop} (hw : X.w = HasW.w) (hu : A.units + 64 < cLine) (I : Inv X pins σ H s) (g : NGet H a y (some v)) (ry : RelV y u) (h : ∀ w' s', Inv X pins σ H s' → RelV v w' → Q w' s') :
    wpAny (model X.prog X.w) A (getItem (.ref a) u) Q E s := by
  obtain ⟨xs, k, b, e, ks, rfl, key, dp, l⟩ := g
  cases (show u = Value.ref b from ry)
  have ok := I.hok
  rw [hw] at ok ⊢
  obtain ⟨z, hd, ys, rel, dd⟩ := nd_of ok e ks
  obtain ⟨w', hw', rw'⟩ := RelO.some_of (v := v) (o := (atKey ys k).map (·.2)) (by rw [l]; exact rel.val k)
  obtain ⟨p, hp, hp2⟩ := Option.map_eq_some_iff.mp hw'
  refine wpAny_getItem_heap (knd := nestedKind X.prog HasW.w) (room8 hu) ⟨key.is ok rfl, dp⟩ dd hp ?_
  rw [hp2]
  exact h w' _ (I.tok _) rw'
theorem n_in {Q : Value → Shared → Prop} (hw : X.w = HasW.w) (hu : A.units + 64 < cLine) (I : Inv X pins σ H s) (g : NGet H a y o) (ry : RelV y u) (h : ∀ s', Inv X pins σ H s' → Q (.bool o.isSome) s') :
    wpAny (model X.prog X.w) A (compareOp .In u (.ref a)) Q E s := by
  obtain ⟨xs, k, b, e, ks, rfl, key, dp, l⟩ := g
  cases (show u = Value.ref b from ry)
  have ok := I.hok
  rw [hw] at ok ⊢
  obtain ⟨z, hd, ys, rel, dd⟩ := nd_of ok e ks
  refine wpAny_in_heap (knd := nestedKind X.prog HasW.w) (room8 hu) ⟨key.is ok rfl, dp⟩ hd dd ?_
  have q := (rel.val k).isSome_eq
  rw [Option.isSome_map] at q
  rw [← q, ← l]
  exact h _ (I.tok _)
theorem n_notIn {Q : Value → Shared → Prop} (hw : X.w = HasW.w) (hu : A.units + 64 < cLine) (I : Inv X pins σ H s) (g : NGet H a y o) (ry : RelV y u) (h : ∀ s', Inv X pins σ H s' → Q (.bool (!o.isSome)) s') :
    wpAny (model X.prog X.w) A (compareOp .NotIn u (.ref a)) Q E s := by
  obtain ⟨xs, k, b, e, ks, rfl, key, dp, l⟩ := g
  cases (show u = Value.ref b from ry)
  have ok := I.hok
  rw [hw] at ok ⊢
  obtain ⟨z, hd, ys, rel, dd⟩ := nd_of ok e ks
  refine wpAny_notIn_heap (knd := nestedKind X.prog HasW.w) (room8 hu) ⟨key.is ok rfl, dp⟩ hd dd ?_
  have q := (rel.val k).isSome_eq
  rw [Option.isSome_map] at q
  rw [← q, ← l]
  exact h _ (I.tok _)
theorem n_setItem {H' : Hp} {Q : Unit → Shared → Prop} (hw : X.w = HasW.w) (hu : A.units + 64 < cLine) (I : Inv X pins σ H s) (g : NPut H a y v H') (ry : RelV y u) (rv : RelV v r) (h : ∀ s', Inv X pins σ H' s' → Q () s') :
    wpAny (model X.prog X.w) A (setItem (.ref a) u r) Q E s := by
  obtain ⟨xs, k, b, e, ks, rfl, key, dp, few, rfl⟩ := g
  cases (show u = Value.ref b from ry)
  have ok := I.hok
  have ok2 := I.hok
  rw [hw] at ok
  obtain ⟨z, hd, ys, rel, dd⟩ := nd_of ok e ks
  have hz : ys.length ≤ sizeLine := by rw [← Paired.length rel]; exact z
  have hl : (nPut xs k b v).length ≤ sizeLine := by have := length_nPut xs k b v; omega
  rw [← hw] at dd
  refine wpAny_setItem_heap (hsz := hz) (knd := nestedKind X.prog X.w) (room8 hu) ⟨key.is ok2 rfl, dp⟩ dd fun h' dd' hs => h _ ?_
  have he : ∃ q, h'.get? a = some q := let ⟨q, _, _, hq, _⟩ := dd'; ⟨q, hq⟩
  refine d_write I (by rw [e]; exact True.intro) hs he ?_
  have := nd_new (H := upd H a (ND a (nPut xs k b v))) hl hd (rel.put k b rv) dd'
  rw [hw] at this ⊢
  exact this
theorem n_get1 {Q : Value → Shared → Prop} (hw : X.w = HasW.w) (hu : A.units + 64 < cLine) (I : Inv X pins σ H s) (g : NGet H a y o) (ry : RelV y u) (h : ∀ w' s', Inv X pins σ H s' → RelV (o.getD .non) w' → Q w' s') :
    wpAny (model X.prog X.w) A (call (.builtin "dict.get") [.ref a, u]) Q E s := by
  obtain ⟨xs, k, b, e, ks, rfl, key, dp, l⟩ := g
  cases (show u = Value.ref b from ry)
  have ok := I.hok
  rw [hw] at ok ⊢
  obtain ⟨z, hd, ys, rel, dd⟩ := nd_of ok e ks
  refine call_meetsIn PySem.F.slot_dict_get dd.typeIs PySem.F.entry_dict_get (PySem.F.args_dict_get_2 _ _) (meetsH_dict_get (nestedKind X.prog HasW.w) a b hd) ⟨room8 hu, k, ys, ⟨key.is ok rfl, dp⟩, dd, h _ _ (I.tok _) ?_⟩
  rw [l]
  exact (rel.val k).getD rfl
theorem n_typeIs (hw : X.w = HasW.w) (I : Inv X pins σ H s) {xs : List NEnt} (e : H a = some (ND a xs)) : s.TypeIs (.ref a) "dict" ∧ (∀ b, Value.ref a = .ref b → ∃ ob, s.heap.get? b = some ob ∧ ob.dict = none) := by
  obtain ⟨⟨z, y, ys, r, ob, es, ep, h1, h2, h3, h4, h5⟩, _⟩ := (show ObjOk X.prog X.w H s.heap a (ND a xs) from I.hok a _ e)
  refine ⟨⟨ob, h1, h2.1⟩, fun b q => ?_⟩
  cases q
  exact ⟨ob, h1, h2.2.1⟩
end
/-! ### readings and rules -/
section
variable [HasW]
def tNGet (td ty : TE) : TE := fun σ H Q => td σ H fun x H1 => ty σ H1 fun y H2 => ∃ a v, x = .ref a ∧ NGet H2 a y (some v) ∧ Q v H2
def tNIn (ty td : TE) : TE := fun σ H Q => ty σ H fun y H1 => td σ H1 fun x H2 => ∃ a o, x = .ref a ∧ NGet H2 a y o ∧ Q (.bl o.isSome) H2
def tNNotIn (ty td : TE) : TE := fun σ H Q => ty σ H fun y H1 => td σ H1 fun x H2 => ∃ a o, x = .ref a ∧ NGet H2 a y o ∧ Q (.bl (!o.isSome)) H2
def sNPut (td ty tv : TE) : TS := fun D σ H => tv σ H fun v H1 => td σ H1 fun x H2 => ty σ H2 fun y H3 => ∃ a H4, x = .ref a ∧ NPut H3 a y v H4 ∧ D.nx σ H4
def tNGet1 (td ty : TE) : TE := fun σ H Q => td σ H fun x H1 => ∃ a xs, x = .ref a ∧ H1 a = some (ND a xs) ∧ ty σ H1 fun y H2 => ∃ o, NGet H2 a y o ∧ Q (o.getD .non) H2
/-- {} -/
def tNNew : TE := fun _ H Q => ∀ p, H p = none → Q (.ref p) (upd H p (ND p []))
end
section
variable [HasW] {X : Cx} {o i e value : Expr} {pos pos' apos cpos : Pos} {td ty tv : TE}
theorem pe_nget (hw : X.w = HasW.w) (hu : X.A.units + 64 < cLine) (ho : PE X o td) (hi : PE X i ty) (hs : NoSl i) : PE X (.Subscript o i pos) (tNGet td ty) := by
  refine ⟨fun pins s σ H Q I h => ?_⟩
  refine subD_of PySem.F.slot_dict_getitem.lookup hs (thn (ho.run pins s σ H _ I h) fun u s1 ⟨x, H1, I1, rx, q1⟩ => thn (hi.run pins s1 σ H1 _ I1 q1) fun iv s2 ⟨y, H2, I2, ry, a, v, ex, g, q2⟩ => ?_)
  subst ex
  obtain rfl : u = Value.ref a := rx
  refine ⟨?_, n_getItem hw hu I2 g ry fun w' s3 I3 rw' => ⟨v, H2, I3, rw', q2⟩⟩
  obtain ⟨xs, _, _, e, _⟩ := g
  exact (n_typeIs hw I2 e).1
theorem pc_nin (hw : X.w = HasW.w) (hu : X.A.units + 64 < cLine) (hi : PE X i ty) (ho : PE X o td) : PC X .In i o (tNIn ty td) := by
  refine ⟨fun pins s σ H Q I h => ?_⟩
  refine thn (hi.run pins s σ H _ I h) fun iv s1 ⟨y, H1, I1, ry, q1⟩ => thn (ho.run pins s1 σ H1 _ I1 q1) fun u s2 ⟨x, H2, I2, rx, a, ov, ex, g, q2⟩ => ?_
  subst ex
  obtain rfl : u = Value.ref a := rx
  exact n_in hw hu I2 g ry fun s3 I3 => ⟨.bl ov.isSome, H2, I3, rfl, q2⟩
theorem pc_nnotin (hw : X.w = HasW.w) (hu : X.A.units + 64 < cLine) (hi : PE X i ty) (ho : PE X o td) : PC X .NotIn i o (tNNotIn ty td) := by
  refine ⟨fun pins s σ H Q I h => ?_⟩
  refine thn (hi.run pins s σ H _ I h) fun iv s1 ⟨y, H1, I1, ry, q1⟩ => thn (ho.run pins s1 σ H1 _ I1 q1) fun u s2 ⟨x, H2, I2, rx, a, ov, ex, g, q2⟩ => ?_
  subst ex
  obtain rfl : u = Value.ref a := rx
  exact n_notIn hw hu I2 g ry fun s3 I3 => ⟨.bl (!ov.isSome), H2, I3, rfl, q2⟩
theorem ps_nput (hw : X.w = HasW.w) (hu : X.A.units + 64 < cLine) (ho : PE X o td) (hi : PE X i ty) (hv : PE X value tv) (hs : swapsWith value (some (.Subscript o i pos')) pos.line X.env = pure false) :
    PS X (.Assign [.Subscript o i pos'] value pos) (sNPut td ty tv) := by
  refine ⟨fun pins s σ H D I h => ?_⟩
  refine wpAny_Assign_Subscript (thn (hv.run pins s σ H _ I h) fun r s1 ⟨v, H1, I1, rv, q1⟩ => thn (ho.run pins s1 σ H1 _ I1 q1) fun u s2 ⟨x, H2, I2, rx, q2⟩ => thn (hi.run pins s2 σ H2 _ I2 q2) fun iv s3 ⟨y, H3, I3, ry, a, H4, ex, g, q3⟩ => ?_) hs
  subst ex
  obtain rfl : u = Value.ref a := rx
  exact n_setItem hw hu I3 g ry rv fun s4 I4 => ⟨σ, H4, I4, q3⟩
theorem pe_nget1 (hw : X.w = HasW.w) (hu : X.A.units + 64 < cLine) (ho : PE X o td) (he : PE X e ty) (m : M1 X o "get" apos e cpos) : PE X (.Call (.Attribute o "get" apos) [e] [] cpos) (tNGet1 td ty) := by
  refine ⟨fun pins s σ H Q I h => ?_⟩
  refine wpAny_Call_method m.base m.few m.line PySem.F.plainAttrs_dict PySem.F.slot_dict_get PySem.F.type_dict_get (thn (ho.run pins s σ H _ I h) fun u s1 ⟨x, H1, I1, rx, a, xs, ex, d, q1⟩ => ?_)
  subst ex
  obtain rfl : u = Value.ref a := rx
  obtain ⟨t1, t2⟩ := n_typeIs hw I1 d
  refine ⟨t1, t2, ?_⟩
  rw [m.trees]
  refine Calls.callWith_builtin rfl (Calls.evalArgs_plain (Calls.spliced_cons (thn (he.run pins s1 σ H1 _ I1 q1) fun iv s2 ⟨y, H2, I2, ry, ov, g, q2⟩ => Calls.spliced_nil ?_)))
  exact n_get1 hw hu I2 g ry fun w' s3 I3 rw' => ⟨_, H2, I3, rw', q2⟩
theorem pe_nnew (hw : X.w = HasW.w) : PE X (.Dict [] [] pos) tNNew := ⟨fun pins s σ H Q I h => by
  refine wpAny_Dict_empty ⟨.ref s.heap.objs.size, _, I.laid (a := s.heap.objs.size) (o := ND s.heap.objs.size []) (t' := s.toks) (fun _ _ q => Heap.get?_push_of_some _ q) (Nat.le_refl _) ?_, rfl, h _ (I.hok.fresh (Nat.le_refl _))⟩
  have hb := I.big
  have := nd_new (P := X.prog) (w := HasW.w) (xs := []) (H := upd H s.heap.objs.size (ND s.heap.objs.size [])) (Nat.zero_le _) (beq_eq_false_iff_ne.mpr (Ne.symm (Nat.ne_of_lt hb))) .nil (Heap.DictOfH.new (knd := nestedKind X.prog HasW.w) s.heap)
  rw [hw]
  exact this⟩
end
end Fw

set_option Elab.async false
set_option linter.all false
set_option maxRecDepth 100000
set_option maxHeartbeats 4000000
/-! Methods of own classes that raise; len of an own class. -/
namespace Fw
open PySem PySem.Spec PyProof.Rows L2
def tMethX (C : Addr) (m : Str) (sp : Sp) (E : L2.St → XK) (ta : TE) (t : TA) : TE := fun σ H Q => ta σ H fun x H1 => ∃ a dx fs, x = .ref a ∧ H1 a = some (.ins C dx fs) ∧ fs.lookup m = none ∧
  t σ H1 fun vs H2 => sp (x :: vs) H2 Q (E σ)
section
variable {X : Cx} {CX : CXT} {k : Nat} {f C : Addr} {fd : FuncData} {ps : List Str} {sp : Sp} {E : L2.St → XK} {E1 : XK} {x m : Str} {p pos apos : Pos} {e o : Expr} {es : List Expr} {ta : TE} {t : TA}
/-- o.m(e, ..), which may raise -/
theorem pe_methX {pl : Sem Bool} (he : PE X o ta) (c : Cls X.K C) (hm : Meth X.K C m f) (F : FnOk X.prog X.w X.K X.mg X.base CX k f fd ps sp) (hr : Room k X.A) (hb : Binds X.K fd ps []) (hx : ∀ σ, PassesAt CX X σ (E σ)) (ha : PA X (e :: es) t)
    (hst : starEach (e :: es) X.env = (false, eval e X.env) :: starEach es X.env := by rfl) (hpl : (backTo pos (starEach es X.env)).any (·.1) = false := by rfl)
    (ht : eval (.Call (.Attribute o m apos) (e :: es) [] pos) X.env = (do
      let ov ← eval o X.env
      standAt apos.atName
      let (f, first) ← holding [ov] (getMethod ov m pl)
      callWith pos f first (backTo pos (starEach (e :: es) X.env)) (backToKw pos (keywordEach [] X.env))) := by rfl) :
    PE X (.Call (.Attribute o m apos) (e :: es) [] pos) (tMethX C m sp E ta t) := by
  refine ⟨fun pins s σ H Q I h => ?_⟩
  refine PySem.W.methodCall_KW (pl := pl) (thn (he.run pins s σ H _ I h) fun u s1 ⟨x, H1, I1, rx, a, dx, fs, ex, ea, l, q⟩ => ?_) ht
  subst ex
  obtain rfl : u = Value.ref a := rx
  refine getmeth_ok I1 ea c hm l ?_
  refine PySem.W.callWith_K (first := [.ref a]) (h₀ := X.base) I.ok.mod.kin hm.kp (thn (ha.run pos pins s1 σ H1 _ I1 q) fun us s2 ⟨vs, H2, I2, r, q2⟩ => ⟨I2.kIn, ?_⟩) hst hpl
  exact run_fnS (us := .ref a :: us) (vs := .ref a :: vs) F hr hb (hx σ) I2 (.cons rfl r) q2
/-- len(x), x of an own class -/
def rLenC (C : Addr) (sp : Sp) (E : XK) : List V → Hp → VK → Prop := fun xs H Q => ∃ a dx fs, xs = [.ref a] ∧ H a = some (.ins C dx fs) ∧ sp [.ref a] H (fun v H' => ∃ n : Nat, v = .int n ∧ n ≤ 1000000 ∧ Q (.int n) H') E
theorem call_lenC (F : FnOk X.prog X.w X.K X.mg X.base CX k f fd ps sp) (hm : Meth X.K C "__len__" f) (hr : Room (k + 1) X.A) (hb : Binds X.K fd ps []) (hx : Passes CX X E1) : CallR X (.builtin "len") (rLenC C sp E1) := by
  intro pins s σ H xs us Q I r h
  obtain ⟨a, dx, fs, rfl, ha, q⟩ := h
  obtain rfl : us = [Value.ref a] := by
    cases r with
    | cons h t =>
      cases t
      obtain rfl := (show _ = Value.ref a from h)
      rfl
  obtain ⟨mA, J, _⟩ := ins_get I.hok ha
  obtain ⟨od, J, _⟩ := J.look
  obtain ⟨m, hF⟩ := I.fr
  refine PySem.W.len_K hF I.ok.mod.kin J hm.at_ hm.fn ?_
  have e0 : Env0 X.prog X.w X.K X.mg X.base X.A.in1 X.stack s H := by
    have e := I.env0
    exact ⟨e.frames, e.mod, e.bs, e.bsz, e.funs, e.frf, e.hok, e.bare⟩
  have hl := F.len _ _ _ _ q
  refine wpAny_call (codeAny_mono (F.run X.A.in1 X.stack s H ⟨[.ref a], []⟩ [.ref a] [.ref a] _ E1 hr.in1 e0 (by
    have := hb s [.ref a] I.kIn (by simpa using hl)
    simpa using this) (.cons rfl .nil) q) fun r s' hq => ?_)
  cases r with
  | error e => exact hx pins σ H s e s' I hq
  | ok fl =>
    cases fl with
    | ret w =>
      obtain ⟨z, H', I', rz, n, ez, hn, hz⟩ := I.after hq
      subst ez
      obtain ⟨t, rfl⟩ : ∃ t, w = .int n t := rz
      refine ⟨⟨by omega, by omega⟩, .int n, H', I'.tok _, ⟨_, rfl⟩, hz⟩
    | next => exact False.elim hq
    | brk => exact False.elim hq
    | cont => exact False.elim hq
end
end Fw

set_option Elab.async false
set_option linter.all false
set_option maxRecDepth 100000
set_option maxHeartbeats 4000000
namespace Fw
open PySem L2 RZ RT
/-! ### readings by name -/
abbrev rAddI : R2 := rI0 fun i j => .int (i + j)
abbrev rSubI : R2 := rI0 fun i j => .int (i - j)
abbrev rMulI : R2 := rI CMul fun i j => .int (i * j)
abbrev rDivI : R2 := rI CDivW fun i j => .int (i / j)
abbrev rModI : R2 := rI (fun _ j => 0 < j) fun i j => .int (i % j)
abbrev rPowI : R2 := rI CPow fun i j => .int (i ^ j.toNat)
abbrev rLtI : R2 := rI0 fun i j => .bl (decide (i < j))
abbrev rLeI : R2 := rI0 fun i j => .bl (decide (i ≤ j))
abbrev rGtI : R2 := rI0 fun i j => .bl (decide (j < i))
abbrev rGeI : R2 := rI0 fun i j => .bl (decide (j ≤ i))
abbrev rNegI : V → Hp → VK → Prop := rU fun i => .int (-i)
abbrev fIsN : R2 := fun x y H Q => y = .non ∧ Q (.bl (decide (x = .non))) H
abbrev fNotN : R2 := fun x y H Q => y = .non ∧ Q (.bl (!decide (x = .non))) H
def fLen (K : PySem.W.Frag) : List V → Hp → VK → Prop := fun xs H Q => ∃ x n, xs = [x] ∧ LenV K x H n ∧ Q (.int n) H
def fListOf (K : PySem.W.Frag) : List V → Hp → VK → Prop := fun xs H Q => ∃ p ys, xs = [.ref p] ∧ (SqL K H p ys ∨ SqT K H p ys) ∧ ∀ l, H l = none → Q (.ref l) (upd H l (.lst ys))
def fTupleOf (K : PySem.W.Frag) : List V → Hp → VK → Prop := fun xs H Q => ∃ p ys, xs = [.ref p] ∧ ((SqL K H p ys ∧ ∀ l, H l = none → Q (.ref l) (upd H l (.tup ys))) ∨ (SqT K H p ys ∧ Q (.ref p) H))
def fMin2 : List V → Hp → VK → Prop := fun xs H Q => ∃ i j, xs = [.int i, .int j] ∧ Q (.int (if j < i then j else i)) H
def fMax2 : List V → Hp → VK → Prop := fun xs H Q => ∃ i j, xs = [.int i, .int j] ∧ Q (.int (if j > i then j else i)) H
/-! ### steps -/
section
variable {K : PySem.W.Frag} {H : Hp} {p : Addr} {xs : List V} {i : Int} {v : V} {Q : VK}
theorem ixL (h : H p = some (.lst xs)) (ha : atI xs i = some v) (q : Q v H) : rIx K (.ref p) (.int i) H Q := .inl ⟨p, xs, i, v, rfl, rfl, .inl (.inl h), ha, q⟩
theorem ixT (h : H p = some (.tup xs)) (ha : atI xs i = some v) (q : Q v H) : rIx K (.ref p) (.int i) H Q := .inr (.inl ⟨p, xs, i, v, rfl, rfl, .inl (.inl h), ha, q⟩)
theorem lenL {σ : L2.St} (h : H p = some (.lst xs)) (q : Q (.int xs.length) H) : tNil σ H fun ys H2 => fLen K (.ref p :: ys) H2 Q := ⟨_, _, rfl, .inl ⟨xs, .inl (.inl h), rfl⟩, q⟩
theorem lenT {σ : L2.St} (h : H p = some (.tup xs)) (q : Q (.int xs.length) H) : tNil σ H fun ys H2 => fLen K (.ref p :: ys) H2 Q := ⟨_, _, rfl, .inr ⟨xs, .inl (.inl h), rfl⟩, q⟩
theorem sqL (h : H p = some (.lst xs)) : SqL K H p xs := .inl (.inl h)
theorem sqT (h : H p = some (.tup xs)) : SqT K H p xs := .inl (.inl h)
end
theorem updS {H : Hp} {a : Addr} {o : HO} : upd H a o a = some o := upd_same
theorem updN {H : Hp} {a b : Addr} {o : HO} {r : Option HO} (n : b ≠ a) (h : H b = r) : upd H a o b = r := by rw [upd_ne n]; exact h
theorem small100 {m : Int} (h : m.natAbs ≤ 1000000000000000000) : m.natAbs < 2 ^ 100 := Nat.lt_of_le_of_lt h (by decide)
/-- the number in a slot, as a measure -/
def slotN (k : Nat) (σ : L2.St) : Nat := match σ[k]? with
  | some (some (V.int n)) => n.toNat
  | _ => 0
theorem getLastD_of {l : List V} (h : l ≠ []) : l.getLastD .non = l.getLast h := by
  rw [List.getLastD_eq_getLast?, List.getLast?_eq_getLast h]
  rfl
theorem pow18 : (10 : Int) ^ (18 : Int).toNat = 1000000000000000000 := by decide
/-! ### the deck of a law -/
/-- the deck at D: the cells at c, the turn at most t -/
def Dk (c D : Addr) (ns : List Int) (t : Nat) (H : Hp) : Prop := c ≠ D ∧ H c = some (.lst (ns.map V.int)) ∧ ns.length ≤ 63 ∧
  ∃ i n u : Int, H D = some (.lst [.ref c, .int i, .int n, .int u]) ∧ 0 ≤ i ∧ i ≤ ns.length ∧ 0 ≤ n ∧ 0 ≤ u ∧ u ≤ t
def sp_l_deck (K : PySem.W.Frag) : Sp := fun vs H Q _ => ∃ (a : Addr) (ns : List Int), vs = [.ref a] ∧ SqL K H a (ns.map V.int) ∧ ns.length ≤ 63 ∧
  ∀ c D H', Same H H' → H c = none → H D = none → Dk c D ns 0 H' → Q (.ref D) H'
def sp_l_mixed (_ : PySem.W.Frag) : Sp := fun vs H Q _ => ∃ (c t : Int), vs = [.int c, .int t] ∧ 0 ≤ t ∧ t ≤ 1000000000 ∧ ∀ v : Int, Q (.int v) H
def sp_l_draw (_ : PySem.W.Frag) : Sp := fun vs H Q _ => ∃ (c D : Addr) (ns : List Int) (t : Nat) (m : Int), vs = [.ref D, .int m] ∧ Dk c D ns t H ∧ t < 1000000000 ∧ 0 < m ∧ m.natAbs < 2 ^ 100 ∧
  ∀ (v : Int) (H' : Hp), 0 ≤ v → v < m → Dk c D ns (t + 1) H' → (∀ b, b ≠ D → H' b = H b) → Q (.int v) H'
def sp_l_int (_ : PySem.W.Frag) : Sp := fun vs H Q _ => ∃ i : Int, vs = [.int i] ∧ Q (.bl true) H
abbrev N_l_deck : List Str := ["_law_script"]
def t_l_deck (K : PySem.W.Frag) : TS := (tRet (tLst (tCons (tCB (fListOf K) (tCons (tVar 0) tNil)) (tCons (tC (.int 0)) (tCons (tC (.int 0)) (tCons (tC (.int 0)) tNil))))))
abbrev N_l_mixed : List Str := ["_law_cell", "_law_turn"]
def t_l_mixed (K : PySem.W.Frag) : TS := (tRet (tOp rModI (tOp rPowI (tOp rAddI (tOp rAddI (tOp rModI (tVar 0) (tC (.int 2147483629))) (tOp rMulI (tVar 1) (tC (.int 1000003)))) (tC (.int 17))) (tC (.int 5))) (tC (.int 2147483647))))
abbrev N_l_draw : List Str := ["_law_deck_here", "_law_many", "_law_cells", "_law_found", "_law_number"]
def t_l_draw_in (K : PySem.W.Frag) : TS := (tSeq (tIfS (tTest (tOp rLtI (tOp (rIx K) (tVar 2) (tOp rSubI (tOp (rIx K) (tVar 0) (tC (.int 1))) (tC (.int 1)))) (tOp rPowI (tC (.int 10)) (tC (.int 18))))) (tRet (tOp rModI (tCall (sp_l_mixed K) [] E0 (tCons (tOp (rIx K) (tVar 2) (tOp rSubI (tOp (rIx K) (tVar 0) (tC (.int 1))) (tC (.int 1)))) (tCons (tOp (rIx K) (tVar 0) (tC (.int 3))) tNil))) (tVar 1))) tNext)
    (tAsg (tOp (rIx K) (tVar 2) (tOp rSubI (tOp (rIx K) (tVar 0) (tC (.int 1))) (tC (.int 1)))) (gSub (tVar 0) (tC (.int 2)) rSetL)))
def t_l_draw_last (K : PySem.W.Frag) : TS := (tRet (tOp rModI (tCall (sp_l_mixed K) [] E0 (tCons (tVar 4) (tCons (tOp (rIx K) (tVar 0) (tC (.int 3))) tNil))) (tVar 1)))
def t_l_draw_rest (K : PySem.W.Frag) : TS := (tSeq (tIfS (tTest (tOp rGtI (tOp (rIx K) (tVar 0) (tC (.int 2))) (tC (.int 0)))) (tSeq (tAsg (tOp rModI (tOp (rIx K) (tVar 0) (tC (.int 2))) (tVar 1)) (gName 3))
    (tSeq (tAsg (tOp rDivI (tOp (rIx K) (tVar 0) (tC (.int 2))) (tVar 1)) (gSub (tVar 0) (tC (.int 2)) rSetL))
    (tRet (tVar 3)))) tNext)
    (tSeq (tAsg (tOp rMulI (tOp (rIx K) (tVar 0) (tC (.int 3))) (tC (.int 48271))) (gName 4))
    (tSeq (tIfS (tTest (tOp rGtI (tCB (fLen K) (tCons (tVar 2) tNil)) (tC (.int 0)))) (tAsg (tOp rAddI (tVar 4) (tOp rModI (tOp (rIx K) (tVar 2) (tOp rModI (tOp rMulI (tOp (rIx K) (tVar 0) (tC (.int 3))) (tC (.int 7))) (tCB (fLen K) (tCons (tVar 2) tNil)))) (tC (.int 2147483629)))) (gName 4)) tNext)
    (t_l_draw_last K))))
def t_l_draw_mid (K : PySem.W.Frag) : TS := (tSeq (tIfS (tAnd (tTest (tOp rEq (tOp (rIx K) (tVar 0) (tC (.int 2))) (tC (.int 0)))) (tTest (tOp rLtI (tOp (rIx K) (tVar 0) (tC (.int 1))) (tCB (fLen K) (tCons (tVar 2) tNil))))) (tSeq (tAsg (tOp rAddI (tOp (rIx K) (tVar 0) (tC (.int 1))) (tC (.int 1))) (gSub (tVar 0) (tC (.int 1)) rSetL))
    (t_l_draw_in K)) tNext)
    (t_l_draw_rest K))
def t_l_draw (K : PySem.W.Frag) : TS := (tSeq (tAsg (tOp (rIx K) (tVar 0) (tC (.int 0))) (gName 2))
    (tSeq (tAsg (tOp rAddI (tOp (rIx K) (tVar 0) (tC (.int 3))) (tC (.int 1))) (gSub (tVar 0) (tC (.int 3)) rSetL))
    (t_l_draw_mid K)))
abbrev N_l_int : List Str := ["_law_thing"]
def t_l_int (K : PySem.W.Frag) : TS := (tRet (tAndV (tCB (rIsi K) (tCons (tVar 0) (tCons (tC (.ty "int")) tNil))) (tNotV (tCB (rIsi K) (tCons (tVar 0) (tCons (tC (.ty "bool")) tNil))))))
theorem pure_l_deck {K : PySem.W.Frag} {vs : List V} {H : Hp} {Q : VK} {E : XK} (h : sp_l_deck K vs H Q E) : t_l_deck K { nx := fun _ H' => Q .non H', rt := Q } (start N_l_deck vs) H := by
  obtain ⟨a, ns, rfl, hS, hl, k⟩ := h
  refine ⟨_, rfl, a, _, rfl, .inl hS, fun c nc => ⟨by show (4 : Nat) ≤ sizeLine; decide, fun D nD => ?_⟩⟩
  have ncD : c ≠ D := fun e => by rw [← e, updS] at nD; cases nD
  have nD0 : H D = none := by rw [upd_ne ncD.symm] at nD; exact nD
  refine k c D _ (fun b o e => updN (ne_of_none e nD0) (updN (ne_of_none e nc) e)) nc nD0 ⟨ncD, updN ncD updS, hl, 0, 0, 0, updS, Int.le_refl _, by omega, Int.le_refl _, Int.le_refl _, Int.le_refl _⟩
theorem pure_l_mixed {K : PySem.W.Frag} {vs : List V} {H : Hp} {Q : VK} {E : XK} (h : sp_l_mixed K vs H Q E) : t_l_mixed K { nx := fun _ H' => Q .non H', rt := Q } (start N_l_mixed vs) H := by
  obtain ⟨c, t, rfl, h0, h1, k⟩ := h
  refine ⟨_, rfl, _, _, rfl, rfl, (by show (0 : Int) < 2147483629; decide), _, rfl, _, _, rfl, rfl, .inr ⟨by decide, by decide⟩, _, _, rfl, rfl, _, _, rfl, rfl, _, _, rfl, rfl, ⟨by decide, by decide, ?_⟩, _, _, rfl, rfl, (by show (0 : Int) < 2147483647; decide), k _⟩
  have := Int.emod_nonneg c (show (2147483629 : Int) ≠ 0 by decide)
  have := Int.emod_lt_of_pos c (show (0 : Int) < 2147483629 by decide)
  omega
theorem pure_l_int {K : PySem.W.Frag} {vs : List V} {H : Hp} {Q : VK} {E : XK} (h : sp_l_int K vs H Q E) : t_l_int K { nx := fun _ H' => Q .non H', rt := Q } (start N_l_int vs) H := by
  obtain ⟨i, rfl, k⟩ := h
  refine ⟨_, rfl, _, _, _, _, true, rfl, .ty _, .base (.int i), kit_ty (by decide +kernel), _, rfl, iteT ?_⟩
  refine ⟨_, rfl, _, _, _, _, false, rfl, .ty _, .base (.int i), kit_ty (by decide +kernel), _, rfl, k⟩
theorem pure_l_draw {K : PySem.W.Frag} {vs : List V} {H : Hp} {Q : VK} {E : XK} (h : sp_l_draw K vs H Q E) : t_l_draw K { nx := fun _ H' => Q .non H', rt := Q } (start N_l_draw vs) H := by
  obtain ⟨c, D, ns, t, m, rfl, ⟨ncD, hc, hl, i, n, u, hD, i0, i1, n0, u0, u1⟩, ht, m0, m1, k⟩ := h
  have cells : ∀ {j : Int}, 0 ≤ j → j < ns.length → ∃ z : Int, atI (ns.map V.int) j = some (.int z) := fun {j} h0 h1 => by
    obtain ⟨q, rfl⟩ := Int.eq_ofNat_of_zero_le h0
    have hq : q < ns.length := by omega
    exact ⟨ns[q], atI_nat (by rw [List.getElem?_map, List.getElem?_eq_getElem hq]; rfl)⟩
  -- the rest, from any i and n
  have rest : ∀ (i n : Int) (H2 : Hp) (z3 z4 : Option V), 0 ≤ i → i ≤ ns.length → 0 ≤ n → H2 D = some (.lst [.ref c, .int i, .int n, .int (u + 1)]) → H2 c = some (.lst (ns.map V.int)) → (∀ b, b ≠ D → H2 b = H b) →
      t_l_draw_rest K { nx := fun _ H' => Q .non H', rt := Q } [some (.ref D), some (.int m), some (.ref c), z3, z4] H2 := by
    intro i n H2 z3 z4 i0 i1 n0 hD2 hc2 fr2
    have mod0 : ∀ x : Int, 0 ≤ x % m := fun x => Int.emod_nonneg x (by omega)
    have mod1 : ∀ x : Int, x % m < m := fun x => Int.emod_lt_of_pos x m0
    refine ⟨_, rfl, ixL hD2 rfl ⟨_, _, rfl, rfl, _, rfl, ite2 (fun e => ?_) (fun e => ?_)⟩⟩
    · have hn : 0 < n := of_decide_eq_true e
      refine ⟨_, rfl, ixL hD2 rfl ⟨_, rfl, _, _, rfl, rfl, m0, ?_⟩⟩
      refine ⟨_, rfl, ixL hD2 rfl ⟨_, rfl, _, _, rfl, rfl, wide_div m0 m1 (by decide) (by decide), _, rfl, D, _, _, 2, rfl, rfl, hD2, rfl, ?_⟩⟩
      refine ⟨_, rfl, k _ _ (mod0 n) (mod1 n) ⟨ncD, updN ncD hc2, hl, i, n / m, u + 1, updS, i0, i1, Int.ediv_nonneg n0 (by omega), by omega, by omega⟩ fun b nb => (upd_ne nb).trans (fr2 b nb)⟩
    · refine ⟨_, rfl, ixL hD2 rfl ⟨_, _, rfl, rfl, .inr ⟨by decide, by decide⟩, ?_⟩⟩
      have last : ∀ (y : Int), t_l_draw_last K { nx := fun _ H' => Q .non H', rt := Q } [some (.ref D), some (.int m), some (.ref c), z3, some (.int y)] H2 := fun y => by
        refine ⟨_, rfl, _, rfl, ixL hD2 rfl ⟨y, u + 1, rfl, by omega, by omega, fun v => ?_⟩⟩
        refine ⟨_, rfl, _, _, rfl, rfl, m0, k _ _ (mod0 v) (mod1 v) ⟨ncD, hc2, hl, i, n, u + 1, hD2, i0, i1, n0, by omega, by omega⟩ fr2⟩
      refine ⟨_, rfl, lenL hc2 ⟨_, _, rfl, rfl, _, rfl, ite2 (fun e => ?_) (fun e => ?_)⟩⟩
      · have hn : 0 < ns.length := by
          have q : (0 : Int) < (ns.map V.int).length := of_decide_eq_true e
          rw [List.length_map] at q
          omega
        have hlen : ((ns.map V.int).length : Int) = ns.length := by rw [List.length_map]
        obtain ⟨z, hz⟩ := cells (j := (u + 1) * 7 % ((ns.map V.int).length : Int)) (Int.emod_nonneg _ (by omega)) (by rw [hlen]; exact Int.emod_lt_of_pos _ (by omega))
        refine ⟨_, rfl, _, rfl, _, rfl, ixL hD2 rfl ⟨_, _, rfl, rfl, .inr ⟨by decide, by decide⟩, _, rfl, lenL hc2 ⟨_, _, rfl, rfl, (by show (0 : Int) < ((ns.map V.int).length : Int); omega), ixL hc2 hz ⟨_, _, rfl, rfl, (by show (0 : Int) < 2147483629; decide), _, _, rfl, rfl, ?_⟩⟩⟩⟩
        exact last _
      · exact last _
  have mid : ∀ (H1 : Hp) (z3 z4 : Option V), H1 D = some (.lst [.ref c, .int i, .int n, .int (u + 1)]) → H1 c = some (.lst (ns.map V.int)) → (∀ b, b ≠ D → H1 b = H b) →
      t_l_draw_mid K { nx := fun _ H' => Q .non H', rt := Q } [some (.ref D), some (.int m), some (.ref c), z3, z4] H1 := by
    intro H1 z3 z4 hD1 hc1 fr1
    refine ⟨_, rfl, ixL hD1 rfl ⟨rfl, _, rfl, ?_⟩⟩
    refine ite2 (fun e => ?_) (fun e => iteF (rest i n H1 _ _ i0 i1 n0 hD1 hc1 fr1))
    refine ⟨_, rfl, ixL hD1 rfl ⟨_, rfl, lenL hc1 ⟨_, _, rfl, rfl, _, rfl, ite2 (fun e2 => ?_) (fun e2 => rest i n H1 _ _ i0 i1 n0 hD1 hc1 fr1)⟩⟩⟩
    have hi : i < ns.length := by
      have q : i < ((ns.map V.int).length : Int) := of_decide_eq_true e2
      rw [List.length_map] at q
      exact q
    obtain ⟨z, hz⟩ := cells i0 hi
    have ei : i + 1 - 1 = i := by omega
    have inn : ∀ (H2 : Hp), H2 D = some (.lst [.ref c, .int (i + 1), .int n, .int (u + 1)]) → H2 c = some (.lst (ns.map V.int)) → (∀ b, b ≠ D → H2 b = H b) →
        t_l_draw_in K { nx := t_l_draw_rest K { nx := fun _ H' => Q .non H', rt := Q }, rt := Q } [some (.ref D), some (.int m), some (.ref c), z3, z4] H2 := by
      intro H2 hD2 hc2 fr2
      refine ⟨_, rfl, _, rfl, ixL hD2 rfl ⟨_, _, rfl, rfl, ixL hc2 (by rw [ei]; exact hz) ⟨_, _, rfl, rfl, ⟨by decide, by decide, by decide⟩, _, _, rfl, rfl, _, rfl, ite2 (fun e3 => ?_) (fun e3 => ?_)⟩⟩⟩
      · refine ⟨_, rfl, _, rfl, ixL hD2 rfl ⟨_, _, rfl, rfl, ixL hc2 (by rw [ei]; exact hz) ⟨_, rfl, ixL hD2 rfl ⟨z, u + 1, rfl, by omega, by omega, fun v => ?_⟩⟩⟩⟩
        refine ⟨_, rfl, _, _, rfl, rfl, m0, k _ _ (Int.emod_nonneg v (by omega)) (Int.emod_lt_of_pos v m0) ⟨ncD, hc2, hl, i + 1, n, u + 1, hD2, by omega, by omega, n0, by omega, by omega⟩ fr2⟩
      · have hz0 : ¬ z < 1000000000000000000 := fun q => e3 (decide_eq_true (by rw [pow18]; exact q))
        refine ⟨_, rfl, _, rfl, ixL hD2 rfl ⟨_, _, rfl, rfl, ixL hc2 (by rw [ei]; exact hz) ⟨_, rfl, D, _, _, 2, rfl, rfl, hD2, rfl, ?_⟩⟩⟩
        exact rest (i + 1) z _ _ _ (by omega) (by omega) (by omega) updS (updN ncD hc2) fun b nb => updN nb (fr2 b nb)
    refine ⟨_, rfl, ixL hD1 rfl ⟨_, _, rfl, rfl, _, rfl, D, _, _, 1, rfl, rfl, hD1, rfl, ?_⟩⟩
    exact inn _ updS (updN ncD hc1) fun b nb => updN nb (fr1 b nb)
  -- cells = deck[0]; deck[3] = deck[3] + 1
  refine ⟨_, rfl, ixL hD rfl ?_⟩
  refine ⟨_, rfl, ixL hD rfl ⟨_, _, rfl, rfl, _, rfl, D, _, _, 3, rfl, rfl, hD, rfl, ?_⟩⟩
  exact mid _ _ _ updS (updN ncD hc) fun b nb => upd_ne nb
/-! ### the same data, kind for kind -/
/-- two values of the same data, at most n deep -/
def SameV (H : Hp) : Nat → V → V → Prop
  | 0, _, _ => False
  | n + 1, x, y => (x = y ∧ (x = .non ∨ (∃ i, x = .int i) ∨ (∃ b, x = .bl b) ∨ ∃ z, x = .str z)) ∨
    ∃ p q xs ys, x = .ref p ∧ y = .ref q ∧ ((H p = some (.lst xs) ∧ H q = some (.lst ys)) ∨ (H p = some (.tup xs) ∧ H q = some (.tup ys))) ∧ xs.length = ys.length ∧ xs.length ≤ 100000 ∧
      ∀ (i : Nat) (a b : V), xs[i]? = some a → ys[i]? = some b → SameV H n a b
theorem SameV.int {H : Hp} {n : Nat} {i j : Int} (e : i = j) : SameV H (n + 1) (.int i) (.int j) := Or.inl ⟨by rw [e], .inr (.inl ⟨i, rfl⟩)⟩
theorem SameV.bl {H : Hp} {n : Nat} {i j : Bool} (e : i = j) : SameV H (n + 1) (.bl i) (.bl j) := Or.inl ⟨by rw [e], .inr (.inr (.inl ⟨i, rfl⟩))⟩
theorem SameV.tup {H : Hp} {n : Nat} {p q : Addr} {xs ys : List V} (h1 : H p = some (.tup xs)) (h2 : H q = some (.tup ys)) (hl : xs.length = ys.length) (hz : xs.length ≤ 100000) (h : ∀ (i : Nat) (a b : V), xs[i]? = some a → ys[i]? = some b → SameV H n a b) : SameV H (n + 1) (.ref p) (.ref q) :=
  Or.inr ⟨p, q, xs, ys, rfl, rfl, .inr ⟨h1, h2⟩, hl, hz, h⟩
theorem SameV.lst {H : Hp} {n : Nat} {p q : Addr} {xs ys : List V} (h1 : H p = some (.lst xs)) (h2 : H q = some (.lst ys)) (hl : xs.length = ys.length) (hz : xs.length ≤ 100000) (h : ∀ (i : Nat) (a b : V), xs[i]? = some a → ys[i]? = some b → SameV H n a b) : SameV H (n + 1) (.ref p) (.ref q) :=
  Or.inr ⟨p, q, xs, ys, rfl, rfl, .inl ⟨h1, h2⟩, hl, hz, h⟩
theorem SameV.ints {H : Hp} {n : Nat} {ns : List Int} : ∀ (i : Nat) (a b : V), (ns.map V.int)[i]? = some a → (ns.map V.int)[i]? = some b → SameV H (n + 1) a b := fun i a b h1 h2 => by
  have e : a = b := Option.some.inj (h1.symm.trans h2)
  rw [List.getElem?_map] at h1
  cases q : ns[i]? with
  | none => rw [q] at h1; cases h1
  | some z => rw [q] at h1; exact Or.inl ⟨e, .inr (.inl ⟨z, (Option.some.inj h1).symm⟩)⟩
def sp_sameN (_ : PySem.W.Frag) (n : Nat) : Sp := fun vs H Q _ => ∃ x y, vs = [x, y] ∧ SameV H n x y ∧ Q (.bl true) H
abbrev sp_l_same (K : PySem.W.Frag) : Sp := sp_sameN K 6
abbrev N_l_same : List Str := ["_law_found", "_law_due", "_law_k"]
def t_l_same_loop (K : PySem.W.Frag) (n : Nat) : TS := (tSeq (tIfS (tTest (tOp rNe (tCB (fLen K) (tCons (tVar 0) tNil)) (tCB (fLen K) (tCons (tVar 1) tNil)))) (tRet (tC (.bl false))) tNext)
    (tSeq (tFor (iRng1 (tCons (tCB (fLen K) (tCons (tVar 1) tNil)) tNil)) (gName 2) (tIfS (tNot (tB (tCall (sp_sameN K n) [] E0 (tCons (tOp (rIx K) (tVar 0) (tVar 2)) (tCons (tOp (rIx K) (tVar 1) (tVar 2)) tNil))))) (tRet (tC (.bl false))) tNext))
    (tRet (tC (.bl true)))))
def t_l_same_tail (K : PySem.W.Frag) (n : Nat) : TS := (tSeq (tIfS (tB (tCB (rIsi K) (tCons (tVar 1) (tCons (tC (.ty "bool")) tNil)))) (tRet (tAndV (tCB (rIsi K) (tCons (tVar 0) (tCons (tC (.ty "bool")) tNil))) (tOp rEq (tVar 0) (tVar 1)))) tNext)
    (tSeq (tIfS (tB (tCB (rIsi K) (tCons (tVar 1) (tCons (tC (.ty "int")) tNil)))) (tRet (tAndV (tCall (sp_l_int K) [] E0 (tCons (tVar 0) tNil)) (tOp rEq (tVar 0) (tVar 1)))) tNext)
    (tSeq (tIfS (tB (tCB (rIsi K) (tCons (tVar 1) (tCons (tC (.ty "str")) tNil)))) (tRet (tAndV (tCB (rIsi K) (tCons (tVar 0) (tCons (tC (.ty "str")) tNil))) (tOp rEq (tVar 0) (tVar 1)))) tNext)
    (tRet (tAndV (tOp fIsN (tVar 1) (tC .non)) (tOp fIsN (tVar 0) (tC .non)))))))
def t_l_same (K : PySem.W.Frag) (n : Nat) : TS := (tSeq (tIfS (tOr (tB (tCB (rIsi K) (tCons (tVar 1) (tCons (tC (.ty "tuple")) tNil)))) (tB (tCB (rIsi K) (tCons (tVar 1) (tCons (tC (.ty "list")) tNil))))) (tSeq (tIfS (tOr (tTest (tOp rNe (tCB (rIsi K) (tCons (tVar 1) (tCons (tC (.ty "tuple")) tNil))) (tCB (rIsi K) (tCons (tVar 0) (tCons (tC (.ty "tuple")) tNil))))) (tTest (tOp rNe (tCB (rIsi K) (tCons (tVar 1) (tCons (tC (.ty "list")) tNil))) (tCB (rIsi K) (tCons (tVar 0) (tCons (tC (.ty "list")) tNil)))))) (tRet (tC (.bl false))) tNext)
    (t_l_same_loop K n)) tNext)
    (t_l_same_tail K n))
section
variable {K : PySem.W.Frag} {H : Hp} {x : V} {Q : VK} {σ : L2.St} {c t : String} {b : Bool}
theorem isi (ty : TyX K H x (.type t)) (k : kitB t c = some b) (q : Q (.bl b) H) : tCons (tC (.ty c)) tNil σ H fun ys H2 => rIsi K (x :: ys) H2 Q := ⟨_, _, _, _, b, rfl, .ty _, ty, kit_ty k, q⟩
end
theorem k_it : kitB "int" "tuple" = some false := by decide +kernel
theorem k_il : kitB "int" "list" = some false := by decide +kernel
theorem k_ib : kitB "int" "bool" = some false := by decide +kernel
theorem k_ii : kitB "int" "int" = some true := by decide +kernel
theorem k_bt : kitB "bool" "tuple" = some false := by decide +kernel
theorem k_bl : kitB "bool" "list" = some false := by decide +kernel
theorem k_bb : kitB "bool" "bool" = some true := by decide +kernel
theorem k_bi : kitB "bool" "int" = some true := by decide +kernel
theorem k_st : kitB "str" "tuple" = some false := by decide +kernel
theorem k_sl : kitB "str" "list" = some false := by decide +kernel
theorem k_sb : kitB "str" "bool" = some false := by decide +kernel
theorem k_si : kitB "str" "int" = some false := by decide +kernel
theorem k_ss : kitB "str" "str" = some true := by decide +kernel
theorem k_nt : kitB "NoneType" "tuple" = some false := by decide +kernel
theorem k_nl : kitB "NoneType" "list" = some false := by decide +kernel
theorem k_nb : kitB "NoneType" "bool" = some false := by decide +kernel
theorem k_ni : kitB "NoneType" "int" = some false := by decide +kernel
theorem k_ns : kitB "NoneType" "str" = some false := by decide +kernel
theorem k_tt : kitB "tuple" "tuple" = some true := by decide +kernel
theorem k_tl : kitB "tuple" "list" = some false := by decide +kernel
theorem k_ti : kitB "tuple" "int" = some false := by decide +kernel
theorem k_tb : kitB "tuple" "bool" = some false := by decide +kernel
theorem k_lt : kitB "list" "tuple" = some false := by decide +kernel
theorem k_ll : kitB "list" "list" = some true := by decide +kernel
theorem k_li : kitB "list" "int" = some false := by decide +kernel
theorem k_lb : kitB "list" "bool" = some false := by decide +kernel
theorem len_le {n : Nat} (h : n ≤ 100000) : -(2 ^ 62 : Int) ≤ (n : Int) ∧ (n : Int) < 2 ^ 62 := by
  have e : (2 : Int) ^ 62 = 4611686018427387904 := by decide
  rw [e]
  omega
theorem pure_l_same {K : PySem.W.Frag} {n : Nat} {vs : List V} {H : Hp} {Q : VK} {E : XK} (h : sp_sameN K (n + 1) vs H Q E) : t_l_same K n { nx := fun _ H' => Q .non H', rt := Q } (start N_l_same vs) H := by
  obtain ⟨x, y, rfl, h, k⟩ := h
  rcases h with ⟨rfl, h⟩ | ⟨p, q, xs, ys, rfl, rfl, h, hl, hz, hs⟩
  · rcases h with rfl | ⟨i, rfl⟩ | ⟨b, rfl⟩ | ⟨z, rfl⟩
    · refine ⟨_, rfl, isi (.base .non) k_nt ⟨_, rfl, iteF ⟨_, rfl, isi (.base .non) k_nl ⟨_, rfl, iteF ?_⟩⟩⟩⟩
      refine ⟨_, rfl, isi (.base .non) k_nb ⟨_, rfl, iteF ?_⟩⟩
      refine ⟨_, rfl, isi (.base .non) k_ni ⟨_, rfl, iteF ?_⟩⟩
      refine ⟨_, rfl, isi (.base .non) k_ns ⟨_, rfl, iteF ?_⟩⟩
      exact ⟨_, rfl, rfl, _, rfl, iteT ⟨_, rfl, rfl, k⟩⟩
    · refine ⟨_, rfl, isi (.base (.int i)) k_it ⟨_, rfl, iteF ⟨_, rfl, isi (.base (.int i)) k_il ⟨_, rfl, iteF ?_⟩⟩⟩⟩
      refine ⟨_, rfl, isi (.base (.int i)) k_ib ⟨_, rfl, iteF ?_⟩⟩
      refine ⟨_, rfl, isi (.base (.int i)) k_ii ⟨_, rfl, iteT ?_⟩⟩
      refine ⟨_, rfl, i, rfl, _, rfl, iteT ⟨_, rfl, _, rfl, rfl, ?_⟩⟩
      rw [decide_eq_true rfl]
      exact k
    · refine ⟨_, rfl, isi (.base (.bl b)) k_bt ⟨_, rfl, iteF ⟨_, rfl, isi (.base (.bl b)) k_bl ⟨_, rfl, iteF ?_⟩⟩⟩⟩
      refine ⟨_, rfl, isi (.base (.bl b)) k_bb ⟨_, rfl, iteT ?_⟩⟩
      refine ⟨_, rfl, isi (.base (.bl b)) k_bb ⟨_, rfl, iteT ⟨_, rfl, _, rfl, rfl, ?_⟩⟩⟩
      rw [decide_eq_true rfl]
      exact k
    · refine ⟨_, rfl, isi (.base (.str z)) k_st ⟨_, rfl, iteF ⟨_, rfl, isi (.base (.str z)) k_sl ⟨_, rfl, iteF ?_⟩⟩⟩⟩
      refine ⟨_, rfl, isi (.base (.str z)) k_sb ⟨_, rfl, iteF ?_⟩⟩
      refine ⟨_, rfl, isi (.base (.str z)) k_si ⟨_, rfl, iteF ?_⟩⟩
      refine ⟨_, rfl, isi (.base (.str z)) k_ss ⟨_, rfl, iteT ?_⟩⟩
      refine ⟨_, rfl, isi (.base (.str z)) k_ss ⟨_, rfl, iteT ⟨_, rfl, _, rfl, rfl, ?_⟩⟩⟩
      rw [decide_eq_true rfl]
      exact k
  · -- the loop over both
    have loop : (∃ o, (H p = some o ∧ (o = .lst xs ∨ o = .tup xs))) → (∃ o, (H q = some o ∧ (o = .lst ys ∨ o = .tup ys))) → ∀ z2 : Option V,
        t_l_same_loop K n { nx := t_l_same_tail K n { nx := fun _ H' => Q .non H', rt := Q }, rt := Q } [some (.ref p), some (.ref q), z2] H := by
      intro hp hq z2
      have hlen : ∀ {r : Addr} {zs : List V} {R : VK} {σ : L2.St}, (∃ o, (H r = some o ∧ (o = .lst zs ∨ o = .tup zs))) → R (.int zs.length) H → tNil σ H fun ws H2 => fLen K (.ref r :: ws) H2 R := by
        rintro r zs R σ ⟨o, h1, rfl | rfl⟩ h2
        · exact lenL h1 h2
        · exact lenT h1 h2
      have hix : ∀ {r : Addr} {zs : List V} {R : VK} {i : Int} {v : V}, (∃ o, (H r = some o ∧ (o = .lst zs ∨ o = .tup zs))) → atI zs i = some v → R v H → rIx K (.ref r) (.int i) H R := by
        rintro r zs R i v ⟨o, h1, rfl | rfl⟩ h2 h3
        · exact ixL h1 h2 h3
        · exact ixT h1 h2 h3
      refine ⟨_, rfl, hlen hp ⟨_, rfl, hlen hq ⟨rfl, _, rfl, ?_⟩⟩⟩
      rw [decide_eq_true (show V.int (xs.length : Int) = V.int (ys.length : Int) by rw [hl])]
      refine iteF ?_
      refine ⟨_, rfl, hlen hq ⟨_, rfl, (len_le (by omega)).1, (len_le (by omega)).2, for_range (lo := 0) (n := ((ys.length : Int)).toNat) (fun i σ H' => H' = H ∧ ∃ z, σ = [some (.ref p), some (.ref q), z]) ⟨rfl, _, rfl⟩ ?_ ?_⟩⟩
      · rintro i σ H' hi ⟨rfl, z, rfl⟩
        have hi1 : i < ys.length := by omega
        have hi2 : i < xs.length := by omega
        have e1 : atI xs (0 + (i : Int)) = some xs[i] := by rw [Int.zero_add]; exact atI_nat (List.getElem?_eq_getElem hi2)
        have e2 : atI ys (0 + (i : Int)) = some ys[i] := by rw [Int.zero_add]; exact atI_nat (List.getElem?_eq_getElem hi1)
        refine ⟨_, rfl, _, rfl, hix hp e1 ⟨_, rfl, _, rfl, hix hq e2 ⟨_, _, rfl, hs i _ _ (List.getElem?_eq_getElem hi2) (List.getElem?_eq_getElem hi1), _, rfl, iteF ?_⟩⟩⟩
        exact ⟨rfl, _, rfl⟩
      · rintro σ H' ⟨rfl, z, rfl⟩
        exact k
    rcases h with ⟨h1, h2⟩ | ⟨h1, h2⟩
    · have t1 : TyX K H (.ref p) (.type "list") := .base (.lst h1)
      have t2 : TyX K H (.ref q) (.type "list") := .base (.lst h2)
      refine ⟨_, rfl, isi t2 k_lt ⟨_, rfl, iteF ⟨_, rfl, isi t2 k_ll ⟨_, rfl, iteT ?_⟩⟩⟩⟩
      refine ⟨_, rfl, isi t2 k_lt ⟨_, rfl, isi t1 k_lt ⟨rfl, _, rfl, iteF ⟨_, rfl, isi t2 k_ll ⟨_, rfl, isi t1 k_ll ⟨rfl, _, rfl, iteF ?_⟩⟩⟩⟩⟩⟩
      exact loop ⟨_, h1, .inl rfl⟩ ⟨_, h2, .inl rfl⟩ _
    · have t1 : TyX K H (.ref p) (.type "tuple") := .base (.tup h1)
      have t2 : TyX K H (.ref q) (.type "tuple") := .base (.tup h2)
      refine ⟨_, rfl, isi t2 k_tt ⟨_, rfl, iteT ?_⟩⟩
      refine ⟨_, rfl, isi t2 k_tt ⟨_, rfl, isi t1 k_tt ⟨rfl, _, rfl, iteF ⟨_, rfl, isi t2 k_tl ⟨_, rfl, isi t1 k_tl ⟨rfl, _, rfl, iteF ?_⟩⟩⟩⟩⟩⟩
      exact loop ⟨_, h1, .inr rfl⟩ ⟨_, h2, .inr rfl⟩ _
def sp_law (K : PySem.W.Frag) : Sp := fun vs H Q _ => ∃ (a : Addr) (ns : List Int), vs = [.ref a] ∧ SqL K H a (ns.map V.int) ∧ ns.length ≤ 63 ∧ ∀ H', Q (.bl true) H'
section
variable {K : PySem.W.Frag} {vs : List V} {H : Hp} {Q : VK} {E : XK}
theorem len_law (h : sp_law K vs H Q E) : vs.length = 1 := by
  obtain ⟨_, _, rfl, _⟩ := h
  rfl
theorem len_l_deck (h : sp_l_deck K vs H Q E) : vs.length = 1 := by
  obtain ⟨_, _, rfl, _⟩ := h
  rfl
theorem len_l_mixed (h : sp_l_mixed K vs H Q E) : vs.length = 2 := by
  obtain ⟨_, _, rfl, _⟩ := h
  rfl
theorem len_l_draw (h : sp_l_draw K vs H Q E) : vs.length = 2 := by
  obtain ⟨_, _, _, _, _, rfl, _⟩ := h
  rfl
theorem len_l_int (h : sp_l_int K vs H Q E) : vs.length = 1 := by
  obtain ⟨_, rfl, _⟩ := h
  rfl
theorem len_sameN {n : Nat} (h : sp_sameN K n vs H Q E) : vs.length = 2 := by
  obtain ⟨_, _, rfl, _⟩ := h
  rfl
end
/-! ### comprehensions whose elements change nothing -/
section
variable {K : PySem.W.Frag} {a : Addr} {xs ys : List V} {g : TG} {tt : TT} {te : TE} {vs : List Nat} {σ : L2.St} {H1 : Hp} {D : Addr} {Qd : Hp → Prop}
/-- [e for x in xs], xs a tuple, ys the values in order -/
theorem lc_mapT (hq : ∀ acc, SqT K (upd H1 D (.lst acc)) a xs) (hl : ys.length = xs.length) (hz : xs.length ≤ 100000)
    (hs : ∀ (i : Nat) (x y : V) (acc : List V) (R : VK), xs[i]? = some x → ys[i]? = some y → R y (upd H1 D (.lst acc)) → g x (wipe σ vs) (upd H1 D (.lst acc)) fun σ2 H2 => wipe σ2 vs = wipe σ vs ∧ tt σ2 H2 fun b H3 => if b = true then te σ2 H3 R else False)
    (hd : Qd (upd H1 D (.lst ys))) (mt : ∀ σ H P P', (∀ b H1, P b H1 → P' b H1) → tt σ H P → tt σ H P') (mg : ∀ v σ H P P', (∀ σ1 H1, P σ1 H1 → P' σ1 H1) → g v σ H P → g v σ H P') :
    ∃ W : Nat → Nat → Hp → Prop, (∃ m, W 0 m (upd H1 D (.lst []))) ∧ ∀ i m H, W i m H →
      ((Itt K a).stop i H ∧ Qd H) ∨ ((Itt K a).go i H ∧ ∃ Nx : Hp → Prop, (∀ H', Nx H' → ∃ m', m' < m ∧ W (i + 1) m' H') ∧ ∀ x H', (Itt K a).yld i H x H' → g x (wipe σ vs) H' fun σ2 H2 => wipe σ2 vs = wipe σ vs ∧ tt σ2 H2 fun b H3 =>
        if b = true then te σ2 H3 fun y H4 => ∃ acc, H4 D = some (.lst acc) ∧ acc.length < sizeLine ∧ Nx (upd H4 D (.lst (acc ++ [y]))) else Nx H3) := by
  refine lc_tup (K := K) (a := a) (xs := xs) (fun i H => H = upd H1 D (.lst (ys.take i))) (by rw [List.take_zero]) (fun i H _ e => by rw [e]; exact hq _) (fun i x H hx e => ?_) (fun H e => by
    rw [e, List.take_of_length_le (by omega)]
    exact hd)
  subst e
  have hi : i < ys.length := by
    have := (List.getElem?_eq_some_iff.mp hx).1
    omega
  refine mg _ _ _ _ _ (fun σ1 H2 q => ⟨q.1, mt _ _ _ _ (fun b H3 q2 => ?_) q.2⟩) (hs i x ys[i] (ys.take i) (fun y H4 => ∃ acc, H4 D = some (.lst acc) ∧ acc.length < sizeLine ∧ upd H4 D (.lst (acc ++ [y])) = upd H1 D (.lst (ys.take (i + 1)))) hx (List.getElem?_eq_getElem hi) ⟨ys.take i, upd_same, Nat.lt_of_le_of_lt (by rw [List.length_take]; omega : (ys.take i).length ≤ 100000) (by decide), by rw [upd_upd, List.take_add_one, List.getElem?_eq_getElem hi]; rfl⟩)
  cases b with
  | true => exact q2
  | false => exact q2.elim
theorem lc_mapL (hq : ∀ acc, SqL K (upd H1 D (.lst acc)) a xs) (hl : ys.length = xs.length) (hz : xs.length ≤ 100000)
    (hs : ∀ (i : Nat) (x y : V) (acc : List V) (R : VK), xs[i]? = some x → ys[i]? = some y → R y (upd H1 D (.lst acc)) → g x (wipe σ vs) (upd H1 D (.lst acc)) fun σ2 H2 => wipe σ2 vs = wipe σ vs ∧ tt σ2 H2 fun b H3 => if b = true then te σ2 H3 R else False)
    (hd : Qd (upd H1 D (.lst ys))) (mt : ∀ σ H P P', (∀ b H1, P b H1 → P' b H1) → tt σ H P → tt σ H P') (mg : ∀ v σ H P P', (∀ σ1 H1, P σ1 H1 → P' σ1 H1) → g v σ H P → g v σ H P') :
    ∃ W : Nat → Nat → Hp → Prop, (∃ m, W 0 m (upd H1 D (.lst []))) ∧ ∀ i m H, W i m H →
      ((Itl K a).stop i H ∧ Qd H) ∨ ((Itl K a).go i H ∧ ∃ Nx : Hp → Prop, (∀ H', Nx H' → ∃ m', m' < m ∧ W (i + 1) m' H') ∧ ∀ x H', (Itl K a).yld i H x H' → g x (wipe σ vs) H' fun σ2 H2 => wipe σ2 vs = wipe σ vs ∧ tt σ2 H2 fun b H3 =>
        if b = true then te σ2 H3 fun y H4 => ∃ acc, H4 D = some (.lst acc) ∧ acc.length < sizeLine ∧ Nx (upd H4 D (.lst (acc ++ [y]))) else Nx H3) := by
  refine lc_list (K := K) (a := a) (xs := xs) (fun i H => H = upd H1 D (.lst (ys.take i))) (by rw [List.take_zero]) (fun i H _ e => by rw [e]; exact hq _) (fun i x H hx e => ?_) (fun H e => by
    rw [e, List.take_of_length_le (by omega)]
    exact hd)
  subst e
  have hi : i < ys.length := by
    have := (List.getElem?_eq_some_iff.mp hx).1
    omega
  refine mg _ _ _ _ _ (fun σ1 H2 q => ⟨q.1, mt _ _ _ _ (fun b H3 q2 => ?_) q.2⟩) (hs i x ys[i] (ys.take i) (fun y H4 => ∃ acc, H4 D = some (.lst acc) ∧ acc.length < sizeLine ∧ upd H4 D (.lst (acc ++ [y])) = upd H1 D (.lst (ys.take (i + 1)))) hx (List.getElem?_eq_getElem hi) ⟨ys.take i, upd_same, Nat.lt_of_le_of_lt (by rw [List.length_take]; omega : (ys.take i).length ≤ 100000) (by decide), by rw [upd_upd, List.take_add_one, List.getElem?_eq_getElem hi]; rfl⟩)
  cases b with
  | true => exact q2
  | false => exact q2.elim
theorem mono_yes : ∀ (σ : L2.St) (H : Hp) (P P' : Bool → Hp → Prop), (∀ b H1, P b H1 → P' b H1) → tYes σ H P → tYes σ H P' := fun _ _ _ _ f h => f _ _ h
theorem mono_gName {k : Nat} : ∀ (v : V) (σ : L2.St) (H : Hp) (P P' : L2.St → Hp → Prop), (∀ σ1 H1, P σ1 H1 → P' σ1 H1) → gName k v σ H P → gName k v σ H P' := fun _ _ _ _ _ f h => f _ _ h
end
end Fw

set_option Elab.async false
set_option linter.all false
set_option maxRecDepth 100000
set_option maxHeartbeats 4000000
/-! set(l) of a list of ints, some of them perhaps twice, and sorted(set(l)). -/
namespace Fw
open PySem PySem.Spec PyProof.Rows L2
/-- the members of the first i -/
def MemI (ks : List Int) (i : Nat) (S : Int → Bool) (n : Nat) : Prop := (∀ k, S k = true ↔ k ∈ ks.take i) ∧ n ≤ i
theorem MemI.zero (ks : List Int) : MemI ks 0 (fun _ => false) 0 := ⟨fun k => by simp, Nat.le_refl _⟩
theorem MemI.more {ks : List Int} {i n : Nat} {S : Int → Bool} {k : Int} (m : MemI ks i S n) (h : ks[i]? = some k) : MemI ks (i + 1) (fun j => S j || decide (j = k)) (if S k = true then n else n + 1) := by
  refine ⟨fun j => ?_, ?_⟩
  · rw [Bool.or_eq_true, m.1 j, decide_eq_true_eq, List.take_add_one, h, List.mem_append]
    simp
  · have := m.2
    split <;> omega
section
variable {P : Program} {w : World} {A : Around} {E : Value → Shared → Prop} {s : Shared}
theorem set_update_ints {I : Addr} {fp wr : List Addr} {G : Array GenState → Array GenState → Prop} {n : Nat} {Pv : Nat → Value → Prop} {St : Nat → Shared → Prop} {R : Result → Shared → Prop}
    (W : WalksS P w A.in1 I fp wr G n Pv St) (S : Addr) (hSf : S ∉ fp) (ks : List Int) (hn : n = ks.length) (hfew : ks.length < 64) (hval : ∀ i v, Pv i v → ∃ k t, ks[i]? = some k ∧ v = .int k t)
    (h0 : Heap) (hS0 : h0.get? S = none) (hw0 : ∀ b ∈ wr, h0.get? b = none) :
    ∀ (k i : Nat) (s : Shared), n - i = k → i ≤ n → St i s → (∀ b o, h0.get? b = some o → s.heap.get? b = some o) → (∃ T m, SetR w s.heap S T m ∧ MemI ks i T m) →
      (∀ s' T m, Moved (S :: wr) G s s' → SetR w s'.heap S T m → MemI ks n T m → (∀ b o, h0.get? b = some o → s'.heap.get? b = some o) → R (.ok (.ret .none)) s') →
      codeAny (model P w) A (.builtin "set.update.loop" ⟨[.ref S, .ref I], []⟩) R s := by
  have hSw : S ∉ wr := fun h => hSf (W.sub _ h)
  have hsub : ∀ b ∈ wr, b ∈ S :: wr := fun b hb => List.mem_cons_of_mem _ hb
  have keepM : ∀ {s s' : Shared}, Moved wr G s s' → (∀ b o, h0.get? b = some o → s.heap.get? b = some o) → ∀ b o, h0.get? b = some o → s'.heap.get? b = some o := fun hm hkp b o e =>
    hm.heap b o (fun hb => by rw [hw0 b hb] at e; cases e) (hkp b o e)
  intro k
  induction k with
  | zero =>
    intro i s hk' hi hst hkp ⟨T, m, hS, g⟩ hR
    have hin : i = n := by omega
    subst hin
    refine codeAny_builtin F.entry_set_update_loop ?_
    rw [Around.under_plainId F.plain_set_update_loop _]
    show wpAny _ A.in1 (pyNext (.ref I) >>= _) _ _ s
    refine wpAny_bind (W.done s _ _ hst fun s' hm => ?_)
    show wpAny _ A.in1 (ret Value.none) _ _ s'
    exact wpAny_pure (hR s' T m (hm.mono hsub) (hS.at fun o e => hm.heap S o hSw e) g (keepM hm hkp))
  | succ k ih =>
    intro i s hk' hi hst hkp ⟨T, m, hS, g⟩ hR
    have hlt : i < n := by omega
    refine codeAny_builtin F.entry_set_update_loop ?_
    rw [Around.under_plainId F.plain_set_update_loop _]
    show wpAny _ A.in1 (pyNext (.ref I) >>= _) _ _ s
    refine wpAny_bind (W.item i s _ _ hlt hst fun v s' hP hst' hm => ?_)
    obtain ⟨c, t, hp, rfl⟩ := hval i v hP
    have hkp' := keepM hm hkp
    have hS' : SetR w s'.heap S T m := hS.at fun o e => hm.heap S o hSw e
    show wpAny _ A.in1 (holding [Value.int c t] (setAdd S (.int c t)) >>= _) _ _ s'
    refine wpAny_bind (wpAny_holding ?_)
    unfold setAdd
    refine wpAny_holding ?_
    refine wpAny_bind ((intKind P w).pyHash (intKind_is P w c t) ?_)
    refine setR_add_hashed (s := { s' with toks := s'.toks + 1 }) hS' (by have := g.2; unfold scanBound; omega) fun h' hsb hS2 => ?_
    have g' := g.more hp
    have hkp2 : ∀ b o, h0.get? b = some o → h'.get? b = some o := fun b o e => (hsb.2 b (fun z => by rw [z, hS0] at e; cases e)).trans (hkp' b o e)
    refine wpAny_pure ⟨plainId_quiet F.plain_set_update_loop _, ih (i + 1) _ (by omega) hlt (W.frame _ s' _ _ hst' (Nat.le_add_right _ _) fun b hb o e => ?_) hkp2 ⟨_, _, hS2, g'⟩ fun s'' T2 m2 hm'' hS'' g'' hkp'' => ?_⟩
    · rw [hsb.2 b (fun h : b = S => hSf (by rw [← h]; exact hb))]; exact e
    · refine hR s'' T2 m2 (Moved.trans W.gtrans ((hm.mono hsub).then_heap (Nat.le_add_right _ _) fun b o hb e => ?_) hm'') hS'' g'' hkp''
      rw [hsb.2 b (fun h : b = S => hb (by rw [h]; exact List.mem_cons_self))]; exact e
set_option maxRecDepth 100000 in
set_option maxHeartbeats 3200000 in
theorem call_set_ints {l : Addr} {items : Array Value} (ks : List Int) {Q : Value → Shared → Prop} (hh : A.handled = none) (hl : s.heap.IsList l items) (hit : IntsAre items.toList ks) (hfew : ks.length < 64)
    (h : ∀ (h' : Heap) (tk : Nat) T m, SetR w h' s.heap.objs.size T m → MemI ks ks.length T m → (∀ b o, s.heap.get? b = some o → h'.get? b = some o) → Q (.ref s.heap.objs.size) { s with heap := h', toks := tk }) :
    wpAny (model P w) A (call (.type "set") [.ref l]) Q E s := by
  have hval0 : ∀ {vs : List Value} {ks : List Int}, IntsAre vs ks → vs.length = ks.length ∧ ∀ (i : Nat) (v : Value), vs[i]? = some v → ∃ k t, ks[i]? = some k ∧ v = Value.int k t := by
    intro vs ks q
    induction q with
    | nil => exact ⟨rfl, fun i v e => by simp at e⟩
    | @cons k t vs ks q ih =>
      refine ⟨by rw [List.length_cons, List.length_cons, ih.1], fun i v e => ?_⟩
      cases i with
      | zero =>
        simp at e
        exact ⟨k, t, by simp, e.symm⟩
      | succ i =>
        simp at e
        obtain ⟨a, b, c, d⟩ := ih.2 i v e
        exact ⟨a, b, by simpa using c, d⟩
  have hisz : items.size = ks.length := by
    have q := (hval0 hit).1
    rw [Array.length_toList] at q
    exact q
  obtain ⟨c, tl, hmro⟩ := F.called_set.mro
  have hmade := F.called_set.made
  have hsub := F.called_set.sub
  refine wpAny_call (codeAny_of_tree ?_)
  show wpAny _ _ (callAny (.type "set") _) _ _ _
  refine wpAny_pure ⟨Code.quiet_builtin _ (by decide +kernel), codeAny_builtin F.entry_type_call ?_⟩
  rw [Around.under_plain (weight_type_call_type "set" [.ref l] []) rfl]
  have h1 := F.called_set.notType
  have h2 := F.called_set.canCreate
  have hct := F.typeCall_set_1 (.ref l)
  repeat (any_goals (first | assumption | wp_step))
  refine codeAny_mono (code_set_led1 (.ref l) (E := E) (Q₁ := fun obj s₁ => obj = .ref s.heap.objs.size ∧ s₁ = { s with heap := s.heap.push { cls := .type "set", dict := none, data := .set #[] 0 (.fresh 0 0 (!w.params.followText "set-order")) } }) ⟨rfl, rfl⟩) fun r s₁ hr => ?_
  cases r with
  | error e => exact hr
  | ok fl =>
    cases fl with
    | ret obj =>
      obtain ⟨rfl, rfl⟩ := hr
      have hS : (s.heap.push { cls := .type "set", dict := none, data := .set #[] 0 (.fresh 0 0 (!w.params.followText "set-order")) }).get? s.heap.objs.size = some { cls := .type "set", dict := none, data := .set #[] 0 (.fresh 0 0 (!w.params.followText "set-order")) } := Heap.get?_push_size _ rfl
      have hT : Shared.TypeIs { s with heap := s.heap.push { cls := .type "set", dict := none, data := .set #[] 0 (.fresh 0 0 (!w.params.followText "set-order")) } } (.ref s.heap.objs.size) "set" := ⟨_, hS, rfl⟩
      have hli := F.called_set.init.lookup
      have hbi := F.called_set.init.bind (.ref s.heap.objs.size)
      repeat (any_goals (first | assumption | wp_step))
      refine codeAny_mono (codeAny_call_builtin (R := wants (fun r s₂ => r = .none ∧ ∃ h' tk T m, s₂ = { s with heap := h', toks := tk } ∧ SetR w h' s.heap.objs.size T m ∧ MemI ks ks.length T m ∧
          (∀ b o, s.heap.get? b = some o → h'.get? b = some o)) E) F.called_set.init.plain F.entry_set_init (check_set_init_1 hT ?_)) fun r₂ s₂ hr₂ => ?_
      · obtain ⟨ol, hol, hcl, nl, hdl⟩ := hl
        obtain ⟨ocls, odict, odata, oslots⟩ := ol
        simp only at hcl hdl
        subst hcl; subst hdl
        have hol' : (s.heap.push { cls := .type "set", dict := none, data := .set #[] 0 (.fresh 0 0 (!w.params.followText "set-order")) }).get? l = some { cls := .type "list", dict := odict, data := .seq items nl, slots := oslots } := Heap.get?_push_of_some _ hol
        have hsls := F.sub_list_set
        have hslf := F.sub_list_frozenset
        have hne : (Value.type "list" == Value.type "dict") = false := by decide
        have hl1 : (s.heap.push { cls := .type "set", dict := none, data := .set #[] 0 (.fresh 0 0 (!w.params.followText "set-order")) }).IsList l items := ⟨_, hol', rfl, nl, rfl⟩
        unfold Builtin.«set.__init__» noKeywords Builtin.Frozenset.updateFrom
        generalize hPI : pyIter = PI
        wp_walk
        subst hPI
        refine wpAny_pyIter_list hl1 ?_
        refine wpAny_bind (wpAny_runValue ?_)
        have hlS : l < s.heap.objs.size := Heap.lt_size hol
        have hh3 : A.in1.in1.in1.handled = none := by simp [hh]
        have hneI : l ≠ (s.heap.push { cls := .type "set", dict := none, data := .set #[] 0 (.fresh 0 0 (!w.params.followText "set-order")) }).objs.size := by
          rw [Heap.size_push]; exact Nat.ne_of_lt (Nat.lt_succ_of_lt hlS)
        have hSf : s.heap.objs.size ∉ [(s.heap.push { cls := .type "set", dict := none, data := .set #[] 0 (.fresh 0 0 (!w.params.followText "set-order")) }).objs.size, l] := by
          rw [Heap.size_push]; simp only [List.mem_cons, List.mem_singleton, List.not_mem_nil, or_false, not_or]
          exact ⟨Nat.ne_of_lt (Nat.lt_succ_self _), Nat.ne_of_gt hlS⟩
        have hval : ∀ (i : Nat) (v : Value), items[i]? = some v → ∃ k t, ks[i]? = some k ∧ v = .int k t := fun i v hv => (hval0 hit).2 i v (by rw [Array.getElem?_toList]; exact hv)
        have none_of : ∀ b, s.heap.objs.size ≤ b → s.heap.get? b = none := fun b hb => by
          cases q : s.heap.get? b with
          | none => rfl
          | some o => exact absurd (Nat.lt_of_lt_of_le (Heap.lt_size q) hb) (Nat.lt_irrefl _)
        refine set_update_ints ((Walks.list hh3 _ l hneI items).toS) s.heap.objs.size
          hSf ks hisz hfew hval s.heap (none_of _ (Nat.le_refl _)) (fun b hb => none_of b (by
            rw [List.mem_singleton.mp hb, Heap.size_push]
            exact Nat.le_succ _)) (items.size - 0) 0 _ (by omega) (Nat.zero_le _)
          ⟨⟨_, Heap.get?_push_size _ rfl, rfl, rfl⟩, (hl1.push _)⟩ (fun b o e => Heap.get?_push_of_some _ (Heap.get?_push_of_some _ e)) ?hS0 ?hR
        case hS0 => exact ⟨_, _, (setR_fresh w).at fun o e => Heap.get?_push_of_some _ e, MemI.zero ks⟩
        case hR =>
          intro s' T m hm hS' g' hkp
          obtain ⟨h', g2, d', tk', os'⟩ := s'
          have eg : g2 = s.gens := hm.gens
          have ed : d' = s.drawn := hm.drawn
          have eo : os' = s.os := hm.os
          subst eg; subst ed; subst eo
          show wpAny _ _ _ _ _ _
          refine wpAny_pure ?_
          show wpAny _ _ (ret Value.none) _ _ _
          rw [hisz] at g'
          exact wpAny_pure ⟨rfl, h', tk', T, m, rfl, hS', g', hkp⟩
      · cases r₂ with
        | error e => exact hr₂
        | ok fl₂ =>
          cases fl₂ with
          | ret r =>
            obtain ⟨rfl, h', tk, T, m, rfl, hS', g', hk'⟩ := hr₂
            repeat (any_goals (first | assumption | wp_step))
            exact h _ _ _ _ hS' g' hk'
          | _ => exact hr₂.elim
    | _ => exact hr.elim
end
/-- set(l) of ints -/
def rSetI (K : PySem.W.Frag) (w : World) : List V → Hp → VK → Prop := fun vs H Q => ∃ (a : Addr) (ns : List Int), vs = [.ref a] ∧ SqL K H a (ns.map V.int) ∧ ns.length < 64 ∧ ∀ (p : Addr) (S : Int → Bool) (n : Nat), H p = none → (∀ k, S k = true ↔ k ∈ ns) → n ≤ ns.length → Q (.ref p) (upd H p (SetO w p S n))
theorem cr_setI {X : Cx} (hc : X.calm = true) : CallR X (.type "set") (rSetI X.K X.w) := by
  intro pins s σ H vs us Q I r h
  obtain ⟨a, ns, rfl, hs, few, q⟩ := h
  obtain ⟨its, rv, hl, hz⟩ := I.list hs
  rw [Vals.ref1 r]
  have hi := rv.ints
  refine call_set_ints ns (I.ok.hd hc) hl.isList (show PyProof.Rows.IntsAre its.toArray.toList ns from hi) few fun h' tk T m R g k => ?_
  refine ⟨.ref s.heap.objs.size, upd H s.heap.objs.size (SetO X.w s.heap.objs.size T m), I.laid (t' := tk) k (Nat.le_refl _) (setO_new R), rfl, q _ _ _ (I.hok.fresh (Nat.le_refl _)) (fun k => ?_) g.2⟩
  rw [g.1 k, List.take_length]
/-- what follows from a reading -/
def tClo (te : TE) : TE := fun σ H Q => ∃ N : V → Hp → Prop, te σ H N ∧ ∀ x H1, N x H1 → Q x H1
theorem pe_clo {X : Cx} {e : Expr} {te : TE} (he : PE X e te) : PE X e (tClo te) := ⟨fun pins s σ H Q I ⟨N, h, m⟩ => wpAny_mono (he.run pins s σ H N I h) (fun u s1 ⟨x, H1, I1, r1, q⟩ => ⟨x, H1, I1, r1, m x H1 q⟩) fun _ _ z => z⟩
/-- sorted(set(l)) -/
def tSortSet (K : PySem.W.Frag) (te : TE) : TE := fun σ H Q => te σ H fun x H1 => ∃ (a : Addr) (ns : List Int), x = .ref a ∧ SqL K H1 a (ns.map V.int) ∧ ns.length < 64 ∧
  ∀ (ys : List Int) (q p : Addr) (u : HO), H1 q = none → upd H1 q u p = none → ys.Pairwise (· < ·) → (∀ k, k ∈ ys ↔ k ∈ ns) → ys.length ≤ ns.length → Q (.ref p) (upd (upd H1 q u) p (.lst (ys.map V.int)))
theorem pe_sortSet {X : Cx} {e : Expr} {te : TE} {p pos p2 pos2 : Pos} (hc : X.calm = true) (hg : Gl X "sorted") (hm : X.mg "sorted" = none) (hg2 : Gl X "set") (hm2 : X.mg "set" = none) (he : PE X e te)
    (hs : starEach [.Call (.Name "set" p2) [e] [] pos2] X.env = (false, eval (.Call (.Name "set" p2) [e] [] pos2) X.env) :: starEach [] X.env := by rfl)
    (hs2 : starEach [e] X.env = (false, eval e X.env) :: starEach [] X.env := by rfl) : PE X (.Call (.Name "sorted" p) [.Call (.Name "set" p2) [e] [] pos2] [] pos) (tSortSet X.K te) := by
  have inner : PE X (.Call (.Name "set" p2) [e] [] pos2) (tCB (rSetI X.K X.w) (tCons (tClo te) tNil)) := pe_callTy (cr_setI hc) hg2 hm2 (by decide +kernel) (pa_cons (pe_clo he) pa_nil hs2) (he := hs2)
  have outer := pe_callB (p := p) (pos := pos) (cr_sortedSet hc) hg hm (by decide +kernel) (pa_cons inner pa_nil hs) (he := hs)
  refine ⟨fun pins s σ H Q I h => outer.run pins s σ H Q I ⟨_, h, ?_⟩⟩
  rintro x H1 ⟨a, ns, rfl, hs, few, k⟩
  refine ⟨a, ns, rfl, hs, few, fun q S n hq mem hn => ⟨q, S, n, rfl, updS, by omega, fun ys p inc m2 len hp => ?_⟩⟩
  exact k ys q p _ hq hp inc (fun j => (m2 j).trans (mem j)) (by omega)
end Fw

set_option Elab.async false
set_option linter.all false
set_option maxRecDepth 100000
set_option maxHeartbeats 4000000
namespace Fw
open PySem PySem.Spec PyProof.Rows L2
section
variable {X : Cx} {e : Expr} {es : List Expr} {ta : TA} {p1 p2 pos : Pos} {x : Str} {CH : Addr}
/-- what a class of the text must say, so that C.__init__ is ValueError's -/
structure HeirC (K : PySem.W.Frag) (CH : Addr) : Prop where
  rd : PySem.W.readsIn K CH (.type "type") = true
  ga : PySem.W.specialIn K (.ref CH) "__getattribute__" = some (some (.builtin "type.__getattribute__"))
  ty : PySem.W.typeIn K (.ref CH) = some (.type "type")
  vi : PySem.W.findCls K (.ref CH) (.type "type") "__init__" = some (.val (.builtin "ValueError.__init__"))
def heirB (K : PySem.W.Frag) (CH : Addr) : Bool := PySem.W.readsIn K CH (.type "type") && (decide (PySem.W.specialIn K (.ref CH) "__getattribute__" = some (some (.builtin "type.__getattribute__"))) && (decide (PySem.W.typeIn K (.ref CH) = some (.type "type")) &&
  match PySem.W.findCls K (.ref CH) (.type "type") "__init__" with
  | some (.val (.builtin z)) => decide (z = "ValueError.__init__")
  | _ => false))
theorem heirB_ok {K : PySem.W.Frag} {CH : Addr} (h : heirB K CH = true) : HeirC K CH := by
  unfold heirB at h
  obtain ⟨h1, h⟩ := Bool.and_eq_true_iff.mp h
  obtain ⟨h2, h⟩ := Bool.and_eq_true_iff.mp h
  obtain ⟨h3, h4⟩ := Bool.and_eq_true_iff.mp h
  refine ⟨h1, of_decide_eq_true h2, of_decide_eq_true h3, ?_⟩
  split at h4
  · rename_i z q
    rw [q, of_decide_eq_true h4]
  · cases h4
/-- Base.__init__(self, ..), Base a class of the text over ValueError -/
theorem pe_heir {pl : Sem Bool} (hg : Gl X x) (hm : X.mg x = some (.ref CH)) (R : HeirC X.K CH) (args : PA X (e :: es) ta) 
    (comes : eval (.Call (.Attribute (.Name x p1) "__init__" p2) (e :: es) [] pos) X.env = (do
      let cv ← eval (.Name x p1) X.env
      standAt p2.atName
      let (fn, ahead) ← holding [cv] (getMethod cv "__init__" pl)
      callWith pos fn ahead (backTo pos (starEach (e :: es) X.env)) (backToKw pos (keywordEach [] X.env))) := by rfl) (dbg : (x == ("__debug__" : Str)) = false := by decide)
    (fst : starEach (e :: es) X.env = (false, eval e X.env) :: starEach es X.env := by rfl) (flat : (backTo pos (starEach es X.env)).any (·.1) = false := by rfl) : PE X (.Call (.Attribute (.Name x p1) "__init__" p2) (e :: es) [] pos) (tVeI X.K ta) := by
  refine ⟨fun pins s σ H Q inv rd => ?_⟩
  refine PySem.W.methodCall_KW (ld_glob inv hg hm ?_ dbg) comes
  obtain ⟨m, fr⟩ := inv.fr
  refine PySem.W.method_of_cls fr inv.ok.mod.kin R.ga (PySem.W.cls_val fr inv.ok.mod.kin R.ty R.rd R.vi (by decide +kernel) ?_)
  show wpAny _ _ (callWith pos (Value.builtin "ValueError.__init__") [] (backTo pos (starEach (e :: es) X.env)) [])
    _ _ _
  refine PyProof.Rows.callWith_method1 (thn (args.run pos pins _ σ H _ (inv.tok _) rd)
    fun us s1 ⟨vs, H1, inv1, rel, self, C, more, same, few, oex, at_, q⟩ => ?_) fst flat
  subst same
  cases rel with
  | @cons _ u0 _ ur r0 rm =>
    obtain rfl : u0 = Value.ref self := r0
    have n : ur.length ≤ sizeLine := by
      rw [← Paired.length rm, sizeLine_eq]
      omega
    exact oinit_ok oex inv1 at_ n fun s2 inv2 => ⟨.non, H1, inv2, rfl, q⟩
/-- the class at C is one of the text over ValueError, with fields of its own: as a Bool -/
def oexB (K : PySem.W.Frag) (C : Addr) : Bool := (match K.lookup C with
  | some ⟨.type "type", _, .cls cd, sl⟩ => (match cd.mro, sl.toList with
    | .ref me :: up, [_, _, _, _, some (.builtin nw), _] => decide (me = C) && (decide (nw = "ValueError.__new__") && (cd.hasDict && (!cd.hasDel && PySem.HandSPX.refsVE up)))
    | _, _ => false)
  | _ => false) && (decide (PySem.W.findIn K (.ref C) "__setattr__" = some (some (.builtin "object.__setattr__"))) && (decide (PySem.W.subIn K (.ref C) (.type "BaseException") = some true) && (decide (PySem.W.typeIn K (.ref C) = some (.type "type")) && PySem.W.keepIn K (.ref C))))
theorem oexB_ok {K : PySem.W.Frag} {C : Addr} (h : oexB K C = true) : OexC K C := by
  unfold oexB at h
  obtain ⟨h1, h⟩ := Bool.and_eq_true_iff.mp h
  obtain ⟨h2, h⟩ := Bool.and_eq_true_iff.mp h
  obtain ⟨h3, h⟩ := Bool.and_eq_true_iff.mp h
  obtain ⟨h4, h5⟩ := Bool.and_eq_true_iff.mp h
  refine ⟨?_, of_decide_eq_true h2, of_decide_eq_true h3, of_decide_eq_true h4, h5⟩
  split at h1
  · rename_i dd cd sl ho
    split at h1
    · rename_i me up k0 k1 k2 k3 nw k5 em es
      obtain ⟨g1, h1⟩ := Bool.and_eq_true_iff.mp h1
      obtain ⟨g2, h1⟩ := Bool.and_eq_true_iff.mp h1
      obtain ⟨g3, h1⟩ := Bool.and_eq_true_iff.mp h1
      obtain ⟨g4, g5⟩ := Bool.and_eq_true_iff.mp h1
      have q1 := of_decide_eq_true g1
      have q2 := of_decide_eq_true g2
      have q4 : cd.hasDel = false := by
        cases z : cd.hasDel with
        | false => rfl
        | true => rw [z] at g4; cases g4
      obtain ⟨c1, c2, c3, c4, c5, c6, c7, c8, c9, c10, c11⟩ := cd
      dsimp only at em g3 q4
      subst em g3 q4 q1 q2
      have eS : sl = #[k0, k1, k2, k3, some (.builtin "ValueError.__new__"), k5] := by
        cases sl with
        | mk l => exact congrArg Array.mk es
      subst eS
      exact ⟨_, _, _, _, _, _, _, _, _, _, _, _, _, _, _, ho, g5⟩
    · cases h1
  · cases h1
end
end Fw

set_option Elab.async false
set_option linter.all false
set_option maxRecDepth 100000
set_option maxHeartbeats 4000000
/-! C.m(self, ..), C a plain class of the text: rules. -/
namespace Fw
open PySem PySem.Spec PyProof.Rows L2
/-- C.m is the def at f -/
structure ClsG (K : PySem.W.Frag) (CH f : Addr) (m : Str) : Prop where
  rd : PySem.W.readsIn K CH (.type "type") = true
  ga : PySem.W.specialIn K (.ref CH) "__getattribute__" = some (some (.builtin "type.__getattribute__"))
  ty : PySem.W.typeIn K (.ref CH) = some (.type "type")
  vi : PySem.W.findCls K (.ref CH) (.type "type") m = some (.val (.ref f))
  kp : PySem.W.keepIn K (.ref f) = true
def clsgB (K : PySem.W.Frag) (CH f : Addr) (m : Str) : Bool := PySem.W.readsIn K CH (.type "type") && (decide (PySem.W.specialIn K (.ref CH) "__getattribute__" = some (some (.builtin "type.__getattribute__"))) && (decide (PySem.W.typeIn K (.ref CH) = some (.type "type")) && ((match PySem.W.findCls K (.ref CH) (.type "type") m with
  | some (.val (.ref z)) => decide (z = f)
  | _ => false) && PySem.W.keepIn K (.ref f))))
theorem clsgB_ok {K : PySem.W.Frag} {CH f : Addr} {m : Str} (h : clsgB K CH f m = true) : ClsG K CH f m := by
  unfold clsgB at h
  obtain ⟨h1, h⟩ := Bool.and_eq_true_iff.mp h
  obtain ⟨h2, h⟩ := Bool.and_eq_true_iff.mp h
  obtain ⟨h3, h⟩ := Bool.and_eq_true_iff.mp h
  obtain ⟨h4, h5⟩ := Bool.and_eq_true_iff.mp h
  refine ⟨h1, of_decide_eq_true h2, of_decide_eq_true h3, ?_, h5⟩
  split at h4
  · rename_i z q
    rw [q, of_decide_eq_true h4]
  · cases h4
section
variable {X : Cx} {CX : CXT} {k : Nat} {f CH : Addr} {fd : FuncData} {ps : List Str} {sp : Sp} {dvs : List V} {ds : List Value} {E : XK} {x m : Str} {p1 p2 pos : Pos} {e : Expr} {es : List Expr} {t : TA}
theorem pe_clsm {pl : Sem Bool} (hg : Gl X x) (hm : X.mg x = some (.ref CH)) (G : ClsG X.K CH f m) (F : FnOk X.prog X.w X.K X.mg X.base CX k f fd ps sp) (hr : Room k X.A) (hb : L2.Binds X.K fd ps ds) (hd : Vals dvs ds) (hx : Passes CX X E) (ha : PA X (e :: es) t)
    (comes : eval (.Call (.Attribute (.Name x p1) m p2) (e :: es) [] pos) X.env = (do
      let cv ← eval (.Name x p1) X.env
      standAt p2.atName
      let (fn, ahead) ← holding [cv] (getMethod cv m pl)
      callWith pos fn ahead (backTo pos (starEach (e :: es) X.env)) (backToKw pos (keywordEach [] X.env))) := by rfl) (dbg : (x == ("__debug__" : Str)) = false := by decide)
    (fst : starEach (e :: es) X.env = (false, eval e X.env) :: starEach es X.env := by rfl) (flat : (backTo pos (starEach es X.env)).any (·.1) = false := by rfl) : PE X (.Call (.Attribute (.Name x p1) m p2) (e :: es) [] pos) (tCall sp dvs E t) := by
  refine ⟨fun pins s σ H Q I h => ?_⟩
  refine PySem.W.methodCall_KW (ld_glob I hg hm ?_ dbg) comes
  obtain ⟨mm, fr⟩ := I.fr
  refine PySem.W.method_of_cls fr I.ok.mod.kin G.ga (PySem.W.cls_val fr I.ok.mod.kin G.ty G.rd G.vi rfl ?_)
  show wpAny _ _ (callWith pos (Value.ref f) [] (backTo pos (starEach (e :: es) X.env)) []) _ _ _
  exact PySem.W.callWith_K I.ok.mod.kin G.kp (thn (ha.run pos pins _ σ H (fun vs H1 => sp (vs ++ dvs) H1 Q E) (I.tok _) h) fun us s1 ⟨vs, H1, I1, r, q⟩ => ⟨I1.kIn, run_fn F hr hb hd hx I1 r q⟩) fst flat
end
end Fw

set_option Elab.async false
set_option linter.all false
set_option maxRecDepth 100000
set_option maxHeartbeats 4000000
namespace Fw
open PySem PySem.Spec PyProof.Rows L2
/-! ### what is caught, by name, also with fields -/
def tTryAs (K : PySem.W.Frag) (c : Value) (i : Nat) (tb : WX → TS) (ts : Addr → Value → Option Addr → TS) : TS := fun D σ H => tb (wAs K c i ts (fun _ _ _ _ => False) D) D σ H
/-- isinstance(e, c), e what the clause holds, its dict having fields -/
def rIsF (K : PySem.W.Frag) (a : Addr) (cls : Value) (d : Option Addr) : List V → Hp → VK → Prop := fun xs H Q => ∃ (C dd : Addr) (fs : List (Str × V)), cls = .ref C ∧ d = some dd ∧ H dd = some (.xd fs) ∧ ExcC K C ∧ rIsE K C a xs H Q
theorem call_isF {X : Cx} {a : Addr} {cls : Value} {d : Option Addr} {oe : Obj} {pn : List (Addr × Obj)} (hz : Zc cls d oe) (hf : ∃ vs, oe.data = .fields vs) : CallR (X.suite a ((a, oe) :: pn)) (.builtin "isinstance") (rIsF X.K a cls d) := by
  intro pins s σ H xs us Q I r ⟨C, dd, fs, e1, e2, hdd, ec, c, cv, b, exs, hcv, ek, q⟩
  subst e1 e2 exs
  cases r with
  | cons rx rr =>
    cases rr with
    | cons rt rr =>
      cases rr
      obtain rfl : _ = Value.ref a := rx
      obtain rfl := hcv _ rt
      obtain ⟨ha, _⟩ := I.pin (a, oe) (List.mem_append_left _ List.mem_cons_self)
      obtain ⟨vs, hv⟩ := hf
      obtain ⟨mA, hns, _⟩ : ObjOk X.prog X.w H s.heap dd (.xd fs) := I.hok dd _ hdd
      obtain ⟨od, ho, _⟩ := lookIn_ns hns
      have J : PySem.W.InstAt s.heap a oe C (some od) := ⟨ha, hz.1, (by unfold PySem.W.notCls; rw [hv] <;> rfl), (by rw [hz.2]; exact ho)⟩
      have hcl : (PySem.W.clsIn X.K C).isSome = true := by
        obtain ⟨cd, hc, _⟩ := PySem.W.any_some ec.hd
        rw [hc]
        rfl
      exact PySem.W.kia_one (PySem.W.kitx_exc hcl ec.hg ec.hk ec.hs ec.ha ec.hn ec.ht ec.hm) I.kIn J ek (fun z => nomatch z) fun tk => ⟨.bl b, H, I.kept (t' := tk) fun _ _ z => z, rfl, q⟩
theorem rel_ref {a : Addr} : ∀ u, RelV (.ref a) u → u = Value.ref a := fun u h => by
  cases h
  rfl
theorem rel_ty {a : String} : ∀ u, RelV (.ty a) u → u = Value.type a := fun u h => by
  cases h
  rfl
/-! ### what an error's class must say, as Bools -/
def excB (K : PySem.W.Frag) (C : Addr) : Bool :=
  decide (PySem.W.findIn K (.ref C) "__getattribute__" = some (some (.builtin "BaseException.__getattribute__"))) && (decide (PySem.W.findIn K (.ref C) "__getattr__" = some none) &&
  (decide (PySem.W.subIn K (.ref C) (.type "BaseException") = some true) && (PySem.W.hasDictIn K C && (decide (PySem.W.findIn K (.ref C) "__class__" = some (some (.builtin "object.__class__"))) &&
  (decide (PySem.W.specialIn K (.builtin "object.__class__") "__get__" = some (some (.builtin "getset_descriptor.__get__"))) && (decide (PySem.W.takesIn K (.builtin "object.__class__") = some true) &&
  decide (PySem.W.mroIn K C (.type "object") = some true)))))))
theorem excB_ok {K : PySem.W.Frag} {C : Addr} (h : excB K C = true) : ExcC K C := by
  unfold excB at h
  simp only [Bool.and_eq_true, decide_eq_true_eq] at h
  obtain ⟨h1, h2, h3, h4, h5, h6, h7, h8⟩ := h
  exact ⟨h1, h2, h3, h4, h5, h6, h7, h8⟩
/-! ### a head with a Bool more -/
abbrev AlY : Type := He.AlD × Bool
def obsYG (n : Nat) (fa : List He.Fa) (fn : List He.DefD) (ex : PySem.W.Frag → Bool) (g : Addr → Option Obj) : AlY := (He.obsD fa fn (He.frG g (cStatics :: He.asD g n)), ex (He.frG g (cStatics :: He.asD g n)))
def hookY (n : Nat) (fa : List He.Fa) (fn : List He.DefD) (ex : PySem.W.Frag → Bool) : PySem.W.Hook where
  α := AlY
  obs := fun s => obsYG n fa fn ex s.heap.get?
  val := fun _ => (He.valD fn, true)
  says := fun _ h => ∃ K : PySem.W.Frag, K.In h ∧ He.SaysD fa fn K ∧ ex K = true
  of := fun _ _ e => ⟨_, He.frG_in, congrArg (fun z : AlY => z.1) e, congrArg (fun z : AlY => z.2) e⟩
  keeps := fun _ _ _ ⟨K, hK, c⟩ k => ⟨K, PySem.W.Frag.In.keeps hK k, c⟩
theorem obsYG_eq {n : Nat} {fa : List He.Fa} {fn : List He.DefD} {ex : PySem.W.Frag → Bool} {g : Addr → Option Obj} {s : Shared} (h : ∀ a, g a = s.heap.get? a) : obsYG n fa fn ex g = (hookY n fa fn ex).obs s := by
  have e : g = s.heap.get? := funext h
  rw [e] <;> rfl
end Fw

set_option Elab.async false
set_option linter.all false
set_option maxRecDepth 100000
set_option maxHeartbeats 4000000
/-! What a def that calls what it got, and tells how that ended, leans on: rules. -/
namespace Fw
open PySem PySem.Spec PySem.Calls PyProof.Rows L2
/-- l.count(x), any data -/
def rCntD (K : PySem.W.Frag) : V → List V → Hp → VK → Prop := fun x xs H Q => ∃ (a : Addr) (y : V) (d : PyData) (ds : List PyData), x = .ref a ∧ xs = [y] ∧ Dp K H (.ref a) (.list ds) ∧ Dp K H y d ∧ SeqAt.shaped (.list ds) = true ∧ SeqAt.shaped d = true ∧ Q (.int (ds.countP fun z => PyData.eqv z d : Nat)) H
theorem mt_cntD {X : Cx} (hu : X.A.units + 65 < cLine) : MtR X "list.count" (rCntD X.K) := by
  intro pins s σ H x xs v us Q I rx rxs h
  obtain ⟨a, y, d, ds, rfl, rfl, hl, hy, sl, sd, q⟩ := h
  cases rx
  obtain ⟨uy, rfl, ry⟩ := rxs.one
  obtain ⟨bs, r1⟩ := Dp.reads I d y uy hy ry
  have c1 := SeqAt.canLay_of_shaped sl
  have rm : X.A.units + 1 + min (PyData.depthAll ds) d.depth < cLine := room_in_shaped sd hu
  cases hl with
  | lst hs ha =>
    obtain ⟨its, rv, ⟨⟨oc, od, dt, osl⟩, n, ho, hc, _, hdt⟩, _⟩ := I.list hs
    simp only at hc hdt
    subst hc hdt
    obtain ⟨as, h4⟩ := Dp.readsAll I ds _ its ha rv
    have em : its.map (SeqAt.readOf s.heap) = ds := SeqAt.readsAll_map ds its as (show PyData.canLayAll0 ds = true from c1) h4
    refine call_meets PySem.F.slot_list_count ⟨_, ho, rfl⟩ PySem.F.entry_list_count (PySem.F.args_list_count_2 _ _)
      (SeqAt.list_countAt a its.toArray n od osl uy fun u => PyData.eqv (SeqAt.readOf s.heap u) d) ⟨ho, SeqAt.items_eqAt (vs := its.toArray) (show ReadsAll s.heap its.toArray.toList ds as from h4) r1 c1 (SeqAt.canLay_of_shaped sd) rm, ?_⟩
    have ec : its.countP (fun u => PyData.eqv (SeqAt.readOf s.heap u) d) = ds.countP fun z => PyData.eqv z d := by
      rw [← em, List.countP_map]
      rfl
    refine ⟨.int _, H, I.tok _, ⟨s.toks, ?_⟩, q⟩
    show Value.int ((its.toArray.toList.countP fun u => PyData.eqv (SeqAt.readOf s.heap u) d : Nat) : Int) s.toks = _
    rw [List.toList_toArray, ec]
/-- isinstance(e, c), e what the clause holds, with fields or without -/
def rIsU (K : PySem.W.Frag) (a : Addr) (cls : Value) (d : Option Addr) : List V → Hp → VK → Prop := fun xs H Q => ∃ C, cls = .ref C ∧ ExcC K C ∧ (d = none ∨ ∃ (dd : Addr) (fs : List (Str × V)), d = some dd ∧ H dd = some (.xd fs)) ∧ rIsE K C a xs H Q
theorem call_isU {X : Cx} {a : Addr} {cls : Value} {d : Option Addr} {oe : Obj} {pn : List (Addr × Obj)} (hz : Zc cls d oe) (hf : ∃ vs, oe.data = .fields vs) : CallR (X.suite a ((a, oe) :: pn)) (.builtin "isinstance") (rIsU X.K a cls d) := by
  intro pins s σ H xs us Q I r h
  obtain ⟨C, rfl, c, ⟨rfl⟩ | ⟨dd, fs, rfl, hd⟩, h⟩ := h
  · exact call_isE c hz hf pins s σ H xs us Q I r h
  · exact call_isF hz hf pins s σ H xs us Q I r ⟨C, dd, fs, rfl, rfl, hd, c, h⟩
/-- where an exception is taken, there are as many slots as ever -/
theorem takes_len {X : Cx} {W : WX} (tk : Takes X W) : Takes X fun cls d σ H => σ.length = X.N.length → W cls d σ H := fun e s' x => by
  obtain ⟨a, B, sI, pins', σ', H', cls, d, ee, J', nb, up, sky, na, os, ag, w⟩ := x
  exact tk e s' ⟨a, B, sI, pins', σ', H', cls, d, ee, J', nb, up, sky, na, os, ag, w J'.len⟩
/-- what was handed in is called: f() -/
def tDeed (n : Nat) (f c' : Addr) (q : Str) (tl : XK → Hp → VK → Prop) (W : WX) : TE := fun σ H Q => ∃ Ech : XK, (∀ cls d σ' H', σ'.length = n → Ech cls d H' → W cls d σ' H') ∧ σ[0]? = some (some (.ref f)) ∧ H c' = some (LamX.CodeO c' q) ∧ tl Ech H Q
theorem pe_deed {X : Cx} {f c' : Addr} {q : Str} {tl : XK → Hp → VK → Prop} {W : WX} {a : Str} {p1 p2 : Pos}
    (act : ∀ (W' : WX) (E : XK) (p1 p2 : Pos), Takes X W' → (∀ cls d σ' H', E cls d H' → W' cls d σ' H') → PE X (.Call (.Name a p1) [] [] p2) fun σ H Q => σ[0]? = some (some (.ref f)) ∧ H c' = some (LamX.CodeO c' q) ∧ tl E H Q)
    (tk : Takes X W) : PE X (.Call (.Name a p1) [] [] p2) (tDeed X.N.length f c' q tl W) := by
  refine ⟨fun pins s σ H Q I h => ?_⟩
  obtain ⟨Ech, hW, h1, h2, h3⟩ := h
  exact (act _ Ech p1 p2 (takes_len tk) fun cls d σ' H' he hl => hW cls d σ' H' hl he).run pins s σ H Q I ⟨h1, h2, h3⟩
def tRaiseO (E : XK) (C : Addr) (sp : Sp) (ta : TA) : TS := fun _ σ H => tMkO C sp [] ta σ H E
/-! ### what is told of an error -/
/-- what the law leans on of an error's class: the names of the four, and which it is -/
structure EcW (K : PySem.W.Frag) (X : Str) : Prop where
  ec : ExcC K (He.ga K X)
  em : PySem.W.exmOne K (.ref (He.ga K X)) (.ref (He.ga K "HouseError")) = some true
  kv : PySem.W.kitOne K (.ref (He.ga K X)) (.type "ValueError") = some true
  k : ∀ Y ∈ (["NoThing", "NoName", "TooMany", "Lack"] : List Str), PySem.W.kitOne K (.ref (He.ga K X)) (.ref (He.ga K Y)) = some (decide (X = Y))
def ecwB (K : PySem.W.Frag) (X : Str) : Bool := excB K (He.ga K X) && (decide (PySem.W.exmOne K (.ref (He.ga K X)) (.ref (He.ga K "HouseError")) = some true) && (decide (PySem.W.kitOne K (.ref (He.ga K X)) (.type "ValueError") = some true) &&
  (["NoThing", "NoName", "TooMany", "Lack"] : List Str).all fun Y => decide (PySem.W.kitOne K (.ref (He.ga K X)) (.ref (He.ga K Y)) = some (decide (X = Y)))))
theorem ecwB_ok {K : PySem.W.Frag} {X : Str} (h : ecwB K X = true) : EcW K X := by
  unfold ecwB at h
  simp only [Bool.and_eq_true, decide_eq_true_eq] at h
  obtain ⟨h1, h2, h3, h4⟩ := h
  exact ⟨excB_ok h1, h2, h3, fun Y hY => of_decide_eq_true (List.all_eq_true.mp h4 Y hY)⟩
structure WhyC (K : PySem.W.Frag) : Prop where
  nn : EcW K "NoName"
  nt : EcW K "NoThing"
  tm : EcW K "TooMany"
def whyB (K : PySem.W.Frag) : Bool := ecwB K "NoName" && (ecwB K "NoThing" && ecwB K "TooMany")
theorem why_of {K : PySem.W.Frag} (h : whyB K = true) : WhyC K := by
  unfold whyB at h
  obtain ⟨h1, h⟩ := He.ba h
  obtain ⟨h2, h3⟩ := He.ba h
  exact ⟨ecwB_ok h1, ecwB_ok h2, ecwB_ok h3⟩
/-- the error, its name, and the field that is told -/
def ErrAt (K : PySem.W.Frag) (cls : Value) (d : Option Addr) (H : Hp) (X : Str) (x : V) : Prop :=
  cls = .ref (He.ga K X) ∧ ((X = "NoName" ∧ ∃ dd fs, d = some dd ∧ H dd = some (.xd fs) ∧ fs.lookup ("name" : Str) = some x) ∨ ((X = "NoThing" ∨ X = "TooMany") ∧ d = none ∧ x = .non))
def EWhy (K : PySem.W.Frag) (Q : VK) : XK := fun cls d H' => ∃ (X : Str) (x : V), ErrAt K cls d H' X x ∧ ∀ p H'', Same H' H'' → H'' p = some (.tup [.str X, x]) → Q (.ref p) H''
/-- how a deed's end is told -/
def TWhy (K : PySem.W.Frag) : (XK → Hp → VK → Prop) → Hp → VK → Prop := fun tl H Q => WhyC K ∧ ∀ p, H p = none → tl (EWhy K Q) (upd H p (.tup [.str "let by", .non])) fun _ H' => Q (.ref p) H'
/-- a def's promise, its code object being told -/
theorem okC {P : Program} {w : World} {K : PySem.W.Frag} {mg : Str → Option Value} {base : Heap} {x qual : Str} {params : Arguments} {body : List Stmt} {scope : Scope} {p : He.Defn} {fd : FuncData} {CX : CXT} {N ps : List Str} {k : Nat} {sp : Sp}
    (F : FunD K x qual params body scope [] [] (He.fAd K p) fd) (S : FnScope N ps scope) (len : ∀ vs H Q E, sp vs H Q E → vs.length = ps.length)
    (go : ∀ (cdv : Value) (A : Around) (outer : List Env) (s : Shared) (H : Hp) (vs : List V) (Q : VK) (E : XK), cdv = .ref (He.cT K p).1 → Room k (A.deeper (envOfC qual scope s.heap.objs.size (He.fAd K p) cdv)) → sp vs H Q E →
      ∃ t, PSs (cxOf CX P w K mg base N qual scope (He.fAd K p) cdv A outer s H E) body t ∧ t { nx := fun _ H' => Q .non H', rt := Q } (L2.start N vs) H) : FnOk P w K mg base CX (k + 1) (He.fAd K p) fd ps sp := by
  obtain ⟨_, _, _, _, _, _, _, cd, _, _, rfl, lk, hcd, _, _⟩ := F.ex
  obtain ⟨c, rfl⟩ := He.codeIn_ref hcd
  have e := He.codeOf_eq lk rfl
  exact fn_of lk hcd S len fun A outer s H vs Q E hr h => go _ A outer s H vs Q E (congrArg Value.ref e.symm) hr h
/-- what a lambda's body may let out -/
theorem passLam {X : Cx} {A : Around} {outer : List Env} {s : Shared} {H : Hp} {E : XK} {scope : Scope} {f c' : Addr} : Passes (L2.CX X.prog X.w) (LamX.lamCx X A outer s H E scope f c') E := passes_call (takes_of rfl rfl rfl rfl) fun _ _ _ _ h => h
theorem qual_law {sc : Scope} {L a : Addr} {cd : Value} : (envOfC "law" sc L a cd).qual ++ "<lambda>" = "law.<locals>.<lambda>" := by
  show (("law" : Str) ++ ".<locals>." ++ "<lambda>") = "law.<locals>.<lambda>"
  decide +kernel
/-! ### a head that leaves the empty tables out -/
def obsZ (n : Nat) (fa : List He.Fa) (fn : List He.DefD) (tf : List He.Defn) (ex : PySem.W.Frag → Bool) (g : Addr → Option Obj) : AlY := (He.obsD fa fn (He.frT g (cStatics :: He.asD g n)), ex (He.frT g (cStatics :: He.asD g n)) && He.tabsB g tf (He.frT g (cStatics :: He.asD g n)))
structure SaysZ (fa : List He.Fa) (fn : List He.DefD) (tf : List He.Defn) (ex : PySem.W.Frag → Bool) (h : Heap) (K : PySem.W.Frag) : Prop where
  c : He.SaysD fa fn K
  m : ex K = true
  t : ∀ p ∈ tf, PySem.W.codeHdIn K (He.cT K p).1 (He.cT K p).2 = true ∧ K.lookup (He.cT K p).2 = none ∧ h.get? (He.cT K p).2 = some { cls := .none, data := .fields #[] }
theorem saysZ_of {n : Nat} {fa : List He.Fa} {fn : List He.DefD} {tf : List He.Defn} {ex : PySem.W.Frag → Bool} {h : Heap} (e : obsZ n fa fn tf ex h.get? = (He.valD fn, true)) : SaysZ fa fn tf ex h (He.frT h.get? (cStatics :: He.asD h.get? n)) := by
  have e2 := congrArg (fun z : AlY => z.2) e
  obtain ⟨h1, h2⟩ := He.ba e2
  refine ⟨congrArg (fun z : AlY => z.1) e, h1, fun p hp => ?_⟩
  obtain ⟨h3, h4⟩ := He.ba (List.all_eq_true.mp h2 p hp)
  cases q : h.get? (He.cT (He.frT h.get? (cStatics :: He.asD h.get? n)) p).2 with
  | none =>
    rw [q] at h4
    cases h4
  | some o =>
    rw [q] at h4
    exact ⟨h3, He.frT_none q h4, by rw [He.emptyTab_eq h4]⟩
def hookZ (n : Nat) (fa : List He.Fa) (fn : List He.DefD) (tf : List He.Defn) (ex : PySem.W.Frag → Bool) : PySem.W.Hook where
  α := AlY
  obs := fun s => obsZ n fa fn tf ex s.heap.get?
  val := fun _ => (He.valD fn, true)
  says := fun _ h => ∃ K : PySem.W.Frag, K.In h ∧ SaysZ fa fn tf ex h K
  of := fun _ _ e => ⟨_, He.frT_in, saysZ_of e⟩
  keeps := fun _ _ _ ⟨K, hK, c⟩ k => ⟨K, PySem.W.Frag.In.keeps hK k, c.c, c.m, fun p hp => ⟨(c.t p hp).1, (c.t p hp).2.1, k _ _ (c.t p hp).2.2⟩⟩
theorem obsZ_eq {n : Nat} {fa : List He.Fa} {fn : List He.DefD} {tf : List He.Defn} {ex : PySem.W.Frag → Bool} {g : Addr → Option Obj} {s : Shared} (h : ∀ a, g a = s.heap.get? a) : obsZ n fa fn tf ex g = (hookZ n fa fn tf ex).obs s := by
  have e : g = s.heap.get? := funext h
  rw [e] <;> rfl
abbrev tabP (K : PySem.W.Frag) : Addr := (He.cT K ("law", none)).2
/-- the law's table, and the name of what it makes -/
def tabsL (K : PySem.W.Frag) : List (Addr × Str) := [(tabP K, "law.<locals>.<lambda>")]
section
variable {X : Cx} {pg : Arguments} {bg : List Stmt} {sg : Scope} {g c : Addr} {fd : FuncData} {Ng : List Str} {k : Nat} {params : Arguments} {body : Expr} {scope : Scope} {t : XK → TE} {p lpos pos : Pos}
theorem pe_lamW (F : FunD X.K "_law_why" "_law_why" pg bg sg [] [] g fd) (hm : X.mg "_law_why" = some (.ref g)) (hb : L2.Binds X.K fd ["_law_deed"] []) (Sg : FnScope Ng ["_law_deed"] sg) (hNg : Ng[0]? = some ("_law_deed" : Str)) (hva : Vis sg "_law_deed") (hgl : Gl X "_law_why")
    (hG : ∀ cdv, LamX.GivesTo X Ng "_law_why" sg g cdv bg "_law_deed" (X.env.qual ++ "<lambda>") (TWhy X.K)) (TB : LamX.TabB X.base X.mg c (tabP X.K)) (hcode : X.env.code = .ref c) (hq : X.env.qual ++ "<lambda>" = "law.<locals>.<lambda>") (hr : Room (k + 2) X.A) (L : LamX.LamS X.env.scope scope) (hdef : defaultsOf params X.env = ([], []))
    (hbind : ∀ (q : Str) (cl : List (Str × Addr)) (pm cv ctv : Value), bindArgs (PySem.W.kla_fn "<lambda>" q params body scope cl pm cv ctv) ⟨[], []⟩ = pure [])
    (hbody : ∀ (A : Around) (outer : List Env) (s : Shared) (H : Hp) (E : XK) (f c' : Addr), Room k (A.deeper (LamX.lamEnv X scope s.heap.objs.size f c')) → PE (LamX.lamCx X A outer s H E scope f c') body (t E)) :
    PE X (.Call (.Name "_law_why" p) [.Lambda params body scope lpos] [] pos) (LamX.tLam (tabsL X.K) (TWhy X.K) t) := by
  obtain ⟨oc, od, dV, kV, doc, pm, an, cdv, ct, osl, e, lk, hcd, _, _⟩ := F.ex
  subst e
  exact LamX.pe_lamcall hgl hm F.kp lk hcd hb Sg hNg hva (hG cdv) TB hcode (by rw [hq]; exact List.mem_singleton.mpr rfl) (fun q hq' _ => by rw [List.mem_singleton.mp hq', hq]) hr L hdef hbind hbody
end
end Fw

set_option Elab.async false
set_option linter.all false
set_option maxRecDepth 100000
set_option maxHeartbeats 4000000
namespace Fw
open PySem PySem.Spec PyProof.Rows L2
theorem meets_ext (l b : Addr) (xs ys : Array Value) (n m : Nat) (od : Option Addr) (sl : Array (Option Value)) (short : ¬(!xs.isEmpty && Builtin.List.listTooLong (xs.size + ys.size)) = true) (z1 : xs.size ≤ sizeLine) (z2 : xs.size + ys.size ≤ sizeLine + 1) :
    Meets (Builtin.«list.extend» ⟨[.ref l, .ref b], []⟩) (fun _ R s => s.heap.get? l = some ⟨.type "list", none, .seq xs n, #[]⟩ ∧ s.heap.get? b = some ⟨.type "tuple", od, .seq ys m, sl⟩ ∧ R (.ok (.ret Value.none)) { s with heap := s.heap.update l (Obj.mapSeq fun x => x ++ ys), toks := s.toks }) :=
  .of_wp fun prog w A R s h => by
    obtain ⟨hp, g, d, tk, os⟩ := s
    obtain ⟨hl, hb, h⟩ := h
    have f1 := AutoSeq1.idx_int
    have f2 := AutoSeq1.sub_tuple_tuple
    have f3 := AutoSeq1.sub_list_list
    have f4 := AutoSeq1.sub_tuple_list
    have f5 := AutoSeq1.sub_list_tuple
    have hz' : (xs ++ ys).size ≤ sizeLine + 1 := by rw [Array.size_append]; exact z2
    wp_walk using (wpAny_updateSeq hl rfl (hz := z1) (_hz' := hz')), AutoSeq1.wpAny_loadPart' hl, AutoSeq1.wpAny_loadPart' hb
    exact ⟨_, rfl, h⟩
/-- l.extend(b): b another list, or a tuple -/
def rExtendA (K : PySem.W.Frag) : V → List V → Hp → VK → Prop := fun x vs H Q => ∃ (l b : Addr) (xs ys : List V), x = .ref l ∧ vs = [.ref b] ∧ H l = some (.lst xs) ∧ (H b = some (.lst ys) ∨ H b = some (.tup ys)) ∧ xs.length + ys.length ≤ 100000 ∧ Q .non (upd H l (.lst (xs ++ ys)))
theorem mt_extendA {X : Cx} : MtM X "list.extend" (rExtendA X.K) := by
  intro pins s σ H x vs v us Q inv rx rs rd
  obtain ⟨l, b, xs, ys, rfl, rfl, hl, hb, few, q⟩ := rd
  have few2 : xs.length + ys.length ≤ sizeLine := Nat.le_trans few (by decide)
  rcases hb with hb | hb
  · exact mt_extend pins s σ H _ _ v us Q inv rx rs ⟨l, b, xs, ys, rfl, rfl, hl, hb, few2, q⟩
  · cases rx
    obtain ⟨u, rfl, ru⟩ := rs.one
    cases ru
    obtain ⟨_, its, n, r, e0, e⟩ := inv.lstM hl
    obtain ⟨_, its2, r2, o, e2, c2, m, d2⟩ := (show ObjOk X.prog X.w H s.heap b (.tup ys) from inv.hok b _ hb)
    obtain ⟨oc, od, dt, sl⟩ := o
    simp only at c2 d2
    subst c2 d2
    have l2 := r2.length
    have sz : its.toArray.size + its2.toArray.size ≤ sizeLine := by rw [List.size_toArray, List.size_toArray]; omega
    have lng : ¬ (!its.toArray.isEmpty && Builtin.List.listTooLong (its.toArray.size + its2.toArray.size)) = true := by
      rw [notLongL sz, Bool.and_false]
      exact Bool.false_ne_true
    refine call_meets F.slot_list_extend ⟨_, e, rfl⟩ F.entry_list_extend (F.args_list_extend_2 _ _) (meets_ext l b its.toArray its2.toArray n m od sl lng (by rw [List.size_toArray]; omega) (by omega)) ⟨e, e2, ?_⟩
    refine ⟨.non, _, inv.lset (its' := its ++ its2) hl e (by simp) (r.append r2) ?_, rfl, q⟩
    rw [List.length_append]
    omega
end Fw

set_option Elab.async false
set_option linter.all false
set_option maxRecDepth 100000
set_option maxHeartbeats 4000000
namespace Fw
open PySem L2 RZ RT
theorem Dk.upd {c D q : Addr} {ns : List Int} {t : Nat} {H : Hp} {o : HO} (d : Dk c D ns t H) (h1 : q ≠ c) (h2 : q ≠ D) : Dk c D ns t (L2.upd H q o) := by
  obtain ⟨a, b, e, i, n, u, h, r⟩ := d
  exact ⟨a, updN h1.symm b, e, i, n, u, updN h2.symm h, r⟩
theorem Dk.le {c D : Addr} {ns : List Int} {t t' : Nat} {H : Hp} (d : Dk c D ns t H) (h : t ≤ t') : Dk c D ns t' H := by
  obtain ⟨a, b, e, i, n, u, hh, r1, r2, r3, r4, r5⟩ := d
  exact ⟨a, b, e, i, n, u, hh, r1, r2, r3, r4, by omega⟩
theorem Dk.someD {c D : Addr} {ns : List Int} {t : Nat} {H : Hp} (d : Dk c D ns t H) : ∃ xs, H D = some (.lst xs) := by
  obtain ⟨_, _, _, _, _, _, h, _⟩ := d
  exact ⟨_, h⟩
theorem Dk.someC {c D : Addr} {ns : List Int} {t : Nat} {H : Hp} (d : Dk c D ns t H) : ∃ xs, H c = some (.lst xs) := ⟨_, d.2.1⟩
theorem Dk.neD {c D q : Addr} {ns : List Int} {t : Nat} {H : Hp} (d : Dk c D ns t H) (h : H q = none) : q ≠ D := by
  obtain ⟨xs, e⟩ := d.someD
  exact (ne_of_none e h).symm
theorem Dk.neC {c D q : Addr} {ns : List Int} {t : Nat} {H : Hp} (d : Dk c D ns t H) (h : H q = none) : q ≠ c := by
  obtain ⟨xs, e⟩ := d.someC
  exact (ne_of_none e h).symm
/-- all but the deck stands -/
def Kp (D : Addr) (H H' : Hp) : Prop := ∀ b o, H b = some o → b ≠ D → H' b = some o
theorem Kp.refl (D : Addr) (H : Hp) : Kp D H H := fun _ _ e _ => e
theorem Kp.trans {D : Addr} {H H1 H2 : Hp} (a : Kp D H H1) (b : Kp D H1 H2) : Kp D H H2 := fun x o e n => b x o (a x o e n) n
theorem Kp.fr {D : Addr} {H H' : Hp} (f : ∀ b, b ≠ D → H' b = H b) : Kp D H H' := fun b o e n => by rw [f b n]; exact e
theorem Kp.new {D q : Addr} {H : Hp} {o : HO} (n : H q = none) : Kp D H (L2.upd H q o) := fun b u e _ => updN (ne_of_none e n) e
theorem Kp.of_same {D : Addr} {H H' : Hp} (s : Same H H') : Kp D H H' := fun b o e _ => s b o e
theorem Kp.tup {D : Addr} {H H' : Hp} {c : Addr} {ns : List Int} {t : Nat} (k : Kp D H H') (d : Dk c D ns t H) (a : Addr) (xs : List V) (h : H a = some (.tup xs)) : H' a = some (.tup xs) := by
  obtain ⟨ys, e⟩ := d.someD
  exact k a _ h (ne_of h e (by intro z; cases z))
/-- what was free at first, behind what keeps -/
theorem Kp.free {D q : Addr} {H H' : Hp} (k : Kp D H H') (h : H' q = none) (n : q ≠ D) : H q = none := by
  cases e : H q with
  | none => rfl
  | some o => rw [k q o e n] at h; cases h
end Fw

set_option Elab.async false
set_option linter.all false
set_option maxRecDepth 100000
set_option maxHeartbeats 4000000
namespace Fw
open PySem L2 RZ RT
abbrev rLeS : R2 := fun x y H Q => ∃ i j, x = .str i ∧ y = .str j ∧ Q (.bl (!decide (j.cps.toList < i.cps.toList))) H
abbrev rLtS : R2 := fun x y H Q => ∃ i j, x = .str i ∧ y = .str j ∧ Q (.bl (decide (i.cps.toList < j.cps.toList))) H
def fOrd : List V → Hp → VK → Prop := fun xs H Q => ∃ x, xs = [.str x] ∧ x.length = 1 ∧ Q (.int (x.cps.getD 0 0 : Nat)) H
def fJoin (K : PySem.W.Frag) : V → List V → Hp → VK → Prop := fun x xs H Q => ∃ a p, ∃ ys : List Str, x = .str a ∧ xs = [.ref p] ∧ (SqL K H p (ys.map V.str) ∨ SqT K H p (ys.map V.str)) ∧ (ys.map (·.length)).sum + ys.length * a.length ≤ 16777216 ∧ Q (.str (Txt.join a ys)) H
theorem ixS {K : PySem.W.Frag} {H : Hp} {z : Str} {i : Int} {c : Nat} {Q : VK} (hz : z.length ≤ 1000) (ha : atI z.cps.toList i = some c) (q : Q (.str ⟨#[c]⟩) H) : rIx K (.str z) (.int i) H Q := .inr (.inr ⟨z, i, c, rfl, rfl, Nat.le_trans hz (by decide), ha, q⟩)
theorem lenS {K : PySem.W.Frag} {H : Hp} {z : Str} {Q : VK} {σ : L2.St} (hz : z.length ≤ 1000) (q : Q (.int z.length) H) : tNil σ H fun ys H2 => fLen K (.str z :: ys) H2 Q := ⟨_, _, rfl, ⟨Nat.le_trans hz (by decide), rfl⟩, q⟩
theorem Same.upd {H : Hp} {p : Addr} {o : HO} (n : H p = none) : Same H (upd H p o) := fun b u e => updN (ne_of_none e n) e
theorem Same.updI {H H' : Hp} {p : Addr} {o : HO} (s : Same H H') (n : H p = none) : Same H (L2.upd H' p o) := fun b u e => updN (ne_of_none e n) (s b u e)
/-- a comprehension whose elements may make new things, nothing else -/
theorem lc_grow {J : It} {n : Nat} {G : Hp → Prop} {Y : Nat → Hp → V → Hp → Prop} (w : Walk J n G Y) (hY : ∀ i H x H', Y i H x H' → H' = H) {k : Nat} {te : TE} {vs : List Nat} {σ : L2.St} {H1 : Hp} {D : Addr} {Qd : Hp → Prop} {ys : List V}
    (hD : H1 D = none) (hl : ys.length = n) (hz : n ≤ 100000) (hG : ∀ H', Same H1 H' → G H')
    (hs : ∀ (i : Nat) (x y : V) (H' : Hp) (R : VK), i < n → Y i H' x H' → ys[i]? = some y → Same H1 H' → (∀ H'', Same H' H'' → R y H'') → wipe ((wipe σ vs).set k (some x)) vs = wipe σ vs ∧ te ((wipe σ vs).set k (some x)) H' R)
    (hd : ∀ H', Same H1 H' → H' D = some (.lst ys) → Qd H') :
    ∃ W : Nat → Nat → Hp → Prop, (∃ m, W 0 m (L2.upd H1 D (.lst []))) ∧ ∀ i m H, W i m H →
      (J.stop i H ∧ Qd H) ∨ (J.go i H ∧ ∃ Nx : Hp → Prop, (∀ H', Nx H' → ∃ m', m' < m ∧ W (i + 1) m' H') ∧ ∀ x H', J.yld i H x H' → gName k x (wipe σ vs) H' fun σ2 H2 => wipe σ2 vs = wipe σ vs ∧ tYes σ2 H2 fun b H3 =>
        if b = true then te σ2 H3 fun y H4 => ∃ acc, H4 D = some (.lst acc) ∧ acc.length < sizeLine ∧ Nx (L2.upd H4 D (.lst (acc ++ [y]))) else Nx H3) := by
  refine lc_it w (fun i H => Same H1 H ∧ H D = some (.lst (ys.take i))) ⟨Same.upd hD, updS⟩ (fun i H _ p => hG H p.1) (fun i x H H' hi p hy => ?_) (fun H p => hd H p.1 (by rw [p.2, List.take_of_length_le (by omega)]))
  have e := hY i H x H' hy
  subst e
  have hi2 : i < ys.length := by omega
  obtain ⟨q1, q2⟩ := hs i x ys[i] H' (fun y H4 => ∃ acc, H4 D = some (.lst acc) ∧ acc.length < sizeLine ∧ (Same H1 (L2.upd H4 D (.lst (acc ++ [y]))) ∧ L2.upd H4 D (.lst (acc ++ [y])) D = some (.lst (ys.take (i + 1))))) hi hy (List.getElem?_eq_getElem hi2) p.1 (fun H'' s => ⟨_, s _ _ p.2, Nat.lt_of_le_of_lt (by rw [List.length_take]; omega : (ys.take i).length ≤ 100000) (by decide), Same.updI (Same.trans p.1 s) hD, by rw [updS, List.take_add_one, List.getElem?_eq_getElem hi2]; rfl⟩)
  exact ⟨q1, q2⟩
/-- the same where each element draws: what it gives keeps P -/
theorem lc_deck {J : It} {n : Nat} {Y : Nat → Hp → V → Hp → Prop} (w : Walk J n (fun _ => True) Y) (hY : ∀ i H x H', Y i H x H' → H' = H) {α : Type} (f : α → V) (P : α → Prop) (st : Nat) {k : Nat} {te : TE} {vs : List Nat} {σ : L2.St} {H1 : Hp} {L : Addr} {Qd : Hp → Prop} {c D : Addr} {ns : List Int} {t : Nat}
    (hL : H1 L = none) (dk : Dk c D ns t H1) (hz : n ≤ 100000)
    (hs : ∀ (i : Nat) (x : V) (H' : Hp) (R : VK), i < n → Kp D H1 H' → Dk c D ns (t + st * i) H' → (∀ y H'', P y → Kp D H' H'' → Dk c D ns (t + st * i + st) H'' → R (f y) H'') → wipe ((wipe σ vs).set k (some x)) vs = wipe σ vs ∧ te ((wipe σ vs).set k (some x)) H' R)
    (hd : ∀ (ys : List α) (H' : Hp), ys.length = n → (∀ y ∈ ys, P y) → Kp D H1 H' → Dk c D ns (t + st * n) H' → H' L = some (.lst (ys.map f)) → Qd H') :
    ∃ W : Nat → Nat → Hp → Prop, (∃ m, W 0 m (L2.upd H1 L (.lst []))) ∧ ∀ i m H, W i m H →
      (J.stop i H ∧ Qd H) ∨ (J.go i H ∧ ∃ Nx : Hp → Prop, (∀ H', Nx H' → ∃ m', m' < m ∧ W (i + 1) m' H') ∧ ∀ x H', J.yld i H x H' → gName k x (wipe σ vs) H' fun σ2 H2 => wipe σ2 vs = wipe σ vs ∧ tYes σ2 H2 fun b H3 =>
        if b = true then te σ2 H3 fun y H4 => ∃ acc, H4 L = some (.lst acc) ∧ acc.length < sizeLine ∧ Nx (L2.upd H4 L (.lst (acc ++ [y]))) else Nx H3) := by
  have nLD : L ≠ D := dk.neD hL
  have nLC : L ≠ c := dk.neC hL
  refine lc_it w (fun i H => ∃ ys : List α, ys.length = i ∧ (∀ y ∈ ys, P y) ∧ Kp D H1 H ∧ Dk c D ns (t + st * i) H ∧ H L = some (.lst (ys.map f))) ⟨[], rfl, (fun _ h => by cases h), .new hL, dk.upd nLC nLD, updS⟩ (fun _ _ _ _ => True.intro) ?_ ?_
  · rintro i x H H' hi ⟨ys, hl, hp, kp, dk2, hLs⟩ hy
    have e := hY i H x H' hy
    subst e
    obtain ⟨q1, q2⟩ := hs i x H' (fun y H4 => ∃ acc, H4 L = some (.lst acc) ∧ acc.length < sizeLine ∧ ∃ ys : List α, ys.length = i + 1 ∧ (∀ y ∈ ys, P y) ∧ Kp D H1 (L2.upd H4 L (.lst (acc ++ [y]))) ∧ Dk c D ns (t + st * (i + 1)) (L2.upd H4 L (.lst (acc ++ [y]))) ∧ L2.upd H4 L (.lst (acc ++ [y])) L = some (.lst (ys.map f))) hi kp dk2 (fun y H'' py k2 d2 => by
      refine ⟨_, k2 _ _ hLs nLD, Nat.lt_of_le_of_lt (by rw [List.length_map]; omega : (ys.map f).length ≤ 100000) (by decide), ys ++ [y], by rw [List.length_append, hl]; rfl, fun z hz2 => ?_, fun b o e n => updN (ne_of_none e hL) ((kp.trans k2) b o e n), ?_, by rw [updS, List.map_append]; rfl⟩
      · rcases List.mem_append.mp hz2 with h | h
        · exact hp z h
        · cases List.mem_singleton.mp h
          exact py
      · have e2 : t + st * (i + 1) = t + st * i + st := by rw [Nat.mul_add, Nat.mul_one, Nat.add_assoc]
        rw [e2]
        exact d2.upd nLC nLD)
    exact ⟨q1, q2⟩
  · rintro H ⟨ys, hl, hp, kp, dk2, hLs⟩
    exact hd ys H hl hp kp dk2 hLs
/-! ### the same data, where looking makes new things -/
theorem SameV.mono {H H' : Hp} (s : Same H H') : ∀ {n : Nat} {x y : V}, SameV H n x y → SameV H' n x y
  | 0, _, _, h => h
  | n + 1, x, y, h => by
    rcases h with h | ⟨p, q, xs, ys, rfl, rfl, h, hl, hz, hs⟩
    · exact .inl h
    · refine .inr ⟨p, q, xs, ys, rfl, rfl, h.imp (fun h => ⟨s _ _ h.1, s _ _ h.2⟩) (fun h => ⟨s _ _ h.1, s _ _ h.2⟩), hl, hz, fun i a b h1 h2 => (hs i a b h1 h2).mono s⟩
theorem SameV.strs {H : Hp} {n : Nat} {zs : List Str} : ∀ (i : Nat) (a b : V), (zs.map V.str)[i]? = some a → (zs.map V.str)[i]? = some b → SameV H (n + 1) a b := fun i a b h1 h2 => by
  have e : a = b := Option.some.inj (h1.symm.trans h2)
  rw [List.getElem?_map] at h1
  cases q : zs[i]? with
  | none => rw [q] at h1; cases h1
  | some z => rw [q] at h1; exact Or.inl ⟨e, .inr (.inr (.inr ⟨z, (Option.some.inj h1).symm⟩))⟩
def sp_same2N (_ : PySem.W.Frag) (n : Nat) : Sp := fun vs H Q _ => ∃ x y, vs = [x, y] ∧ SameV H n x y ∧ ∀ H', Same H H' → Q (.bl true) H'
abbrev sp_l_same2 (K : PySem.W.Frag) : Sp := sp_same2N K 6
theorem len_same2N {K : PySem.W.Frag} {vs : List V} {H : Hp} {Q : VK} {E : XK} {n : Nat} (h : sp_same2N K n vs H Q E) : vs.length = 2 := by
  obtain ⟨_, _, rfl, _⟩ := h
  rfl
def t_l_same2_loop (K : PySem.W.Frag) (n : Nat) : TS := (tSeq (tIfS (tTest (tOp rNe (tCB (fLen K) (tCons (tVar 0) tNil)) (tCB (fLen K) (tCons (tVar 1) tNil)))) (tRet (tC (.bl false))) tNext)
    (tSeq (tFor (iRng1 (tCons (tCB (fLen K) (tCons (tVar 1) tNil)) tNil)) (gName 2) (tIfS (tNot (tB (tCall (sp_same2N K n) [] E0 (tCons (tOp (rIx K) (tVar 0) (tVar 2)) (tCons (tOp (rIx K) (tVar 1) (tVar 2)) tNil))))) (tRet (tC (.bl false))) tNext))
    (tRet (tC (.bl true)))))
def t_l_same2_tail (K : PySem.W.Frag) (n : Nat) : TS := (tSeq (tIfS (tB (tCB (rIsi K) (tCons (tVar 1) (tCons (tC (.ty "dict")) tNil)))) tNever tNext)
    (tSeq (tIfS (tB (tCB (rIsi K) (tCons (tVar 1) (tCons (tC (.ty "bool")) tNil)))) (tRet (tAndV (tCB (rIsi K) (tCons (tVar 0) (tCons (tC (.ty "bool")) tNil))) (tOp rEq (tVar 0) (tVar 1)))) tNext)
    (tSeq (tIfS (tB (tCB (rIsi K) (tCons (tVar 1) (tCons (tC (.ty "int")) tNil)))) (tRet (tAndV (tCall (sp_l_int K) [] E0 (tCons (tVar 0) tNil)) (tOp rEq (tVar 0) (tVar 1)))) tNext)
    (tSeq (tIfS (tB (tCB (rIsi K) (tCons (tVar 1) (tCons (tC (.ty "str")) tNil)))) (tRet (tAndV (tCB (rIsi K) (tCons (tVar 0) (tCons (tC (.ty "str")) tNil))) (tOp rEq (tVar 0) (tVar 1)))) tNext)
    (tRet (tAndV (tOp fIsN (tVar 1) (tC .non)) (tOp fIsN (tVar 0) (tC .non))))))))
def t_l_same2 (K : PySem.W.Frag) (n : Nat) : TS := (tSeq (tIfS (tB (tCB (rIsiT K) (tCons (tVar 1) (tCons (tTup (tCons (tC (.ty "tuple")) (tCons (tC (.ty "list")) tNil))) tNil)))) (tSeq (tIfS (tOr (tTest (tOp rNe (tCB (rIsi K) (tCons (tVar 1) (tCons (tC (.ty "tuple")) tNil))) (tCB (rIsi K) (tCons (tVar 0) (tCons (tC (.ty "tuple")) tNil))))) (tTest (tOp rNe (tCB (rIsi K) (tCons (tVar 1) (tCons (tC (.ty "list")) tNil))) (tCB (rIsi K) (tCons (tVar 0) (tCons (tC (.ty "list")) tNil)))))) (tRet (tC (.bl false))) tNext)
    (t_l_same2_loop K n)) tNext)
    (t_l_same2_tail K n))
section
variable {K : PySem.W.Frag} {H : Hp} {x : V} {Q : VK} {σ : L2.St} {t : String} {b : Bool}
/-- isinstance(x, (tuple, list)) -/
theorem isi2 (ty : ∀ H', Same H H' → TyX K H' x (.type t)) {b1 b2 : Bool} (k1 : kitB t "tuple" = some b1) (k2 : kitB t "list" = some b2) (q : ∀ T, H T = none → Q (.bl (b1 || b2)) (upd H T (.tup [.ty "tuple", .ty "list"]))) :
    tCons (tTup (tCons (tC (.ty "tuple")) (tCons (tC (.ty "list")) tNil))) tNil σ H fun ys H2 => rIsiT K (x :: ys) H2 Q := by
  refine ⟨by show (2 : Nat) ≤ sizeLine; decide, fun T nT => ⟨x, T, _, _, [.type "tuple", .type "list"], (b1 || b2), rfl, updS, .cons (.ty _) (.cons (.ty _) .nil), ty _ (Same.upd nT), ?_, q T nT⟩⟩
  refine kitAny_cons (kit_ty k1) (fun e => ?_) (fun e => by rw [e]; rfl)
  subst e
  exact kitAny_cons (kit_ty k2) (fun e => by subst e; exact kitAny_nil) (fun e => by rw [e]; rfl)
end
theorem k_id : kitB "int" "dict" = some false := by decide +kernel
theorem k_bd : kitB "bool" "dict" = some false := by decide +kernel
theorem k_sd : kitB "str" "dict" = some false := by decide +kernel
theorem k_nd : kitB "NoneType" "dict" = some false := by decide +kernel
theorem pure_l_same2 {K : PySem.W.Frag} {n : Nat} {vs : List V} {H : Hp} {Q : VK} {E : XK} (h : sp_same2N K (n + 1) vs H Q E) : t_l_same2 K n { nx := fun _ H' => Q .non H', rt := Q } (start N_l_same vs) H := by
  obtain ⟨x, y, rfl, h, k⟩ := h
  rcases h with ⟨rfl, h⟩ | ⟨p, q, xs, ys, rfl, rfl, h, hl, hz, hs⟩
  · rcases h with rfl | ⟨i, rfl⟩ | ⟨b, rfl⟩ | ⟨z, rfl⟩
    · refine ⟨_, rfl, isi2 (fun _ _ => .base .non) k_nt k_nl fun T nT => ⟨_, rfl, iteF ?_⟩⟩
      refine ⟨_, rfl, isi (.base .non) k_nd ⟨_, rfl, iteF ?_⟩⟩
      refine ⟨_, rfl, isi (.base .non) k_nb ⟨_, rfl, iteF ?_⟩⟩
      refine ⟨_, rfl, isi (.base .non) k_ni ⟨_, rfl, iteF ?_⟩⟩
      refine ⟨_, rfl, isi (.base .non) k_ns ⟨_, rfl, iteF ?_⟩⟩
      exact ⟨_, rfl, rfl, _, rfl, iteT ⟨_, rfl, rfl, k _ (Same.upd nT)⟩⟩
    · refine ⟨_, rfl, isi2 (fun _ _ => .base (.int i)) k_it k_il fun T nT => ⟨_, rfl, iteF ?_⟩⟩
      refine ⟨_, rfl, isi (.base (.int i)) k_id ⟨_, rfl, iteF ?_⟩⟩
      refine ⟨_, rfl, isi (.base (.int i)) k_ib ⟨_, rfl, iteF ?_⟩⟩
      refine ⟨_, rfl, isi (.base (.int i)) k_ii ⟨_, rfl, iteT ?_⟩⟩
      refine ⟨_, rfl, i, rfl, _, rfl, iteT ⟨_, rfl, _, rfl, rfl, ?_⟩⟩
      rw [decide_eq_true rfl]
      exact k _ (Same.upd nT)
    · refine ⟨_, rfl, isi2 (fun _ _ => .base (.bl b)) k_bt k_bl fun T nT => ⟨_, rfl, iteF ?_⟩⟩
      refine ⟨_, rfl, isi (.base (.bl b)) k_bd ⟨_, rfl, iteF ?_⟩⟩
      refine ⟨_, rfl, isi (.base (.bl b)) k_bb ⟨_, rfl, iteT ?_⟩⟩
      refine ⟨_, rfl, isi (.base (.bl b)) k_bb ⟨_, rfl, iteT ⟨_, rfl, _, rfl, rfl, ?_⟩⟩⟩
      rw [decide_eq_true rfl]
      exact k _ (Same.upd nT)
    · refine ⟨_, rfl, isi2 (fun _ _ => .base (.str z)) k_st k_sl fun T nT => ⟨_, rfl, iteF ?_⟩⟩
      refine ⟨_, rfl, isi (.base (.str z)) k_sd ⟨_, rfl, iteF ?_⟩⟩
      refine ⟨_, rfl, isi (.base (.str z)) k_sb ⟨_, rfl, iteF ?_⟩⟩
      refine ⟨_, rfl, isi (.base (.str z)) k_si ⟨_, rfl, iteF ?_⟩⟩
      refine ⟨_, rfl, isi (.base (.str z)) k_ss ⟨_, rfl, iteT ?_⟩⟩
      refine ⟨_, rfl, isi (.base (.str z)) k_ss ⟨_, rfl, iteT ⟨_, rfl, _, rfl, rfl, ?_⟩⟩⟩
      rw [decide_eq_true rfl]
      exact k _ (Same.upd nT)
  · have loop : ∀ H0 : Hp, Same H H0 → (∃ o, (H p = some o ∧ (o = .lst xs ∨ o = .tup xs))) → (∃ o, (H q = some o ∧ (o = .lst ys ∨ o = .tup ys))) → ∀ z2 : Option V,
        t_l_same2_loop K n { nx := t_l_same2_tail K n { nx := fun _ H' => Q .non H', rt := Q }, rt := Q } [some (.ref p), some (.ref q), z2] H0 := by
      intro H0 s0 hp hq z2
      have hlen : ∀ {r : Addr} {zs : List V} {R : VK} {σ : L2.St} {H1 : Hp}, (∃ o, (H r = some o ∧ (o = .lst zs ∨ o = .tup zs))) → Same H H1 → R (.int zs.length) H1 → tNil σ H1 fun ws H2 => fLen K (.ref r :: ws) H2 R := by
        rintro r zs R σ H1 ⟨o, h1, rfl | rfl⟩ s h2
        · exact lenL (s _ _ h1) h2
        · exact lenT (s _ _ h1) h2
      have hix : ∀ {r : Addr} {zs : List V} {R : VK} {i : Int} {v : V} {H1 : Hp}, (∃ o, (H r = some o ∧ (o = .lst zs ∨ o = .tup zs))) → Same H H1 → atI zs i = some v → R v H1 → rIx K (.ref r) (.int i) H1 R := by
        rintro r zs R i v H1 ⟨o, h1, rfl | rfl⟩ s h2 h3
        · exact ixL (s _ _ h1) h2 h3
        · exact ixT (s _ _ h1) h2 h3
      refine ⟨_, rfl, hlen hp s0 ⟨_, rfl, hlen hq s0 ⟨rfl, _, rfl, ?_⟩⟩⟩
      rw [decide_eq_true (show V.int (xs.length : Int) = V.int (ys.length : Int) by rw [hl])]
      refine iteF ?_
      refine ⟨_, rfl, hlen hq s0 ⟨_, rfl, (len_le (by omega)).1, (len_le (by omega)).2, for_range (lo := 0) (n := ((ys.length : Int)).toNat) (fun i σ H' => Same H H' ∧ ∃ z, σ = [some (.ref p), some (.ref q), z]) ⟨s0, _, rfl⟩ ?_ ?_⟩⟩
      · rintro i σ H' hi ⟨s1, z, rfl⟩
        have hi1 : i < ys.length := by omega
        have hi2 : i < xs.length := by omega
        have e1 : atI xs (0 + (i : Int)) = some xs[i] := by rw [Int.zero_add]; exact atI_nat (List.getElem?_eq_getElem hi2)
        have e2 : atI ys (0 + (i : Int)) = some ys[i] := by rw [Int.zero_add]; exact atI_nat (List.getElem?_eq_getElem hi1)
        refine ⟨_, rfl, _, rfl, hix hp s1 e1 ⟨_, rfl, _, rfl, hix hq s1 e2 ⟨_, _, rfl, (hs i _ _ (List.getElem?_eq_getElem hi2) (List.getElem?_eq_getElem hi1)).mono s1, fun H2 s2 => ⟨_, rfl, iteF ?_⟩⟩⟩⟩
        exact ⟨s1.trans s2, _, rfl⟩
      · rintro σ H' ⟨s1, z, rfl⟩
        exact k _ s1
    rcases h with ⟨h1, h2⟩ | ⟨h1, h2⟩
    · have t1 : ∀ H', Same H H' → TyX K H' (.ref p) (.type "list") := fun H' s => .base (.lst (s _ _ h1))
      have t2 : ∀ H', Same H H' → TyX K H' (.ref q) (.type "list") := fun H' s => .base (.lst (s _ _ h2))
      refine ⟨_, rfl, isi2 t2 k_lt k_ll fun T nT => ⟨_, rfl, iteT ?_⟩⟩
      have s0 : Same H (upd H T (.tup [.ty "tuple", .ty "list"])) := Same.upd nT
      refine ⟨_, rfl, isi (t2 _ s0) k_lt ⟨_, rfl, isi (t1 _ s0) k_lt ⟨rfl, _, rfl, iteF ⟨_, rfl, isi (t2 _ s0) k_ll ⟨_, rfl, isi (t1 _ s0) k_ll ⟨rfl, _, rfl, iteF ?_⟩⟩⟩⟩⟩⟩
      exact loop _ s0 ⟨_, h1, .inl rfl⟩ ⟨_, h2, .inl rfl⟩ _
    · have t1 : ∀ H', Same H H' → TyX K H' (.ref p) (.type "tuple") := fun H' s => .base (.tup (s _ _ h1))
      have t2 : ∀ H', Same H H' → TyX K H' (.ref q) (.type "tuple") := fun H' s => .base (.tup (s _ _ h2))
      refine ⟨_, rfl, isi2 t2 k_tt k_tl fun T nT => ⟨_, rfl, iteT ?_⟩⟩
      have s0 : Same H (upd H T (.tup [.ty "tuple", .ty "list"])) := Same.upd nT
      refine ⟨_, rfl, isi (t2 _ s0) k_tt ⟨_, rfl, isi (t1 _ s0) k_tt ⟨rfl, _, rfl, iteF ⟨_, rfl, isi (t2 _ s0) k_tl ⟨_, rfl, isi (t1 _ s0) k_tl ⟨rfl, _, rfl, iteF ?_⟩⟩⟩⟩⟩⟩
      exact loop _ s0 ⟨_, h1, .inr rfl⟩ ⟨_, h2, .inr rfl⟩ _
end Fw

set_option Elab.async false
set_option linter.all false
set_option maxRecDepth 100000
set_option maxHeartbeats 4000000
namespace Fw
open PySem L2 RZ RT
/-! ### rows, pieces, scripts -/
def OkC (c : Nat) : Prop := 32 ≤ c ∧ c ≤ 126 ∧ c ≠ 37
def OkS (z : Str) : Prop := z.cps.size ≤ 40 ∧ ∀ c ∈ z.cps.toList, OkC c
inductive Pc where
  | take (b m : Nat)
  | put (rs : List Str)
def Pc.n : Pc → Nat
  | .take _ m => m
  | .put rs => rs.length
def Pc.ok : Pc → Prop
  | .take _ m => 1 ≤ m
  | .put rs => rs ≠ [] ∧ ∀ z ∈ rs, OkS z
def Pc.fits (L : Nat) : Pc → Prop
  | .take b m => b + m ≤ L
  | .put _ => True
def Pc.mk (bs : List Str) : Pc → List Str
  | .take b m => (bs.drop b).take m
  | .put rs => rs
def Pc.cost (t p : Int) : Pc → Int
  | .take _ _ => t
  | .put rs => p * (rs.length : Int)
def total (ps : List Pc) : Nat := (ps.map Pc.n).sum
def makes (bs : List Str) (ps : List Pc) : List Str := (ps.map (Pc.mk bs)).flatten
def cost (t p : Int) (ps : List Pc) : Int := (ps.map (Pc.cost t p)).sum
structure ScOk (ps : List Pc) : Prop where
  ok : ∀ p ∈ ps, p.ok
  few : total ps ≤ 40
theorem Pc.one {p : Pc} (h : p.ok) : 1 ≤ p.n := by
  cases p with
  | take b m => exact h
  | put rs => exact List.length_pos_iff.mpr h.1
theorem len_le_total : ∀ {ps : List Pc}, (∀ p ∈ ps, p.ok) → ps.length ≤ total ps
  | [], _ => Nat.le_refl _
  | p :: ps, h => by
    have a := len_le_total (ps := ps) fun q hq => h q (List.mem_cons_of_mem _ hq)
    have b := Pc.one (h p (List.mem_cons_self ..))
    show ps.length + 1 ≤ p.n + (ps.map Pc.n).sum
    have e : total ps = (ps.map Pc.n).sum := rfl
    omega
theorem ScOk.len {ps : List Pc} (h : ScOk ps) : ps.length ≤ 40 := Nat.le_trans (len_le_total h.ok) h.few
theorem n_le_total : ∀ {ps : List Pc} {p : Pc}, p ∈ ps → p.n ≤ total ps
  | q :: ps, p, h => by
    have e : total (q :: ps) = q.n + total ps := rfl
    rcases List.mem_cons.mp h with h | h
    · rw [h, e]; omega
    · have := n_le_total h
      omega
theorem mk_len {bs : List Str} {p : Pc} (h : p.fits bs.length) : (p.mk bs).length = p.n := by
  cases p with
  | take b m =>
    show ((bs.drop b).take m).length = m
    have h : b + m ≤ bs.length := h
    rw [List.length_take, List.length_drop]
    omega
  | put rs => rfl
theorem makes_len {bs : List Str} : ∀ {ps : List Pc}, (∀ p ∈ ps, p.fits bs.length) → (makes bs ps).length = total ps
  | [], _ => rfl
  | p :: ps, h => by
    show (p.mk bs ++ makes bs ps).length = p.n + total ps
    rw [List.length_append, mk_len (h p (List.mem_cons_self ..)), makes_len fun q hq => h q (List.mem_cons_of_mem _ hq)]
/-! ### as they stand in the heap -/
def TM (H H' : Hp) : Prop := ∀ (a : Addr) (xs : List V), H a = some (.tup xs) → H' a = some (.tup xs)
theorem TM.of {H H' : Hp} (s : Same H H') : TM H H' := fun a xs h => s _ _ h
theorem TM.trans {H H1 H2 : Hp} (a : TM H H1) (b : TM H1 H2) : TM H H2 := fun x xs h => b _ _ (a _ _ h)
theorem Kp.tm {D : Addr} {H H' : Hp} {c : Addr} {ns : List Int} {t : Nat} (k : Kp D H H') (d : Dk c D ns t H) : TM H H' := fun a xs h => k.tup d a xs h
def RwAt (H : Hp) (a : Addr) (rs : List Str) : Prop := H a = some (.tup (rs.map V.str))
def PcAt (H : Hp) (a : Addr) : Pc → Prop
  | .take b m => H a = some (.tup [.str "take", .int (b : Int), .int (m : Int)])
  | .put rs => ∃ r, H a = some (.tup [.str "put", .ref r]) ∧ RwAt H r rs
theorem PcAt.mono {H H' : Hp} {a : Addr} {p : Pc} (h : PcAt H a p) (s : TM H H') : PcAt H' a p := by
  cases p with
  | take b m => exact s _ _ h
  | put rs =>
    obtain ⟨r, h1, h2⟩ := h
    exact ⟨r, s _ _ h1, s _ _ h2⟩
/-- the pieces at these addresses -/
def PsAt (H : Hp) (as : List Addr) (ps : List Pc) : Prop := as.length = ps.length ∧ ∀ (i : Nat) (a : Addr) (p : Pc), as[i]? = some a → ps[i]? = some p → PcAt H a p
theorem PsAt.mono {H H' : Hp} {as : List Addr} {ps : List Pc} (h : PsAt H as ps) (s : TM H H') : PsAt H' as ps := ⟨h.1, fun i a p h1 h2 => (h.2 i a p h1 h2).mono s⟩
theorem PsAt.nil {H : Hp} : PsAt H [] [] := ⟨rfl, fun i a p h => by cases h⟩
theorem PsAt.snoc {H : Hp} {as : List Addr} {ps : List Pc} {T : Addr} {p : Pc} (h : PsAt H as ps) (hT : PcAt H T p) : PsAt H (as ++ [T]) (ps ++ [p]) := by
  refine ⟨by rw [List.length_append, List.length_append, h.1]; rfl, fun i a m h1 h2 => ?_⟩
  by_cases hi : i < as.length
  · rw [List.getElem?_append_left hi] at h1
    rw [List.getElem?_append_left (by rw [← h.1]; exact hi)] at h2
    exact h.2 i a m h1 h2
  · have hi2 : i < (as ++ [T]).length := (List.getElem?_eq_some_iff.mp h1).1
    rw [List.length_append, List.length_singleton] at hi2
    have e : i = as.length := by omega
    rw [List.getElem?_append_right (by omega), e, Nat.sub_self] at h1
    rw [List.getElem?_append_right (by rw [← h.1]; omega), e, h.1, Nat.sub_self] at h2
    cases Option.some.inj h1
    cases Option.some.inj h2
    exact hT
def ScAt (H : Hp) (s : Addr) (ps : List Pc) : Prop := ∃ as : List Addr, H s = some (.tup (as.map V.ref)) ∧ PsAt H as ps
theorem ScAt.mono {H H' : Hp} {s : Addr} {ps : List Pc} (h : ScAt H s ps) (m : TM H H') : ScAt H' s ps := by
  obtain ⟨as, h1, h2⟩ := h
  exact ⟨as, m _ _ h1, h2.mono m⟩
/-- the i-th value of a script's tuple -/
theorem sc_get {as : List Addr} {ps : List Pc} {H : Hp} {i : Nat} {x : V} (h : PsAt H as ps) (hx : (as.map V.ref)[i]? = some x) : ∃ a p, x = .ref a ∧ as[i]? = some a ∧ ps[i]? = some p ∧ PcAt H a p := by
  rw [List.getElem?_map] at hx
  cases q : as[i]? with
  | none => rw [q] at hx; cases hx
  | some a =>
    rw [q] at hx
    have hi : i < ps.length := by rw [← h.1]; exact (List.getElem?_eq_some_iff.mp q).1
    exact ⟨a, ps[i], (Option.some.inj hx).symm, rfl, List.getElem?_eq_getElem hi, h.2 i a _ q (List.getElem?_eq_getElem hi)⟩
theorem put_take : decide (V.str "put" = V.str "take") = false := decide_eq_false (by intro h; injection h with h; exact absurd h (by decide +kernel))
theorem take_put : decide (V.str "take" = V.str "put") = false := decide_eq_false (by intro h; injection h with h; exact absurd h (by decide +kernel))
/-- the word of a piece, its other parts -/
theorem PcAt.word {K : PySem.W.Frag} {H : Hp} {a : Addr} {p : Pc} {Q : VK} (h : PcAt H a p) (ht : ∀ b m, p = .take b m → Q (.str "take") H) (hp : ∀ rs, p = .put rs → Q (.str "put") H) : rIx K (.ref a) (.int 0) H Q := by
  cases p with
  | take b m => exact ixT h rfl (ht b m rfl)
  | put rs => obtain ⟨r, h1, h2⟩ := h; exact ixT h1 rfl (hp rs rfl)
/-! ### forms of texts -/
def sp_is_sign (_ : PySem.W.Frag) : Sp := fun vs H Q _ => ∃ c : Nat, vs = [.str ⟨#[c]⟩] ∧ OkC c ∧ Q (.bl true) H
def sp_is_text (_ : PySem.W.Frag) : Sp := fun vs H Q _ => ∃ z : Str, vs = [.str z] ∧ OkS z ∧ ∀ H', Same H H' → Q (.bl true) H'
def sp_is_row (_ : PySem.W.Frag) : Sp := fun vs H Q _ => ∃ z : Str, vs = [.str z] ∧ OkS z ∧ ∀ H', Same H H' → Q (.bl true) H'
def sp_is_intI (_ : PySem.W.Frag) : Sp := fun vs H Q _ => ∃ i : Int, vs = [.int i] ∧ Q (.bl true) H
def sp_is_pairT (_ : PySem.W.Frag) : Sp := fun vs H Q _ => ∃ (a : Addr) (x y : V), vs = [.ref a] ∧ H a = some (.tup [x, y]) ∧ Q (.bl true) H
def sp_are_put (_ : PySem.W.Frag) : Sp := fun vs H Q _ => ∃ (a : Addr) (rs : List Str), vs = [.ref a] ∧ RwAt H a rs ∧ rs ≠ [] ∧ rs.length ≤ 1000 ∧ (∀ z ∈ rs, OkS z) ∧ ∀ H', Same H H' → Q (.bl true) H'
def sp_rows_in (_ : PySem.W.Frag) : Sp := fun vs H Q _ => ∃ (a : Addr) (p : Pc), vs = [.ref a] ∧ PcAt H a p ∧ Q (.int (p.n : Int)) H
def sp_is_piece (_ : PySem.W.Frag) : Sp := fun vs H Q _ => ∃ (a : Addr) (p : Pc), vs = [.ref a] ∧ PcAt H a p ∧ p.ok ∧ p.n ≤ 1000 ∧ ∀ H', Same H H' → Q (.bl true) H'
def sp_is_script (_ : PySem.W.Frag) : Sp := fun vs H Q _ => ∃ (a : Addr) (ps : List Pc), vs = [.ref a] ∧ ScAt H a ps ∧ ScOk ps ∧ ∀ H', Same H H' → Q (.bl true) H'
def sp_is_right_over (_ : PySem.W.Frag) : Sp := fun vs H Q _ => ∃ (B a : Addr) (bs : List Str) (ps : List Pc), vs = [.ref B, .ref a] ∧ RwAt H B bs ∧ ScAt H a ps ∧ ScOk ps ∧ (∀ p ∈ ps, p.fits bs.length) ∧ ∀ H', Same H H' → Q (.bl true) H'
def sp_refuse_wrong (_ : PySem.W.Frag) : Sp := fun vs H Q _ => ∃ (B a : Addr) (bs : List Str) (ps : List Pc), vs = [.ref B, .ref a] ∧ RwAt H B bs ∧ ScAt H a ps ∧ ScOk ps ∧ (∀ p ∈ ps, p.fits bs.length) ∧ ∀ H', Same H H' → Q .non H'
def sp_made (_ : PySem.W.Frag) : Sp := fun vs H Q _ => ∃ (B a : Addr) (bs : List Str) (ps : List Pc), vs = [.ref B, .ref a] ∧ RwAt H B bs ∧ ScAt H a ps ∧ ScOk ps ∧ (∀ p ∈ ps, p.fits bs.length) ∧ ∀ (r : Addr) (H' : Hp), Same H H' → RwAt H' r (makes bs ps) → Q (.ref r) H'
abbrev sp_done (K : PySem.W.Frag) : Sp := sp_made K
abbrev sp_l_made (K : PySem.W.Frag) : Sp := sp_made K
def sp_price (_ : PySem.W.Frag) : Sp := fun vs H Q _ => ∃ (a : Addr) (ps : List Pc) (t p : Int), vs = [.ref a, .int t, .int p] ∧ ScAt H a ps ∧ ScOk ps ∧ 0 ≤ t ∧ t ≤ 10000000 ∧ 0 ≤ p ∧ p ≤ 10000000 ∧ ∀ H', Same H H' → Q (.int (cost t p ps)) H'
def sp_l_cost (_ : PySem.W.Frag) : Sp := fun vs H Q _ => ∃ (a : Addr) (ps : List Pc) (t p : Int), vs = [.ref a, .int t, .int p] ∧ ScAt H a ps ∧ ScOk ps ∧ 0 ≤ t ∧ t ≤ 10000000 ∧ 0 ≤ p ∧ p ≤ 10000000 ∧ Q (.int (cost t p ps)) H
section
variable {K : PySem.W.Frag} {vs : List V} {H : Hp} {Q : VK} {E : XK}
theorem len_is_sign (h : sp_is_sign K vs H Q E) : vs.length = 1 := by obtain ⟨_, rfl, _⟩ := h; rfl
theorem len_is_text (h : sp_is_text K vs H Q E) : vs.length = 1 := by obtain ⟨_, rfl, _⟩ := h; rfl
theorem len_is_row (h : sp_is_row K vs H Q E) : vs.length = 1 := by obtain ⟨_, rfl, _⟩ := h; rfl
theorem len_is_intI (h : sp_is_intI K vs H Q E) : vs.length = 1 := by obtain ⟨_, rfl, _⟩ := h; rfl
theorem len_is_pairT (h : sp_is_pairT K vs H Q E) : vs.length = 1 := by obtain ⟨_, _, _, rfl, _⟩ := h; rfl
theorem len_are_put (h : sp_are_put K vs H Q E) : vs.length = 1 := by obtain ⟨_, _, rfl, _⟩ := h; rfl
theorem len_rows_in (h : sp_rows_in K vs H Q E) : vs.length = 1 := by obtain ⟨_, _, rfl, _⟩ := h; rfl
theorem len_is_piece (h : sp_is_piece K vs H Q E) : vs.length = 1 := by obtain ⟨_, _, rfl, _⟩ := h; rfl
theorem len_is_script (h : sp_is_script K vs H Q E) : vs.length = 1 := by obtain ⟨_, _, rfl, _⟩ := h; rfl
theorem len_is_right_over (h : sp_is_right_over K vs H Q E) : vs.length = 2 := by obtain ⟨_, _, _, _, rfl, _⟩ := h; rfl
theorem len_refuse_wrong (h : sp_refuse_wrong K vs H Q E) : vs.length = 2 := by obtain ⟨_, _, _, _, rfl, _⟩ := h; rfl
theorem len_made (h : sp_made K vs H Q E) : vs.length = 2 := by obtain ⟨_, _, _, _, rfl, _⟩ := h; rfl
theorem len_done (h : sp_done K vs H Q E) : vs.length = 2 := len_made h
theorem len_l_made (h : sp_l_made K vs H Q E) : vs.length = 2 := len_made h
theorem len_price (h : sp_price K vs H Q E) : vs.length = 3 := by obtain ⟨_, _, _, _, rfl, _⟩ := h; rfl
theorem len_l_cost (h : sp_l_cost K vs H Q E) : vs.length = 3 := by obtain ⟨_, _, _, _, rfl, _⟩ := h; rfl
end
abbrev N_is_int : List Str := ["thing"]
def t_is_int (K : PySem.W.Frag) : TS := (tRet (tAndV (tCB (rIsi K) (tCons (tVar 0) (tCons (tC (.ty "int")) tNil))) (tNotV (tCB (rIsi K) (tCons (tVar 0) (tCons (tC (.ty "bool")) tNil))))))
abbrev N_is_text : List Str := ["thing", "sign"]
def t_is_text (K : PySem.W.Frag) : TS := (tRet (tAndV (tCB (rIsi K) (tCons (tVar 0) (tCons (tC (.ty "str")) tNil))) (tCB (rAll K) (tCons (tLc (iStr (tVar 0)) (gName 1) tYes (tCall (sp_is_sign K) [] E0 (tCons (tVar 1) tNil)) [1]) tNil))))
abbrev N_is_sign : List Str := ["sign"]
def t_is_sign (K : PySem.W.Frag) : TS := (tRet (tAndV (tChain rLeS rLeS (tC (.str " ")) (tVar 0) (tC (.str "~"))) (tOp rNe (tCB fOrd (tCons (tVar 0) tNil)) (tC (.int 37)))))
abbrev N_is_pair : List Str := ["thing"]
def t_is_pair (K : PySem.W.Frag) : TS := (tRet (tAndV (tCB (rIsi K) (tCons (tVar 0) (tCons (tC (.ty "tuple")) tNil))) (tOp rEq (tCB (fLen K) (tCons (tVar 0) tNil)) (tC (.int 2)))))
abbrev N_is_row : List Str := ["thing"]
def t_is_row (K : PySem.W.Frag) : TS := (tRet (tAndV (tCall (sp_is_text K) [] E0 (tCons (tVar 0) tNil)) (tOp rLeI (tCB (fLen K) (tCons (tVar 0) tNil)) (tC (.int 40)))))
abbrev N_is_script : List Str := ["thing", "piece"]
def t_is_script (K : PySem.W.Frag) : TS := (tSeq (tIfS (tOr (tNot (tB (tCB (rIsi K) (tCons (tVar 0) (tCons (tC (.ty "tuple")) tNil))))) (tNot (tB (tCB (rAll K) (tCons (tLc (iTup K (tVar 0)) (gName 1) tYes (tCall (sp_is_piece K) [] E0 (tCons (tVar 1) tNil)) [1]) tNil))))) (tRet (tC (.bl false))) tNext)
    (tRet (tOp rLeI (tCB (rSum K) (tCons (tLc (iTup K (tVar 0)) (gName 1) tYes (tCall (sp_rows_in K) [] E0 (tCons (tVar 1) tNil)) [1]) tNil)) (tC (.int 40)))))
abbrev N_is_piece : List Str := ["thing"]
def t_is_piece (K : PySem.W.Frag) : TS := (tSeq (tIfS (tOr (tNot (tB (tCB (rIsi K) (tCons (tVar 0) (tCons (tC (.ty "tuple")) tNil))))) (tTest (tOp rEq (tCB (fLen K) (tCons (tVar 0) tNil)) (tC (.int 0))))) (tRet (tC (.bl false))) tNext)
    (tSeq (tIfS (tTest (tOp rEq (tOp (rIx K) (tVar 0) (tC (.int 0))) (tC (.str "take")))) (tRet (tAndV (tOp rEq (tCB (fLen K) (tCons (tVar 0) tNil)) (tC (.int 3))) (tAndV (tCall (sp_is_intI K) [] E0 (tCons (tOp (rIx K) (tVar 0) (tC (.int 1))) tNil)) (tAndV (tCall (sp_is_intI K) [] E0 (tCons (tOp (rIx K) (tVar 0) (tC (.int 2))) tNil)) (tAndV (tOp rGeI (tOp (rIx K) (tVar 0) (tC (.int 1))) (tC (.int 0))) (tOp rGeI (tOp (rIx K) (tVar 0) (tC (.int 2))) (tC (.int 1)))))))) tNext)
    (tRet (tAndV (tOp rEq (tOp (rIx K) (tVar 0) (tC (.int 0))) (tC (.str "put"))) (tAndV (tCall (sp_is_pairT K) [] E0 (tCons (tVar 0) tNil)) (tCall (sp_are_put K) [] E0 (tCons (tOp (rIx K) (tVar 0) (tC (.int 1))) tNil)))))))
abbrev N_are_put : List Str := ["thing", "row"]
def t_are_put (K : PySem.W.Frag) : TS := (tRet (tAndV (tCB (rIsi K) (tCons (tVar 0) (tCons (tC (.ty "tuple")) tNil))) (tAndV (tOp rGtI (tCB (fLen K) (tCons (tVar 0) tNil)) (tC (.int 0))) (tCB (rAll K) (tCons (tLc (iTup K (tVar 0)) (gName 1) tYes (tCall (sp_is_row K) [] E0 (tCons (tVar 1) tNil)) [1]) tNil)))))
abbrev N_rows_in : List Str := ["piece"]
def t_rows_in (K : PySem.W.Frag) : TS := (tRet (tIf (tTest (tOp rEq (tOp (rIx K) (tVar 0) (tC (.int 0))) (tC (.str "put")))) (tCB (fLen K) (tCons (tOp (rIx K) (tVar 0) (tC (.int 1))) tNil)) (tOp (rIx K) (tVar 0) (tC (.int 2)))))
abbrev N_is_right_over : List Str := ["base", "thing", "piece"]
def t_is_right_over (K : PySem.W.Frag) : TS := (tSeq (tIfS (tNot (tB (tCall (sp_is_script K) [] E0 (tCons (tVar 1) tNil)))) (tRet (tC (.bl false))) tNext)
    (tRet (tCB (rAll K) (tCons (tLc (iTup K (tVar 1)) (gName 2) tYes (tOrV (tOp rEq (tOp (rIx K) (tVar 2) (tC (.int 0))) (tC (.str "put"))) (tOp rLeI (tOp rAddI (tOp (rIx K) (tVar 2) (tC (.int 1))) (tOp (rIx K) (tVar 2) (tC (.int 2)))) (tCB (fLen K) (tCons (tVar 0) tNil)))) [2]) tNil))))
abbrev N_refuse_wrong : List Str := ["base", "thing"]
def t_refuse_wrong (K : PySem.W.Frag) : TS := (tIfS (tNot (tB (tCall (sp_is_right_over K) [] E0 (tCons (tVar 0) (tCons (tVar 1) tNil))))) tNever tNext)
abbrev N_done : List Str := ["base", "script"]
def t_done (K : PySem.W.Frag) : TS := (tSeq (tDrop (tCall (sp_refuse_wrong K) [] E0 (tCons (tVar 0) (tCons (tVar 1) tNil))))
    (tRet (tCall (sp_made K) [] E0 (tCons (tVar 0) (tCons (tVar 1) tNil)))))
abbrev N_made : List Str := ["base", "script", "rows", "piece"]
def t_made (K : PySem.W.Frag) : TS := (tSeq (tAsg (tLst tNil) (gName 2))
    (tSeq (tFor (iTup K (tVar 1)) (gName 3) (tDrop (tBM K "list" (rExtendA K) (tVar 2) (tCons (tIf (tTest (tOp rEq (tOp (rIx K) (tVar 3) (tC (.int 0))) (tC (.str "put")))) (tOp (rIx K) (tVar 3) (tC (.int 1))) (tSl (rSlA K) (tVar 0) (tPart (tOp (rIx K) (tVar 3) (tC (.int 1)))) (tPart (tOp rAddI (tOp (rIx K) (tVar 3) (tC (.int 1))) (tOp (rIx K) (tVar 3) (tC (.int 2))))))) tNil))))
    (tRet (tCB (fTupleOf K) (tCons (tVar 2) tNil)))))
abbrev N_price : List Str := ["script", "take", "put", "piece"]
def t_price (K : PySem.W.Frag) : TS := (tSeq (tIfS (tNot (tB (tCall (sp_is_script K) [] E0 (tCons (tVar 0) tNil)))) tNever tNext)
    (tRet (tCB (rSum K) (tCons (tLc (iTup K (tVar 0)) (gName 3) tYes (tIf (tTest (tOp rEq (tOp (rIx K) (tVar 3) (tC (.int 0))) (tC (.str "put")))) (tOp rMulI (tVar 2) (tCall (sp_rows_in K) [] E0 (tCons (tVar 3) tNil))) (tVar 1)) [3]) tNil))))
abbrev N_l_made : List Str := ["_law_base", "_law_pieces", "_law_made_here", "_law_piece", "_law_k", "_law_line"]
def t_l_made (K : PySem.W.Frag) : TS := (tSeq (tAsg (tLst tNil) (gName 2))
    (tSeq (tFor (iTup K (tVar 1)) (gName 3) (tIfS (tTest (tOp rEq (tOp (rIx K) (tVar 3) (tC (.int 0))) (tC (.str "take")))) (tFor (iRng1 (tCons (tOp (rIx K) (tVar 3) (tC (.int 2))) tNil)) (gName 4) (tDrop (tBM K "list" rAppend (tVar 2) (tCons (tOp (rIx K) (tVar 0) (tOp rAddI (tOp (rIx K) (tVar 3) (tC (.int 1))) (tVar 4))) tNil)))) (tFor (iTup K (tOp (rIx K) (tVar 3) (tC (.int 1)))) (gName 5) (tDrop (tBM K "list" rAppend (tVar 2) (tCons (tVar 5) tNil))))))
    (tRet (tCB (fTupleOf K) (tCons (tVar 2) tNil)))))
abbrev N_l_cost : List Str := ["_law_pieces", "_law_by_take", "_law_by_put", "_law_total", "_law_piece"]
def t_l_cost (K : PySem.W.Frag) : TS := (tSeq (tAsg (tC (.int 0)) (gName 3))
    (tSeq (tFor (iTup K (tVar 0)) (gName 4) (tIfS (tTest (tOp rEq (tOp (rIx K) (tVar 4) (tC (.int 0))) (tC (.str "take")))) (tAsg (tOp rAddI (tVar 3) (tVar 1)) (gName 3)) (tAsg (tOp rAddI (tVar 3) (tOp rMulI (tVar 2) (tCB (fLen K) (tCons (tOp (rIx K) (tVar 4) (tC (.int 1))) tNil)))) (gName 3))))
    (tRet (tVar 3))))
theorem blT {p : Prop} [Decidable p] {Q : VK} {H : Hp} (h : p) (q : Q (.bl true) H) : Q (.bl (decide p)) H := by rw [decide_eq_true h]; exact q
theorem blF {p : Prop} [Decidable p] {Q : VK} {H : Hp} (h : ¬ p) (q : Q (.bl false) H) : Q (.bl (decide p)) H := by rw [decide_eq_false h]; exact q
theorem rep_get {n i : Nat} {y : V} {x : V} (h : (List.replicate n x)[i]? = some y) : y = x := by
  obtain ⟨_, e⟩ := List.getElem?_eq_some_iff.mp h
  rw [← e, List.getElem_replicate]
theorem all_rep (n : Nat) : (List.replicate n true).all id = true := by
  rw [List.all_eq_true]
  intro x hx
  rw [List.eq_of_mem_replicate hx]
  rfl
theorem yStr {z : Str} : ∀ (i : Nat) (H : Hp) (x : V) (H' : Hp), (H' = H ∧ ∃ c, z.cps[i]? = some c ∧ x = .str ⟨#[c]⟩) → H' = H := fun _ _ _ _ h => h.1
theorem yAt {xs : List V} : ∀ (i : Nat) (H : Hp) (x : V) (H' : Hp), YAt xs i H x H' → H' = H := fun _ _ _ _ h => h.1
theorem yFn {f : Nat → V} : ∀ (i : Nat) (H : Hp) (x : V) (H' : Hp), YFn f i H x H' → H' = H := fun _ _ _ _ h => h.1
theorem blank_le {c : Nat} (h : 32 ≤ c) : (!decide ((⟨#[c]⟩ : Str).cps.toList < (" " : Str).cps.toList)) = true := by
  have e : (" " : Str).cps.toList = [32] := by decide +kernel
  rw [e]
  show (!decide ([c] < [32])) = true
  rw [decide_eq_false]
  · rfl
  · intro h2
    rcases List.cons_lt_cons_iff.mp h2 with h3 | h3
    · omega
    · exact absurd h3.2 (by decide)
theorem le_tilde {c : Nat} (h : c ≤ 126) : (!decide (("~" : Str).cps.toList < (⟨#[c]⟩ : Str).cps.toList)) = true := by
  have e : ("~" : Str).cps.toList = [126] := by decide +kernel
  rw [e]
  show (!decide ([126] < [c])) = true
  rw [decide_eq_false]
  · rfl
  · intro h2
    rcases List.cons_lt_cons_iff.mp h2 with h3 | h3
    · omega
    · exact absurd h3.2 (by decide)
section
variable {K : PySem.W.Frag} {vs : List V} {H : Hp} {Q : VK} {E : XK}
theorem pure_is_intI (h : sp_is_intI K vs H Q E) : t_is_int K { nx := fun _ H' => Q .non H', rt := Q } (start N_is_int vs) H := by
  obtain ⟨i, rfl, k⟩ := h
  exact ⟨_, rfl, isi (.base (.int i)) k_ii ⟨_, rfl, iteT ⟨_, rfl, isi (.base (.int i)) k_ib ⟨_, rfl, k⟩⟩⟩⟩
theorem pure_is_pairT (h : sp_is_pairT K vs H Q E) : t_is_pair K { nx := fun _ H' => Q .non H', rt := Q } (start N_is_pair vs) H := by
  obtain ⟨a, x, y, rfl, ha, k⟩ := h
  exact ⟨_, rfl, isi (.base (.tup ha)) k_tt ⟨_, rfl, iteT ⟨_, rfl, lenT ha ⟨rfl, k⟩⟩⟩⟩
theorem pure_is_sign (h : sp_is_sign K vs H Q E) : t_is_sign K { nx := fun _ H' => Q .non H', rt := Q } (start N_is_sign vs) H := by
  obtain ⟨c, rfl, ⟨h1, h2, h3⟩, k⟩ := h
  refine ⟨_, rfl, _, _, rfl, rfl, _, rfl, ?_⟩
  rw [blank_le h1]
  refine iteT ⟨_, _, rfl, rfl, _, rfl, ?_⟩
  rw [le_tilde h2]
  refine iteT ⟨_, rfl, _, rfl, rfl, rfl, ?_⟩
  have e : decide (V.int (((⟨#[c]⟩ : Str).cps.getD 0 0 : Nat) : Int) = V.int 37) = false := decide_eq_false (by
    intro h
    injection h with h
    have h : (c : Int) = 37 := h
    omega)
  rw [e]
  exact k
theorem pure_is_text (h : sp_is_text K vs H Q E) : t_is_text K { nx := fun _ H' => Q .non H', rt := Q } (start N_is_text vs) H := by
  obtain ⟨z, rfl, ⟨h1, h2⟩, k⟩ := h
  refine ⟨_, rfl, isi (.base (.str z)) k_ss ⟨_, rfl, iteT ⟨_, rfl, z, rfl, fun L nL => ?_⟩⟩⟩
  refine lc_grow walk_str yStr (ys := List.replicate z.cps.size (.bl true)) nL List.length_replicate (by omega) (fun _ _ => True.intro) ?_ ?_
  · rintro i x y H' R hi ⟨_, c, hc, rfl⟩ hy s r
    refine ⟨rfl, ⟨_, rfl, c, rfl, ?_, ?_⟩⟩
    · exact h2 c (by obtain ⟨q1, q2⟩ := Array.getElem?_eq_some_iff.mp hc; rw [← q2]; exact Array.getElem_mem_toList q1)
    · rw [← rep_get hy]
      exact r _ (Same.refl _)
  · intro H' s hL
    refine ⟨L, List.replicate z.cps.size true, rfl, sqL (by rw [hL, List.map_replicate]), ?_⟩
    rw [all_rep]
    exact k _ s
theorem pure_is_row (h : sp_is_row K vs H Q E) : t_is_row K { nx := fun _ H' => Q .non H', rt := Q } (start N_is_row vs) H := by
  obtain ⟨z, rfl, o, k⟩ := h
  refine ⟨_, rfl, z, rfl, o, fun H' s => ⟨_, rfl, iteT ⟨_, rfl, lenS (Nat.le_trans o.1 (by decide)) ⟨_, _, rfl, rfl, ?_⟩⟩⟩⟩
  exact blT (Q := Q) (show ((z.length : Nat) : Int) ≤ 40 by have := o.1; show ((z.cps.size : Nat) : Int) ≤ 40; omega) (k _ s)
theorem pure_are_put (h : sp_are_put K vs H Q E) : t_are_put K { nx := fun _ H' => Q .non H', rt := Q } (start N_are_put vs) H := by
  obtain ⟨a, rs, rfl, ha, h0, hz, ho, k⟩ := h
  refine ⟨_, rfl, isi (.base (.tup ha)) k_tt ⟨_, rfl, iteT ⟨_, rfl, lenT ha ⟨_, _, rfl, rfl, _, rfl, ?_⟩⟩⟩⟩
  have hl : 0 < rs.length := List.length_pos_iff.mpr h0
  rw [decide_eq_true (show (0 : Int) < ((rs.map V.str).length : Int) by rw [List.length_map]; omega)]
  refine iteT ⟨_, rfl, a, rfl, ⟨_, sqT ha⟩, fun L nL => ?_⟩
  refine lc_grow (walk_tup (xs := rs.map V.str)) yAt (ys := List.replicate (rs.map V.str).length (.bl true)) nL List.length_replicate (by rw [List.length_map]; omega) (fun H' s => sqT (s _ _ ha)) ?_ ?_
  · rintro i x y H' R hi ⟨_, hx⟩ hy s r
    rw [List.getElem?_map] at hx
    cases q : rs[i]? with
    | none => rw [q] at hx; cases hx
    | some z =>
      rw [q] at hx
      cases Option.some.inj hx
      refine ⟨rfl, ⟨_, rfl, z, rfl, ho z (List.mem_of_getElem? q), ?_⟩⟩
      rw [rep_get hy] at r
      exact r
  · intro H' s hL
    refine ⟨L, List.replicate (rs.map V.str).length true, rfl, sqL (by rw [hL, List.map_replicate]), ?_⟩
    rw [all_rep]
    exact k _ s
theorem pure_rows_in (h : sp_rows_in K vs H Q E) : t_rows_in K { nx := fun _ H' => Q .non H', rt := Q } (start N_rows_in vs) H := by
  obtain ⟨a, p, rfl, ha, k⟩ := h
  cases p with
  | take b m =>
    refine ⟨_, rfl, ixT ha rfl ⟨rfl, _, rfl, ?_⟩⟩
    rw [take_put]
    exact iteF ⟨_, rfl, ixT ha rfl k⟩
  | put rs =>
    obtain ⟨r, h1, h2⟩ := ha
    refine ⟨_, rfl, ixT h1 rfl ⟨rfl, _, rfl, ?_⟩⟩
    rw [decide_eq_true rfl]
    refine iteT ⟨_, rfl, ixT h1 rfl (lenT h2 ?_)⟩
    rw [List.length_map]
    exact k
theorem pure_is_piece (h : sp_is_piece K vs H Q E) : t_is_piece K { nx := fun _ H' => Q .non H', rt := Q } (start N_is_piece vs) H := by
  obtain ⟨a, p, rfl, ha, ok, hz, k⟩ := h
  cases p with
  | take b m =>
    have ok : 1 ≤ m := ok
    refine ⟨_, rfl, isi (.base (.tup ha)) k_tt ⟨_, rfl, iteF ⟨_, rfl, lenT ha ⟨rfl, _, rfl, ?_⟩⟩⟩⟩
    refine iteF ⟨_, rfl, ixT ha rfl ⟨rfl, _, rfl, ?_⟩⟩
    rw [decide_eq_true rfl]
    refine iteT ⟨_, rfl, lenT ha ⟨rfl, _, rfl, iteT ?_⟩⟩
    refine ⟨_, rfl, ixT ha rfl ⟨_, rfl, _, rfl, iteT ⟨_, rfl, ixT ha rfl ⟨_, rfl, _, rfl, iteT ?_⟩⟩⟩⟩
    refine ⟨_, rfl, ixT ha rfl ⟨_, _, rfl, rfl, _, rfl, ?_⟩⟩
    rw [decide_eq_true (show (0 : Int) ≤ (b : Int) by omega)]
    refine iteT ⟨_, rfl, ixT ha rfl ⟨_, _, rfl, rfl, ?_⟩⟩
    exact blT (Q := Q) (show (1 : Int) ≤ (m : Int) by omega) (k _ (Same.refl _))
  | put rs =>
    obtain ⟨r, h1, h2⟩ := ha
    refine ⟨_, rfl, isi (.base (.tup h1)) k_tt ⟨_, rfl, iteF ⟨_, rfl, lenT h1 ⟨rfl, _, rfl, ?_⟩⟩⟩⟩
    refine iteF ⟨_, rfl, ixT h1 rfl ⟨rfl, _, rfl, ?_⟩⟩
    rw [put_take]
    refine iteF ⟨_, rfl, ixT h1 rfl ⟨rfl, _, rfl, ?_⟩⟩
    rw [decide_eq_true rfl]
    refine iteT ⟨_, rfl, a, _, _, rfl, h1, _, rfl, iteT ⟨_, rfl, ixT h1 rfl ⟨r, rs, rfl, h2, ok.1, hz, ok.2, k⟩⟩⟩
theorem pure_is_script (h : sp_is_script K vs H Q E) : t_is_script K { nx := fun _ H' => Q .non H', rt := Q } (start N_is_script vs) H := by
  obtain ⟨a, ps, rfl, ⟨as, ha, hp⟩, ok, k⟩ := h
  have hl : (as.map V.ref).length = ps.length := by rw [List.length_map, hp.1]
  have hz := ok.len
  refine ⟨_, rfl, isi (.base (.tup ha)) k_tt ⟨_, rfl, iteF ⟨_, rfl, a, rfl, ⟨_, sqT ha⟩, fun L nL => ?_⟩⟩⟩
  refine lc_grow (walk_tup (xs := as.map V.ref)) yAt (ys := List.replicate (as.map V.ref).length (.bl true)) nL List.length_replicate (by omega) (fun H' s => sqT (s _ _ ha)) ?_ ?_
  · rintro i x y H' R hi ⟨_, hx⟩ hy s r
    obtain ⟨b, p, rfl, h1, h2, h3⟩ := sc_get (hp.mono (.of s)) hx
    refine ⟨rfl, ⟨_, rfl, b, p, rfl, h3, ok.ok p (List.mem_of_getElem? h2), ?_, ?_⟩⟩
    · have := n_le_total (List.mem_of_getElem? h2)
      have := ok.few
      omega
    · rw [rep_get hy] at r
      exact r
  · intro H1 s1 hL
    refine ⟨L, List.replicate (as.map V.ref).length true, rfl, sqL (by rw [hL, List.map_replicate]), ?_⟩
    rw [all_rep]
    refine ⟨_, rfl, iteF ⟨_, rfl, a, rfl, ⟨_, sqT (s1 _ _ ha)⟩, fun L2 nL2 => ?_⟩⟩
    refine lc_grow (walk_tup (xs := as.map V.ref)) yAt (ys := (ps.map fun p => (p.n : Int)).map V.int) nL2 (by rw [List.length_map, List.length_map, hl]) (by omega) (fun H' s => sqT (s _ _ (s1 _ _ ha))) ?_ ?_
    · rintro i x y H' R hi ⟨_, hx⟩ hy s r
      obtain ⟨b, p, rfl, h1, h2, h3⟩ := sc_get (hp.mono (.of (s1.trans s))) hx
      rw [List.getElem?_map, List.getElem?_map, h2] at hy
      cases Option.some.inj hy
      exact ⟨rfl, ⟨_, rfl, b, p, rfl, h3, r _ (Same.refl _)⟩⟩
    · intro H2 s2 hL2
      refine ⟨L2, _, rfl, sqL hL2, _, _, rfl, rfl, ?_⟩
      have e : (ps.map fun p => (p.n : Int)).sum = ((total ps : Nat) : Int) := by
        unfold total
        clear hp ha hl hz k ok s1 s2 hL hL2
        induction ps with
        | nil => rfl
        | cons p ps ih =>
          rw [List.map_cons, List.map_cons, List.sum_cons, List.sum_cons, ih]
          omega
      rw [e]
      exact blT (Q := Q) (show ((total ps : Nat) : Int) ≤ 40 by have := ok.few; omega) (k _ (s1.trans s2))
theorem pure_is_right_over (h : sp_is_right_over K vs H Q E) : t_is_right_over K { nx := fun _ H' => Q .non H', rt := Q } (start N_is_right_over vs) H := by
  obtain ⟨B, a, bs, ps, rfl, hB, sc, ok, fit, k⟩ := h
  refine ⟨_, rfl, a, ps, rfl, sc, ok, fun H1 s1 => ⟨_, rfl, iteF ?_⟩⟩
  obtain ⟨as, ha, hp⟩ := sc.mono (.of s1)
  have hB1 : H1 B = some (.tup (bs.map V.str)) := s1 _ _ hB
  have hl : (as.map V.ref).length = ps.length := by rw [List.length_map, hp.1]
  have hz := ok.len
  refine ⟨_, rfl, a, rfl, ⟨_, sqT ha⟩, fun L nL => ?_⟩
  refine lc_grow (walk_tup (xs := as.map V.ref)) yAt (ys := List.replicate (as.map V.ref).length (.bl true)) nL List.length_replicate (by omega) (fun H' s => sqT (s _ _ ha)) ?_ ?_
  · rintro i x y H' R hi ⟨_, hx⟩ hy s r
    obtain ⟨b, p, rfl, h1, h2, h3⟩ := sc_get (hp.mono (.of s)) hx
    have f := fit p (List.mem_of_getElem? h2)
    rw [rep_get hy] at r
    refine ⟨rfl, ?_⟩
    cases p with
    | take c m =>
      have f : c + m ≤ bs.length := f
      refine ⟨_, rfl, ixT h3 rfl ⟨rfl, _, rfl, ?_⟩⟩
      rw [take_put]
      refine iteF ⟨_, rfl, ixT h3 rfl ⟨_, rfl, ixT h3 rfl ⟨_, _, rfl, rfl, _, rfl, lenT (s _ _ hB1) ⟨_, _, rfl, rfl, ?_⟩⟩⟩⟩
      exact blT (Q := R) (show (c : Int) + (m : Int) ≤ ((bs.map V.str).length : Int) by rw [List.length_map]; omega) (r _ (Same.refl _))
    | put rs =>
      obtain ⟨q, h4, h5⟩ := h3
      refine ⟨_, rfl, ixT h4 rfl ⟨rfl, _, rfl, ?_⟩⟩
      rw [decide_eq_true rfl]
      exact iteT (r _ (Same.refl _))
  · intro H2 s2 hL
    refine ⟨L, List.replicate (as.map V.ref).length true, rfl, sqL (by rw [hL, List.map_replicate]), ?_⟩
    rw [all_rep]
    exact k _ (s1.trans s2)
theorem pure_refuse_wrong (h : sp_refuse_wrong K vs H Q E) : t_refuse_wrong K { nx := fun _ H' => Q .non H', rt := Q } (start N_refuse_wrong vs) H := by
  obtain ⟨B, a, bs, ps, rfl, hB, sc, ok, fit, k⟩ := h
  exact ⟨_, rfl, _, rfl, B, a, bs, ps, rfl, hB, sc, ok, fit, fun H1 s1 => ⟨_, rfl, iteF (k _ s1)⟩⟩
theorem pure_done (h : sp_done K vs H Q E) : t_done K { nx := fun _ H' => Q .non H', rt := Q } (start N_done vs) H := by
  obtain ⟨B, a, bs, ps, rfl, hB, sc, ok, fit, k⟩ := h
  refine ⟨_, rfl, _, rfl, B, a, bs, ps, rfl, hB, sc, ok, fit, fun H1 s1 => ?_⟩
  exact ⟨_, rfl, _, rfl, B, a, bs, ps, rfl, s1 _ _ hB, sc.mono (.of s1), ok, fit, fun r H2 s2 => k r H2 (s1.trans s2)⟩
theorem total_take_le {ps : List Pc} (i : Nat) : total (ps.take i) ≤ total ps := by
  have e : total ps = total (ps.take i) + total (ps.drop i) := by
    unfold total
    rw [← List.sum_append, ← List.map_append, List.take_append_drop]
  omega
theorem makes_snoc {bs : List Str} {ps : List Pc} {p : Pc} {i : Nat} (h : ps[i]? = some p) : makes bs (ps.take (i + 1)) = makes bs (ps.take i) ++ p.mk bs := by
  unfold makes
  rw [List.take_add_one, h, List.map_append, List.flatten_append]
  show _ ++ (p.mk bs ++ []) = _
  rw [List.append_nil]
theorem fits_take {ps : List Pc} {L : Nat} (fit : ∀ p ∈ ps, p.fits L) (i : Nat) : ∀ p ∈ ps.take i, p.fits L := fun p hp => fit p (List.mem_of_mem_take hp)
/-- a stretch of a tuple of texts, as a slice tells it -/
theorem slA {B : Addr} {bs : List Str} {b m : Nat} (hB : H B = some (.tup (bs.map V.str))) (f : b + m ≤ bs.length) (q : ∀ (r : Addr) (H' : Hp), Same H H' → RwAt H' r ((bs.drop b).take m) → Q (.ref r) H') : rSlA K (.ref B) (some (b : Int)) (some ((b : Int) + (m : Int))) H Q := by
  have e1 : HT.sIx (bs.map V.str).length 0 (some (b : Int)) = b := by rw [HT.sIx_nat, List.length_map]; omega
  have e2 : HT.sIx (bs.map V.str).length (bs.map V.str).length (some ((b : Int) + (m : Int))) = b + m := by
    rw [show ((b : Int) + (m : Int)) = ((b + m : Nat) : Int) by omega, HT.sIx_nat, List.length_map]
    omega
  refine ⟨B, _, rfl, sqT hB, fun e => ?_, fun e r nr => ?_⟩
  · rw [e1, e2, List.length_map] at e
    obtain ⟨rfl, e⟩ := e
    refine q B H (Same.refl _) ?_
    show H B = _
    rw [hB, List.drop_zero, List.take_of_length_le (by omega)]
  · refine q r _ (Same.upd nr) ?_
    show upd H r _ r = _
    rw [updS]
    unfold cutV
    rw [e1, e2, Nat.add_sub_cancel_left, ← List.map_drop, ← List.map_take]
theorem pure_made (h : sp_made K vs H Q E) : t_made K { nx := fun _ H' => Q .non H', rt := Q } (start N_made vs) H := by
  obtain ⟨B, a, bs, ps, rfl, hB, ⟨as, ha, hp⟩, ok, fit, k⟩ := h
  refine ⟨Nat.zero_le _, fun L nL => ⟨_, rfl, a, rfl, ⟨_, sqT (updN (ne_of_none ha nL) ha)⟩, ?_⟩⟩
  refine for_tup (K := K) (a := a) (xs := as.map V.ref) (fun i σ H' => Same H H' ∧ H' L = some (.lst ((makes bs (ps.take i)).map V.str)) ∧ ∃ z, σ = [some (.ref B), some (.ref a), some (.ref L), z]) ⟨Same.upd nL, updS, none, rfl⟩ (fun i σ H' _ p => sqT (p.1 _ _ ha)) ?_ ?_
  · rintro i x σ H' hx ⟨s, hL, z, rfl⟩
    obtain ⟨c, p, rfl, h1, h2, h3⟩ := sc_get (hp.mono (.of s)) hx
    have f := fit p (List.mem_of_getElem? h2)
    have ok1 := ok.few
    have l1 := makes_len (bs := bs) (fits_take fit i)
    have l2 := total_take_le (ps := ps) i
    have l3 := mk_len f
    have l4 := n_le_total (List.mem_of_getElem? h2)
    have go : ∀ (r : Addr) (H2 : Hp), Same H' H2 → RwAt H2 r (p.mk bs) → rExtendA K (.ref L) [.ref r] H2 fun _ H3 => Same H H3 ∧ H3 L = some (.lst ((makes bs (ps.take (i + 1))).map V.str)) ∧ ∃ z, ([some (.ref B), some (.ref a), some (.ref L), some (.ref c)] : L2.St) = [some (.ref B), some (.ref a), some (.ref L), z] := by
      intro r H2 s2 hr
      refine ⟨L, r, _, _, rfl, rfl, s2 _ _ hL, .inr hr, by rw [List.length_map, List.length_map]; omega, Same.updI (s.trans s2) nL, ?_, _, rfl⟩
      rw [updS, makes_snoc h2, List.map_append]
    refine ⟨_, rfl, .inl ⟨rfl, _, sqL hL⟩, ?_⟩
    cases p with
    | take b m =>
      refine ⟨_, rfl, ixT h3 rfl ⟨rfl, _, rfl, ?_⟩⟩
      rw [take_put]
      refine iteF ⟨_, rfl, _, rfl, ixT h3 rfl ⟨_, rfl, _, rfl, ixT h3 rfl ⟨_, rfl, ixT h3 rfl ⟨_, _, rfl, rfl, _, rfl, ?_⟩⟩⟩⟩
      exact slA (s _ _ hB) f go
    | put rs =>
      obtain ⟨q, h4, h5⟩ := h3
      refine ⟨_, rfl, ixT h4 rfl ⟨rfl, _, rfl, ?_⟩⟩
      rw [decide_eq_true rfl]
      refine iteT ⟨_, rfl, ixT h4 rfl ?_⟩
      exact go q _ (Same.refl _) h5
  · rintro σ H' ⟨s, hL, z, rfl⟩
    rw [List.length_map, hp.1, List.take_of_length_le (Nat.le_refl _)] at hL
    exact ⟨_, rfl, L, _, rfl, .inl ⟨sqL hL, fun r nr => k r _ (s.trans (Same.upd nr)) updS⟩⟩
theorem pure_price (h : sp_price K vs H Q E) : t_price K { nx := fun _ H' => Q .non H', rt := Q } (start N_price vs) H := by
  obtain ⟨a, ps, t, p, rfl, sc, ok, t0, t1, p0, p1, k⟩ := h
  refine ⟨_, rfl, a, ps, rfl, sc, ok, fun H1 s1 => ⟨_, rfl, iteF ?_⟩⟩
  obtain ⟨as, ha, hp⟩ := sc.mono (.of s1)
  have hl : (as.map V.ref).length = ps.length := by rw [List.length_map, hp.1]
  have hz := ok.len
  refine ⟨_, rfl, a, rfl, ⟨_, sqT ha⟩, fun L nL => ?_⟩
  refine lc_grow (walk_tup (xs := as.map V.ref)) yAt (ys := (ps.map (Pc.cost t p)).map V.int) nL (by rw [List.length_map, List.length_map, hl]) (by omega) (fun H' s => sqT (s _ _ ha)) ?_ ?_
  · rintro i x y H' R hi ⟨_, hx⟩ hy s r
    obtain ⟨b, q, rfl, h1, h2, h3⟩ := sc_get (hp.mono (.of s)) hx
    rw [List.getElem?_map, List.getElem?_map, h2] at hy
    cases Option.some.inj hy
    refine ⟨rfl, ?_⟩
    cases q with
    | take c m =>
      refine ⟨_, rfl, ixT h3 rfl ⟨rfl, _, rfl, ?_⟩⟩
      rw [take_put]
      exact iteF ⟨_, rfl, r _ (Same.refl _)⟩
    | put rs =>
      have h30 := h3
      obtain ⟨q, h4, h5⟩ := h3
      refine ⟨_, rfl, ixT h4 rfl ⟨rfl, _, rfl, ?_⟩⟩
      rw [decide_eq_true rfl]
      exact iteT ⟨_, rfl, _, rfl, b, .put rs, rfl, h30, _, _, rfl, rfl, .inl ⟨by omega, by omega⟩, r _ (Same.refl _)⟩
  · intro H2 s2 hL
    exact ⟨L, _, rfl, sqL hL, k _ (s1.trans s2)⟩
theorem cost_snoc {t p : Int} {ps : List Pc} {q : Pc} {i : Nat} (h : ps[i]? = some q) : cost t p (ps.take (i + 1)) = cost t p (ps.take i) + q.cost t p := by
  unfold cost
  rw [List.take_add_one, h, List.map_append, List.sum_append]
  show _ + (q.cost t p + 0) = _
  omega
theorem pure_l_cost (h : sp_l_cost K vs H Q E) : t_l_cost K { nx := fun _ H' => Q .non H', rt := Q } (start N_l_cost vs) H := by
  obtain ⟨a, ps, t, p, rfl, ⟨as, ha, hp⟩, ok, t0, t1, p0, p1, k⟩ := h
  refine ⟨_, rfl, a, rfl, ⟨_, sqT ha⟩, ?_⟩
  refine for_tup (K := K) (a := a) (xs := as.map V.ref) (fun i σ H' => H' = H ∧ ∃ z, σ = [some (.ref a), some (.int t), some (.int p), some (.int (cost t p (ps.take i))), z]) ⟨rfl, none, rfl⟩ (fun i σ H' _ p => by rw [p.1]; exact sqT ha) ?_ ?_
  · rintro i x σ H' hx ⟨rfl, z, rfl⟩
    obtain ⟨b, q, rfl, h1, h2, h3⟩ := sc_get hp hx
    cases q with
    | take c m =>
      refine ⟨_, rfl, ixT h3 rfl ⟨rfl, _, rfl, ?_⟩⟩
      rw [decide_eq_true rfl]
      refine iteT ⟨_, rfl, _, rfl, _, _, rfl, rfl, rfl, some (.ref b), ?_⟩
      rw [cost_snoc h2]
      rfl
    | put rs =>
      obtain ⟨q, h4, h5⟩ := h3
      refine ⟨_, rfl, ixT h4 rfl ⟨rfl, _, rfl, ?_⟩⟩
      rw [put_take]
      refine iteF ⟨_, rfl, _, rfl, _, rfl, ixT h4 rfl (lenT h5 ⟨_, _, rfl, rfl, .inl ⟨by omega, by omega⟩, _, _, rfl, rfl, rfl, some (.ref b), ?_⟩)⟩
      rw [cost_snoc h2, List.length_map]
      rfl
  · rintro σ H' ⟨rfl, z, rfl⟩
    rw [List.length_map, hp.1, List.take_of_length_le (Nat.le_refl _)]
    exact ⟨_, rfl, k⟩
theorem pure_l_made (h : sp_l_made K vs H Q E) : t_l_made K { nx := fun _ H' => Q .non H', rt := Q } (start N_l_made vs) H := by
  obtain ⟨B, a, bs, ps, rfl, hB, ⟨as, ha, hp⟩, ok, fit, k⟩ := h
  refine ⟨Nat.zero_le _, fun L nL => ⟨_, rfl, a, rfl, ⟨_, sqT (updN (ne_of_none ha nL) ha)⟩, ?_⟩⟩
  refine for_tup (K := K) (a := a) (xs := as.map V.ref) (fun i σ H' => Same H H' ∧ H' L = some (.lst ((makes bs (ps.take i)).map V.str)) ∧ ∃ z3 z4 z5, σ = [some (.ref B), some (.ref a), some (.ref L), z3, z4, z5]) ⟨Same.upd nL, updS, none, none, none, rfl⟩ (fun i σ H' _ p => sqT (p.1 _ _ ha)) ?_ ?_
  · rintro i x σ H' hx ⟨s, hL, z3, z4, z5, rfl⟩
    obtain ⟨c, p, rfl, h1, h2, h3⟩ := sc_get (hp.mono (.of s)) hx
    have f := fit p (List.mem_of_getElem? h2)
    have ok1 := ok.few
    have l1 := makes_len (bs := bs) (fits_take fit i)
    have l2 := total_take_le (ps := ps) i
    have l3 := mk_len f
    have l4 := n_le_total (List.mem_of_getElem? h2)
    have nLm : ∀ (H2 : Hp) (ws : List V), Same H H2 → Same H (upd H2 L (.lst ws)) := fun H2 ws s2 => Same.updI s2 nL
    cases p with
    | take b m =>
      have f : b + m ≤ bs.length := f
      have l4 : m ≤ total ps := l4
      refine ⟨_, rfl, ixT h3 rfl ⟨rfl, _, rfl, ?_⟩⟩
      rw [decide_eq_true rfl]
      refine iteT ⟨_, rfl, ixT h3 rfl ⟨_, rfl, (len_le (by omega)).1, (len_le (by omega)).2, ?_⟩⟩
      refine for_range (lo := 0) (n := ((m : Nat) : Int).toNat) (fun j σ H2 => Same H H2 ∧ H2 L = some (.lst ((makes bs (ps.take i) ++ (bs.drop b).take j).map V.str)) ∧ ∃ z4, σ = [some (.ref B), some (.ref a), some (.ref L), some (.ref c), z4, z5]) ⟨s, by rw [hL, List.take_zero, List.append_nil], _, rfl⟩ ?_ ?_
      · rintro j σ H2 hj ⟨s2, hL2, z4, rfl⟩
        have hj2 : b + j < bs.length := by omega
        have g : atI (bs.map V.str) ((b : Int) + (0 + (j : Int))) = some (.str bs[b + j]) := by
          rw [show (b : Int) + (0 + (j : Int)) = ((b + j : Nat) : Int) by omega]
          exact atI_nat (by rw [List.getElem?_map, List.getElem?_eq_getElem hj2]; rfl)
        have h32 : H2 c = some (.tup [.str "take", .int (b : Int), .int (m : Int)]) := by
          have := (hp.mono (.of s2)).2 i c _ h1 h2
          exact this
        refine ⟨_, rfl, .inl ⟨rfl, _, sqL hL2⟩, _, rfl, _, rfl, ixT h32 rfl ⟨_, rfl, _, _, rfl, rfl, ixT (s2 _ _ hB) g ⟨L, _, _, rfl, rfl, hL2, ?_, ?_⟩⟩⟩
        · rw [List.length_map, List.length_append, List.length_take, List.length_drop]
          exact Nat.lt_of_le_of_lt (show _ ≤ 1000 by omega) (by decide)
        · refine ⟨nLm _ _ s2, ?_, _, rfl⟩
          rw [updS, List.take_add_one, List.getElem?_drop, List.getElem?_eq_getElem hj2]
          simp only [List.map_append, List.append_assoc]
          rfl
      · rintro σ H2 ⟨s2, hL2, z4, rfl⟩
        refine ⟨s2, ?_, _, _, _, rfl⟩
        rw [hL2, makes_snoc h2, show ((m : Nat) : Int).toNat = m by omega]
        rfl
    | put rs =>
      obtain ⟨q, h4, h5⟩ := h3
      refine ⟨_, rfl, ixT h4 rfl ⟨rfl, _, rfl, ?_⟩⟩
      rw [put_take]
      have l4 : rs.length ≤ total ps := l4
      refine iteF ⟨_, rfl, ixT h4 rfl ⟨q, rfl, ⟨_, sqT h5⟩, ?_⟩⟩
      have nLq : q ≠ L := ne_of h5 hL (by intro z; cases z)
      refine for_tup (K := K) (a := q) (xs := rs.map V.str) (fun j σ H2 => Same H H2 ∧ H2 q = some (.tup (rs.map V.str)) ∧ H2 L = some (.lst ((makes bs (ps.take i) ++ rs.take j).map V.str)) ∧ ∃ z5, σ = [some (.ref B), some (.ref a), some (.ref L), some (.ref c), z4, z5]) ⟨s, h5, by rw [hL, List.take_zero, List.append_nil], _, rfl⟩ (fun j σ H2 _ p => sqT p.2.1) ?_ ?_
      · rintro j x σ H2 hx2 ⟨s2, hq2, hL2, z5, rfl⟩
        rw [List.getElem?_map] at hx2
        cases e : rs[j]? with
        | none => rw [e] at hx2; cases hx2
        | some z =>
          rw [e] at hx2
          cases Option.some.inj hx2
          have hj := (List.getElem?_eq_some_iff.mp e).1
          refine ⟨_, rfl, .inl ⟨rfl, _, sqL hL2⟩, _, rfl, L, _, _, rfl, rfl, hL2, ?_, ?_⟩
          · rw [List.length_map, List.length_append, List.length_take]
            exact Nat.lt_of_le_of_lt (show _ ≤ 1000 by omega) (by decide)
          · refine ⟨nLm _ _ s2, updN nLq hq2, ?_, _, rfl⟩
            rw [updS, List.take_add_one, e]
            simp only [List.map_append, List.append_assoc]
            rfl
      · rintro σ H2 ⟨s2, hq2, hL2, z5, rfl⟩
        refine ⟨s2, ?_, _, _, _, rfl⟩
        rw [hL2, makes_snoc h2, List.length_map, List.take_of_length_le (Nat.le_refl _)]
        rfl
  · rintro σ H' ⟨s, hL, z3, z4, z5, rfl⟩
    rw [List.length_map, hp.1, List.take_of_length_le (Nat.le_refl _)] at hL
    exact ⟨_, rfl, L, _, rfl, .inl ⟨sqL hL, fun r nr => k r _ (s.trans (Same.upd nr)) updS⟩⟩
end
end Fw

set_option Elab.async false
set_option linter.all false
set_option maxRecDepth 100000
set_option maxHeartbeats 4000000
namespace Fw
open PySem L2 RZ RT
def StAt (H : Hp) (S : Addr) (st : List Str) : Prop := H S = some (.lst (st.map V.str)) ∧ 0 < st.length ∧ st.length ≤ 5 ∧ ∀ z ∈ st, OkS z
theorem StAt.kp {D : Addr} {H H' : Hp} {S : Addr} {st : List Str} (h : StAt H S st) (k : Kp D H H') (n : S ≠ D) : StAt H' S st := ⟨k _ _ h.1 n, h.2⟩
theorem StAt.same {H H' : Hp} {S : Addr} {st : List Str} (h : StAt H S st) (k : Same H H') : StAt H' S st := ⟨k _ _ h.1, h.2⟩
theorem Dk.same {c D : Addr} {ns : List Int} {t : Nat} {H H' : Hp} (d : Dk c D ns t H) (s : Same H H') : Dk c D ns t H' := by
  obtain ⟨a, b, e, i, n, u, h, r⟩ := d
  exact ⟨a, s _ _ b, e, i, n, u, s _ _ h, r⟩
def sp_l_text (_ : PySem.W.Frag) : Sp := fun vs H Q _ => ∃ (c D : Addr) (ns : List Int) (t : Nat) (size : Int), vs = [.ref D, .int size] ∧ Dk c D ns t H ∧ 0 ≤ size ∧ size ≤ 40 ∧ t + 50 < 1000000000 ∧
  ∀ (z : Str) (H' : Hp), OkS z → Kp D H H' → Dk c D ns (t + 50) H' → Q (.str z) H'
def sp_l_stock (_ : PySem.W.Frag) : Sp := fun vs H Q _ => ∃ (c D : Addr) (ns : List Int) (t : Nat), vs = [.ref D] ∧ Dk c D ns t H ∧ t + 300 < 1000000000 ∧
  ∀ (S : Addr) (st : List Str) (H' : Hp), StAt H' S st → H S = none → Kp D H H' → Dk c D ns (t + 300) H' → Q (.ref S) H'
def sp_l_lines (_ : PySem.W.Frag) : Sp := fun vs H Q _ => ∃ (c D S : Addr) (ns : List Int) (t : Nat) (st : List Str) (most : Int), vs = [.ref D, .ref S, .int most] ∧ Dk c D ns t H ∧ StAt H S st ∧ S ≠ D ∧ 0 ≤ most ∧ most ≤ 40 ∧ t + 50 < 1000000000 ∧
  ∀ (a : Addr) (bs : List Str) (H' : Hp), RwAt H' a bs → (∀ z ∈ bs, z ∈ st) → (bs.length : Int) ≤ most → Kp D H H' → Dk c D ns (t + 50) H' → Q (.ref a) H'
def sp_l_most (_ : PySem.W.Frag) : Sp := fun vs H Q _ => ∃ (c D : Addr) (ns : List Int) (t : Nat), vs = [.ref D] ∧ Dk c D ns t H ∧ t + 1 < 1000000000 ∧
  ∀ (m : Int) (H' : Hp), 0 ≤ m → m ≤ 40 → Kp D H H' → Dk c D ns (t + 1) H' → Q (.int m) H'
def sp_l_script (_ : PySem.W.Frag) : Sp := fun vs H Q _ => ∃ (c D B S : Addr) (ns : List Int) (t : Nat) (bs st : List Str) (most : Int), vs = [.ref D, .ref B, .ref S, .int most] ∧ Dk c D ns t H ∧ RwAt H B bs ∧ bs.length ≤ 1000 ∧ StAt H S st ∧ S ≠ D ∧ 0 ≤ most ∧ most ≤ 40 ∧ t + 300 < 1000000000 ∧
  ∀ (a : Addr) (ps : List Pc) (H' : Hp), ScAt H' a ps → ScOk ps → (∀ p ∈ ps, p.fits bs.length) → (total ps : Int) ≤ most → (∀ p ∈ ps, ∀ rs, p = .put rs → ∀ z ∈ rs, z ∈ st) → Kp D H H' → Dk c D ns (t + 300) H' → Q (.ref a) H'
section
variable {K : PySem.W.Frag} {vs : List V} {H : Hp} {Q : VK} {E : XK}
theorem len_l_text (h : sp_l_text K vs H Q E) : vs.length = 2 := by obtain ⟨_, _, _, _, _, rfl, _⟩ := h; rfl
theorem len_l_stock (h : sp_l_stock K vs H Q E) : vs.length = 1 := by obtain ⟨_, _, _, _, rfl, _⟩ := h; rfl
theorem len_l_lines (h : sp_l_lines K vs H Q E) : vs.length = 3 := by obtain ⟨_, _, _, _, _, _, _, rfl, _⟩ := h; rfl
theorem len_l_most (h : sp_l_most K vs H Q E) : vs.length = 1 := by obtain ⟨_, _, _, _, rfl, _⟩ := h; rfl
theorem len_l_script (h : sp_l_script K vs H Q E) : vs.length = 4 := by obtain ⟨_, _, _, _, _, _, _, _, _, rfl, _⟩ := h; rfl
end
abbrev N_l_text : List Str := ["_law_deck_here", "_law_size", "_law_signs", "_law_k"]
def t_l_text_rest (K : PySem.W.Frag) : TS := (tRet (tM1 (fJoin K) (tC (.str "")) (tLc (iRng1 (tCons (tCall (sp_l_draw K) [] E0 (tCons (tVar 0) (tCons (tOp rAddI (tVar 1) (tC (.int 1))) tNil))) tNil)) (gName 3) tYes (tOp (rIx K) (tVar 2) (tCall (sp_l_draw K) [] E0 (tCons (tVar 0) (tCons (tCB (fLen K) (tCons (tVar 2) tNil)) tNil)))) [3])))
def t_l_text (K : PySem.W.Frag) : TS := (tSeq (tAsg (tC (.str " !\"#$&'()*+,-./0123456789:;<=>?@ABCDEFGHIJKLMNOPQRSTUVWXYZ[\\]^_`abcdefghijklmnopqrstuvwxyz{|}~")) (gName 2))
    (tSeq (tIfS (tTest (tOp rEq (tCall (sp_l_draw K) [] E0 (tCons (tVar 0) (tCons (tC (.int 2)) tNil))) (tC (.int 0)))) (tAsg (tC (.str "ab")) (gName 2)) tNext)
    (t_l_text_rest K)))
abbrev N_l_stock : List Str := ["_law_deck_here", "_law_longest", "_law_k"]
def t_l_stock_rest (K : PySem.W.Frag) : TS := (tRet (tLc (iRng1 (tCons (tOp rAddI (tC (.int 1)) (tCall (sp_l_draw K) [] E0 (tCons (tVar 0) (tCons (tC (.int 5)) tNil)))) tNil)) (gName 2) tYes (tCall (sp_l_text K) [] E0 (tCons (tVar 0) (tCons (tVar 1) tNil))) [2]))
def t_l_stock (K : PySem.W.Frag) : TS := (tSeq (tAsg (tC (.int 4)) (gName 1))
    (tSeq (tIfS (tTest (tOp rEq (tCall (sp_l_draw K) [] E0 (tCons (tVar 0) (tCons (tC (.int 6)) tNil))) (tC (.int 0)))) (tAsg (tC (.int 40)) (gName 1)) tNext)
    (t_l_stock_rest K)))
abbrev N_l_lines : List Str := ["_law_deck_here", "_law_stock_here", "_law_most_here", "_law_k"]
def t_l_lines (K : PySem.W.Frag) : TS := (tRet (tCB (fTupleOf K) (tCons (tLc (iRng1 (tCons (tCall (sp_l_draw K) [] E0 (tCons (tVar 0) (tCons (tOp rAddI (tVar 2) (tC (.int 1))) tNil))) tNil)) (gName 3) tYes (tOp (rIx K) (tVar 1) (tCall (sp_l_draw K) [] E0 (tCons (tVar 0) (tCons (tCB (fLen K) (tCons (tVar 1) tNil)) tNil)))) [3]) tNil)))
abbrev N_l_most : List Str := ["_law_deck_here"]
def t_l_most (K : PySem.W.Frag) : TS := (tSeq (tIfS (tTest (tOp rEq (tCall (sp_l_draw K) [] E0 (tCons (tVar 0) (tCons (tC (.int 8)) tNil))) (tC (.int 0)))) (tRet (tC (.int 40))) tNext)
    (tRet (tC (.int 9))))
abbrev N_l_script : List Str := ["_law_deck_here", "_law_base", "_law_stock_here", "_law_most_here", "_law_pieces", "_law_room", "_law_begin", "_law_many", "_law_k"]
def t_l_script_take (K : PySem.W.Frag) : TS := (tSeq (tAsg (tOp rAddI (tC (.int 1)) (tCall (sp_l_draw K) [] E0 (tCons (tVar 0) (tCons (tCB fMin2 (tCons (tVar 5) (tCons (tOp rSubI (tCB (fLen K) (tCons (tVar 1) tNil)) (tVar 6)) tNil))) tNil)))) (gName 7))
    (tDrop (tBM K "list" rAppend (tVar 4) (tCons (tTup (tCons (tC (.str "take")) (tCons (tVar 6) (tCons (tVar 7) tNil)))) tNil))))
def t_l_script_put (K : PySem.W.Frag) : TS := (tSeq (tAsg (tOp rAddI (tC (.int 1)) (tCall (sp_l_draw K) [] E0 (tCons (tVar 0) (tCons (tCB fMin2 (tCons (tVar 5) (tCons (tC (.int 3)) tNil))) tNil)))) (gName 7))
    (tDrop (tBM K "list" rAppend (tVar 4) (tCons (tTup (tCons (tC (.str "put")) (tCons (tCB (fTupleOf K) (tCons (tLc (iRng1 (tCons (tVar 7) tNil)) (gName 8) tYes (tOp (rIx K) (tVar 2) (tCall (sp_l_draw K) [] E0 (tCons (tVar 0) (tCons (tCB (fLen K) (tCons (tVar 2) tNil)) tNil)))) [8]) tNil)) tNil))) tNil))))
def t_l_script_end (K : PySem.W.Frag) : TS := (tAsg (tOp rSubI (tVar 5) (tVar 7)) (gName 5))
def t_l_script_turn (K : PySem.W.Frag) : TS := (tSeq (tIfS (tAnd (tTest (tOp rGtI (tCB (fLen K) (tCons (tVar 1) tNil)) (tC (.int 0)))) (tTest (tOp rGtI (tCall (sp_l_draw K) [] E0 (tCons (tVar 0) (tCons (tC (.int 3)) tNil))) (tC (.int 0))))) (tSeq (tAsg (tCall (sp_l_draw K) [] E0 (tCons (tVar 0) (tCons (tCB (fLen K) (tCons (tVar 1) tNil)) tNil))) (gName 6))
    (t_l_script_take K)) (t_l_script_put K))
    (t_l_script_end K))
def t_l_script (K : PySem.W.Frag) : TS := (tSeq (tAsg (tLst tNil) (gName 4))
    (tSeq (tAsg (tCall (sp_l_draw K) [] E0 (tCons (tVar 0) (tCons (tOp rAddI (tVar 3) (tC (.int 1))) tNil))) (gName 5))
    (tSeq (tWhile (tTest (tOp rGtI (tVar 5) (tC (.int 0)))) (t_l_script_turn K))
    (tRet (tCB (fTupleOf K) (tCons (tVar 4) tNil))))))
theorem join_chars (ys : List Nat) : Txt.join ("" : Str) ((ys.map fun c => (⟨#[c]⟩ : Str))) = ⟨ys.toArray⟩ := by
  have e : ("" : Str) = ⟨#[]⟩ := by decide +kernel
  rw [e]
  unfold Txt.join
  have h := PyProof.Rows.join_nil_signs ⟨ys.toArray⟩
  rw [← StrLaws.glued_eq_join] at h
  exact h
theorem sum_ones : ∀ ys : List Nat, ((ys.map fun c => (⟨#[c]⟩ : Str)).map (·.length)).sum = ys.length
  | [] => rfl
  | y :: ys => by
    rw [List.map_cons, List.map_cons, List.sum_cons, sum_ones ys, List.length_cons]
    show 1 + ys.length = _
    omega
section
variable {K : PySem.W.Frag} {vs : List V} {H : Hp} {Q : VK} {E : XK}
theorem text_rest {c D : Addr} {ns : List Int} {t : Nat} {size : Int} {S : Str} {z3 : Option V} (dk : Dk c D ns t H) (s0 : 0 ≤ size) (s1 : size ≤ 40) (ht : t + 45 < 1000000000) (l0 : 0 < S.cps.size) (l1 : S.cps.size ≤ 100) (ok : ∀ x ∈ S.cps.toList, OkC x)
    (k : ∀ (z : Str) (H' : Hp), OkS z → Kp D H H' → Dk c D ns (t + 45) H' → Q (.str z) H') : t_l_text_rest K { nx := fun _ H' => Q .non H', rt := Q } [some (.ref D), some (.int size), some (.str S), z3] H := by
  refine ⟨⟨_, rfl⟩, _, rfl, _, rfl, _, _, rfl, rfl, c, D, ns, t, size + 1, rfl, dk, by omega, by omega, small100 (by omega), fun n H1 n0 n1 d1 fr1 => ⟨_, rfl, by omega, by omega, fun L nL => ?_⟩⟩
  refine lc_deck (walk_range (lo := 0) (n := n.toNat)) yFn (fun x : Nat => V.str ⟨#[x]⟩) OkC 1 nL d1 (by omega) ?_ ?_
  · intro i x H2 R hi kp d2 r
    refine ⟨rfl, ⟨_, rfl, _, rfl, _, rfl, lenS (Nat.le_trans l1 (by decide)) ⟨c, D, ns, _, _, rfl, d2, by omega, (show (0 : Int) < (S.length : Int) by show (0 : Int) < (S.cps.size : Int); omega), small100 (show ((S.cps.size : Nat) : Int).natAbs ≤ _ by omega), fun v H3 v0 v1 d3 fr3 => ?_⟩⟩⟩
    obtain ⟨j, rfl⟩ := Int.eq_ofNat_of_zero_le v0
    have hj : j < S.cps.toList.length := by
      have : ((j : Nat) : Int) < ((S.cps.size : Nat) : Int) := v1
      rw [Array.length_toList]
      omega
    exact ixS (Nat.le_trans l1 (by decide)) (atI_nat (List.getElem?_eq_getElem hj)) (r _ _ (ok _ (List.getElem_mem hj)) (.fr fr3) d3)
  · intro ys H2 hl hp kp d2 hL
    have hlen : ys.length ≤ 40 := by omega
    refine ⟨_, L, (ys.map fun c => (⟨#[c]⟩ : Str)), rfl, rfl, .inl (sqL (by rw [hL, List.map_map]; rfl)), ?_, ?_⟩
    · rw [sum_ones, List.length_map]
      show ys.length + ys.length * 0 ≤ _
      omega
    · rw [join_chars]
      refine k _ _ ⟨?_, ?_⟩ ((Kp.fr fr1).trans kp) (d2.le (by omega))
      · show ys.toArray.size ≤ 40
        rw [List.size_toArray]
        exact hlen
      · intro x hx
        exact hp x hx
theorem signs_ok : ∀ x ∈ (" !\"#$&'()*+,-./0123456789:;<=>?@ABCDEFGHIJKLMNOPQRSTUVWXYZ[\\]^_`abcdefghijklmnopqrstuvwxyz{|}~" : Str).cps.toList, OkC x := by
  have h : ((" !\"#$&'()*+,-./0123456789:;<=>?@ABCDEFGHIJKLMNOPQRSTUVWXYZ[\\]^_`abcdefghijklmnopqrstuvwxyz{|}~" : Str).cps.toList.all fun x => decide (32 ≤ x) && (decide (x ≤ 126) && !decide (x = 37))) = true := by decide +kernel
  intro x hx
  have := List.all_eq_true.mp h x hx
  simp only [Bool.and_eq_true, decide_eq_true_eq, Bool.not_eq_true', decide_eq_false_iff_not] at this
  exact ⟨this.1, this.2.1, this.2.2⟩
theorem ab_ok : ∀ x ∈ ("ab" : Str).cps.toList, OkC x := by
  have h : (("ab" : Str).cps.toList.all fun x => decide (32 ≤ x) && (decide (x ≤ 126) && !decide (x = 37))) = true := by decide +kernel
  intro x hx
  have := List.all_eq_true.mp h x hx
  simp only [Bool.and_eq_true, decide_eq_true_eq, Bool.not_eq_true', decide_eq_false_iff_not] at this
  exact ⟨this.1, this.2.1, this.2.2⟩
theorem pure_l_text (h : sp_l_text K vs H Q E) : t_l_text K { nx := fun _ H' => Q .non H', rt := Q } (start N_l_text vs) H := by
  obtain ⟨c, D, ns, t, size, rfl, dk, s0, s1, ht, k⟩ := h
  refine ⟨_, rfl, c, D, ns, t, 2, rfl, dk, by omega, by decide, by decide, fun v H1 v0 v1 d1 fr1 => ⟨rfl, _, rfl, ite2 (fun _ => ?_) (fun _ => ?_)⟩⟩
  · exact text_rest d1 s0 s1 (by omega) (by decide +kernel) (by decide +kernel) ab_ok fun z H2 o kp d2 => k z H2 o ((Kp.fr fr1).trans kp) (d2.le (by omega))
  · exact text_rest d1 s0 s1 (by omega) (by decide +kernel) (by decide +kernel) signs_ok fun z H2 o kp d2 => k z H2 o ((Kp.fr fr1).trans kp) (d2.le (by omega))
theorem stock_rest {c D : Addr} {ns : List Int} {t : Nat} {size : Int} {z2 : Option V} (dk : Dk c D ns t H) (s0 : 0 ≤ size) (s1 : size ≤ 40) (ht : t + 299 < 1000000000)
    (k : ∀ (S : Addr) (st : List Str) (H' : Hp), StAt H' S st → H S = none → Kp D H H' → Dk c D ns (t + 299) H' → Q (.ref S) H') : t_l_stock_rest K { nx := fun _ H' => Q .non H', rt := Q } [some (.ref D), some (.int size), z2] H := by
  refine ⟨_, rfl, c, D, ns, t, 5, rfl, dk, by omega, by decide, by decide, fun n H1 n0 n1 d1 fr1 => ⟨_, _, rfl, rfl, _, rfl, by omega, by omega, fun L nL => ?_⟩⟩
  refine lc_deck (walk_range (lo := 0) (n := (1 + n).toNat)) yFn V.str OkS 50 nL d1 (by omega) ?_ ?_
  · intro i x H2 R hi kp d2 r
    refine ⟨rfl, ⟨_, rfl, _, rfl, c, D, ns, _, size, rfl, d2, s0, s1, by omega, fun z H3 o kp3 d3 => r z H3 o kp3 d3⟩⟩
  · intro ys H2 hl hp kp d2 hL
    exact k L ys H2 ⟨hL, by omega, by omega, hp⟩ ((Kp.fr fr1).free nL (d1.neD nL)) ((Kp.fr fr1).trans kp) (d2.le (by omega))
theorem pure_l_stock (h : sp_l_stock K vs H Q E) : t_l_stock K { nx := fun _ H' => Q .non H', rt := Q } (start N_l_stock vs) H := by
  obtain ⟨c, D, ns, t, rfl, dk, ht, k⟩ := h
  refine ⟨_, rfl, c, D, ns, t, 6, rfl, dk, by omega, by decide, by decide, fun v H1 v0 v1 d1 fr1 => ⟨rfl, _, rfl, ite2 (fun _ => ?_) (fun _ => ?_)⟩⟩
  · exact stock_rest d1 (by decide) (by decide) (by omega) fun S st H2 h n kp d2 => k S st H2 h ((Kp.fr fr1).free n (d1.neD n)) ((Kp.fr fr1).trans kp) (d2.le (by omega))
  · exact stock_rest d1 (by decide) (by decide) (by omega) fun S st H2 h n kp d2 => k S st H2 h ((Kp.fr fr1).free n (d1.neD n)) ((Kp.fr fr1).trans kp) (d2.le (by omega))
/-- stock[draw(deck, len(stock))] -/
theorem stock_draw {c D S : Addr} {ns : List Int} {t : Nat} {st : List Str} {i j : Nat} {σ : L2.St} {R : VK} (eD : σ[i]? = some (some (.ref D))) (eS : σ[j]? = some (some (.ref S))) (dk : Dk c D ns t H) (ht : t < 1000000000) (sa : StAt H S st) (nSD : S ≠ D)
    (r : ∀ y H', y ∈ st → Kp D H H' → Dk c D ns (t + 1) H' → R (.str y) H') : tOp (rIx K) (tVar j) (tCall (sp_l_draw K) [] E0 (tCons (tVar i) (tCons (tCB (fLen K) (tCons (tVar j) tNil)) tNil))) σ H R := by
  refine ⟨_, eS, _, eD, _, eS, lenL sa.1 ⟨c, D, ns, _, _, rfl, dk, ht, ?_, ?_, fun v H3 v0 v1 d3 fr3 => ?_⟩⟩
  · rw [List.length_map]
    have := sa.2.1
    omega
  · rw [List.length_map]
    have := sa.2.2.1
    exact small100 (by omega)
  · obtain ⟨q, rfl⟩ := Int.eq_ofNat_of_zero_le v0
    rw [List.length_map] at v1
    have hq : q < st.length := by omega
    exact ixL (by rw [fr3 _ nSD]; exact sa.1) (atI_nat (by rw [List.getElem?_map, List.getElem?_eq_getElem hq]; rfl)) (r _ _ (List.getElem_mem hq) (.fr fr3) d3)
theorem pure_l_lines (h : sp_l_lines K vs H Q E) : t_l_lines K { nx := fun _ H' => Q .non H', rt := Q } (start N_l_lines vs) H := by
  obtain ⟨c, D, S, ns, t, st, most, rfl, dk, sa, nSD, m0, m1, ht, k⟩ := h
  refine ⟨_, rfl, _, rfl, _, _, rfl, rfl, c, D, ns, t, most + 1, rfl, dk, by omega, by omega, small100 (by omega), fun n H1 n0 n1 d1 fr1 => ⟨_, rfl, by omega, by omega, fun L nL => ?_⟩⟩
  have sa1 := sa.kp (.fr fr1) nSD
  refine lc_deck (walk_range (lo := 0) (n := n.toNat)) yFn V.str (fun z => z ∈ st) 1 nL d1 (by omega) ?_ ?_
  · intro i x H2 R hi kp d2 r
    exact ⟨rfl, stock_draw (i := 0) (j := 1) rfl rfl d2 (by omega) (sa1.kp kp nSD) nSD r⟩
  · intro ys H2 hl hp kp d2 hL
    refine ⟨L, _, rfl, .inl ⟨sqL hL, fun r nr => k r ys _ updS hp (by omega) (((Kp.fr fr1).trans kp).trans (.new nr)) ((d2.le (by omega)).upd (d2.neC nr) (d2.neD nr))⟩⟩
theorem pure_l_most (h : sp_l_most K vs H Q E) : t_l_most K { nx := fun _ H' => Q .non H', rt := Q } (start N_l_most vs) H := by
  obtain ⟨c, D, ns, t, rfl, dk, ht, k⟩ := h
  refine ⟨_, rfl, c, D, ns, t, 8, rfl, dk, by omega, by decide, by decide, fun v H1 v0 v1 d1 fr1 => ⟨rfl, _, rfl, ite2 (fun _ => ?_) (fun _ => ?_)⟩⟩
  · exact k 40 H1 (by decide) (by decide) (.fr fr1) d1
  · exact k 9 H1 (by decide) (by decide) (.fr fr1) d1
/-- the state of the maker of scripts -/
structure SS (H0 : Hp) (c D L B S : Addr) (ns : List Int) (t : Nat) (bs st : List Str) (as : List Addr) (ps : List Pc) (H : Hp) : Prop where
  dk : Dk c D ns t H
  keep : Kp D H0 H
  hl : H L = some (.lst (as.map V.ref))
  pr : PsAt H as ps
  ok : ∀ p ∈ ps, p.ok
  fit : ∀ p ∈ ps, p.fits bs.length
  sub : ∀ p ∈ ps, ∀ rs, p = .put rs → ∀ z ∈ rs, z ∈ st
  nL : H0 L = none
  d0 : ∃ t0, Dk c D ns t0 H0
  hB : RwAt H0 B bs
  sa : StAt H0 S st
  nS : S ≠ D
section
variable {H0 H H' : Hp} {c D L B S q : Addr} {ns : List Int} {t t' : Nat} {bs st : List Str} {as : List Addr} {ps : List Pc} {o : HO}
theorem SS.nLD (s : SS H0 c D L B S ns t bs st as ps H) : L ≠ D := s.d0.choose_spec.neD s.nL
theorem SS.nLC (s : SS H0 c D L B S ns t bs st as ps H) : L ≠ c := s.d0.choose_spec.neC s.nL
theorem SS.move (s : SS H0 c D L B S ns t bs st as ps H) (k : Kp D H H') (d : Dk c D ns t' H') : SS H0 c D L B S ns t' bs st as ps H' :=
  ⟨d, s.keep.trans k, k _ _ s.hl s.nLD, s.pr.mono (k.tm s.dk), s.ok, s.fit, s.sub, s.nL, s.d0, s.hB, s.sa, s.nS⟩
theorem SS.baseAt (s : SS H0 c D L B S ns t bs st as ps H) : RwAt H B bs := s.keep.tup s.d0.choose_spec _ _ s.hB
theorem SS.stAt (s : SS H0 c D L B S ns t bs st as ps H) : StAt H S st := s.sa.kp s.keep s.nS
theorem SS.add (s : SS H0 c D L B S ns t bs st as ps H) {T : Addr} {p : Pc} (hT : PcAt H T p) (ok : p.ok) (fit : p.fits bs.length) (sub : ∀ rs, p = .put rs → ∀ z ∈ rs, z ∈ st) : SS H0 c D L B S ns t bs st (as ++ [T]) (ps ++ [p]) (upd H L (.lst (as.map V.ref ++ [.ref T]))) := by
  have tm : TM H (upd H L (.lst (as.map V.ref ++ [.ref T]))) := fun a xs h => updN (ne_of h s.hl (by intro z; cases z)) h
  refine ⟨s.dk.upd s.nLC s.nLD, fun b u e n => updN (ne_of_none e s.nL) (s.keep b u e n), by rw [updS, List.map_append]; rfl, (s.pr.snoc hT).mono tm, fun q hq => ?_, fun q hq => ?_, fun q hq => ?_, s.nL, s.d0, s.hB, s.sa, s.nS⟩
  · rcases List.mem_append.mp hq with h | h
    · exact s.ok q h
    · cases List.mem_singleton.mp h
      exact ok
  · rcases List.mem_append.mp hq with h | h
    · exact s.fit q h
    · cases List.mem_singleton.mp h
      exact fit
  · rcases List.mem_append.mp hq with h | h
    · exact s.sub q h
    · cases List.mem_singleton.mp h
      exact sub
end
theorem total_snoc (ps : List Pc) (p : Pc) : total (ps ++ [p]) = total ps + p.n := by
  unfold total
  rw [List.map_append, List.sum_append]
  show _ + (p.n + 0) = _
  omega
theorem min2_eq {i j : Int} : (if j < i then j else i) ≤ i ∧ (if j < i then j else i) ≤ j := by
  by_cases h : j < i
  · rw [if_pos h]; omega
  · rw [if_neg h]; omega
theorem min2_pos {i j : Int} (h1 : 0 < i) (h2 : 0 < j) : 0 < (if j < i then j else i) := by
  by_cases h : j < i
  · rw [if_pos h]; exact h2
  · rw [if_neg h]; exact h1
def SsW (H0 : Hp) (c D L B S : Addr) (ns : List Int) (t : Nat) (bs st : List Str) (most m0 : Int) (σ : L2.St) (H' : Hp) : Prop := ∃ (as : List Addr) (ps : List Pc) (room : Int) (z6 z7 z8 : Option V),
  σ = [some (.ref D), some (.ref B), some (.ref S), some (.int most), some (.ref L), some (.int room), z6, z7, z8] ∧ 0 ≤ room ∧ (total ps : Int) + room = m0 ∧ SS H0 c D L B S ns (t + 6 * total ps) bs st as ps H'
theorem pure_l_script (h : sp_l_script K vs H Q E) : t_l_script K { nx := fun _ H' => Q .non H', rt := Q } (start N_l_script vs) H := by
  obtain ⟨c, D, B, S, ns, t, bs, st, most, rfl, dk, hB, hbl, sa, nSD, m0, m1, ht, k⟩ := h
  refine ⟨Nat.zero_le _, fun L nL => ?_⟩
  have dL := dk.upd (o := .lst []) (dk.neC nL) (dk.neD nL)
  refine ⟨_, rfl, _, rfl, _, _, rfl, rfl, c, D, ns, t, most + 1, rfl, dL, by omega, by omega, small100 (by omega), fun n H1 n0 n1 d1 fr1 => ?_⟩
  have nLD : L ≠ D := dk.neD nL
  have k1 : Kp D H H1 := (Kp.new nL).trans (.fr fr1)
  have s1 : SS H c D L B S ns (t + 1 + 6 * 0) bs st [] [] H1 := ⟨d1, k1, by rw [fr1 _ nLD]; exact updS, .nil, (fun _ h => by cases h), (fun _ h => by cases h), (fun _ h => by cases h), nL, ⟨t, dk⟩, hB, sa, nSD⟩
  show tSeq (tWhile _ (t_l_script_turn K)) _ _ [some (.ref D), some (.ref B), some (.ref S), some (.int most), some (.ref L), some (.int n), none, none, none] H1
  refine while_by (SsW H c D L B S ns (t + 1) bs st most n) (fun σ _ => slotN 5 σ) ⟨[], [], n, none, none, none, rfl, n0, by show ((0 : Nat) : Int) + n = n; omega, s1⟩ ?_ (fun σ H Q Q' f h => by
    obtain ⟨v, e, i, j, e1, e2, b, e3, q⟩ := h
    exact ⟨v, e, i, j, e1, e2, b, e3, f _ _ q⟩)
  rintro σ H2 ⟨as, ps, room, z6, z7, z8, rfl, r0, rt, s⟩
  refine ⟨_, rfl, _, _, rfl, rfl, _, rfl, ite2 (fun e => ?_) (fun e => ?_)⟩
  · have hroom : 0 < room := of_decide_eq_true e
    have tot : (total ps : Int) ≤ 40 := by omega
    have nl : as.length ≤ 40 := by
      rw [s.pr.1]
      have := len_le_total s.ok
      omega
    -- the end of a turn
    have fin : ∀ (T : Addr) (p : Pc) (m' : Int) (y6 y8 : Option V) (t' : Nat) (H3 : Hp) (D1 D2 : Ends), (∀ σ' H', SsW H c D L B S ns (t + 1) bs st most n σ' H' ∧ slotN 5 σ' < room.toNat → D1.nx σ' H') → (∀ σ' H', t_l_script_end K D1 σ' H' → D2.nx σ' H') → m' = (p.n : Int) → t' ≤ t + 1 + 6 * total ps + 6 → SS H c D L B S ns t' bs st as ps H3 → PcAt H3 T p → p.ok → p.fits bs.length → (∀ rs, p = .put rs → ∀ z ∈ rs, z ∈ st) → (p.n : Int) ≤ room →
        rAppend (.ref L) [.ref T] H3 fun _ H4 => D2.nx [some (.ref D), some (.ref B), some (.ref S), some (.int most), some (.ref L), some (.int room), y6, some (.int m'), y8] H4 := by
      intro T p m' y6 y8 t' H3 D1 D2 k1 k2 em ht' s3 hT ok fit sub hn
      subst em
      have p1 := Pc.one ok
      refine ⟨L, _, _, rfl, rfl, s3.hl, by rw [List.length_map]; exact Nat.lt_of_le_of_lt nl (by decide), k2 _ _ ?_⟩
      refine ⟨_, rfl, _, rfl, _, _, rfl, rfl, k1 _ _ ⟨⟨as ++ [T], ps ++ [p], room - (p.n : Int), _, _, _, rfl, by omega, by rw [total_snoc]; omega, ?_⟩, ?_⟩⟩
      · have s4 := s3.add hT ok fit sub
        refine s4.move (Kp.refl _ _) (s4.dk.le ?_)
        rw [total_snoc, Nat.mul_add]
        omega
      · show (room - (p.n : Int)).toNat < room.toNat
        omega
    have put : ∀ (y6 y7 y8 : Option V) (t' : Nat) (H3 : Hp) (D1 D2 : Ends), (∀ σ' H', SsW H c D L B S ns (t + 1) bs st most n σ' H' ∧ slotN 5 σ' < room.toNat → D1.nx σ' H') → (∀ σ' H', t_l_script_end K D1 σ' H' → D2.nx σ' H') → t' ≤ t + 1 + 6 * total ps + 1 → SS H c D L B S ns t' bs st as ps H3 → t_l_script_put K D2 [some (.ref D), some (.ref B), some (.ref S), some (.int most), some (.ref L), some (.int room), y6, y7, y8] H3 := by
      intro y6 y7 y8 t' H3 D1 D2 k1 k2 ht' s3
      have mp := min2_pos hroom (show (0 : Int) < 3 by decide)
      have ml := min2_eq (i := room) (j := 3)
      refine ⟨_, rfl, _, rfl, _, _, rfl, c, D, ns, t', _, rfl, s3.dk, by omega, mp, small100 (by omega), fun v H4 v0 v1 d4 fr4 => ⟨_, _, rfl, rfl, ?_⟩⟩
      have s4 := s3.move (.fr fr4) d4
      refine ⟨_, rfl, .inl ⟨rfl, _, sqL s4.hl⟩, _, rfl, _, rfl, by omega, by omega, fun G nG => ?_⟩
      refine lc_deck (walk_range (lo := 0) (n := (1 + v).toNat)) yFn V.str (fun z => z ∈ st) 1 nG d4 (by omega) ?_ ?_
      · intro i x H5 R hi kp d5 r
        exact ⟨rfl, stock_draw (i := 0) (j := 2) rfl rfl d5 (by omega) (s4.move kp d5).stAt nSD r⟩
      · intro ys H5 hl hp kp d5 hG
        refine ⟨G, _, rfl, .inl ⟨sqL hG, fun r nr => ⟨by show (2 : Nat) ≤ sizeLine; decide, fun T nT => ?_⟩⟩⟩
        have s5 := s4.move kp d5
        have s6 := s5.move (Kp.new (o := .tup (ys.map V.str)) nr) (s5.dk.upd (s5.dk.neC nr) (s5.dk.neD nr))
        have s7 := s6.move (Kp.new (o := .tup [.str "put", .ref r]) nT) (s6.dk.upd (s6.dk.neC nT) (s6.dk.neD nT))
        have nrT : r ≠ T := fun e => by rw [← e, updS] at nT; cases nT
        have en : ((Pc.put ys).n : Int) = 1 + v := by
          show ((ys.length : Nat) : Int) = 1 + v
          omega
        exact fin T (.put ys) (1 + v) y6 _ _ _ D1 D2 k1 k2 en.symm (by omega) s7 ⟨r, updS, updN nrT updS⟩ ⟨fun e => by rw [e] at hl; simp at hl; omega, fun z hz => s7.stAt.2.2.2 z (hp z hz)⟩ True.intro (fun rs e z hz => by cases e; exact hp z hz) (by omega)
    refine ⟨_, rfl, lenT s.baseAt ⟨_, _, rfl, rfl, _, rfl, ite2 (fun e2 => ?_) (fun e2 => iteF (put z6 z7 z8 _ _ _ _ (fun _ _ z => z) (fun _ _ z => z) (by omega) s))⟩⟩
    have hb0 : 0 < bs.length := by
      have q : (0 : Int) < ((bs.map V.str).length : Int) := of_decide_eq_true e2
      rw [List.length_map] at q
      omega
    refine ⟨_, rfl, c, D, ns, _, 3, rfl, s.dk, by omega, by decide, by decide, fun v H3 v0 v1 d3 fr3 => ⟨_, _, rfl, rfl, _, rfl, ite2 (fun e3 => ?_) (fun e3 => put z6 z7 z8 _ _ _ _ (fun _ _ z => z) (fun _ _ z => z) (by omega) (s.move (.fr fr3) d3))⟩⟩
    have s3 := s.move (.fr fr3) d3
    refine ⟨_, rfl, _, rfl, lenT s3.baseAt ⟨c, D, ns, _, _, rfl, s3.dk, by omega, by rw [List.length_map]; omega, by rw [List.length_map]; exact small100 (by omega), fun b H4 b0 b1 d4 fr4 => ?_⟩⟩
    rw [List.length_map] at b1
    obtain ⟨b, rfl⟩ := Int.eq_ofNat_of_zero_le b0
    have s4 := s3.move (.fr fr4) d4
    have mp := min2_pos hroom (show (0 : Int) < ((bs.map V.str).length : Int) - (b : Int) by rw [List.length_map]; omega)
    have ml := min2_eq (i := room) (j := ((bs.map V.str).length : Int) - (b : Int))
    refine ⟨_, rfl, _, rfl, _, rfl, lenT s4.baseAt ⟨_, rfl, _, _, rfl, rfl, _, _, rfl, c, D, ns, _, _, rfl, s4.dk, by omega, mp, small100 (by omega), fun v H5 v0 v1 d5 fr5 => ⟨_, _, rfl, rfl, ?_⟩⟩⟩
    have s5 := s4.move (.fr fr5) d5
    obtain ⟨v, rfl⟩ := Int.eq_ofNat_of_zero_le v0
    have hml : (bs.map V.str).length = bs.length := List.length_map ..
    have ev : (1 + (v : Int)) = ((1 + v : Nat) : Int) := by omega
    refine ⟨_, rfl, .inl ⟨rfl, _, sqL s5.hl⟩, _, rfl, _, rfl, by show (3 : Nat) ≤ sizeLine; decide, fun T nT => ?_⟩
    have s6 := s5.move (Kp.new (o := .tup [.str "take", .int (b : Int), .int (1 + (v : Int))]) nT) (s5.dk.upd (s5.dk.neC nT) (s5.dk.neD nT))
    exact fin T (.take b (1 + v)) (1 + (v : Int)) (some (.int (b : Int))) z8 _ _ _ _ (fun _ _ z => z) (fun _ _ z => z) ev (by omega) s6 (by show upd _ _ _ _ = some (.tup [.str "take", .int (b : Int), .int ((1 + v : Nat) : Int)]); rw [updS, ← ev]) (show 1 ≤ 1 + v by omega) (show b + (1 + v) ≤ bs.length by omega) (fun rs e => by cases e) (show ((1 + v : Nat) : Int) ≤ room by omega)
  · have hroom : room = 0 := by
      have : ¬ 0 < room := fun q => e (decide_eq_true q)
      omega
    subst hroom
    refine ⟨_, rfl, L, _, rfl, .inl ⟨sqL s.hl, fun a na => ?_⟩⟩
    have kk : Kp D H2 (upd H2 a (.tup (as.map V.ref))) := .new na
    refine k a ps _ ⟨as, updS, s.pr.mono (kk.tm s.dk)⟩ ⟨s.ok, by omega⟩ s.fit (by omega) s.sub (s.keep.trans kk) ((s.dk.le (by omega)).upd (s.dk.neC na) (s.dk.neD na))
end
end Fw

set_option Elab.async false
set_option linter.all false
set_option maxRecDepth 100000
set_option maxHeartbeats 4000000
/-! Contents, and how they stand in the heap; a book's state. -/
namespace Fw
open PySem L2 RZ RT
inductive Ct where
  | leaf (rows : List Str)
  | tree (es : List (Str × Int))
  | ver (ps : List Int) (root stamp : Int)
deriving DecidableEq
namespace Ct
def word : Ct → Str
  | .leaf _ => "leaf"
  | .tree _ => "tree"
  | .ver _ _ _ => "version"
def key : Ct → NestedKey
  | .leaf rows => .tup [.text "leaf", .tup (rows.map NestedKey.text)]
  | .tree es => .tup [.text "tree", .tup (es.map fun e => .tup [.text e.1, .num e.2])]
  | .ver ps r s => .tup [.text "version", .tup (ps.map NestedKey.num), .num r, .num s]
def parts : Ct → List Int
  | .leaf _ => []
  | .tree es => es.map (·.2)
  | .ver ps r _ => ps ++ [r]
end Ct
def OkLab (z : Str) : Prop := 1 ≤ z.cps.size ∧ z.cps.size ≤ 8 ∧ ∀ c ∈ z.cps.toList, 97 ≤ c ∧ c ≤ 122
def ltS (a b : Str) : Prop := a.cps.toList < b.cps.toList
def Ct.form : Ct → Prop
  | .leaf rows => rows.length ≤ 40 ∧ ∀ z ∈ rows, OkS z
  | .tree es => es.length ≤ 20 ∧ (∀ e ∈ es, OkLab e.1) ∧ es.Pairwise fun a b => ltS a.1 b.1
  | .ver ps _ s => ps.length ≤ 4 ∧ ps.Pairwise (· < ·) ∧ 0 ≤ s ∧ s ≤ 1000000000000000000
theorem wv_lt : ("leaf" : Str) ≠ "tree" := by decide +kernel
theorem wv_lv : ("leaf" : Str) ≠ "version" := by decide +kernel
theorem wv_tv : ("tree" : Str) ≠ "version" := by decide +kernel
theorem map_inj {α β : Type} {f : α → β} (h : ∀ a b, f a = f b → a = b) : ∀ {l m : List α}, l.map f = m.map f → l = m
  | [], [], _ => rfl
  | a :: l, b :: m, e => by
    rw [List.map_cons, List.map_cons] at e
    injection e with e1 e2
    rw [h a b e1, map_inj h e2]
theorem Ct.key_inj {c d : Ct} (h : c.key = d.key) : c = d := by
  cases c <;> cases d <;> (unfold Ct.key at h; injection h with h)
  · injection h with _ h
    injection h with h _
    injection h with h
    rw [map_inj (fun a b e => by injection e) h]
  · injection h with h _
    injection h with h
    exact absurd h wv_lt
  · injection h with h _
    injection h with h
    exact absurd h wv_lv
  · injection h with h _
    injection h with h
    exact absurd h wv_lt.symm
  · injection h with _ h
    injection h with h _
    injection h with h
    rw [map_inj (fun a b e => by
      injection e with e
      injection e with e1 e
      injection e1 with e1
      injection e with e2 _
      injection e2 with e2
      exact Prod.ext e1 e2) h]
  · injection h with h _
    injection h with h
    exact absurd h wv_tv
  · injection h with h _
    injection h with h
    exact absurd h wv_lv.symm
  · injection h with h _
    injection h with h
    exact absurd h wv_tv.symm
  · injection h with _ h
    injection h with h1 h
    injection h1 with h1
    injection h with h2 h
    injection h2 with h2
    injection h with h3 _
    injection h3 with h3
    rw [map_inj (fun a b e => by injection e) h1, h2, h3]
/-! ### what a book takes -/
/-- the greatest, nought if there is none -/
def dmax : List Int → Int
  | [] => 0
  | x :: xs => xs.foldl max x
def depOf (ds : List Int) : Ct → Int
  | .tree es => 1 + dmax (es.map fun e => ds.getD e.2.toNat 0)
  | _ => 0
def deps (cs : List Ct) : List Int := cs.foldl (fun ds c => ds ++ [depOf ds c]) []
theorem deps_snoc (cs : List Ct) (c : Ct) : deps (cs ++ [c]) = deps cs ++ [depOf (deps cs) c] := by
  unfold deps
  rw [List.foldl_append]
  rfl
theorem deps_len : ∀ (cs : List Ct), (deps cs).length = cs.length := by
  have : ∀ (cs : List Ct) (ds : List Int), (cs.foldl (fun ds c => ds ++ [depOf ds c]) ds).length = ds.length + cs.length := by
    intro cs
    induction cs with
    | nil => intro ds; rfl
    | cons c cs ih =>
      intro ds
      rw [List.foldl_cons, ih, List.length_append, List.length_singleton, List.length_cons]
      omega
  intro cs
  have h := this cs []
  rw [List.length_nil, Nat.zero_add] at h
  exact h
/-- a name of the book, of one of these kinds -/
def hasK (cs : List Ct) (ks : List Str) (i : Int) : Bool := decide (0 ≤ i) && (decide (i < cs.length) && ks.contains ((cs.getD i.toNat (.leaf [])).word))
def Ct.inB (cs : List Ct) : Ct → Bool
  | .leaf _ => true
  | .tree es => es.all (fun e => hasK cs ["leaf", "tree"] e.2) && decide (depOf (deps cs) (.tree es) ≤ 8)
  | .ver ps r _ => ps.all (hasK cs ["version"]) && hasK cs ["tree"] r
theorem hasK_mono {cs more : List Ct} {ks : List Str} {i : Int} (h : hasK cs ks i = true) : hasK (cs ++ more) ks i = true := by
  unfold hasK at *
  simp only [Bool.and_eq_true, decide_eq_true_eq] at *
  obtain ⟨h1, h2, h3⟩ := h
  refine ⟨h1, by rw [List.length_append]; omega, ?_⟩
  rw [List.getD_eq_getElem?_getD, List.getElem?_append_left (by omega), ← List.getD_eq_getElem?_getD]
  exact h3
theorem hasK_lt {cs : List Ct} {ks : List Str} {i : Int} (h : hasK cs ks i = true) : 0 ≤ i ∧ i.toNat < cs.length := by
  unfold hasK at h
  simp only [Bool.and_eq_true, decide_eq_true_eq] at h
  omega
theorem deps_pre : ∀ {more cs : List Ct}, ∃ r, deps (cs ++ more) = deps cs ++ r
  | [], cs => ⟨[], by simp⟩
  | c :: more, cs => by
    obtain ⟨r, hr⟩ := deps_pre (more := more) (cs := cs ++ [c])
    rw [List.append_assoc] at hr
    exact ⟨depOf (deps cs) c :: r, by rw [show cs ++ c :: more = cs ++ ([c] ++ more) from rfl, hr, deps_snoc]; simp⟩
theorem depOf_mono {cs more : List Ct} {es : List (Str × Int)} (h : es.all (fun e => hasK cs ["leaf", "tree"] e.2) = true) : depOf (deps (cs ++ more)) (.tree es) = depOf (deps cs) (.tree es) := by
  obtain ⟨r, hr⟩ := deps_pre (cs := cs) (more := more)
  show 1 + dmax (es.map fun e => (deps (cs ++ more)).getD e.2.toNat 0) = 1 + dmax (es.map fun e => (deps cs).getD e.2.toNat 0)
  rw [hr]
  congr 2
  refine List.map_congr_left fun e he => ?_
  have hl := hasK_lt (List.all_eq_true.mp h e he)
  rw [List.getD_eq_getElem?_getD, List.getD_eq_getElem?_getD, List.getElem?_append_left (by rw [deps_len]; omega)]
theorem Ct.inB_mono {cs more : List Ct} {c : Ct} (h : c.inB cs = true) : c.inB (cs ++ more) = true := by
  cases c with
  | leaf rows => rfl
  | tree es =>
    unfold Ct.inB at *
    rw [Bool.and_eq_true] at *
    refine ⟨List.all_eq_true.mpr fun e he => hasK_mono (List.all_eq_true.mp h.1 e he), ?_⟩
    rw [depOf_mono h.1]
    exact h.2
  | ver ps r s =>
    unfold Ct.inB at *
    rw [Bool.and_eq_true] at *
    exact ⟨List.all_eq_true.mpr fun e he => hasK_mono (List.all_eq_true.mp h.1 e he), hasK_mono h.2⟩
/-! ### as they stand in the heap -/
def CtAt (H : Hp) (a : Addr) : Ct → Prop
  | .leaf rows => ∃ r, H a = some (.tup [.str "leaf", .ref r]) ∧ H r = some (.tup (rows.map V.str))
  | .tree es => ∃ (r : Addr) (as : List Addr), H a = some (.tup [.str "tree", .ref r]) ∧ H r = some (.tup (as.map V.ref)) ∧ as.length = es.length ∧ ∀ (i : Nat) (b : Addr) (e : Str × Int), as[i]? = some b → es[i]? = some e → H b = some (.tup [.str e.1, .int e.2])
  | .ver ps root stamp => ∃ r, H a = some (.tup [.str "version", .ref r, .int root, .int stamp]) ∧ H r = some (.tup (ps.map V.int))
theorem CtAt.mono {H H' : Hp} {a : Addr} {c : Ct} (h : CtAt H a c) (m : TM H H') : CtAt H' a c := by
  cases c with
  | leaf rows =>
    obtain ⟨r, h1, h2⟩ := h
    exact ⟨r, m _ _ h1, m _ _ h2⟩
  | tree es =>
    obtain ⟨r, as, h1, h2, h3, h4⟩ := h
    exact ⟨r, as, m _ _ h1, m _ _ h2, h3, fun i b e x y => m _ _ (h4 i b e x y)⟩
  | ver ps r s =>
    obtain ⟨r, h1, h2⟩ := h
    exact ⟨r, m _ _ h1, m _ _ h2⟩
theorem nkeys_strs {H : Hp} : ∀ rows : List Str, NKeys H (rows.map NestedKey.text) (rows.map V.str)
  | [] => .nil
  | z :: rows => .cons (.str z) (nkeys_strs rows)
theorem nkeys_ints {H : Hp} : ∀ ns : List Int, NKeys H (ns.map NestedKey.num) (ns.map V.int)
  | [] => .nil
  | z :: ns => .cons (.int z) (nkeys_ints ns)
theorem nkeys_ents {H : Hp} : ∀ (as : List Addr) (es : List (Str × Int)), as.length = es.length → (∀ (i : Nat) (b : Addr) (e : Str × Int), as[i]? = some b → es[i]? = some e → H b = some (.tup [.str e.1, .int e.2])) →
    NKeys H (es.map fun e => NestedKey.tup [.text e.1, .num e.2]) (as.map V.ref)
  | [], [], _, _ => .nil
  | [], _ :: _, h, _ => by simp at h
  | _ :: _, [], h, _ => by simp at h
  | a :: as, e :: es, h, f => .cons (.tup (f 0 a e rfl rfl) (.cons (.str _) (.cons (.int _) .nil))) (nkeys_ents as es (by simpa using h) fun i b e' h1 h2 => f (i + 1) b e' (by simpa using h1) (by simpa using h2))
theorem CtAt.nkey {H : Hp} {a : Addr} {c : Ct} (h : CtAt H a c) : NKey H c.key (.ref a) := by
  cases c with
  | leaf rows =>
    obtain ⟨r, h1, h2⟩ := h
    exact .tup h1 (.cons (.str _) (.cons (.tup h2 (nkeys_strs rows)) .nil))
  | tree es =>
    obtain ⟨r, as, h1, h2, h3, h4⟩ := h
    exact .tup h1 (.cons (.str _) (.cons (.tup h2 (nkeys_ents as es h3 h4)) .nil))
  | ver ps r s =>
    obtain ⟨r, h1, h2⟩ := h
    exact .tup h1 (.cons (.str _) (.cons (.tup h2 (nkeys_ints ps)) (.cons (.int _) (.cons (.int _) .nil))))
theorem depthAll_flat {f : α → NestedKey} (h : ∀ a, (f a).depth ≤ 1) : ∀ l : List α, NestedKey.depthAll (l.map f) ≤ 1
  | [] => Nat.zero_le _
  | a :: l => by
    have h1 := h a
    have h2 := depthAll_flat h l
    rw [List.map_cons, NestedKey.depthAll]
    omega
theorem Ct.depth (c : Ct) : c.key.depth ≤ 8 := by
  have t : ∀ z : Str, (NestedKey.text z).depth ≤ 1 := fun z => by simp [NestedKey.depth]
  have n : ∀ z : Int, (NestedKey.num z).depth ≤ 1 := fun z => by simp [NestedKey.depth]
  cases c with
  | leaf rows =>
    have := depthAll_flat t rows
    simp only [Ct.key, NestedKey.depth, NestedKey.depthAll]
    omega
  | tree es =>
    have := depthAll_flat (f := fun e : Str × Int => NestedKey.tup [.text e.1, .num e.2]) (fun e => by simp [NestedKey.depth, NestedKey.depthAll]) es
    simp only [Ct.key, NestedKey.depth, NestedKey.depthAll]
    omega
  | ver ps r s =>
    have := depthAll_flat n ps
    simp only [Ct.key, NestedKey.depth, NestedKey.depthAll]
    omega
/-- the contents at these addresses -/
def CsAt (H : Hp) (as : List Addr) (cs : List Ct) : Prop := as.length = cs.length ∧ ∀ (i : Nat) (a : Addr) (c : Ct), as[i]? = some a → cs[i]? = some c → CtAt H a c
theorem CsAt.mono {H H' : Hp} {as : List Addr} {cs : List Ct} (h : CsAt H as cs) (m : TM H H') : CsAt H' as cs := ⟨h.1, fun i a c h1 h2 => (h.2 i a c h1 h2).mono m⟩
theorem CsAt.nil {H : Hp} : CsAt H [] [] := ⟨rfl, fun i a p h => by cases h⟩
theorem CsAt.snoc {H : Hp} {as : List Addr} {cs : List Ct} {T : Addr} {c : Ct} (h : CsAt H as cs) (hT : CtAt H T c) : CsAt H (as ++ [T]) (cs ++ [c]) := by
  refine ⟨by rw [List.length_append, List.length_append, h.1]; rfl, fun i a m h1 h2 => ?_⟩
  by_cases hi : i < as.length
  · rw [List.getElem?_append_left hi] at h1
    rw [List.getElem?_append_left (by rw [← h.1]; exact hi)] at h2
    exact h.2 i a m h1 h2
  · have hi2 : i < (as ++ [T]).length := (List.getElem?_eq_some_iff.mp h1).1
    rw [List.length_append, List.length_singleton] at hi2
    have e : i = as.length := by omega
    rw [List.getElem?_append_right (by omega), e, Nat.sub_self] at h1
    rw [List.getElem?_append_right (by rw [← h.1]; omega), e, h.1, Nat.sub_self] at h2
    cases Option.some.inj h1
    cases Option.some.inj h2
    exact hT
theorem CsAt.get {H : Hp} {as : List Addr} {cs : List Ct} (h : CsAt H as cs) {i : Nat} {c : Ct} (hc : cs[i]? = some c) : ∃ a, as[i]? = some a ∧ CtAt H a c := by
  have hi := (List.getElem?_eq_some_iff.mp hc).1
  have : i < as.length := by rw [h.1]; exact hi
  exact ⟨as[i], List.getElem?_eq_getElem this, h.2 i _ _ (List.getElem?_eq_getElem this) hc⟩
/-- a book's entries -/
def ents : Nat → List Ct → List Addr → List NEnt
  | n, c :: cs, a :: as => (c.key, a, .int (n : Int)) :: ents (n + 1) cs as
  | _, _, _ => []
theorem ents_snoc : ∀ (n : Nat) (cs : List Ct) (as : List Addr) (c : Ct) (a : Addr), as.length = cs.length → ents n (cs ++ [c]) (as ++ [a]) = ents n cs as ++ [(c.key, a, .int ((n + cs.length : Nat) : Int))]
  | n, [], [], c, a, _ => rfl
  | n, [], _ :: _, _, _, h => by simp at h
  | n, _ :: _, [], _, _, h => by simp at h
  | n, d :: cs, b :: as, c, a, h => by
    have := ents_snoc (n + 1) cs as c a (by simpa using h)
    rw [List.cons_append, List.cons_append, ents, this, ents, List.cons_append, List.length_cons]
    rw [show n + 1 + cs.length = n + (cs.length + 1) from by omega]
theorem ents_len : ∀ (n : Nat) (cs : List Ct) (as : List Addr), (ents n cs as).length ≤ cs.length
  | _, [], _ => Nat.zero_le _
  | _, _ :: _, [] => Nat.zero_le _
  | n, _ :: cs, _ :: as => by
    have := ents_len (n + 1) cs as
    rw [ents, List.length_cons, List.length_cons]
    omega
theorem nAt_pos {p : NEnt} {r : List NEnt} {k : NestedKey} (e : p.1 = k) : nAt (p :: r) k = some p.2.2 := by simp [nAt, List.find?_cons, e]
theorem nAt_neg {p : NEnt} {r : List NEnt} {k : NestedKey} (e : ¬ p.1 = k) : nAt (p :: r) k = nAt r k := by simp [nAt, List.find?_cons, e]
theorem ents_none : ∀ (n : Nat) (cs : List Ct) (as : List Addr) {c : Ct}, c ∉ cs → nAt (ents n cs as) c.key = none
  | _, [], _, _, _ => rfl
  | _, _ :: _, [], _, _ => rfl
  | n, d :: cs, a :: as, c, h => by
    rw [ents, nAt_neg fun e => h (by rw [Ct.key_inj e]; exact List.mem_cons_self ..)]
    exact ents_none (n + 1) cs as fun z => h (List.mem_cons_of_mem _ z)
theorem ents_some : ∀ (n : Nat) (cs : List Ct) (as : List Addr) {i : Nat} {c : Ct}, as.length = cs.length → cs.Nodup → cs[i]? = some c → nAt (ents n cs as) c.key = some (.int ((n + i : Nat) : Int))
  | _, [], _, _, _, _, _, h => by simp at h
  | _, _ :: _, [], _, _, h, _, _ => by simp at h
  | n, d :: cs, a :: as, i, c, hl, nd, h => by
    rw [List.nodup_cons] at nd
    cases i with
    | zero =>
      simp at h
      subst h
      rw [ents, nAt_pos rfl]
      rfl
    | succ i =>
      simp at h
      rw [ents, nAt_neg fun e => nd.1 (by rw [Ct.key_inj e]; exact List.mem_of_getElem? h), ents_some (n + 1) cs as (by simpa using hl) nd.2 h, show n + 1 + i = n + (i + 1) from by omega]
theorem ents_keys {H : Hp} : ∀ (n : Nat) (cs : List Ct) (as : List Addr), CsAt H as cs → NKs H (ents n cs as)
  | _, [], _, _ => fun x hx => nomatch hx
  | _, _ :: _, [], _ => fun x hx => nomatch hx
  | n, c :: cs, a :: as, h => fun x hx => by
    rw [ents] at hx
    rcases List.mem_cons.mp hx with rfl | hx
    · exact ⟨(h.2 0 a c rfl rfl).nkey, c.depth⟩
    · exact ents_keys (n + 1) cs as ⟨by simpa using h.1, fun i b d h1 h2 => h.2 (i + 1) b d (by simpa using h1) (by simpa using h2)⟩ x hx
/-! ### the book -/
/-- what the class Book must have -/
structure BkC (K : PySem.W.Frag) : Prop where
  cl : Cls K (He.ga K "Book")
  n1 : NoAttr K (He.ga K "Book") "contents"
  n2 : NoAttr K (He.ga K "Book") "depths"
  n3 : NoAttr K (He.ga K "Book") "given"
structure BkA where
  B : Addr
  L : Addr
  E : Addr
  G : Addr
/-- the book's object -/
def BO (K : PySem.W.Frag) (H : Hp) (b : BkA) : Prop := ∃ (dx : Addr) (fs : List (Str × V)), H b.B = some (.ins (He.ga K "Book") dx fs) ∧ fs.lookup ("contents" : Str) = some (.ref b.L) ∧ fs.lookup ("depths" : Str) = some (.ref b.E) ∧ fs.lookup ("given" : Str) = some (.ref b.G) ∧
  ∀ m ∈ (["named", "name_of", "thing", "kind", "parts", "parents", "root", "stamp", "entries", "leaf_rows", "is_name", "is_version", "is_content", "has_kinds", "depth", "give_next"] : List Str), fs.lookup m = none
structure BkAt [HasW] (K : PySem.W.Frag) (H : Hp) (b : BkA) (cs : List Ct) (as : List Addr) : Prop where
  bc : BkC K
  bo : BO K H b
  hL : H b.L = some (.lst (as.map V.ref))
  hE : H b.E = some (.lst ((deps cs).map V.int))
  hG : H b.G = some (ND b.G (ents 0 cs as))
  at_ : CsAt H as cs
  nd : cs.Nodup
  few : cs.length ≤ 400
  ok : ∀ c ∈ cs, c.form ∧ c.inB cs = true
  ne : b.L ≠ b.E
/-- all but the book's three stands -/
def Kb (b : BkA) (H H' : Hp) : Prop := ∀ a o, H a = some o → a ≠ b.L → a ≠ b.E → a ≠ b.G → H' a = some o
theorem Kb.refl {b : BkA} {H : Hp} : Kb b H H := fun _ _ h _ _ _ => h
theorem Kb.trans {b : BkA} {H H1 H2 : Hp} (x : Kb b H H1) (y : Kb b H1 H2) : Kb b H H2 := fun a o h h1 h2 h3 => y a o (x a o h h1 h2 h3) h1 h2 h3
theorem Kb.same {b : BkA} {H H' : Hp} (s : Same H H') : Kb b H H' := fun a o h _ _ _ => s a o h
theorem Kb.up {b : BkA} {H H' : Hp} {q : Addr} {o : HO} (k : Kb b H H') (h : q = b.L ∨ q = b.E ∨ q = b.G) : Kb b H (upd H' q o) := fun a u e h1 h2 h3 => updN (by rcases h with rfl | rfl | rfl; exact h1; exact h2; exact h3) (k a u e h1 h2 h3)
section
variable [HasW] {K : PySem.W.Frag} {H H' : Hp} {b : BkA} {cs : List Ct} {as : List Addr}
theorem nd_ne_lst {a : Addr} {xs : List NEnt} {ys : List V} : ND a xs ≠ .lst ys := fun h => by unfold ND at h; cases h
theorem nd_ne_tup {a : Addr} {xs : List NEnt} {ys : List V} : ND a xs ≠ .tup ys := fun h => by unfold ND at h; cases h
theorem nd_ne_ins {a : Addr} {xs : List NEnt} {C d : Addr} {fs : List (Str × V)} : ND a xs ≠ .ins C d fs := fun h => by unfold ND at h; cases h
theorem BkAt.neG (k : BkAt K H b cs as) : b.L ≠ b.G ∧ b.E ≠ b.G := ⟨ne_of k.hL k.hG fun h => nd_ne_lst h.symm, ne_of k.hE k.hG fun h => nd_ne_lst h.symm⟩
theorem BkAt.tup (k : BkAt K H b cs as) (x : Kb b H H') : TM H H' := fun a xs h => x a _ h (ne_of h k.hL fun z => by cases z) (ne_of h k.hE fun z => by cases z) (ne_of h k.hG fun z => nd_ne_tup z.symm)
theorem BkAt.boK (k : BkAt K H b cs as) (x : Kb b H H') : BO K H' b := by
  obtain ⟨dx, fs, h, r⟩ := k.bo
  exact ⟨dx, fs, x _ _ h (ne_of h k.hL fun z => by cases z) (ne_of h k.hE fun z => by cases z) (ne_of h k.hG fun z => nd_ne_ins z.symm), r⟩
theorem BkAt.keep (k : BkAt K H b cs as) (x : Kb b H H') (eL : H' b.L = H b.L) (eE : H' b.E = H b.E) (eG : H' b.G = H b.G) : BkAt K H' b cs as :=
  ⟨k.bc, k.boK x, by rw [eL]; exact k.hL, by rw [eE]; exact k.hE, by rw [eG]; exact k.hG, k.at_.mono (k.tup x), k.nd, k.few, k.ok, k.ne⟩
theorem BkAt.same (k : BkAt K H b cs as) (s : Same H H') : BkAt K H' b cs as := k.keep (.same s) (by rw [k.hL, s _ _ k.hL]) (by rw [k.hE, s _ _ k.hE]) (by rw [k.hG, s _ _ k.hG])
/-- what changes elsewhere -/
theorem BkAt.kp {D : Addr} (k : BkAt K H b cs as) (x : Kp D H H') (h1 : D ≠ b.B) (h2 : D ≠ b.L) (h3 : D ≠ b.E) (h4 : D ≠ b.G) (ht : TM H H') : BkAt K H' b cs as := by
  obtain ⟨dx, fs, hB, r⟩ := k.bo
  exact ⟨k.bc, ⟨dx, fs, x _ _ hB h1.symm, r⟩, x _ _ k.hL h2.symm, x _ _ k.hE h3.symm, x _ _ k.hG h4.symm, k.at_.mono ht, k.nd, k.few, k.ok, k.ne⟩
variable {Q : VK} {σ : L2.St} {i : Nat}
theorem BkAt.fL (k : BkAt K H b cs as) (e : σ[i]? = some (some (.ref b.B))) (q : Q (.ref b.L) H) : tFld K (tVar i) "contents" σ H Q := by
  obtain ⟨dx, fs, hx, h1, h2, h3, h4⟩ := k.bo
  exact ⟨_, e, b.B, _, dx, fs, _, rfl, hx, k.bc.cl, k.bc.n1, h1, q⟩
theorem BkAt.fE (k : BkAt K H b cs as) (e : σ[i]? = some (some (.ref b.B))) (q : Q (.ref b.E) H) : tFld K (tVar i) "depths" σ H Q := by
  obtain ⟨dx, fs, hx, h1, h2, h3, h4⟩ := k.bo
  exact ⟨_, e, b.B, _, dx, fs, _, rfl, hx, k.bc.cl, k.bc.n2, h2, q⟩
theorem BkAt.fG (k : BkAt K H b cs as) (e : σ[i]? = some (some (.ref b.B))) (q : Q (.ref b.G) H) : tFld K (tVar i) "given" σ H Q := by
  obtain ⟨dx, fs, hx, h1, h2, h3, h4⟩ := k.bo
  exact ⟨_, e, b.B, _, dx, fs, _, rfl, hx, k.bc.cl, k.bc.n3, h3, q⟩
/-- a method called on the book -/
theorem BkAt.me {m : Str} {sp : Sp} {E : XK} {ta : TA} (k : BkAt K H b cs as) (hm : m ∈ (["named", "name_of", "thing", "kind", "parts", "parents", "root", "stamp", "entries", "leaf_rows", "is_name", "is_version", "is_content", "has_kinds", "depth", "give_next"] : List Str)) (e : σ[i]? = some (some (.ref b.B))) (q : ta σ H fun vs H2 => sp (.ref b.B :: (vs ++ [])) H2 Q E) : tMeth (He.ga K "Book") m sp [] E (tVar i) ta σ H Q := by
  obtain ⟨dx, fs, hx, h1, h2, h3, h4⟩ := k.bo
  exact ⟨_, e, b.B, dx, fs, rfl, hx, h4 m hm, q⟩
end
end Fw

set_option Elab.async false
set_option linter.all false
set_option maxRecDepth 100000
set_option maxHeartbeats 4000000
namespace Fw
open PySem PySem.Spec PyProof.Rows L2 PySem.W.Datum PySem.W
/-- a walk over a list or a tuple -/
def iOr (w1 w2 : TI) : TI := fun σ H R => w1 σ H R ∨ w2 σ H R
theorem pi_or {X : Cx} {tg e : Expr} {w1 w2 : TI} (h1 : PI X tg e w1) (h2 : PI X tg e w2) : PI X tg e (iOr w1 w2) := ⟨fun pins s σ H R I h => h.elim (h1.run pins s σ H R I) (h2.run pins s σ H R I)⟩
/-- str(i) -/
def rStrI : List V → Hp → VK → Prop := fun xs H Q => ∃ i, xs = [.int i] ∧ i.natAbs.log2 < 1920 ∧ Q (.str (toString i)) H
/-- max(l, default=d) of ints -/
def maxD (d : Int) : List Int → Int
  | [] => d
  | x :: xs => xs.foldl max x
def rMaxD0 (K : PySem.W.Frag) : List V → List V → Hp → VK → Prop := fun vs zs H Q => ∃ (a : Addr) (ns : List Int) (d : Int), vs = [.ref a] ∧ zs = [.int d] ∧ SqL K H a (ns.map V.int) ∧ Q (.int (maxD d ns)) H
theorem maxOf_fold : ∀ (xs : List Int) (x : Int), maxOf x xs = xs.foldl max x
  | [], x => rfl
  | z :: xs, x => by
    have e : maxOf x (z :: xs) = maxOf (if DatumOrd.lt x z = true then z else x) xs := rfl
    rw [e, List.foldl_cons]
    by_cases h : x < z
    · rw [if_pos (show DatumOrd.lt x z = true from decide_eq_true h), maxOf_fold xs z, show max x z = z from Int.max_eq_right (Int.le_of_lt h)]
    · rw [if_neg (show ¬ DatumOrd.lt x z = true from fun q => h (of_decide_eq_true q)), maxOf_fold xs x, show max x z = x from Int.max_eq_left (Int.not_lt.mp h)]
theorem dp_intsD {K : PySem.W.Frag} {H : Hp} : ∀ ns : List Int, DpAll K H (ns.map V.int) (ns.map PyData.int)
  | [] => .nil
  | n :: ns => .cons (.int n) (dp_intsD ns)
theorem cr_maxD0 {X : Cx} (hc : X.calm = true) (hu : X.A.units + 64 < cLine) : CallRK X (.builtin "max") [Str.ofString "default"] (rMaxD0 X.K) := by
  intro pins s σ H xs zs us ws Q I r rz q
  obtain ⟨a, ns, d, rfl, rfl, hs, q⟩ := q
  obtain ⟨its, rv, hl, hz⟩ := I.list hs
  rw [Vals.ref1 r]
  obtain ⟨w1, rfl, e1⟩ := Vals.one rz
  obtain ⟨t1, rfl⟩ : ∃ t, w1 = Value.int d t := e1
  obtain ⟨as, rd⟩ := Dp.readsAll I _ _ its (dp_intsD ns) rv
  refine max_list_datum_default (α := Int) (xs := ns) (I.ok.hd hc) hl.isList ⟨as, rd⟩ (by show X.A.units + 1 + 0 < cLine; omega) (fun e h' tk hk => ?_) fun y ys i v h' tk e hi hold hk => ?_
  · subst e
    exact ⟨.int d, H, I.kept hk, ⟨_, rfl⟩, q⟩
  · subst e
    obtain ⟨bs, rd2⟩ := hold
    have rd2 : Reads h' v (.int (maxOf y ys)) bs := rd2
    rw [maxOf_fold] at rd2
    cases rd2 with
    | int _ t => exact ⟨.int _, H, I.kept hk, ⟨_, rfl⟩, q⟩
end Fw

set_option Elab.async false
set_option linter.all false
set_option maxRecDepth 100000
set_option maxHeartbeats 4000000
/-! sorted(d.items()), d a dict of ints by texts. -/
namespace Fw
open PySem PySem.Spec PyProof.Rows L2
abbrev LabE := Addr × Str × Int
def encI (z : LabE) : PyData := .tuple [.str z.2.1, .int z.2.2]
def leI (a b : LabE) : Bool := if a.2.1 = b.2.1 then decide (a.2.2 ≤ b.2.2) else decide (a.2.1.cps.toList ≤ b.2.1.cps.toList)
theorem str_ext {x y : Str} (h : x.cps.toList = y.cps.toList) : x = y := by
  obtain ⟨⟨x⟩⟩ := x
  obtain ⟨⟨y⟩⟩ := y
  have : x = y := h
  rw [this]
theorem leI_eq : PySem.W.dataLe false encI = leI := by
  funext a b
  show (!PySem.W.dataLt (encI b) (encI a)) = _
  unfold encI leI
  rw [PySem.W.dataLt_pair rfl rfl]
  by_cases h : a.2.1 = b.2.1
  · rw [if_pos h, h, if_pos (by show decide (b.2.1 = b.2.1) = true; exact decide_eq_true rfl)]
    by_cases h2 : b.2.2 = a.2.2
    · rw [if_pos (by show decide (b.2.2 = a.2.2) = true; exact decide_eq_true h2), h2]
      simp
    · rw [if_neg (by show ¬ decide (b.2.2 = a.2.2) = true; simpa using h2), PySem.W.dataLt_int]
      by_cases h3 : b.2.2 < a.2.2
      · rw [decide_eq_true h3, decide_eq_false (by omega)]
        rfl
      · rw [decide_eq_false h3, decide_eq_true (by omega)]
        rfl
  · rw [if_neg h, if_neg (by show ¬ decide (b.2.1 = a.2.1) = true; simpa using fun z => h z.symm), PySem.W.dataLt_str, PySem.W.not_lt_str]
theorem le_antisymm_l {x y : List Nat} (a : x ≤ y) (b : y ≤ x) : x = y := by
  rcases Classical.em (x = y) with h | h
  · exact h
  · exact List.le_antisymm a b
theorem leI_total : PySem.W.TotalLe leI where
  trans := fun a b c h1 h2 => by
    unfold leI at *
    by_cases x : a.2.1 = b.2.1
    · rw [if_pos x] at h1
      by_cases y : b.2.1 = c.2.1
      · rw [if_pos y] at h2
        rw [if_pos (x.trans y)]
        simp only [decide_eq_true_eq] at *
        omega
      · rw [if_neg y] at h2
        rw [if_neg (fun z => y (x.symm.trans z)), x]
        exact h2
    · rw [if_neg x] at h1
      by_cases y : b.2.1 = c.2.1
      · rw [← y, if_neg x]
        exact h1
      · rw [if_neg y] at h2
        simp only [decide_eq_true_eq] at h1 h2
        have h3 := List.le_trans h1 h2
        by_cases z : a.2.1 = c.2.1
        · exfalso
          rw [z] at h1
          exact y (str_ext (le_antisymm_l h2 h1))
        · rw [if_neg z]
          exact decide_eq_true h3
  total := fun a b => by
    unfold leI
    by_cases x : a.2.1 = b.2.1
    · rw [if_pos x, if_pos x.symm]
      simp only [decide_eq_true_eq]
      omega
    · rw [if_neg x, if_neg fun z => x z.symm]
      simp only [decide_eq_true_eq]
      exact List.le_total _ _
abbrev labK (e : Str × Int) : Key × V := (Sum.inr e.1, V.int e.2)
theorem lab_entries {P : Program} {w : World} : ∀ {ks : List (Str × Int)} {vs : List (Key × Value)} {es : List DictEntry}, KV (ks.map labK) vs → Pairs (mixKind P w) es vs → es.length = ks.length ∧ ∀ (j : Nat) (e : DictEntry), es[j]? = some e → ∃ k, ks[j]? = some k ∧ ∃ t t', e.key = Value.str k.1 t ∧ e.val = Value.int k.2 t'
  | [], _, _, .nil, .nil => ⟨rfl, fun j e h => by simp at h⟩
  | k :: ks, _, _, .cons r rs, .cons (e := e) hk hv ps => by
    obtain ⟨h1, h2⟩ := lab_entries rs ps
    refine ⟨by rw [List.length_cons, List.length_cons, h1], fun j x hx => ?_⟩
    cases j with
    | succ j =>
      simp at hx
      obtain ⟨q, h3, h4⟩ := h2 j x hx
      exact ⟨q, by simpa using h3, h4⟩
    | zero =>
      simp at hx
      subst hx
      refine ⟨k, rfl, ?_⟩
      obtain ⟨r1, r2⟩ := r
      rw [← r1] at hk
      obtain ⟨t', e2⟩ : ∃ t', _ = Value.int k.2 t' := r2
      rcases keyIs_shape (show keyIs (Sum.inr k.1) e.key = true from hk) with ⟨i, t, ek, ev⟩ | ⟨z, t, ek, ev⟩
      · cases ek
      · cases ek
        exact ⟨t, t', ev, hv.trans e2⟩
def rItemsD : V → List V → Hp → VK → Prop := fun x xs H Q => ∃ (a : Addr) (kvs : List (Key × V)), x = .ref a ∧ xs = [] ∧ H a = some (.dK kvs) ∧ ∀ p, H p = none → Q (.ref p) (upd H p (L2.DX.itemsO p a))
theorem mt_itemsD {X : Cx} : MtM X "dict.items" rItemsD := by
  intro pins s σ H x xs v us Q I rx rxs h
  obtain ⟨a, kvs, rfl, rfl, ha, q⟩ := h
  cases rx
  cases rxs
  obtain ⟨z, hd, vs, rel, o, es, ep, ho, hx, hdat, _⟩ := dk_of I.hok ha
  refine DT.callItems (es := es) (ep := ep) hd ⟨o, ho, hx, hdat⟩ ?_
  have hf : H s.heap.objs.size = none := I.hok.fresh (Nat.le_refl _)
  exact ⟨.ref s.heap.objs.size, upd H s.heap.objs.size (L2.DX.itemsO s.heap.objs.size a), I.laid (t' := s.toks) (fun b u e => Heap.get?_push_of_some _ e) (Nat.le_refl _) (L2.DX.itemsO_ok (Heap.get?_push_size _ rfl)), rfl, q _ hf⟩
def rSortItD : List V → Hp → VK → Prop := fun vs H Q => ∃ (p a : Addr) (ks : List (Str × Int)), vs = [.ref p] ∧ H p = some (L2.DX.itemsO p a) ∧ H a = some (.dK (ks.map labK)) ∧ ks.length ≤ 1000 ∧
  ∀ (H' : Hp) (l : Addr) (ps : List LabE), Same H H' → H l = none → (ps.map (·.2)).Perm ks → ps.Pairwise (fun e f => e.2.1.cps.toList < f.2.1.cps.toList) → H' l = some (.lst (ps.map fun z => V.ref z.1)) →
    (∀ z ∈ ps, H z.1 = none ∧ H' z.1 = some (.tup [.str z.2.1, .int z.2.2])) → Q (.ref l) H'
theorem cr_sortedItD {X : Cx} (hc : X.calm = true) (hu : X.A.units + 64 < cLine) : CallR X (.builtin "sorted") rSortItD := by
  intro pins s σ H xs us Q I r h
  obtain ⟨p, a, ks, rfl, hp, ha, few, q⟩ := h
  obtain rfl := Vals.ref1 r
  have view : s.heap.IsItemsView p a := (show ObjOk X.prog X.w H s.heap p (L2.DX.itemsO p a) from I.hok p _ hp).1
  obtain ⟨z, hd, vs, rel, o, es, ep, ho, hx, hdat, _, prs, hn⟩ := dk_of I.hok ha
  obtain ⟨l0, ent⟩ := lab_entries rel prs
  have l2 : es.size = ks.length := by rw [← Array.length_toList]; exact l0
  have hnd : (ks.map (·.1)).Nodup := by
    have e : (ks.map labK).map (·.1) = vs.map (·.1) := rel.keys
    rw [← e, List.map_map] at hn
    have : (Prod.fst ∘ labK) = (fun x : Str => (Sum.inr x : Key)) ∘ (Prod.fst : Str × Int → Str) := rfl
    rw [this, ← List.map_map] at hn
    exact List.Pairwise.of_map _ (fun a b h e => h (by rw [e])) hn
  have hh : X.A.handled = none := I.ok.hd hc
  refine DT.sortedI (es := es) (ep := ep) hh view ⟨o, ho, hx, hdat⟩ (by rw [sizeLine_eq]; omega) fun h' tk as hk hlt hl hG => ?_
  have lak : as.length = ks.length := by omega
  have nd : as.Nodup := List.Pairwise.imp (fun h => Nat.ne_of_lt h) hG.rise
  have pr : ∀ (j : Nat) (b : Addr), as[j]? = some b → ∃ (e : Str × Int) (t t' : Tok), ks[j]? = some e ∧ h'.get? b = some { cls := .type "tuple", data := .seq #[Value.str e.1 t, Value.int e.2 t'] } := by
    intro j b hj
    obtain ⟨en, he, hg⟩ := hG.pairs j b hj
    obtain ⟨k, h1, t, t', h2, h3⟩ := ent j en (by rw [Array.getElem?_toList]; exact he)
    refine ⟨k, t, t', h1, ?_⟩
    rw [hg, h2, h3]
  have hob : (h'.push { cls := .type "list", data := .seq (as.map Value.ref).toArray }).get? h'.objs.size = some (seqObj "list" (as.map Value.ref).toArray 0) := Heap.get?_push_size _ rfl
  have kb : ∀ b o, s.heap.get? b = some o → (h'.push { cls := .type "list", data := .seq (as.map Value.ref).toArray }).get? b = some o := fun b o e => Heap.get?_push_of_some _ (hk b o e)
  have ne0 : ∀ b o, h'.get? b = some o → b ≠ h'.objs.size := fun b o e => Nat.ne_of_lt (Heap.lt_size e)
  generalize hh2 : h'.push { cls := .type "list", data := .seq (as.map Value.ref).toArray } = h2 at hob kb ⊢
  have ka : ∀ b o, h'.get? b = some o → h2.get? b = some o := fun b o e => by rw [← hh2]; exact Heap.get?_push_of_some _ e
  let zs : List LabE := as.zip ks
  have hz1 : zs.map (fun z => Value.ref z.1) = as.map Value.ref := by
    show (as.zip ks).map (Value.ref ∘ Prod.fst) = _
    rw [← List.map_map, List.map_fst_zip (by omega)]
  have hz2 : zs.map (·.2) = ks := List.map_snd_zip (by omega)
  have idx : ∀ z ∈ zs, ∃ j : Nat, as[j]? = some z.1 ∧ ks[j]? = some z.2 := by
    intro z' hz'
    obtain ⟨j, hj⟩ := List.mem_iff_getElem?.mp hz'
    exact ⟨j, List.getElem?_zip_eq_some.mp hj⟩
  have eachOf : ∀ {R : Value → LabE → Prop} (l : List LabE), (∀ z ∈ l, R (Value.ref z.1) z) → PySem.W.EachIs R (l.map fun z => Value.ref z.1) l := by
    intro R l
    induction l with
    | nil => intro _; exact .nil
    | cons z l ih => intro h; exact .cons (h z List.mem_cons_self) (ih fun z hz => h z (List.mem_cons_of_mem _ hz))
  have e1 : PySem.W.EachIs (fun (v : Value) (z : LabE) => v = Value.ref z.1 ∧ z ∈ zs) (as.map Value.ref) zs := by
    rw [← hz1]
    exact eachOf zs fun z hz => ⟨rfl, hz⟩
  have e2 : PySem.W.EachIs (fun v z => ∃ ws, Reads h2 v (encI z) ws ∧ h'.objs.size ∉ ws) (as.map Value.ref) zs := by
    rw [← hz1]
    refine eachOf zs fun z hz => ?_
    obtain ⟨j, h1, h3⟩ := idx z hz
    obtain ⟨e, t, t', h4, h5⟩ := pr j _ h1
    obtain rfl : z.2 = e := Option.some.inj (h3.symm.trans h4)
    exact ⟨_, .tuple (ka _ _ h5) rfl rfl (.cons (.str _ t) (.cons (.int _ t') .nil)), by simp⟩
  refine PySem.W.list_sort_data (enc := encI) hob e1 e2 (PySem.W.AllAlike.of fun _ _ => rfl) (PySem.W.Sortable.tuples fun _ => ⟨_, _, rfl⟩) (by show (as.zip ks).length ≤ _; rw [List.length_zip, sizeLine_eq]; omega) (fun b _ => by
    show X.A.in1.units + 1 + _ < cLine
    rw [Around.in1_units]
    have : (encI b).depth = 1 := by simp [encI, PyData.depth, PyData.depthAll]
    omega) fun out _ hout => ?_
  rw [leI_eq] at hout
  have outs : out = (zs.mergeSort leI).map fun z => Value.ref z.1 := by
    have : ∀ {l : List Value} {m : List LabE}, PySem.W.EachIs (fun v z => v = Value.ref z.1 ∧ z ∈ zs) l m → l = m.map fun z => Value.ref z.1 := by
      intro l m q
      induction q with
      | nil => rfl
      | cons h _ ih => rw [List.map_cons, ← h.1, ← ih]
    exact this hout
  have pm : (zs.mergeSort leI).Perm zs := List.mergeSort_perm _ _
  have hsort : (zs.mergeSort leI).Pairwise fun e f => e.2.1.cps.toList < f.2.1.cps.toList := by
    have p1 := PySem.W.sort_pairwise leI_total zs
    have p2 : ((zs.mergeSort leI).map fun z => z.2.1).Nodup := by
      refine ((pm.map fun z => z.2.1).nodup_iff).mpr ?_
      have : zs.map (fun z => z.2.1) = ks.map (·.1) := by rw [← hz2, List.map_map]; rfl
      rw [this]
      exact hnd
    have p2 : (zs.mergeSort leI).Pairwise fun e f => e.2.1 ≠ f.2.1 := List.pairwise_map.mp p2
    refine List.Pairwise.imp₂ (fun e f h1 h2 => ?_) p1 p2
    unfold leI at h1
    rw [if_neg h2] at h1
    have h1 := of_decide_eq_true h1
    rcases Classical.em (e.2.1.cps.toList < f.2.1.cps.toList) with h | h
    · exact h
    · exact absurd (str_ext (le_antisymm_l h1 (List.not_lt.mp h))) h2
  subst outs
  generalize zs.mergeSort leI = ms at pm hsort
  have kF : ∀ b o, b ≠ h'.objs.size → h2.get? b = some o → (sortedHeap h2 h'.objs.size (as.map Value.ref) (ms.map fun z => Value.ref z.1).toArray).get? b = some o := fun b o hb e => (PyProof.Rows.sortedHeap_old hb (Heap.lt_size e)).trans e
  obtain ⟨eF, heF⟩ := PyProof.Rows.sortedHeap_at (vs := as.map Value.ref) (out := (ms.map fun z => Value.ref z.1).toArray) hob
  generalize sortedHeap h2 h'.objs.size (as.map Value.ref) (ms.map fun z => Value.ref z.1).toArray = h3 at kF heF
  have kS : ∀ b o, s.heap.get? b = some o → h3.get? b = some o := fun b o e => kF b o (ne0 _ _ (hk b o e)) (kb b o e)
  show EP X pins σ Q (.ref h'.objs.size) { s with heap := h3, toks := tk }
  have I1 : Inv X pins σ H { s with heap := h3, toks := tk } := I.kept (t' := tk) kS
  have hn0 : H h'.objs.size = none := I.hok.fresh (Nat.le_of_lt hlt)
  have lenM : ms.length = ks.length := by rw [pm.length_eq]; show (as.zip ks).length = _; rw [List.length_zip]; omega
  have hlen : (ms.map fun z => V.ref z.1).length ≤ sizeLine := by rw [List.length_map, sizeLine_eq]; omega
  have rv : Vals (ms.map fun z => V.ref z.1) (ms.map fun z => Value.ref z.1) := vals_maps (fun z : LabE => V.ref z.1) (fun z => Value.ref z.1) ms fun _ _ => rfl
  have I2 : Inv X pins σ (upd H h'.objs.size (.lst (ms.map fun z => V.ref z.1))) { s with heap := h3, toks := tk } :=
    I1.take (h' := h3) (t' := tk) (fun b ob _ e => e) (I.fpOk (Nat.le_of_lt hlt) hn0) ⟨hlen, _, eF, rv, heF⟩
  obtain ⟨H2, I3, g, qt⟩ := L2.DX.takeT (P := fun b vs => ∃ (j : Nat) (e : Str × Int), as[j]? = some b ∧ ks[j]? = some e ∧ vs = [.str e.1, .int e.2]) I as _ I2 nd fun b hb => by
    obtain ⟨j, hj⟩ := List.mem_iff_getElem?.mp hb
    obtain ⟨e, t, t', he, hg⟩ := pr j b hj
    have hbl : s.heap.objs.size ≤ b := Nat.le_of_lt (hG.above b hb)
    refine ⟨hbl, ?_, [.str e.1, .int e.2], ⟨j, e, hj, he, rfl⟩, fun H3 => ⟨(by rw [sizeLine_eq]; show 2 ≤ 16777216; omega), [Value.str e.1 t, Value.int e.2 t'], .cons ⟨t, rfl⟩ (.cons ⟨t', rfl⟩ .nil), ⟨_, kF _ _ (ne0 _ _ hg) (ka _ _ hg), rfl, 0, rfl⟩⟩⟩
    rw [upd_ne (ne0 _ _ hg)]
    exact I.hok.fresh hbl
  have gr : Same H H2 := fun b o e => g b o (by rw [upd_ne (ne_of_none e hn0)]; exact e)
  refine ⟨.ref h'.objs.size, H2, I3, rfl, q H2 h'.objs.size ms gr hn0 ?_ hsort (g _ _ upd_same) fun z hz => ?_⟩
  · rw [← hz2]
    exact pm.map _
  · obtain ⟨i, i1, i2⟩ := idx z (pm.mem_iff.mp hz)
    have hm := List.mem_of_getElem? i1
    refine ⟨I.hok.fresh (Nat.le_of_lt (hG.above _ hm)), ?_⟩
    obtain ⟨vs, ⟨j, e, j1, j2, ev⟩, hH⟩ := qt z.1 hm
    have eij : i = j := (List.getElem?_inj (List.getElem?_eq_some_iff.mp i1).1 nd).mp (i1.trans j1.symm)
    subst eij
    have ee : e = z.2 := Option.some.inj (j2.symm.trans i2)
    rw [ev, ee] at hH
    exact hH
end Fw

set_option Elab.async false
set_option linter.all false
set_option maxRecDepth 100000
set_option maxHeartbeats 4000000
/-! The forms of contents, where they are right. -/
namespace Fw
open PySem L2 RZ RT
abbrev rSlE (K : PySem.W.Frag) : V → Option Int → Option Int → Hp → VK → Prop := fun x lo hi H Q => rSlA K x lo hi H Q ∨ rSlL K x lo hi H Q
abbrev rLtSS : R2 := fun x y H Q => ∃ i j, x = .str i ∧ y = .str j ∧ Q (.bl (decide (i.cps.toList < j.cps.toList))) H
abbrev fLtIS : R2 := fun x y H Q => rLtI x y H Q ∨ rLtSS x y H Q
def ltV : V → V → Prop
  | .int i, .int j => i < j
  | .str i, .str j => ltS i j
  | _, _ => False
theorem ltV.run {x y : V} {H : Hp} {Q : VK} (h : ltV x y) (q : Q (.bl true) H) : fLtIS x y H Q := by
  cases x <;> cases y <;> try exact h.elim
  · exact .inl ⟨_, _, rfl, rfl, by rw [show (fun i j : Int => V.bl (decide (i < j))) _ _ = V.bl true from congrArg V.bl (decide_eq_true (show _ < _ from h))]; exact q⟩
  · exact .inr ⟨_, _, rfl, rfl, by rw [decide_eq_true (show _ < _ from h)]; exact q⟩
theorem drop1 (xs : List V) : cutV xs (some 1) none = xs.drop 1 := by
  unfold cutV
  rw [show HT.sIx xs.length 0 (some 1) = min 1 xs.length from HT.sIx_nat xs.length 0 1, HT.sIx_none]
  cases xs with
  | nil => rfl
  | cons x r =>
    rw [show min 1 (x :: r).length = 1 by
      rw [List.length_cons]
      omega]
    rw [List.take_of_length_le]
    rw [List.length_drop]
    omega
/-- a comprehension over zip of two tuples, or two lists -/
theorem lcz_tup {K : PySem.W.Frag} {a b : Addr} {xs ys : List V} {g : TG} {tt : TT} {te : TE} {vs : List Nat} {σ : L2.St} {H1 : Hp} {D : Addr} {Qd : Hp → Prop} (n : Nat) (hn : n = min xs.length ys.length) (Pv : Nat → Hp → Prop) (h0 : Pv 0 (upd H1 D (.lst [])))
    (hl : ∀ i H, Pv i H → SqT K H a xs ∧ SqT K H b ys)
    (hs : ∀ (i : Nat) (x y : V) (T : Addr) (H : Hp), xs[i]? = some x → ys[i]? = some y → Pv i H → H T = none → g (.ref T) (wipe σ vs) (upd H T (.tup [x, y])) fun σ2 H2 => wipe σ2 vs = wipe σ vs ∧ tt σ2 H2 fun b H3 =>
      if b = true then te σ2 H3 fun y H4 => ∃ acc, H4 D = some (.lst acc) ∧ acc.length < sizeLine ∧ Pv (i + 1) (upd H4 D (.lst (acc ++ [y]))) else Pv (i + 1) H3) (hd : ∀ H, Pv n H → Qd H) :
    ∃ W : Nat → Nat → Hp → Prop, (∃ m, W 0 m (upd H1 D (.lst []))) ∧ ∀ i m H, W i m H →
      ((ItzT K a b).stop i H ∧ Qd H) ∨ ((ItzT K a b).go i H ∧ ∃ Nx : Hp → Prop, (∀ H', Nx H' → ∃ m', m' < m ∧ W (i + 1) m' H') ∧ ∀ x H', (ItzT K a b).yld i H x H' → g x (wipe σ vs) H' fun σ2 H2 => wipe σ2 vs = wipe σ vs ∧ tt σ2 H2 fun b H3 =>
        if b = true then te σ2 H3 fun y H4 => ∃ acc, H4 D = some (.lst acc) ∧ acc.length < sizeLine ∧ Nx (upd H4 D (.lst (acc ++ [y]))) else Nx H3) := by
  refine ⟨fun i m H => m = n - i ∧ i ≤ n ∧ Pv i H, ⟨n, by simp, Nat.zero_le _, h0⟩, ?_⟩
  rintro i m H ⟨rfl, hi, p⟩
  obtain ⟨qa, qb⟩ := hl i H p
  by_cases hlt : i < n
  · have l1 : i < xs.length := by omega
    have l2 : i < ys.length := by omega
    refine .inr ⟨⟨xs, ys, xs[i], ys[i], qa, qb, List.getElem?_eq_getElem l1, List.getElem?_eq_getElem l2⟩, Pv (i + 1), fun H' p' => ⟨n - (i + 1), by omega, rfl, hlt, p'⟩, fun x H' y => ?_⟩
    obtain ⟨T, x1, x2, rfl, nT, rfl, f1, f2⟩ := y
    exact hs i x1 x2 T H (f1 _ qa) (f2 _ qb) p nT
  · have e : i = n := by omega
    subst e
    exact .inl ⟨⟨xs, ys, qa, qb, by omega⟩, hd H p⟩
theorem lcz_lst {K : PySem.W.Frag} {a b : Addr} {xs ys : List V} {g : TG} {tt : TT} {te : TE} {vs : List Nat} {σ : L2.St} {H1 : Hp} {D : Addr} {Qd : Hp → Prop} (n : Nat) (hn : n = min xs.length ys.length) (Pv : Nat → Hp → Prop) (h0 : Pv 0 (upd H1 D (.lst [])))
    (hl : ∀ i H, Pv i H → SqL K H a xs ∧ SqL K H b ys)
    (hs : ∀ (i : Nat) (x y : V) (T : Addr) (H : Hp), xs[i]? = some x → ys[i]? = some y → Pv i H → H T = none → g (.ref T) (wipe σ vs) (upd H T (.tup [x, y])) fun σ2 H2 => wipe σ2 vs = wipe σ vs ∧ tt σ2 H2 fun b H3 =>
      if b = true then te σ2 H3 fun y H4 => ∃ acc, H4 D = some (.lst acc) ∧ acc.length < sizeLine ∧ Pv (i + 1) (upd H4 D (.lst (acc ++ [y]))) else Pv (i + 1) H3) (hd : ∀ H, Pv n H → Qd H) :
    ∃ W : Nat → Nat → Hp → Prop, (∃ m, W 0 m (upd H1 D (.lst []))) ∧ ∀ i m H, W i m H →
      ((Itz K a b).stop i H ∧ Qd H) ∨ ((Itz K a b).go i H ∧ ∃ Nx : Hp → Prop, (∀ H', Nx H' → ∃ m', m' < m ∧ W (i + 1) m' H') ∧ ∀ x H', (Itz K a b).yld i H x H' → g x (wipe σ vs) H' fun σ2 H2 => wipe σ2 vs = wipe σ vs ∧ tt σ2 H2 fun b H3 =>
        if b = true then te σ2 H3 fun y H4 => ∃ acc, H4 D = some (.lst acc) ∧ acc.length < sizeLine ∧ Nx (upd H4 D (.lst (acc ++ [y]))) else Nx H3) := by
  refine ⟨fun i m H => m = n - i ∧ i ≤ n ∧ Pv i H, ⟨n, by simp, Nat.zero_le _, h0⟩, ?_⟩
  rintro i m H ⟨rfl, hi, p⟩
  obtain ⟨qa, qb⟩ := hl i H p
  by_cases hlt : i < n
  · have l1 : i < xs.length := by omega
    have l2 : i < ys.length := by omega
    refine .inr ⟨⟨xs, ys, xs[i], ys[i], qa, qb, List.getElem?_eq_getElem l1, List.getElem?_eq_getElem l2⟩, Pv (i + 1), fun H' p' => ⟨n - (i + 1), by omega, rfl, hlt, p'⟩, fun x H' y => ?_⟩
    obtain ⟨T, x1, x2, rfl, nT, rfl, f1, f2⟩ := y
    exact hs i x1 x2 T H (f1 _ qa) (f2 _ qb) p nT
  · have e : i = n := by omega
    subst e
    exact .inl ⟨⟨xs, ys, qa, qb, by omega⟩, hd H p⟩
/-- a comprehension over a tuple of pairs of a text and an int -/
theorem lc_pairs {K : PySem.W.Frag} {r : Addr} {as : List Addr} {es : List (Str × Int)} {i j : Nat} {te : TE} {vs : List Nat} {σ : L2.St} {H1 : Hp} {D : Addr} {Qd : Hp → Prop} {ys : List V}
    (hD : H1 D = none) (hr : H1 r = some (.tup (as.map V.ref))) (hl : as.length = es.length) (hz : es.length ≤ 100000) (hy : ys.length = es.length) (ha : ∀ (n : Nat) (b : Addr) (e : Str × Int), as[n]? = some b → es[n]? = some e → H1 b = some (.tup [.str e.1, .int e.2]))
    (hs : ∀ (n : Nat) (e : Str × Int) (y : V) (H' : Hp) (R : VK), es[n]? = some e → ys[n]? = some y → Same H1 H' → (∀ H'', Same H' H'' → R y H'') → wipe (((wipe σ vs).set i (some (.str e.1))).set j (some (.int e.2))) vs = wipe σ vs ∧ te (((wipe σ vs).set i (some (.str e.1))).set j (some (.int e.2))) H' R)
    (hd : ∀ H', Same H1 H' → H' D = some (.lst ys) → Qd H') :
    ∃ W : Nat → Nat → Hp → Prop, (∃ m, W 0 m (L2.upd H1 D (.lst []))) ∧ ∀ i' m H, W i' m H →
      ((Itt K r).stop i' H ∧ Qd H) ∨ ((Itt K r).go i' H ∧ ∃ Nx : Hp → Prop, (∀ H', Nx H' → ∃ m', m' < m ∧ W (i' + 1) m' H') ∧ ∀ x H', (Itt K r).yld i' H x H' → gTup K 2 (gCons (gName i) (gCons (gName j) gNil)) x (wipe σ vs) H' fun σ2 H2 => wipe σ2 vs = wipe σ vs ∧ tYes σ2 H2 fun b H3 =>
        if b = true then te σ2 H3 fun y H4 => ∃ acc, H4 D = some (.lst acc) ∧ acc.length < sizeLine ∧ Nx (L2.upd H4 D (.lst (acc ++ [y]))) else Nx H3) := by
  refine lc_it (walk_tup (xs := as.map V.ref)) (fun i H => Same H1 H ∧ H D = some (.lst (ys.take i))) ⟨Same.upd hD, updS⟩ (fun i H _ p => sqT (p.1 _ _ hr)) (fun n x H H' hi p hyy => ?_) (fun H p => hd H p.1 (by rw [p.2, List.length_map, List.take_of_length_le (by omega)]))
  obtain ⟨rfl, hx⟩ := hyy
  rw [List.length_map] at hi
  rw [List.getElem?_map, List.getElem?_eq_getElem hi] at hx
  cases Option.some.inj hx
  have he : es[n]? = some (es[n]'(by omega)) := List.getElem?_eq_getElem _
  have hi2 : n < ys.length := by omega
  have hb := p.1 _ _ (ha n _ _ (List.getElem?_eq_getElem hi) he)
  obtain ⟨q1, q2⟩ := hs n _ ys[n] H' (fun y H4 => ∃ acc, H4 D = some (.lst acc) ∧ acc.length < sizeLine ∧ (Same H1 (L2.upd H4 D (.lst (acc ++ [y]))) ∧ L2.upd H4 D (.lst (acc ++ [y])) D = some (.lst (ys.take (n + 1))))) he (List.getElem?_eq_getElem hi2) p.1 (fun H'' s => ⟨_, s _ _ p.2, Nat.lt_of_le_of_lt (by rw [List.length_take]; omega : (ys.take n).length ≤ 100000) (by decide), Same.updI (Same.trans p.1 s) hD, by rw [updS, List.take_add_one, List.getElem?_eq_getElem hi2]; rfl⟩)
  exact ⟨_, _, rfl, sqT hb, rfl, _, _, rfl, _, _, rfl, rfl, q1, q2⟩
def sp_is_rows (_ : PySem.W.Frag) : Sp := fun vs H Q _ => ∃ (r : Addr) (rows : List Str), vs = [.ref r] ∧ H r = some (.tup (rows.map V.str)) ∧ rows.length ≤ 40 ∧ (∀ z ∈ rows, OkS z) ∧ ∀ H', Same H H' → Q (.bl true) H'
def sp_is_label (_ : PySem.W.Frag) : Sp := fun vs H Q _ => ∃ z : Str, vs = [.str z] ∧ OkLab z ∧ ∀ H', Same H H' → Q (.bl true) H'
def sp_is_entry (_ : PySem.W.Frag) : Sp := fun vs H Q _ => ∃ (b : Addr) (z : Str) (n : Int), vs = [.ref b] ∧ H b = some (.tup [.str z, .int n]) ∧ OkLab z ∧ ∀ H', Same H H' → Q (.bl true) H'
def sp_rises (_ : PySem.W.Frag) : Sp := fun vs H Q _ => ∃ (p : Addr) (xs : List V), vs = [.ref p] ∧ (H p = some (.lst xs) ∨ H p = some (.tup xs)) ∧ xs.length ≤ 100000 ∧ (∀ (i : Nat) (x y : V), xs[i]? = some x → xs[i + 1]? = some y → ltV x y) ∧ ∀ H', Same H H' → Q (.bl true) H'
def sp_is_entries (_ : PySem.W.Frag) : Sp := fun vs H Q _ => ∃ (r : Addr) (as : List Addr) (es : List (Str × Int)), vs = [.ref r] ∧ H r = some (.tup (as.map V.ref)) ∧ as.length = es.length ∧ (∀ (i : Nat) (b : Addr) (e : Str × Int), as[i]? = some b → es[i]? = some e → H b = some (.tup [.str e.1, .int e.2])) ∧ es.length ≤ 20 ∧ (∀ e ∈ es, OkLab e.1) ∧ (es.Pairwise fun a b => ltS a.1 b.1) ∧ ∀ H', Same H H' → Q (.bl true) H'
def sp_is_ints (_ : PySem.W.Frag) : Sp := fun vs H Q _ => ∃ (r : Addr) (ns : List Int), vs = [.ref r] ∧ H r = some (.tup (ns.map V.int)) ∧ ns.length ≤ 1000 ∧ ∀ H', Same H H' → Q (.bl true) H'
def sp_is_rising (_ : PySem.W.Frag) : Sp := fun vs H Q _ => ∃ (r : Addr) (ns : List Int), vs = [.ref r] ∧ H r = some (.tup (ns.map V.int)) ∧ ns.length ≤ 1000 ∧ ns.Pairwise (· < ·) ∧ ∀ H', Same H H' → Q (.bl true) H'
def sp_is_stamp (_ : PySem.W.Frag) : Sp := fun vs H Q _ => ∃ s : Int, vs = [.int s] ∧ 0 ≤ s ∧ s ≤ 1000000000000000000 ∧ Q (.bl true) H
def sp_is_version_form (_ : PySem.W.Frag) : Sp := fun vs H Q _ => ∃ (a : Addr) (ps : List Int) (r s : Int), vs = [.ref a] ∧ CtAt H a (.ver ps r s) ∧ (Ct.ver ps r s).form ∧ ∀ H', Same H H' → Q (.bl true) H'
def sp_is_content_form (_ : PySem.W.Frag) : Sp := fun vs H Q _ => ∃ (a : Addr) (c : Ct), vs = [.ref a] ∧ CtAt H a c ∧ c.form ∧ ∀ H', Same H H' → Q (.bl true) H'
section
variable {K : PySem.W.Frag} {vs : List V} {H : Hp} {Q : VK} {E : XK}
theorem len_is_rows (h : sp_is_rows K vs H Q E) : vs.length = 1 := by obtain ⟨_, _, rfl, _⟩ := h; rfl
theorem len_is_label (h : sp_is_label K vs H Q E) : vs.length = 1 := by obtain ⟨_, rfl, _⟩ := h; rfl
theorem len_is_entry (h : sp_is_entry K vs H Q E) : vs.length = 1 := by obtain ⟨_, _, _, rfl, _⟩ := h; rfl
theorem len_rises (h : sp_rises K vs H Q E) : vs.length = 1 := by obtain ⟨_, _, rfl, _⟩ := h; rfl
theorem len_is_entries (h : sp_is_entries K vs H Q E) : vs.length = 1 := by obtain ⟨_, _, _, rfl, _⟩ := h; rfl
theorem len_is_ints (h : sp_is_ints K vs H Q E) : vs.length = 1 := by obtain ⟨_, _, rfl, _⟩ := h; rfl
theorem len_is_rising (h : sp_is_rising K vs H Q E) : vs.length = 1 := by obtain ⟨_, _, rfl, _⟩ := h; rfl
theorem len_is_stamp (h : sp_is_stamp K vs H Q E) : vs.length = 1 := by obtain ⟨_, rfl, _⟩ := h; rfl
theorem len_is_version_form (h : sp_is_version_form K vs H Q E) : vs.length = 1 := by obtain ⟨_, _, _, _, rfl, _⟩ := h; rfl
theorem len_is_content_form (h : sp_is_content_form K vs H Q E) : vs.length = 1 := by obtain ⟨_, _, rfl, _⟩ := h; rfl
end
abbrev N_is_rows : List Str := ["thing", "row"]
def t_is_rows (K : PySem.W.Frag) : TS := (tRet (tAndV (tCB (rIsi K) (tCons (tVar 0) (tCons (tC (.ty "tuple")) tNil))) (tAndV (tOp rLeI (tCB (fLen K) (tCons (tVar 0) tNil)) (tC (.int 40))) (tCB (rAll K) (tCons (tLc (iTup K (tVar 0)) (gName 1) tYes (tCall (sp_is_row K) [] E0 (tCons (tVar 1) tNil)) [1]) tNil)))))
abbrev N_is_label : List Str := ["thing", "sign"]
def t_is_label (K : PySem.W.Frag) : TS := (tSeq (tIfS (tOr (tNot (tB (tCB (rIsi K) (tCons (tVar 0) (tCons (tC (.ty "str")) tNil))))) (tNot (tTest (tChain rLeI rLeI (tC (.int 1)) (tCB (fLen K) (tCons (tVar 0) tNil)) (tC (.int 8)))))) (tRet (tC (.bl false))) tNext)
    (tRet (tCB (rAll K) (tCons (tLc (iStr (tVar 0)) (gName 1) tYes (tChain rLeS rLeS (tC (.str "a")) (tVar 1) (tC (.str "z"))) [1]) tNil))))
abbrev N_is_entry : List Str := ["thing"]
def t_is_entry (K : PySem.W.Frag) : TS := (tRet (tAndV (tCall (sp_is_pairT K) [] E0 (tCons (tVar 0) tNil)) (tAndV (tCall (sp_is_label K) [] E0 (tCons (tOp (rIx K) (tVar 0) (tC (.int 0))) tNil)) (tCall (sp_is_intI K) [] E0 (tCons (tOp (rIx K) (tVar 0) (tC (.int 1))) tNil)))))
abbrev N_rises : List Str := ["things", "low", "high"]
def t_rises (K : PySem.W.Frag) : TS := (tRet (tCB (rAll K) (tCons (tLc (iZipA K (tCons (tVar 0) (tCons (tSl (rSlE K) (tVar 0) (tPart (tC (.int 1))) tNoPart) tNil))) (gTup K 2 (gCons (gName 1) (gCons (gName 2) gNil))) tYes (tOp fLtIS (tVar 1) (tVar 2)) [1, 2]) tNil)))
abbrev N_is_entries : List Str := ["thing", "entry"]
def t_is_entries (K : PySem.W.Frag) : TS := (tSeq (tIfS (tOr (tNot (tB (tCB (rIsi K) (tCons (tVar 0) (tCons (tC (.ty "tuple")) tNil))))) (tTest (tOp rGtI (tCB (fLen K) (tCons (tVar 0) tNil)) (tC (.int 20))))) (tRet (tC (.bl false))) tNext)
    (tRet (tAndV (tCB (rAll K) (tCons (tLc (iTup K (tVar 0)) (gName 1) tYes (tCall (sp_is_entry K) [] E0 (tCons (tVar 1) tNil)) [1]) tNil)) (tCall (sp_rises K) [] E0 (tCons (tLc (iTup K (tVar 0)) (gName 1) tYes (tOp (rIx K) (tVar 1) (tC (.int 0))) [1]) tNil)))))
abbrev N_is_ints : List Str := ["thing", "part"]
def t_is_ints (K : PySem.W.Frag) : TS := (tRet (tAndV (tCB (rIsi K) (tCons (tVar 0) (tCons (tC (.ty "tuple")) tNil))) (tCB (rAll K) (tCons (tLc (iTup K (tVar 0)) (gName 1) tYes (tCall (sp_is_intI K) [] E0 (tCons (tVar 1) tNil)) [1]) tNil))))
abbrev N_is_rising : List Str := ["thing"]
def t_is_rising (K : PySem.W.Frag) : TS := (tRet (tAndV (tCall (sp_is_ints K) [] E0 (tCons (tVar 0) tNil)) (tCall (sp_rises K) [] E0 (tCons (tVar 0) tNil))))
abbrev N_is_stamp : List Str := ["thing"]
def t_is_stamp (K : PySem.W.Frag) : TS := (tRet (tAndV (tCall (sp_is_intI K) [] E0 (tCons (tVar 0) tNil)) (tChain rLeI rLeI (tC (.int 0)) (tVar 0) (tC (.int 1000000000000000000)))))
abbrev N_is_version_form : List Str := ["thing"]
def t_is_version_form (K : PySem.W.Frag) : TS := (tSeq (tIfS (tOr (tTest (tOp rNe (tCB (fLen K) (tCons (tVar 0) tNil)) (tC (.int 4)))) (tNot (tB (tCall (sp_is_rising K) [] E0 (tCons (tOp (rIx K) (tVar 0) (tC (.int 1))) tNil))))) (tRet (tC (.bl false))) tNext)
    (tRet (tAndV (tOp rLeI (tCB (fLen K) (tCons (tOp (rIx K) (tVar 0) (tC (.int 1))) tNil)) (tC (.int 4))) (tAndV (tCall (sp_is_intI K) [] E0 (tCons (tOp (rIx K) (tVar 0) (tC (.int 2))) tNil)) (tCall (sp_is_stamp K) [] E0 (tCons (tOp (rIx K) (tVar 0) (tC (.int 3))) tNil))))))
abbrev N_is_content_form : List Str := ["thing"]
def t_is_content_form (K : PySem.W.Frag) : TS := (tSeq (tIfS (tOr (tNot (tB (tCB (rIsi K) (tCons (tVar 0) (tCons (tC (.ty "tuple")) tNil))))) (tTest (tOp rEq (tCB (fLen K) (tCons (tVar 0) tNil)) (tC (.int 0))))) (tRet (tC (.bl false))) tNext)
    (tSeq (tIfS (tTest (tOp rEq (tOp (rIx K) (tVar 0) (tC (.int 0))) (tC (.str "leaf")))) (tRet (tAndV (tOp rEq (tCB (fLen K) (tCons (tVar 0) tNil)) (tC (.int 2))) (tCall (sp_is_rows K) [] E0 (tCons (tOp (rIx K) (tVar 0) (tC (.int 1))) tNil)))) tNext)
    (tSeq (tIfS (tTest (tOp rEq (tOp (rIx K) (tVar 0) (tC (.int 0))) (tC (.str "tree")))) (tRet (tAndV (tOp rEq (tCB (fLen K) (tCons (tVar 0) tNil)) (tC (.int 2))) (tCall (sp_is_entries K) [] E0 (tCons (tOp (rIx K) (tVar 0) (tC (.int 1))) tNil)))) tNext)
    (tRet (tAndV (tOp rEq (tOp (rIx K) (tVar 0) (tC (.int 0))) (tC (.str "version"))) (tCall (sp_is_version_form K) [] E0 (tCons (tVar 0) tNil)))))))
theorem one_le {c d : Nat} (h : d ≤ c) : (!decide ((⟨#[c]⟩ : Str).cps.toList < (⟨#[d]⟩ : Str).cps.toList)) = true := by
  show (!decide ([c] < [d])) = true
  rw [decide_eq_false]
  · rfl
  · intro h2
    rcases List.cons_lt_cons_iff.mp h2 with h3 | h3
    · omega
    · exact absurd h3.2 (by decide)
theorem str_a : ("a" : Str) = ⟨#[97]⟩ := by decide +kernel
theorem str_z : ("z" : Str) = ⟨#[122]⟩ := by decide +kernel
theorem samN {H : Hp} {p : Addr} {o : HO} (n : H p = none) : Same H (upd H p o) := Same.upd n
section
variable {K : PySem.W.Frag} {vs : List V} {H : Hp} {Q : VK} {E : XK}
theorem pure_is_rows (h : sp_is_rows K vs H Q E) : t_is_rows K { nx := fun _ H' => Q .non H', rt := Q } (start N_is_rows vs) H := by
  obtain ⟨r, rows, rfl, hr, few, ok, k⟩ := h
  refine ⟨_, rfl, isi (.base (.tup hr)) k_tt ⟨_, rfl, iteT ⟨_, rfl, lenT hr ⟨_, _, rfl, rfl, _, rfl, ?_⟩⟩⟩⟩
  rw [decide_eq_true (show ((rows.map V.str).length : Int) ≤ 40 by rw [List.length_map]; omega)]
  refine iteT ⟨_, rfl, r, rfl, ⟨_, sqT hr⟩, fun L nL => ?_⟩
  refine lc_grow (walk_tup (xs := rows.map V.str)) yAt (ys := List.replicate (rows.map V.str).length (.bl true)) nL List.length_replicate (by rw [List.length_map]; omega) (fun H' s => sqT (s _ _ hr)) ?_ ?_
  · rintro i x y H' R hi ⟨_, hx⟩ hy s q
    rw [List.getElem?_map] at hx
    cases e : rows[i]? with
    | none => rw [e] at hx; cases hx
    | some z =>
      rw [e] at hx
      cases Option.some.inj hx
      refine ⟨rfl, _, rfl, z, rfl, ok z (List.mem_of_getElem? e), fun H'' s2 => ?_⟩
      rw [rep_get hy] at q
      exact q _ s2
  · intro H' s hL
    refine ⟨L, List.replicate (rows.map V.str).length true, rfl, sqL (by rw [hL, List.map_replicate]), ?_⟩
    rw [all_rep]
    exact k _ s
theorem pure_is_label (h : sp_is_label K vs H Q E) : t_is_label K { nx := fun _ H' => Q .non H', rt := Q } (start N_is_label vs) H := by
  obtain ⟨z, rfl, ⟨h1, h2, h3⟩, k⟩ := h
  have hz : z.length ≤ 1000 := by show z.cps.size ≤ 1000; omega
  refine ⟨_, rfl, isi (.base (.str z)) k_ss ⟨_, rfl, iteF ⟨_, rfl, lenS hz ⟨_, _, rfl, rfl, _, rfl, ?_⟩⟩⟩⟩
  rw [decide_eq_true (show (1 : Int) ≤ (z.length : Int) by show (1 : Int) ≤ (z.cps.size : Int); omega)]
  refine iteT ⟨_, _, rfl, rfl, _, rfl, ?_⟩
  rw [decide_eq_true (show (z.length : Int) ≤ 8 by show (z.cps.size : Int) ≤ 8; omega)]
  refine iteF ⟨_, rfl, z, rfl, fun L nL => ?_⟩
  refine lc_grow walk_str yStr (ys := List.replicate z.cps.size (.bl true)) nL List.length_replicate (by omega) (fun _ _ => True.intro) ?_ ?_
  · rintro i x y H' R hi ⟨_, c, hc, rfl⟩ hy s r
    have hm : c ∈ z.cps.toList := by obtain ⟨q1, q2⟩ := Array.getElem?_eq_some_iff.mp hc; rw [← q2]; exact Array.getElem_mem_toList q1
    obtain ⟨l1, l2⟩ := h3 c hm
    refine ⟨rfl, _, rfl, _, _, rfl, rfl, _, rfl, ?_⟩
    rw [str_a, one_le l1]
    refine iteT ⟨_, _, rfl, rfl, ?_⟩
    rw [str_z, one_le l2]
    rw [← rep_get hy]
    exact r _ (Same.refl _)
  · intro H' s hL
    refine ⟨L, List.replicate z.cps.size true, rfl, sqL (by rw [hL, List.map_replicate]), ?_⟩
    rw [all_rep]
    exact k _ s
theorem pure_is_entry (h : sp_is_entry K vs H Q E) : t_is_entry K { nx := fun _ H' => Q .non H', rt := Q } (start N_is_entry vs) H := by
  obtain ⟨b, z, n, rfl, hb, ok, k⟩ := h
  refine ⟨_, rfl, b, _, _, rfl, hb, _, rfl, iteT ⟨_, rfl, ixT hb rfl ⟨z, rfl, ok, fun H' s => ⟨_, rfl, iteT ⟨_, rfl, ixT (s _ _ hb) rfl ⟨n, rfl, k _ s⟩⟩⟩⟩⟩⟩
theorem pure_rises (h : sp_rises K vs H Q E) : t_rises K { nx := fun _ H' => Q .non H', rt := Q } (start N_rises vs) H := by
  obtain ⟨p, xs, rfl, hp, hz, hc, k⟩ := h
  have fin : ∀ {H1 H2 : Hp} {D : Addr}, Same H H1 → Same H1 H2 → H2 D = some (.lst (List.replicate (xs.length - 1) (.bl true))) → rAll K [V.ref D] H2 Q := fun {H1 H2 D} s1 s2 hD => by
    refine ⟨D, List.replicate (xs.length - 1) true, rfl, sqL (by rw [hD, List.map_replicate]), ?_⟩
    rw [all_rep]
    exact k _ (s1.trans s2)
  have step : ∀ {H1 H2 : Hp} {D T : Addr} {i : Nat} {x y : V} {Qn : Hp → Prop}, xs[i]? = some x → (xs.drop 1)[i]? = some y → Same H1 H2 ∧ H2 D = some (.lst (List.replicate i (.bl true))) → H1 D = none → H2 T = none → (∀ H', Same H1 H' → H' D = some (.lst (List.replicate (i + 1) (.bl true))) → Qn H') →
      gTup K 2 (gCons (gName 1) (gCons (gName 2) gNil)) (.ref T) (wipe (start N_rises [V.ref p]) [1, 2]) (upd H2 T (.tup [x, y])) fun σ2 H2 => wipe σ2 [1, 2] = wipe (start N_rises [V.ref p]) [1, 2] ∧ tYes σ2 H2 fun b H3 =>
        if b = true then tOp fLtIS (tVar 1) (tVar 2) σ2 H3 fun y H4 => ∃ acc, H4 D = some (.lst acc) ∧ acc.length < sizeLine ∧ Qn (upd H4 D (.lst (acc ++ [y]))) else Qn H3 := by
    intro H1 H2 D T i x y Qn hx hy s2 nD nT q
    rw [List.getElem?_drop, Nat.add_comm] at hy
    have hi := (List.getElem?_eq_some_iff.mp hy).1
    have nTD : D ≠ T := ne_of_none s2.2 nT
    have sT : Same H1 (upd H2 T (.tup [x, y])) := fun b o e => updN (ne_of_none (s2.1 _ _ e) nT) (s2.1 _ _ e)
    refine ⟨T, [x, y], rfl, sqT updS, rfl, x, [y], rfl, y, [], rfl, rfl, rfl, ?_⟩
    refine ⟨_, rfl, _, rfl, (hc i x y hx hy).run ⟨_, updN nTD s2.2, ?_, q _ (fun b o e => updN (ne_of_none e nD) (sT _ _ e)) ?_⟩⟩
    · refine Nat.lt_of_le_of_lt (?_ : _ ≤ 100000) (by decide)
      rw [List.length_replicate]
      omega
    · rw [updS, List.replicate_succ']
  rcases hp with hp | hp
  · refine ⟨_, rfl, _, rfl, _, rfl, .inr ⟨p, _, rfl, sqL hp, fun q nq => ?_⟩⟩
    rw [drop1]
    have s1 : Same H (upd H q (.lst (xs.drop 1))) := samN nq
    refine ⟨p, q, xs, _, rfl, .inl ⟨sqL (s1 _ _ hp), sqL updS, fun D nD => ?_⟩⟩
    have hq1 : upd H q (.lst (xs.drop 1)) q = some (.lst (xs.drop 1)) := updS
    have hp1 := s1 _ _ hp
    generalize upd H q (.lst (xs.drop 1)) = H1 at s1 hq1 hp1 nD ⊢
    exact lcz_lst (K := K) (a := p) (b := q) (xs := xs) (ys := xs.drop 1) (xs.length - 1) (by rw [List.length_drop]; omega) (fun i H2 => Same H1 H2 ∧ H2 D = some (.lst (List.replicate i (.bl true)))) ⟨samN nD, updS⟩ (fun i H2 s2 => ⟨sqL (s2.1 _ _ hp1), sqL (s2.1 _ _ hq1)⟩) (fun i x y T H2 hx hy s2 nT => step hx hy s2 nD nT fun H' a b => ⟨a, b⟩) (fun H2 s2 => fin s1 s2.1 s2.2)
  · have main : ∀ (q : Addr) (H1 : Hp), Same H H1 → H1 q = some (.tup (xs.drop 1)) → ∀ D, H1 D = none → ∃ W : Nat → Nat → Hp → Prop, (∃ m, W 0 m (upd H1 D (.lst []))) ∧ ∀ i m H, W i m H →
        ((ItzT K p q).stop i H ∧ tNil (start N_rises [V.ref p]) H fun ys H2 => rAll K (.ref D :: ys) H2 Q) ∨ ((ItzT K p q).go i H ∧ ∃ Nx : Hp → Prop, (∀ H', Nx H' → ∃ m', m' < m ∧ W (i + 1) m' H') ∧ ∀ x H', (ItzT K p q).yld i H x H' → gTup K 2 (gCons (gName 1) (gCons (gName 2) gNil)) x (wipe (start N_rises [V.ref p]) [1, 2]) H' fun σ2 H2 => wipe σ2 [1, 2] = wipe (start N_rises [V.ref p]) [1, 2] ∧ tYes σ2 H2 fun b H3 =>
          if b = true then tOp fLtIS (tVar 1) (tVar 2) σ2 H3 fun y H4 => ∃ acc, H4 D = some (.lst acc) ∧ acc.length < sizeLine ∧ Nx (upd H4 D (.lst (acc ++ [y]))) else Nx H3) := by
      intro q H1 sm hq D nD
      exact lcz_tup (K := K) (a := p) (b := q) (xs := xs) (ys := xs.drop 1) (xs.length - 1) (by rw [List.length_drop]; omega) (fun i H2 => Same H1 H2 ∧ H2 D = some (.lst (List.replicate i (.bl true)))) ⟨samN nD, updS⟩ (fun i H2 s2 => ⟨sqT (s2.1 _ _ (sm _ _ hp)), sqT (s2.1 _ _ hq)⟩) (fun i x y T H2 hx hy s2 nT => step hx hy s2 nD nT fun H' a b => ⟨a, b⟩) (fun H2 s2 => fin sm s2.1 s2.2)
    refine ⟨_, rfl, _, rfl, _, rfl, .inl ⟨p, xs, rfl, sqT hp, fun e => ?_, fun e q nq => ?_⟩⟩
    · have e0 : xs.drop 1 = xs := by
        have e1 := e.1
        rw [show HT.sIx xs.length 0 (some 1) = min 1 xs.length from HT.sIx_nat xs.length 0 1] at e1
        have : xs.length = 0 := by omega
        rw [List.eq_nil_of_length_eq_zero this]
        rfl
      exact ⟨p, p, xs, xs, rfl, .inr ⟨sqT hp, sqT hp, main p H (Same.refl H) (by rw [e0]; exact hp)⟩⟩
    · have s1 : Same H (upd H q (.tup (cutV xs (some 1) none))) := fun b o e => updN (ne_of_none e nq) e
      refine ⟨p, q, xs, _, rfl, .inr ⟨sqT (s1 _ _ hp), sqT updS, main q _ s1 ?_⟩⟩
      rw [updS, drop1]
theorem pure_is_entries (h : sp_is_entries K vs H Q E) : t_is_entries K { nx := fun _ H' => Q .non H', rt := Q } (start N_is_entries vs) H := by
  obtain ⟨r, as, es, rfl, hr, hl, ha, few, ok, pw, k⟩ := h
  refine ⟨_, rfl, isi (.base (.tup hr)) k_tt ⟨_, rfl, iteF ⟨_, rfl, lenT hr ⟨_, _, rfl, rfl, _, rfl, ?_⟩⟩⟩⟩
  rw [decide_eq_false (show ¬ (20 : Int) < ((as.map V.ref).length : Int) by rw [List.length_map]; omega)]
  refine iteF ⟨_, rfl, r, rfl, ⟨_, sqT hr⟩, fun L nL => ?_⟩
  refine lc_grow (walk_tup (xs := as.map V.ref)) yAt (ys := List.replicate (as.map V.ref).length (.bl true)) nL List.length_replicate (by rw [List.length_map]; omega) (fun H' s => sqT (s _ _ hr)) ?_ ?_
  · rintro i x y H' R hi ⟨_, hx⟩ hy s q
    rw [List.length_map] at hi
    rw [List.getElem?_map, List.getElem?_eq_getElem hi] at hx
    cases Option.some.inj hx
    have he : es[i]? = some (es[i]'(by omega)) := List.getElem?_eq_getElem _
    refine ⟨rfl, _, rfl, as[i], _, _, rfl, s _ _ (ha i _ _ (List.getElem?_eq_getElem hi) he), ok _ (List.mem_of_getElem? he), fun H'' s2 => ?_⟩
    rw [rep_get hy] at q
    exact q _ s2
  · intro H' s hL
    refine ⟨L, List.replicate (as.map V.ref).length true, rfl, sqL (by rw [hL, List.map_replicate]), ?_⟩
    rw [all_rep]
    refine ⟨_, rfl, iteT ⟨_, rfl, r, rfl, ⟨_, sqT (s _ _ hr)⟩, fun L2 nL2 => ?_⟩⟩
    refine lc_grow (walk_tup (xs := as.map V.ref)) yAt (ys := (es.map fun e => V.str e.1)) nL2 (by rw [List.length_map, List.length_map, hl]) (by rw [List.length_map]; omega) (fun H2 s2 => sqT (s2 _ _ (s _ _ hr))) ?_ ?_
    · rintro i x y H2 R hi ⟨_, hx⟩ hy s2 q
      rw [List.length_map] at hi
      rw [List.getElem?_map, List.getElem?_eq_getElem hi] at hx
      cases Option.some.inj hx
      have he : es[i]? = some (es[i]'(by omega)) := List.getElem?_eq_getElem _
      have hb := ha i _ _ (List.getElem?_eq_getElem hi) he
      rw [List.getElem?_map, he] at hy
      cases Option.some.inj hy
      exact ⟨rfl, _, rfl, ixT (s2 _ _ (s _ _ hb)) rfl (q _ (Same.refl _))⟩
    · intro H2 s2 hL2
      refine ⟨L2, _, rfl, .inl hL2, by rw [List.length_map]; omega, fun i x y hx hy => ?_, fun H3 s3 => k _ ((s.trans s2).trans s3)⟩
      rw [List.getElem?_map] at hx hy
      cases e1 : es[i]? with
      | none => rw [e1] at hx; cases hx
      | some a =>
        cases e2 : es[i + 1]? with
        | none => rw [e2] at hy; cases hy
        | some b =>
          rw [e1] at hx
          rw [e2] at hy
          cases Option.some.inj hx
          cases Option.some.inj hy
          obtain ⟨h1, e1⟩ := List.getElem?_eq_some_iff.mp e1
          obtain ⟨h2, e2⟩ := List.getElem?_eq_some_iff.mp e2
          have := List.pairwise_iff_getElem.mp pw i (i + 1) h1 h2 (Nat.lt_succ_self _)
          rw [e1, e2] at this
          exact this
theorem pure_is_ints (h : sp_is_ints K vs H Q E) : t_is_ints K { nx := fun _ H' => Q .non H', rt := Q } (start N_is_ints vs) H := by
  obtain ⟨r, ns, rfl, hr, few, k⟩ := h
  refine ⟨_, rfl, isi (.base (.tup hr)) k_tt ⟨_, rfl, iteT ⟨_, rfl, r, rfl, ⟨_, sqT hr⟩, fun L nL => ?_⟩⟩⟩
  refine lc_grow (walk_tup (xs := ns.map V.int)) yAt (ys := List.replicate (ns.map V.int).length (.bl true)) nL List.length_replicate (by rw [List.length_map]; omega) (fun H' s => sqT (s _ _ hr)) ?_ ?_
  · rintro i x y H' R hi ⟨_, hx⟩ hy s q
    rw [List.getElem?_map] at hx
    cases e : ns[i]? with
    | none => rw [e] at hx; cases hx
    | some z =>
      rw [e] at hx
      cases Option.some.inj hx
      refine ⟨rfl, _, rfl, z, rfl, ?_⟩
      rw [rep_get hy] at q
      exact q _ (Same.refl _)
  · intro H' s hL
    refine ⟨L, List.replicate (ns.map V.int).length true, rfl, sqL (by rw [hL, List.map_replicate]), ?_⟩
    rw [all_rep]
    exact k _ s
theorem pure_is_rising (h : sp_is_rising K vs H Q E) : t_is_rising K { nx := fun _ H' => Q .non H', rt := Q } (start N_is_rising vs) H := by
  obtain ⟨r, ns, rfl, hr, few, pw, k⟩ := h
  refine ⟨_, rfl, r, ns, rfl, hr, few, fun H' s => ⟨_, rfl, iteT ⟨_, rfl, r, ns.map V.int, rfl, .inr (s _ _ hr), by rw [List.length_map]; omega, fun i x y hx hy => ?_, fun H'' s2 => k _ (s.trans s2)⟩⟩⟩
  rw [List.getElem?_map] at hx hy
  cases e1 : ns[i]? with
  | none => rw [e1] at hx; cases hx
  | some a =>
    cases e2 : ns[i + 1]? with
    | none => rw [e2] at hy; cases hy
    | some b =>
      rw [e1] at hx
      rw [e2] at hy
      cases Option.some.inj hx
      cases Option.some.inj hy
      obtain ⟨h1, e1⟩ := List.getElem?_eq_some_iff.mp e1
      obtain ⟨h2, e2⟩ := List.getElem?_eq_some_iff.mp e2
      have := List.pairwise_iff_getElem.mp pw i (i + 1) h1 h2 (Nat.lt_succ_self _)
      rw [e1, e2] at this
      exact this
theorem pure_is_stamp (h : sp_is_stamp K vs H Q E) : t_is_stamp K { nx := fun _ H' => Q .non H', rt := Q } (start N_is_stamp vs) H := by
  obtain ⟨s, rfl, h0, h1, k⟩ := h
  refine ⟨_, rfl, s, rfl, _, rfl, iteT ⟨_, rfl, _, _, rfl, rfl, _, rfl, ?_⟩⟩
  rw [decide_eq_true h0]
  refine iteT ⟨_, _, rfl, rfl, ?_⟩
  exact blT (Q := Q) h1 k
theorem pure_is_version_form (h : sp_is_version_form K vs H Q E) : t_is_version_form K { nx := fun _ H' => Q .non H', rt := Q } (start N_is_version_form vs) H := by
  obtain ⟨a, ps, r, s, rfl, ⟨p, ha, hp⟩, ⟨f1, f2, f3, f4⟩, k⟩ := h
  refine ⟨_, rfl, lenT ha ⟨rfl, _, rfl, iteF ⟨_, rfl, ixT ha rfl ⟨p, ps, rfl, hp, by omega, f2, fun H' s1 => ⟨_, rfl, iteF ?_⟩⟩⟩⟩⟩
  refine ⟨_, rfl, ixT (s1 _ _ ha) rfl (lenT (s1 _ _ hp) ⟨_, _, rfl, rfl, _, rfl, ?_⟩)⟩
  rw [decide_eq_true (show ((ps.map V.int).length : Int) ≤ 4 by rw [List.length_map]; omega)]
  refine iteT ⟨_, rfl, ixT (s1 _ _ ha) rfl ⟨r, rfl, _, rfl, iteT ⟨_, rfl, ixT (s1 _ _ ha) rfl ⟨s, rfl, f3, f4, k _ s1⟩⟩⟩⟩
theorem pure_is_content_form (h : sp_is_content_form K vs H Q E) : t_is_content_form K { nx := fun _ H' => Q .non H', rt := Q } (start N_is_content_form vs) H := by
  obtain ⟨a, c, rfl, ha, f, k⟩ := h
  have ww : ∀ {x y : Str}, x ≠ y → decide (V.str x = V.str y) = false := fun {x y} h => decide_eq_false fun e => h (by injection e)
  cases c with
  | leaf rows =>
    obtain ⟨r, h1, h2⟩ := ha
    refine ⟨_, rfl, isi (.base (.tup h1)) k_tt ⟨_, rfl, iteF ⟨_, rfl, lenT h1 ⟨rfl, _, rfl, iteF ⟨_, rfl, ixT h1 rfl ⟨rfl, _, rfl, ?_⟩⟩⟩⟩⟩⟩
    rw [decide_eq_true rfl]
    refine iteT ⟨_, rfl, lenT h1 ⟨rfl, _, rfl, iteT ⟨_, rfl, ixT h1 rfl ⟨r, rows, rfl, h2, f.1, f.2, k⟩⟩⟩⟩
  | tree es =>
    obtain ⟨r, as, h1, h2, h3, h4⟩ := ha
    refine ⟨_, rfl, isi (.base (.tup h1)) k_tt ⟨_, rfl, iteF ⟨_, rfl, lenT h1 ⟨rfl, _, rfl, iteF ⟨_, rfl, ixT h1 rfl ⟨rfl, _, rfl, ?_⟩⟩⟩⟩⟩⟩
    rw [ww wv_lt.symm]
    refine iteF ⟨_, rfl, ixT h1 rfl ⟨rfl, _, rfl, ?_⟩⟩
    rw [decide_eq_true rfl]
    refine iteT ⟨_, rfl, lenT h1 ⟨rfl, _, rfl, iteT ⟨_, rfl, ixT h1 rfl ⟨r, as, es, rfl, h2, h3, h4, f.1, f.2.1, f.2.2, k⟩⟩⟩⟩
  | ver ps r s =>
    obtain ⟨p, h1, h2⟩ := id ha
    refine ⟨_, rfl, isi (.base (.tup h1)) k_tt ⟨_, rfl, iteF ⟨_, rfl, lenT h1 ⟨rfl, _, rfl, iteF ⟨_, rfl, ixT h1 rfl ⟨rfl, _, rfl, ?_⟩⟩⟩⟩⟩⟩
    rw [ww wv_lv.symm]
    refine iteF ⟨_, rfl, ixT h1 rfl ⟨rfl, _, rfl, ?_⟩⟩
    rw [ww wv_tv.symm]
    refine iteF ⟨_, rfl, ixT h1 rfl ⟨rfl, _, rfl, ?_⟩⟩
    rw [decide_eq_true rfl]
    exact iteT ⟨_, rfl, a, ps, r, s, rfl, ha, f, k⟩
end
end Fw

set_option Elab.async false
set_option linter.all false
set_option maxRecDepth 100000
set_option maxHeartbeats 4000000
/-! Contents as data. -/
namespace Fw
open PySem L2 RZ RT
abbrev enD (e : Str × Int) : PyData := .tuple [.str e.1, .int e.2]
def Ct.data : Ct → PyData
  | .leaf rows => .tuple [.str "leaf", .tuple (rows.map PyData.str)]
  | .tree es => .tuple [.str "tree", .tuple (es.map enD)]
  | .ver ps r s => .tuple [.str "version", .tuple (ps.map PyData.int), .int r, .int s]
theorem dp_strsC {K : PySem.W.Frag} {H : Hp} : ∀ zs : List Str, DpAll K H (zs.map V.str) (zs.map PyData.str)
  | [] => .nil
  | z :: zs => .cons (.str z) (dp_strsC zs)
theorem dp_entsC {K : PySem.W.Frag} {H : Hp} : ∀ (as : List Addr) (es : List (Str × Int)), as.length = es.length → (∀ (i : Nat) (b : Addr) (e : Str × Int), as[i]? = some b → es[i]? = some e → H b = some (.tup [.str e.1, .int e.2])) → DpAll K H (as.map V.ref) (es.map enD)
  | [], [], _, _ => .nil
  | [], _ :: _, h, _ => by simp at h
  | _ :: _, [], h, _ => by simp at h
  | a :: as, e :: es, h, f => .cons (.tup (sqT (f 0 a e rfl rfl)) (.cons (.str _) (.cons (.int _) .nil))) (dp_entsC as es (by simpa using h) fun i b e' h1 h2 => f (i + 1) b e' (by simpa using h1) (by simpa using h2))
theorem CtAt.dp {K : PySem.W.Frag} {H : Hp} {a : Addr} {c : Ct} (h : CtAt H a c) : Dp K H (.ref a) c.data := by
  cases c with
  | leaf rows =>
    obtain ⟨r, h1, h2⟩ := h
    exact .tup (sqT h1) (.cons (.str _) (.cons (.tup (sqT h2) (dp_strsC rows)) .nil))
  | tree es =>
    obtain ⟨r, as, h1, h2, h3, h4⟩ := h
    exact .tup (sqT h1) (.cons (.str _) (.cons (.tup (sqT h2) (dp_entsC as es h3 h4)) .nil))
  | ver ps r s =>
    obtain ⟨r, h1, h2⟩ := h
    exact .tup (sqT h1) (.cons (.str _) (.cons (.tup (sqT h2) (dp_intsD ps)) (.cons (.int _) (.cons (.int _) .nil))))
theorem dp_contents {K : PySem.W.Frag} {H : Hp} : ∀ (as : List Addr) (cs : List Ct), CsAt H as cs → DpAll K H (as.map V.ref) (cs.map Ct.data)
  | [], [], _ => .nil
  | [], _ :: _, h => by have := h.1; simp at this
  | _ :: _, [], h => by have := h.1; simp at this
  | a :: as, c :: cs, h => .cons (h.2 0 a c rfl rfl).dp (dp_contents as cs ⟨by simpa using h.1, fun i b d h1 h2 => h.2 (i + 1) b d (by simpa using h1) (by simpa using h2)⟩)
theorem okS_str {z : Str} (h : ∀ c ∈ z.cps.toList, c ≤ 126) : PyData.strOk z = true := by
  unfold PyData.strOk
  rw [← Array.all_toList, List.all_eq_true]
  intro c hc
  have := h c hc
  exact decide_eq_true (by omega)
theorem lay_strs : ∀ zs : List Str, (∀ z ∈ zs, PyData.strOk z = true) → PyData.canLayAll0 (zs.map PyData.str) = true
  | [], _ => rfl
  | z :: zs, h => by
    show (PyData.strOk z && PyData.canLayAll0 (zs.map PyData.str)) = true
    rw [h z List.mem_cons_self, lay_strs zs fun y hy => h y (List.mem_cons_of_mem _ hy)]
    rfl
theorem lay_ents : ∀ es : List (Str × Int), (∀ e ∈ es, PyData.strOk e.1 = true) → PyData.canLayAll0 (es.map enD) = true
  | [], _ => rfl
  | e :: es, h => by
    show ((PyData.strOk e.1 && true) && PyData.canLayAll0 (es.map enD)) = true
    rw [h e List.mem_cons_self, lay_ents es fun y hy => h y (List.mem_cons_of_mem _ hy)]
    rfl
theorem lay_intsC : ∀ ns : List Int, PyData.canLayAll0 (ns.map PyData.int) = true
  | [] => rfl
  | _ :: ns => lay_intsC ns
theorem dep_flatC {f : α → PyData} (h : ∀ a, (f a).depth ≤ 1) : ∀ l : List α, PyData.depthAll (l.map f) ≤ 1
  | [] => Nat.zero_le _
  | a :: l => by
    show max (PyData.depth (f a)) (PyData.depthAll (l.map f)) ≤ 1
    have := h a
    have := dep_flatC h l
    omega
theorem Ct.form_lay {c : Ct} (h : c.form) : c.data.canLay0 = true := by
  cases c with
  | leaf rows =>
    show (PyData.strOk "leaf" && (PyData.canLayAll0 (rows.map PyData.str) && true)) = true
    rw [lay_strs rows fun z hz => okS_str fun c hc => ((h.2 z hz).2 c hc).2.1]
    decide +kernel
  | tree es =>
    show (PyData.strOk "tree" && (PyData.canLayAll0 (es.map enD) && true)) = true
    rw [lay_ents es fun e he => okS_str fun c hc => Nat.le_trans ((h.2.1 e he).2.2 c hc).2 (by decide)]
    decide +kernel
  | ver ps r s =>
    show (PyData.strOk "version" && (PyData.canLayAll0 (ps.map PyData.int) && true)) = true
    rw [lay_intsC]
    decide +kernel
theorem Ct.data_depth (c : Ct) : c.data.depth ≤ 3 := by
  cases c with
  | leaf rows =>
    have := dep_flatC (f := PyData.str) (fun z => by show (0 : Nat) ≤ 1; decide) rows
    show max 0 (max (PyData.depthAll (rows.map PyData.str) + 1) 0) + 1 ≤ 3
    omega
  | tree es =>
    have := dep_flatC (f := enD) (fun z => by show max 0 (max 0 0) + 1 ≤ 1; decide) es
    show max 0 (max (PyData.depthAll (es.map enD) + 1) 0) + 1 ≤ 3
    omega
  | ver ps r s =>
    have := dep_flatC (f := PyData.int) (fun z => by show (0 : Nat) ≤ 1; decide) ps
    show max 0 (max (PyData.depthAll (ps.map PyData.int) + 1) (max 0 (max 0 0))) + 1 ≤ 3
    omega
theorem Ct.shaped {c : Ct} (h : c.form) : SeqAt.shaped c.data = true := by
  have := c.data_depth
  show (c.data.canLay0 && decide (c.data.depth ≤ 64)) = true
  rw [Ct.form_lay h, decide_eq_true (show c.data.depth ≤ 64 by omega)]
  rfl
theorem lay_contents : ∀ cs : List Ct, (∀ c ∈ cs, c.form) → PyData.canLayAll0 (cs.map Ct.data) = true
  | [], _ => rfl
  | c :: cs, h => by
    show (c.data.canLay0 && PyData.canLayAll0 (cs.map Ct.data)) = true
    rw [Ct.form_lay (h c List.mem_cons_self), lay_contents cs fun y hy => h y (List.mem_cons_of_mem _ hy)]
    rfl
theorem dep_contents : ∀ cs : List Ct, PyData.depthAll (cs.map Ct.data) ≤ 3
  | [] => Nat.zero_le _
  | c :: cs => by
    show max c.data.depth (PyData.depthAll (cs.map Ct.data)) ≤ 3
    have := c.data_depth
    have := dep_contents cs
    omega
theorem shaped_contents {cs : List Ct} (h : ∀ c ∈ cs, c.form) : SeqAt.shaped (.list (cs.map Ct.data)) = true := by
  have := dep_contents cs
  show (PyData.canLayAll0 (cs.map Ct.data) && decide (PyData.depthAll (cs.map Ct.data) + 1 ≤ 64)) = true
  rw [lay_contents cs h, decide_eq_true (by omega)]
  rfl
theorem eqv_strs : ∀ a b : List Str, PyData.eqvAll (a.map PyData.str) (b.map PyData.str) = decide (a = b)
  | [], [] => rfl
  | [], _ :: _ => rfl
  | _ :: _, [] => rfl
  | x :: a, y :: b => by
    show (x == y && PyData.eqvAll (a.map PyData.str) (b.map PyData.str)) = _
    rw [eqv_strs a b]
    by_cases h : x = y
    · by_cases h2 : a = b
      · simp [h, h2]
      · simp [h, h2]
    · simp [h]
theorem eqv_intsC : ∀ a b : List Int, PyData.eqvAll (a.map PyData.int) (b.map PyData.int) = decide (a = b)
  | [], [] => rfl
  | [], _ :: _ => rfl
  | _ :: _, [] => rfl
  | x :: a, y :: b => by
    show (x == y && PyData.eqvAll (a.map PyData.int) (b.map PyData.int)) = _
    rw [eqv_intsC a b]
    by_cases h : x = y
    · by_cases h2 : a = b
      · simp [h, h2]
      · simp [h, h2]
    · simp [h]
theorem eqv_ents : ∀ a b : List (Str × Int), PyData.eqvAll (a.map enD) (b.map enD) = decide (a = b)
  | [], [] => rfl
  | [], _ :: _ => rfl
  | _ :: _, [] => rfl
  | x :: a, y :: b => by
    show ((x.1 == y.1 && (x.2 == y.2 && true)) && PyData.eqvAll (a.map enD) (b.map enD)) = _
    rw [eqv_ents a b]
    obtain ⟨x1, x2⟩ := x
    obtain ⟨y1, y2⟩ := y
    by_cases h : x1 = y1
    · by_cases h2 : x2 = y2
      · by_cases h3 : a = b
        · simp [h, h2, h3]
        · simp [h, h2, h3]
      · simp [h, h2]
    · simp [h]
theorem eqv_hd {x y : Str} (h : x ≠ y) (xs ys : List PyData) : PyData.eqv (.tuple (.str x :: xs)) (.tuple (.str y :: ys)) = false := by
  show (x == y && PyData.eqvAll xs ys) = false
  rw [beq_eq_false_iff_ne.mpr h]
  rfl
theorem Ct.eqv (c d : Ct) : PyData.eqv c.data d.data = decide (c = d) := by
  cases c with
  | leaf a =>
    cases d with
    | leaf b =>
      show (("leaf" : Str) == "leaf" && (PyData.eqvAll (a.map PyData.str) (b.map PyData.str) && true)) = _
      rw [eqv_strs]
      simp
    | tree b => rw [decide_eq_false (by simp)]; exact eqv_hd wv_lt _ _
    | ver p r s => rw [decide_eq_false (by simp)]; exact eqv_hd wv_lv _ _
  | tree a =>
    cases d with
    | tree b =>
      show (("tree" : Str) == "tree" && (PyData.eqvAll (a.map enD) (b.map enD) && true)) = _
      rw [eqv_ents]
      simp
    | leaf b => rw [decide_eq_false (by simp)]; exact eqv_hd wv_lt.symm _ _
    | ver p r s => rw [decide_eq_false (by simp)]; exact eqv_hd wv_tv _ _
  | ver p r s =>
    cases d with
    | ver p2 r2 s2 =>
      show (("version" : Str) == "version" && (PyData.eqvAll (p.map PyData.int) (p2.map PyData.int) && (r == r2 && (s == s2 && true)))) = _
      rw [eqv_intsC]
      by_cases h1 : p = p2 <;> by_cases h2 : r = r2 <;> by_cases h3 : s = s2 <;> simp [h1, h2, h3]
    | leaf b => rw [decide_eq_false (by simp)]; exact eqv_hd wv_lv.symm _ _
    | tree b => rw [decide_eq_false (by simp)]; exact eqv_hd wv_tv.symm _ _
theorem units65b {k : Nat} {A : Around} (r : Room k A) : A.units + 65 < cLine := by have := r.un; omega
end Fw

set_option Elab.async false
set_option linter.all false
set_option maxRecDepth 100000
set_option maxHeartbeats 4000000
/-! _law_why: how a deed ended. -/
namespace Fw
open PySem L2 RZ RT
abbrev N_l_why : List Str := ["_law_deed", "_law_told", "e", "_law_kinds"]
def t_l_why (K : PySem.W.Frag) (f c' : Addr) (q : Str) (tl : XK → Hp → VK → Prop) : TS := (tSeq (tAsg (tTup (tCons (tC (.str "let by")) (tCons (tC .non) tNil))) (gName 1))
    (tSeq (tTryAs K (.ref (He.ga K "HouseError")) 2 (fun W => (tDrop (tDeed 4 f c' q tl W))) (fun xa xcls xd => (tSeq (tAsg (tTup (tCons (tC (.str "other")) (tCons (tC .non) tNil))) (gName 1))
    (tSeq (tAsg (tLst (tCons (tCB (rIsU K xa xcls xd) (tCons (tVar 2) (tCons (tC (.ref (He.ga K "NoThing"))) tNil))) (tCons (tCB (rIsU K xa xcls xd) (tCons (tVar 2) (tCons (tC (.ref (He.ga K "NoName"))) tNil))) (tCons (tCB (rIsU K xa xcls xd) (tCons (tVar 2) (tCons (tC (.ref (He.ga K "TooMany"))) tNil))) (tCons (tCB (rIsU K xa xcls xd) (tCons (tVar 2) (tCons (tC (.ref (He.ga K "Lack"))) tNil))) tNil))))) (gName 3))
    (tSeq (tIfS (tAnd (tB (tCB (rIsU K xa xcls xd) (tCons (tVar 2) (tCons (tC (.ty "ValueError")) tNil)))) (tTest (tOp rEq (tBM K "list" (rCntD K) (tVar 3) (tCons (tC (.bl true)) tNil)) (tC (.int 1))))) (tAsg (tTup (tCons (tOp (rIx K) (tLst (tCons (tC (.str "NoThing")) (tCons (tC (.str "NoName")) (tCons (tC (.str "TooMany")) (tCons (tC (.str "Lack")) tNil))))) (tBM K "list" (rIndexD K) (tVar 3) (tCons (tC (.bl true)) tNil))) (tCons (tC .non) tNil))) (gName 1)) tNext)
    (tIfS (tAnd (tTest (tOp rEq (tOp (rIx K) (tVar 1) (tC (.int 0))) (tC (.str "NoName")))) (tB (tCB (rIsU K xa xcls xd) (tCons (tVar 2) (tCons (tC (.ref (He.ga K "NoName"))) tNil))))) (tAsg (tTup (tCons (tC (.str "NoName")) (tCons (tXf xa xcls xd (He.ga K "NoName") "name" (tVar 2)) tNil))) (gName 1)) tNext))))))
    (tRet (tVar 1))))
def sp_lawT (K : PySem.W.Frag) : Sp := fun vs H Q _ => ∃ (a : Addr) (ns : List Int), vs = [.ref a] ∧ SqL K H a (ns.map V.int) ∧ ns.length ≤ 63 ∧ H (tabP K) = some (.tbl #[]) ∧ ∀ H', Q (.bl true) H'
theorem len_lawT {K : PySem.W.Frag} {vs : List V} {H : Hp} {Q : VK} {E : XK} (h : sp_lawT K vs H Q E) : vs.length = 1 := by obtain ⟨_, _, rfl, _⟩ := h; rfl
/-- the law's table, before its first lambda -/
theorem tabs0 {K : PySem.W.Frag} {H : Hp} (h : H (tabP K) = some (.tbl #[])) : LamX.Tabs (tabsL K) H := fun p hp => by
  rw [List.mem_singleton.mp hp]
  exact LamX.TabS.nil h
theorem dp_blsW {K : PySem.W.Frag} {H : Hp} : ∀ bs : List Bool, DpAll K H (bs.map V.bl) (bs.map PyData.bool)
  | [] => .nil
  | b :: bs => .cons (.bl b) (dp_blsW bs)
section
variable {K : PySem.W.Frag} {H H' : Hp} {Q : VK} {tl : XK → Hp → VK → Prop} {f c' : Addr} {q : Str}
theorem ErrAt.ix {cls : Value} {d : Option Addr} {X : Str} {x : V} (w : WhyC K) (e : ErrAt K cls d H X x) : EcW K X ∧ cls = .ref (He.ga K X) ∧ (d = none ∨ ∃ (dd : Addr) (fs : List (Str × V)), d = some dd ∧ H dd = some (.xd fs)) ∧ (X = "NoName" ∨ X = "NoThing" ∨ X = "TooMany") := by
  obtain ⟨ec, ⟨rfl, dd, fs, h1, h2, _⟩ | ⟨h, h1, _⟩⟩ := e
  · exact ⟨w.nn, ec, .inr ⟨dd, fs, h1, h2⟩, .inl rfl⟩
  · rcases h with rfl | rfl
    · exact ⟨w.nt, ec, .inl h1, .inr (.inl rfl)⟩
    · exact ⟨w.tm, ec, .inl h1, .inr (.inr rfl)⟩
theorem ErrAt.mono {cls : Value} {d : Option Addr} {X : Str} {x : V} (e : ErrAt K cls d H X x) (s : Same H H') : ErrAt K cls d H' X x := by
  obtain ⟨ec, ⟨h, dd, fs, h1, h2, h3⟩ | h⟩ := e
  · exact ⟨ec, .inl ⟨h, dd, fs, h1, s _ _ h2, h3⟩⟩
  · exact ⟨ec, .inr h⟩
/-- isinstance of the error in hand -/
theorem isW {cls : Value} {d : Option Addr} {X Y : Str} {x : V} {a : Addr} {σ : L2.St} {R : VK} (w : WhyC K) (e : ErrAt K cls d H X x) (hY : Y ∈ (["NoThing", "NoName", "TooMany", "Lack"] : List Str)) (r : R (.bl (decide (X = Y))) H) :
    tCons (tC (.ref (He.ga K Y))) tNil σ H fun ys H2 => rIsU K a cls d (.ref a :: ys) H2 R := by
  obtain ⟨ec, e1, e2, _⟩ := e.ix w
  exact ⟨He.ga K X, e1, ec.ec, e2, .ref (He.ga K Y), .ref (He.ga K Y), _, rfl, rel_ref, ec.k Y hY, r⟩
/-- the rest of what is told of an error, its kinds being at hand -/
def whyRest (K : PySem.W.Frag) (xa : Addr) (xcls : Value) (xd : Option Addr) : TS := (tSeq (tIfS (tAnd (tB (tCB (rIsU K xa xcls xd) (tCons (tVar 2) (tCons (tC (.ty "ValueError")) tNil)))) (tTest (tOp rEq (tBM K "list" (rCntD K) (tVar 3) (tCons (tC (.bl true)) tNil)) (tC (.int 1))))) (tAsg (tTup (tCons (tOp (rIx K) (tLst (tCons (tC (.str "NoThing")) (tCons (tC (.str "NoName")) (tCons (tC (.str "TooMany")) (tCons (tC (.str "Lack")) tNil))))) (tBM K "list" (rIndexD K) (tVar 3) (tCons (tC (.bl true)) tNil))) (tCons (tC .non) tNil))) (gName 1)) tNext)
    (tIfS (tAnd (tTest (tOp rEq (tOp (rIx K) (tVar 1) (tC (.int 0))) (tC (.str "NoName")))) (tB (tCB (rIsU K xa xcls xd) (tCons (tVar 2) (tCons (tC (.ref (He.ga K "NoName"))) tNil))))) (tAsg (tTup (tCons (tC (.str "NoName")) (tCons (tXf xa xcls xd (He.ga K "NoName") "name" (tVar 2)) tNil))) (gName 1)) tNext))
theorem shaped_blW (bs : List Bool) : SeqAt.shaped (.list (bs.map PyData.bool)) = true := by
  have h1 : PyData.canLayAll0 (bs.map PyData.bool) = true := by
    induction bs with
    | nil => rfl
    | cons b bs ih => exact ih
  have h2 := dep_flatC (f := PyData.bool) (fun z => by show (0 : Nat) ≤ 1; decide) bs
  show (PyData.canLayAll0 (bs.map PyData.bool) && decide (PyData.depthAll (bs.map PyData.bool) + 1 ≤ 64)) = true
  rw [h1, decide_eq_true (by omega)]
  rfl
theorem why_two {cls : Value} {d : Option Addr} {X : Str} {x : V} {a L p2 : Addr} {y0 : Option V} {bs : List Bool} (w : WhyC K) (e : ErrAt K cls d H X x)
    (hb : ∃ j : Nat, bs[j]? = some true ∧ (∀ m, m < j → bs[m]? = some false) ∧ bs.countP id = 1 ∧ (["NoThing", "NoName", "TooMany", "Lack"] : List Str)[j]? = some X) (hL : H L = some (.lst (bs.map V.bl)))
    (k : ∀ p H', Same H H' → H' p = some (.tup [.str X, x]) → Q (.ref p) H') :
    whyRest K a cls d { nx := fun σ' H' => tRet (tVar 1) { nx := fun _ H' => Q .non H', rt := Q } (σ'.set 2 none) H', rt := Q, bk := fun σ' H' => False, ct := fun σ' H' => False } [y0, some (.ref p2), some (.ref a), some (.ref L)] H := by
  obtain ⟨j, j1, j2, j3, j4⟩ := hb
  obtain ⟨ec, e1, e2, eX⟩ := e.ix w
  have ev : ∀ b : Bool, PyData.eqv (.bool b) (.bool true) = b := fun b => by cases b <;> rfl
  have ds : ∀ m : Nat, (bs.map PyData.bool)[m]? = (bs[m]?).map PyData.bool := fun m => List.getElem?_map ..
  have dp : ∀ {H' : Hp}, Same H H' → Dp K H' (.ref L) (.list (bs.map PyData.bool)) := fun s => .lst (sqL (s _ _ hL)) (dp_blsW bs)
  have sh := shaped_blW bs
  have sb : SeqAt.shaped (.bool true) = true := rfl
  refine ⟨_, rfl, He.ga K X, e1, ec.ec, e2, .ty "ValueError", .type "ValueError", true, rfl, rel_ty, ec.kv, _, rfl, iteT ?_⟩
  refine ⟨_, rfl, .inl ⟨rfl, _, sqL hL⟩, L, .bl true, .bool true, bs.map PyData.bool, rfl, rfl, dp (.refl _), .bl true, sh, sb, rfl, _, rfl, ?_⟩
  rw [show (bs.map PyData.bool).countP (fun z => PyData.eqv z (.bool true)) = 1 from by
    rw [List.countP_map]
    rw [← j3]
    exact List.countP_congr fun b _ => by show (PyData.eqv (.bool b) (.bool true)) = true ↔ id b = true; rw [ev b]; rfl]
  refine iteT ⟨by show (4 : Nat) ≤ sizeLine; decide, fun M nM => ?_⟩
  have s1 : Same H (upd H M (.lst [.str "NoThing", .str "NoName", .str "TooMany", .str "Lack"])) := samN nM
  have hM : upd H M (.lst [.str "NoThing", .str "NoName", .str "TooMany", .str "Lack"]) M = some (.lst ((["NoThing", "NoName", "TooMany", "Lack"] : List Str).map V.str)) := updS
  generalize upd H M (.lst [.str "NoThing", .str "NoName", .str "TooMany", .str "Lack"]) = H1 at s1 hM ⊢
  refine ⟨_, rfl, .inl ⟨rfl, _, sqL (s1 _ _ hL)⟩, L, .bl true, .bool true, bs.map PyData.bool, j, .bool true, rfl, rfl, dp s1, .bl true, sh, sb, by rw [ds, j1]; rfl, ev true, fun m z hm hz => ?_, ?_⟩
  · rw [ds, j2 m hm] at hz
    cases Option.some.inj hz
    exact ev false
  refine ixL hM (atI_nat (by rw [List.getElem?_map, j4]; rfl)) ⟨by show (2 : Nat) ≤ sizeLine; decide, fun P nP => ?_⟩
  have s2 : Same H1 (upd H1 P (.tup [.str X, .non])) := samN nP
  have hP : upd H1 P (.tup [.str X, .non]) P = some (.tup [.str X, .non]) := updS
  dsimp only [tNil]
  generalize upd H1 P (.tup [.str X, .non]) = H2 at s2 hP ⊢
  have s12 := s1.trans s2
  have e' := e.mono s12
  refine ⟨_, rfl, ixT hP rfl ⟨rfl, _, rfl, ?_⟩⟩
  have dS : decide (V.str X = V.str "NoName") = decide (X = "NoName") := decide_eq_decide.mpr ⟨fun z => V.str.inj z, fun z => by rw [z]⟩
  rw [dS]
  by_cases hX : X = "NoName"
  · rw [decide_eq_true hX]
    refine iteT ⟨_, rfl, isW w e' (by simp) ⟨_, rfl, ?_⟩⟩
    rw [decide_eq_true hX]
    obtain ⟨_, ⟨_, dd, fs, h1, h2, h3⟩ | ⟨h, _⟩⟩ := e'
    · refine iteT ⟨_, rfl, rfl, by rw [e1, hX], dd, fs, x, h1, h2, h3, by show (2 : Nat) ≤ sizeLine; decide, fun P2 nP2 => ?_⟩
      dsimp only [tNil]
      have s3 : Same H2 (upd H2 P2 (.tup [.str "NoName", x])) := samN nP2
      exact ⟨_, rfl, k P2 _ (s12.trans s3) (by rw [updS, hX])⟩
    · rw [hX] at h
      rcases h with h | h
      · exact absurd h (by decide +kernel)
      · exact absurd h (by decide +kernel)
  · rw [decide_eq_false hX]
    have ex : x = .non := by
      obtain ⟨_, ⟨h, _⟩ | ⟨_, _, h⟩⟩ := e
      · exact absurd h hX
      · exact h
    exact iteF ⟨_, rfl, k P _ s12 (by rw [hP, ex])⟩
theorem why_pure (h : TWhy K tl H Q) (hc : H c' = some (LamX.CodeO c' q)) : t_l_why K f c' q tl { nx := fun _ H' => Q .non H', rt := Q } (start N_l_why [.ref f]) H := by
  obtain ⟨w, h⟩ := h
  refine ⟨by show (2 : Nat) ≤ sizeLine; decide, fun p np => ?_⟩
  refine ⟨EWhy K Q, fun cls d σ' H1 hl he => ?_, rfl, (samN np) _ _ hc, ?_⟩
  · obtain ⟨X, x, e, k⟩ := he
    obtain ⟨ec, e1, e2, eX⟩ := e.ix w
    match σ', hl with
    | [y0, y1, y2, y3], _ =>
      refine ⟨true, by rw [e1]; exact ec.em, fun _ a na => ?_, fun z => nomatch z⟩
      refine ⟨by show (2 : Nat) ≤ sizeLine; decide, fun p2 np2 => ?_⟩
      have s2 : Same H1 (upd H1 p2 (.tup [.str "other", .non])) := samN np2
      dsimp only [tNil]
      generalize upd H1 p2 (.tup [.str "other", .non]) = H2 at s2
      have eW := e.mono s2
      refine ⟨_, rfl, isW w eW (by simp) ⟨_, rfl, isW w eW (by simp) ⟨_, rfl, isW w eW (by simp) ⟨_, rfl, isW w eW (by simp) ?_⟩⟩⟩⟩
      dsimp only [tNil]
      refine ⟨by show (4 : Nat) ≤ sizeLine; decide, fun L nL => ?_⟩
      have s3 : Same H2 (upd H2 L (.lst [.bl (decide (X = "NoThing")), .bl (decide (X = "NoName")), .bl (decide (X = "TooMany")), .bl (decide (X = "Lack"))])) := samN nL
      have hL : upd H2 L (.lst [.bl (decide (X = "NoThing")), .bl (decide (X = "NoName")), .bl (decide (X = "TooMany")), .bl (decide (X = "Lack"))]) L = some (.lst (([decide (X = "NoThing"), decide (X = "NoName"), decide (X = "TooMany"), decide (X = "Lack")] : List Bool).map V.bl)) := updS
      generalize upd H2 L (.lst [.bl (decide (X = "NoThing")), .bl (decide (X = "NoName")), .bl (decide (X = "TooMany")), .bl (decide (X = "Lack"))]) = H3 at s3 hL
      exact why_two w (eW.mono s3) (by
        rcases eX with rfl | rfl | rfl
        · exact ⟨1, by decide +kernel, by decide +kernel, by decide +kernel, by decide +kernel⟩
        · exact ⟨0, by decide +kernel, by decide +kernel, by decide +kernel, by decide +kernel⟩
        · exact ⟨2, by decide +kernel, by decide +kernel, by decide +kernel, by decide +kernel⟩) hL fun p' H' s4 => k p' H' (s2.trans (s3.trans s4))
  · have e : (fun (_ : V) (H' : Hp) => tRet (tVar 1) { nx := fun _ H' => Q .non H', rt := Q } [some (.ref f), some (.ref p), none, none] H') = fun (_ : V) (H' : Hp) => Q (.ref p) H' := by
      funext v H'
      refine propext ⟨fun ⟨z, h1, h2⟩ => ?_, fun h1 => ⟨_, rfl, h1⟩⟩
      cases Option.some.inj (Option.some.inj h1)
      exact h2
    have := h p np
    rw [← e] at this
    exact this
end
end Fw

set_option Elab.async false
set_option linter.all false
set_option maxRecDepth 100000
set_option maxHeartbeats 4000000
/-! Lambdas in several defs. -/
namespace Fw
open PySem PySem.Spec PySem.Calls PyProof.Rows L2 RZ RT
abbrev tabA (K : PySem.W.Frag) (d : Str) : Addr := (He.cT K (d, none)).2
/-- a def's table, and the name of what it makes -/
def tabF (K : PySem.W.Frag) (d : Str) : Addr × Str := (tabA K d, d ++ ".<locals>." ++ "<lambda>")
abbrev tabsF (K : PySem.W.Frag) (ds : List Str) : List (Addr × Str) := ds.map (tabF K)
def sp_lawF (K : PySem.W.Frag) (ds : List Str) : Sp := fun vs H Q _ => ∃ (a : Addr) (ns : List Int), vs = [.ref a] ∧ SqL K H a (ns.map V.int) ∧ ns.length ≤ 63 ∧ (∀ d ∈ ds, H (tabA K d) = some (.tbl #[])) ∧ ∀ H', Q (.bl true) H'
theorem len_lawF {K : PySem.W.Frag} {ds : List Str} {vs : List V} {H : Hp} {Q : VK} {E : XK} (h : sp_lawF K ds vs H Q E) : vs.length = 1 := by obtain ⟨_, _, rfl, _⟩ := h; rfl
theorem tabs0F {K : PySem.W.Frag} {ds : List Str} {H : Hp} (h : ∀ d ∈ ds, H (tabA K d) = some (.tbl #[])) : LamX.Tabs (tabsF K ds) H := fun p hp => by
  obtain ⟨d, hd, rfl⟩ := List.mem_map.mp hp
  exact LamX.TabS.nil (h d hd)
section
variable {X : Cx} {pg : Arguments} {bg : List Stmt} {sg : Scope} {g c : Addr} {fd : FuncData} {Ng : List Str} {k : Nat} {params : Arguments} {body : Expr} {scope : Scope} {t : XK → TE} {p lpos pos : Pos} {ds : List Str} {d : Str}
theorem pe_lamT (F : FunD X.K "_law_why" "_law_why" pg bg sg [] [] g fd) (hm : X.mg "_law_why" = some (.ref g)) (hb : L2.Binds X.K fd ["_law_deed"] []) (Sg : FnScope Ng ["_law_deed"] sg) (hNg : Ng[0]? = some ("_law_deed" : Str)) (hva : Vis sg "_law_deed") (hgl : Gl X "_law_why")
    (hG : ∀ cdv, LamX.GivesTo X Ng "_law_why" sg g cdv bg "_law_deed" (X.env.qual ++ "<lambda>") (TWhy X.K)) (TB : LamX.TabB X.base X.mg c (tabA X.K d)) (hcode : X.env.code = .ref c) (hq : X.env.qual = d ++ ".<locals>.") (hd : d ∈ ds) (hun : ∀ e ∈ ds, tabA X.K e = tabA X.K d → e = d)
    (hr : Room (k + 2) X.A) (L : LamX.LamS X.env.scope scope) (hdef : defaultsOf params X.env = ([], []))
    (hbind : ∀ (q : Str) (cl : List (Str × Addr)) (pm cv ctv : Value), bindArgs (PySem.W.kla_fn "<lambda>" q params body scope cl pm cv ctv) ⟨[], []⟩ = pure [])
    (hbody : ∀ (A : Around) (outer : List Env) (s : Shared) (H : Hp) (E : XK) (f c' : Addr), Room k (A.deeper (LamX.lamEnv X scope s.heap.objs.size f c')) → PE (LamX.lamCx X A outer s H E scope f c') body (t E)) :
    PE X (.Call (.Name "_law_why" p) [.Lambda params body scope lpos] [] pos) (LamX.tLam (tabsF X.K ds) (TWhy X.K) t) := by
  obtain ⟨oc, od, dV, kV, doc, pm, an, cdv, ct, osl, e, lk, hcd, _, _⟩ := F.ex
  subst e
  exact LamX.pe_lamcall hgl hm F.kp lk hcd hb Sg hNg hva (hG cdv) TB hcode (by rw [hq]; exact List.mem_map.mpr ⟨d, hd, rfl⟩) (fun q hq' e => by
    obtain ⟨e', he, rfl⟩ := List.mem_map.mp hq'
    rw [hq, hun e' he e]
    rfl) hr L hdef hbind hbody
end
end Fw

set_option Elab.async false
set_option linter.all false
set_option maxRecDepth 100000
set_option maxHeartbeats 4000000
/-! How a deed in a town ended: what is caught, and what is told of it. -/
namespace Fw
section
open PySem PySem.Spec PySem.Calls PyProof.Rows L2 RZ RT
section
variable {X : Cx} {pg : Arguments} {bg : List Stmt} {sg : Scope} {g c : Addr} {fd : FuncData} {Ng : List Str} {k : Nat} {params : Arguments} {body : Expr} {scope : Scope} {t : XK → TE} {p lpos pos : Pos} {ds : List Str} {d x : Str} {T : (XK → Hp → VK → Prop) → Hp → VK → Prop}
theorem pe_lamD (F : FunD X.K x x pg bg sg [] [] g fd) (hm : X.mg x = some (.ref g)) (hb : L2.Binds X.K fd ["_law_deed"] []) (Sg : FnScope Ng ["_law_deed"] sg) (hNg : Ng[0]? = some ("_law_deed" : Str)) (hva : Vis sg "_law_deed") (hgl : Gl X x)
    (hG : ∀ cdv, LamX.GivesTo X Ng x sg g cdv bg "_law_deed" (X.env.qual ++ "<lambda>") T) (TB : LamX.TabB X.base X.mg c (tabA X.K d)) (hcode : X.env.code = .ref c) (hq : X.env.qual = d ++ ".<locals>.") (hd : d ∈ ds) (hun : ∀ e ∈ ds, tabA X.K e = tabA X.K d → e = d)
    (hr : Room (k + 2) X.A) (L : LamX.LamS X.env.scope scope) (hdef : defaultsOf params X.env = ([], []))
    (hbind : ∀ (q : Str) (cl : List (Str × Addr)) (pm cv ctv : Value), bindArgs (PySem.W.kla_fn "<lambda>" q params body scope cl pm cv ctv) ⟨[], []⟩ = pure [])
    (hbody : ∀ (A : Around) (outer : List Env) (s : Shared) (H : Hp) (E : XK) (f c' : Addr), Room k (A.deeper (LamX.lamEnv X scope s.heap.objs.size f c')) → PE (LamX.lamCx X A outer s H E scope f c') body (t E))
    (hdb : (x == Str.ofString "__debug__") = false := by decide +kernel) :
    PE X (.Call (.Name x p) [.Lambda params body scope lpos] [] pos) (LamX.tLam (tabsF X.K ds) T t) := by
  obtain ⟨oc, od, dV, kV, doc, pm, an, cdv, ct, osl, e, lk, hcd, _, _⟩ := F.ex
  subst e
  exact LamX.pe_lamcall hgl hm F.kp lk hcd hb Sg hNg hva (hG cdv) TB hcode (by rw [hq]; exact List.mem_map.mpr ⟨d, hd, rfl⟩) (fun q hq' e => by
    obtain ⟨e', he, rfl⟩ := List.mem_map.mp hq'
    rw [hq, hun e' he e]
    rfl) hr L hdef hbind hbody (hdb := hdb)
end
/-- a caught error's field, whichever of the text's classes it is of -/
def tXfU (K : PySem.W.Frag) (a : Addr) (cls : Value) (d : Option Addr) (f : Str) (te : TE) : TE := fun σ H Q => te σ H fun x H1 => x = .ref a ∧ ∃ C : Addr, cls = .ref C ∧ XfC K C ∧ PySem.W.findIn K (.ref C) f = some none ∧ ∃ (dd : Addr) (fs : List (Str × V)) (v : V), d = some dd ∧ H1 dd = some (.xd fs) ∧ fs.lookup f = some v ∧ Q v H1
theorem pe_xfU {X : Cx} {a : Addr} {oe : Obj} {cls : Value} {d : Option Addr} {pn : List (Addr × Obj)} {e : Expr} {te : TE} {pos : Pos} {n : Str}
    (hz : Zc cls d oe) (hf : ∃ vs, oe.data = .fields vs) (he : PE (X.suite a ((a, oe) :: pn)) e te) (hb : attributeBase e n X.env (eval e X.env) = eval e X.env := by rfl) :
    PE (X.suite a ((a, oe) :: pn)) (.Attribute e n pos) (tXfU X.K a cls d n te) := by
  refine ⟨fun pins s σ H Q I h => ?_⟩
  refine attr_of hb (thn (he.run pins s σ H _ I h) fun u s1 hh => ?_)
  obtain ⟨x, H1, I1, rx, ex, C, ec, T, hno, dd, fs, v, ed, ea, l, q⟩ := hh
  subst ex
  obtain rfl : u = Value.ref a := rx
  subst ec
  subst ed
  obtain ⟨ha, _⟩ := I1.pin (a, oe) (List.mem_append_left _ List.mem_cons_self)
  obtain ⟨vs, hd⟩ := hf
  have hx : ObjOk X.prog X.w H1 s1.heap dd (.xd fs) := I1.hok dd _ ea
  obtain ⟨mA, hns, hr⟩ := hx
  obtain ⟨od, ho, hl⟩ := lookIn_ns hns
  obtain ⟨u, hu, ru⟩ := RelO.some_of (v := v) (o := mA n) (by rw [← l]; exact hr n)
  have J : PySem.W.InstAt s1.heap a oe C (some od) := ⟨ha, hz.1, by unfold PySem.W.notCls; rw [hd] <;> rfl, by rw [hz.2]; exact ho⟩
  exact HandSPX.exc_get I1.kIn J T.ga T.gg T.exC (PySem.W.findObj_own T.hdC hno rfl (by rw [hl, hu])) (handed_of ru) ⟨v, H1, I1.tok _, ru, q⟩
end
section
open PySem L2 RZ RT
/-- the classes that the law asks for -/
abbrev err8 : List Str := ["NoHouse", "Taken", "NoTalk", "TooMany", "NoMark", "Broken", "Lack", "NoName"]
structure EcT (K : PySem.W.Frag) (X : Str) : Prop where
  ec : ExcC K (He.ga K X)
  em : PySem.W.exmOne K (.ref (He.ga K X)) (.ref (He.ga K "HouseError")) = some true
  kv : PySem.W.kitOne K (.ref (He.ga K X)) (.type "ValueError") = some true
  k : ∀ Y ∈ err8, PySem.W.kitOne K (.ref (He.ga K X)) (.ref (He.ga K Y)) = some (decide (X = Y))
  xf : XfC K (He.ga K X)
  no : PySem.W.findIn K (.ref (He.ga K X)) "label" = some none
  oex : OexC K (He.ga K X)
  ini : PySem.W.findIn K (.ref (He.ga K X)) "__init__" = some (some (.ref (He.fAd K (X, some "__init__"))))
  tin : PySem.W.typeIn K (.ref (He.fAd K (X, some "__init__"))) = some (.type "function")
def ectB (K : PySem.W.Frag) (X : Str) : Bool := excB K (He.ga K X) && (decide (PySem.W.exmOne K (.ref (He.ga K X)) (.ref (He.ga K "HouseError")) = some true) && (decide (PySem.W.kitOne K (.ref (He.ga K X)) (.type "ValueError") = some true) &&
  ((err8.all fun Y => decide (PySem.W.kitOne K (.ref (He.ga K X)) (.ref (He.ga K Y)) = some (decide (X = Y)))) && (xfB K (He.ga K X) && (decide (PySem.W.findIn K (.ref (He.ga K X)) "label" = some none) && (oexB K (He.ga K X) &&
  (decide (PySem.W.findIn K (.ref (He.ga K X)) "__init__" = some (some (.ref (He.fAd K (X, some "__init__"))))) && decide (PySem.W.typeIn K (.ref (He.fAd K (X, some "__init__"))) = some (.type "function")))))))))
theorem ectB_ok {K : PySem.W.Frag} {X : Str} (h : ectB K X = true) : EcT K X := by
  unfold ectB at h
  obtain ⟨h1, h⟩ := He.ba h
  obtain ⟨h2, h⟩ := He.ba h
  obtain ⟨h3, h⟩ := He.ba h
  obtain ⟨h4, h⟩ := He.ba h
  obtain ⟨h5, h⟩ := He.ba h
  obtain ⟨h6, h⟩ := He.ba h
  obtain ⟨h7, h⟩ := He.ba h
  obtain ⟨h8, h9⟩ := He.ba h
  exact ⟨excB_ok h1, of_decide_eq_true h2, of_decide_eq_true h3, fun Y hY => of_decide_eq_true (List.all_eq_true.mp h4 Y hY), xfB_ok h5, of_decide_eq_true h6, oexB_ok h7, of_decide_eq_true h8, of_decide_eq_true h9⟩
structure TownE (K : PySem.W.Frag) : Prop where
  nh : EcT K "NoHouse"
  tk : EcT K "Taken"
/-- the error, its name, and the label that it has -/
def TErr (K : PySem.W.Frag) (cls : Value) (d : Option Addr) (H : Hp) (X : Str) (x : V) : Prop := (X = "NoHouse" ∨ X = "Taken") ∧ cls = .ref (He.ga K X) ∧ ∃ (dd : Addr) (fs : List (Str × V)), d = some dd ∧ H dd = some (.xd fs) ∧ fs.lookup ("label" : Str) = some x
theorem TErr.mono {K : PySem.W.Frag} {H H' : Hp} {cls : Value} {d : Option Addr} {X : Str} {x : V} (e : TErr K cls d H X x) (s : Same H H') : TErr K cls d H' X x := by
  obtain ⟨h, c, dd, fs, h1, h2, h3⟩ := e
  exact ⟨h, c, dd, fs, h1, s _ _ h2, h3⟩
def ETown (K : PySem.W.Frag) (Q : VK) : XK := fun cls d H' => ∃ (X : Str) (x : V), TErr K cls d H' X x ∧ ∀ p H'', Same H' H'' → H'' p = some (.tup [.str X, x]) → Q (.ref p) H''
def TTown (K : PySem.W.Frag) : (XK → Hp → VK → Prop) → Hp → VK → Prop := fun tl H Q => TownE K ∧ ∀ p, H p = none → tl (ETown K Q) (upd H p (.tup [.str "let by", .non])) fun _ H' => Q (.ref p) H'
abbrev N_l_town_why : List Str := ["_law_deed", "_law_told", "e", "_law_kinds"]
def t_l_town_why (K : PySem.W.Frag) (f c' : Addr) (q : Str) (tl : XK → Hp → VK → Prop) : TS := (tSeq (tAsg (tTup (tCons (tC (.str "let by")) (tCons (tC .non) tNil))) (gName 1))
    (tSeq (tTryAs K (.ref (He.ga K "HouseError")) 2 (fun W => (tDrop (tDeed 4 f c' q tl W))) (fun xa xcls xd => (tSeq (tAsg (tLst (tCons (tCB (rIsU K xa xcls xd) (tCons (tVar 2) (tCons (tC (.ref (He.ga K "NoHouse"))) tNil))) (tCons (tCB (rIsU K xa xcls xd) (tCons (tVar 2) (tCons (tC (.ref (He.ga K "Taken"))) tNil))) (tCons (tCB (rIsU K xa xcls xd) (tCons (tVar 2) (tCons (tC (.ref (He.ga K "NoTalk"))) tNil))) (tCons (tCB (rIsU K xa xcls xd) (tCons (tVar 2) (tCons (tC (.ref (He.ga K "TooMany"))) tNil))) tNil))))) (gName 3))
    (tSeq (tAsg (tOp rCat (tVar 3) (tLst (tCons (tCB (rIsU K xa xcls xd) (tCons (tVar 2) (tCons (tC (.ref (He.ga K "NoMark"))) tNil))) (tCons (tCB (rIsU K xa xcls xd) (tCons (tVar 2) (tCons (tC (.ref (He.ga K "Broken"))) tNil))) (tCons (tCB (rIsU K xa xcls xd) (tCons (tVar 2) (tCons (tC (.ref (He.ga K "Lack"))) tNil))) (tCons (tCB (rIsU K xa xcls xd) (tCons (tVar 2) (tCons (tC (.ref (He.ga K "NoName"))) tNil))) tNil)))))) (gName 3))
    (tSeq (tAsg (tTup (tCons (tC (.str "other")) (tCons (tC .non) tNil))) (gName 1))
    (tIfS (tAnd (tB (tCB (rIsU K xa xcls xd) (tCons (tVar 2) (tCons (tC (.ty "ValueError")) tNil)))) (tTest (tOp rEq (tBM K "list" (rCntD K) (tVar 3) (tCons (tC (.bl true)) tNil)) (tC (.int 1))))) (tSeq (tAsg (tTup (tCons (tC (.str "TooMany")) (tCons (tC .non) tNil))) (gName 1))
    (tSeq (tIfS (tOr (tB (tCB (rIsU K xa xcls xd) (tCons (tVar 2) (tCons (tC (.ref (He.ga K "NoHouse"))) tNil)))) (tB (tCB (rIsU K xa xcls xd) (tCons (tVar 2) (tCons (tC (.ref (He.ga K "Taken"))) tNil))))) (tAsg (tTup (tCons (tOp (rIx K) (tLst (tCons (tC (.str "NoHouse")) (tCons (tC (.str "Taken")) tNil))) (tBM K "list" (rIndexD K) (tVar 3) (tCons (tC (.bl true)) tNil))) (tCons (tXfU K xa xcls xd "label" (tVar 2)) tNil))) (gName 1)) tNext)
    (tSeq (tIfS (tB (tCB (rIsU K xa xcls xd) (tCons (tVar 2) (tCons (tC (.ref (He.ga K "NoTalk"))) tNil)))) (tAsg (tTup (tCons (tC (.str "NoTalk")) (tCons (tXfU K xa xcls xd "number" (tVar 2)) tNil))) (gName 1)) tNext)
    (tSeq (tIfS (tB (tCB (rIsU K xa xcls xd) (tCons (tVar 2) (tCons (tC (.ref (He.ga K "NoMark"))) tNil)))) (tAsg (tTup (tCons (tC (.str "NoMark")) (tCons (tXfU K xa xcls xd "mark" (tVar 2)) tNil))) (gName 1)) tNext)
    (tSeq (tIfS (tB (tCB (rIsU K xa xcls xd) (tCons (tVar 2) (tCons (tC (.ref (He.ga K "Broken"))) tNil)))) (tAsg (tTup (tCons (tC (.str "Broken")) (tCons (tXfU K xa xcls xd "rows" (tVar 2)) tNil))) (gName 1)) tNext)
    (tIfS (tOr (tB (tCB (rIsU K xa xcls xd) (tCons (tVar 2) (tCons (tC (.ref (He.ga K "Lack"))) tNil)))) (tB (tCB (rIsU K xa xcls xd) (tCons (tVar 2) (tCons (tC (.ref (He.ga K "NoName"))) tNil))))) (tAsg (tTup (tCons (tC (.str "name")) (tCons (tXfU K xa xcls xd "name" (tVar 2)) tNil))) (gName 1)) tNext)))))) tNext))))))
    (tRet (tVar 1))))
section
variable {K : PySem.W.Frag} {H H' : Hp} {Q : VK} {tl : XK → Hp → VK → Prop} {f c' : Addr} {q : Str}
theorem TErr.ec {cls : Value} {d : Option Addr} {X : Str} {x : V} (w : TownE K) (e : TErr K cls d H X x) : EcT K X := by
  obtain ⟨rfl | rfl, _⟩ := e
  · exact w.nh
  · exact w.tk
theorem isT {cls : Value} {d : Option Addr} {X Y : Str} {x : V} {a : Addr} {σ : L2.St} {R : VK} (w : TownE K) (e : TErr K cls d H X x) (hY : Y ∈ err8) (r : R (.bl (decide (X = Y))) H) :
    tCons (tC (.ref (He.ga K Y))) tNil σ H fun ys H2 => rIsU K a cls d (.ref a :: ys) H2 R := by
  have ec := e.ec w
  obtain ⟨_, e1, dd, fs, e2, e3, _⟩ := e
  exact ⟨He.ga K X, e1, ec.ec, .inr ⟨dd, fs, e2, e3⟩, .ref (He.ga K Y), .ref (He.ga K Y), _, rfl, rel_ref, ec.k Y hY, r⟩
theorem isTf {cls : Value} {d : Option Addr} {X Y : Str} {x : V} {a : Addr} {σ : L2.St} {R : VK} (w : TownE K) (e : TErr K cls d H X x) (hY : Y ∈ (["NoTalk", "TooMany", "NoMark", "Broken", "Lack", "NoName"] : List Str)) (r : R (.bl false) H) :
    tCons (tC (.ref (He.ga K Y))) tNil σ H fun ys H2 => rIsU K a cls d (.ref a :: ys) H2 R := by
  refine isT w e (by simp only [List.mem_cons, List.not_mem_nil, or_false] at hY ⊢; rcases hY with h | h | h | h | h | h <;> simp [h]) ?_
  have : X ≠ Y := by
    have hX := e.1
    simp only [List.mem_cons, List.not_mem_nil, or_false] at hY
    rcases hX with rfl | rfl <;> rcases hY with rfl | rfl | rfl | rfl | rfl | rfl <;> decide +kernel
  rw [decide_eq_false this]
  exact r
theorem why_pureT (h : TTown K tl H Q) (hc : H c' = some (LamX.CodeO c' q)) : t_l_town_why K f c' q tl { nx := fun _ H' => Q .non H', rt := Q } (start N_l_town_why [.ref f]) H := by
  obtain ⟨w, h⟩ := h
  refine ⟨by show (2 : Nat) ≤ sizeLine; decide, fun p np => ?_⟩
  refine ⟨ETown K Q, fun cls d σ' H1 hl he => ?_, rfl, (samN np) _ _ hc, ?_⟩
  · obtain ⟨X, x, e, k⟩ := he
    match σ', hl with
    | [y0, y1, y2, y3], _ =>
      have ec := e.ec w
      refine ⟨true, by rw [e.2.1]; exact ec.em, fun _ a na => ?_, fun z => nomatch z⟩
      refine ⟨_, rfl, isT w e (by simp) ⟨_, rfl, isT w e (by simp) ⟨_, rfl, isTf w e (by simp) ⟨_, rfl, isTf w e (by simp) ?_⟩⟩⟩⟩
      dsimp only [tNil]
      refine ⟨by show (4 : Nat) ≤ sizeLine; decide, fun L nL => ?_⟩
      have s1 : Same H1 (upd H1 L (.lst [.bl (decide (X = "NoHouse")), .bl (decide (X = "Taken")), .bl false, .bl false])) := samN nL
      have hL : upd H1 L (.lst [.bl (decide (X = "NoHouse")), .bl (decide (X = "Taken")), .bl false, .bl false]) L = some (.lst [.bl (decide (X = "NoHouse")), .bl (decide (X = "Taken")), .bl false, .bl false]) := updS
      generalize upd H1 L (.lst [.bl (decide (X = "NoHouse")), .bl (decide (X = "Taken")), .bl false, .bl false]) = H2 at s1 hL
      have e2 := e.mono s1
      refine ⟨_, rfl, _, rfl, isTf w e2 (by simp) ⟨_, rfl, isTf w e2 (by simp) ⟨_, rfl, isTf w e2 (by simp) ⟨_, rfl, isTf w e2 (by simp) ?_⟩⟩⟩⟩
      dsimp only [tNil]
      refine ⟨by show (4 : Nat) ≤ sizeLine; decide, fun M nM => ?_⟩
      refine ⟨L, M, _, _, rfl, rfl, samN nM _ _ hL, updS, by show (8 : Nat) ≤ sizeLine; decide, fun B nB => ?_⟩
      have s3 : Same H2 (upd (upd H2 M (.lst [.bl false, .bl false, .bl false, .bl false])) B (.lst ([.bl (decide (X = "NoHouse")), .bl (decide (X = "Taken")), .bl false, .bl false] ++ [.bl false, .bl false, .bl false, .bl false]))) := (samN nM).trans (samN nB)
      have hB : upd (upd H2 M (.lst [.bl false, .bl false, .bl false, .bl false])) B (.lst ([.bl (decide (X = "NoHouse")), .bl (decide (X = "Taken")), .bl false, .bl false] ++ [.bl false, .bl false, .bl false, .bl false])) B = some (.lst (([decide (X = "NoHouse"), decide (X = "Taken"), false, false, false, false, false, false] : List Bool).map V.bl)) := updS
      generalize upd (upd H2 M (.lst [.bl false, .bl false, .bl false, .bl false])) B (.lst ([.bl (decide (X = "NoHouse")), .bl (decide (X = "Taken")), .bl false, .bl false] ++ [.bl false, .bl false, .bl false, .bl false])) = H3 at s3 hB
      have e3 := e2.mono s3
      have s13 := s1.trans s3
      refine ⟨by show (2 : Nat) ≤ sizeLine; decide, fun p2 np2 => ?_⟩
      have s4 : Same H3 (upd H3 p2 (.tup [.str "other", .non])) := samN np2
      dsimp only [tNil]
      generalize upd H3 p2 (.tup [.str "other", .non]) = H4 at s4
      have e4 := e3.mono s4
      have hB4 := s4 _ _ hB
      have s14 := s13.trans s4
      clear s1 s3 s4 s13 e2 e3 hL hB nL nM nB np2
      -- it is of one kind
      obtain ⟨j, j1, j2, j3, j4⟩ : ∃ j : Nat, ([decide (X = "NoHouse"), decide (X = "Taken"), false, false, false, false, false, false] : List Bool)[j]? = some true ∧ (∀ m, m < j → ([decide (X = "NoHouse"), decide (X = "Taken"), false, false, false, false, false, false] : List Bool)[m]? = some false) ∧ ([decide (X = "NoHouse"), decide (X = "Taken"), false, false, false, false, false, false] : List Bool).countP id = 1 ∧ (["NoHouse", "Taken"] : List Str)[j]? = some X := by
        rcases e.1 with rfl | rfl
        · exact ⟨0, by decide +kernel, by decide +kernel, by decide +kernel, by decide +kernel⟩
        · exact ⟨1, by decide +kernel, by decide +kernel, by decide +kernel, by decide +kernel⟩
      generalize ([decide (X = "NoHouse"), decide (X = "Taken"), false, false, false, false, false, false] : List Bool) = bs at j1 j2 j3 hB4
      have ev : ∀ b : Bool, PyData.eqv (.bool b) (.bool true) = b := fun b => by cases b <;> rfl
      have dsm : ∀ m : Nat, (bs.map PyData.bool)[m]? = (bs[m]?).map PyData.bool := fun m => List.getElem?_map ..
      have dp : ∀ {H' : Hp}, Same H4 H' → Dp K H' (.ref B) (.list (bs.map PyData.bool)) := fun s => .lst (sqL (s _ _ hB4)) (dp_blsW bs)
      have sh := shaped_blW bs
      have sb : SeqAt.shaped (.bool true) = true := rfl
      obtain ⟨_, eC, dd, fs, eD, eH, eL⟩ := id e4
      refine ⟨_, rfl, He.ga K X, eC, ec.ec, .inr ⟨dd, fs, eD, eH⟩, .ty "ValueError", .type "ValueError", true, rfl, rel_ty, ec.kv, _, rfl, iteT ?_⟩
      refine ⟨_, rfl, .inl ⟨rfl, _, sqL hB4⟩, B, .bl true, .bool true, bs.map PyData.bool, rfl, rfl, dp (.refl _), .bl true, sh, sb, rfl, _, rfl, ?_⟩
      rw [show (bs.map PyData.bool).countP (fun z => PyData.eqv z (.bool true)) = 1 from by
        rw [List.countP_map]
        rw [← j3]
        exact List.countP_congr fun b _ => by show (PyData.eqv (.bool b) (.bool true)) = true ↔ id b = true; rw [ev b]; rfl]
      refine iteT ⟨by show (2 : Nat) ≤ sizeLine; decide, fun p3 np3 => ?_⟩
      have s5 : Same H4 (upd H4 p3 (.tup [.str "TooMany", .non])) := samN np3
      dsimp only [tNil]
      generalize upd H4 p3 (.tup [.str "TooMany", .non]) = H5 at s5
      have e5 := e4.mono s5
      have hB5 := s5 _ _ hB4
      have body : ∀ (D : Ends) (z3 : Option V), z3 = some (.ref B) → (∀ P H', Same H5 H' → H' P = some (.tup [.str X, x]) → D.nx [y0, some (.ref P), some (.ref a), some (.ref B)] H') → (tAsg (tTup (tCons (tOp (rIx K) (tLst (tCons (tC (.str "NoHouse")) (tCons (tC (.str "Taken")) tNil))) (tBM K "list" (rIndexD K) (tVar 3) (tCons (tC (.bl true)) tNil))) (tCons (tXfU K a cls d "label" (tVar 2)) tNil))) (gName 1))
          D [y0, some (.ref p3), some (.ref a), z3] H5 := by
        rintro D z3 rfl kk
        refine ⟨by show (2 : Nat) ≤ sizeLine; decide, fun M nM => ?_⟩
        have s1 : Same H5 (upd H5 M (.lst [.str "NoHouse", .str "Taken"])) := samN nM
        have hM : upd H5 M (.lst [.str "NoHouse", .str "Taken"]) M = some (.lst ((["NoHouse", "Taken"] : List Str).map V.str)) := updS
        generalize upd H5 M (.lst [.str "NoHouse", .str "Taken"]) = H6 at s1 hM ⊢
        have hB6 := s1 _ _ hB5
        refine ⟨_, rfl, .inl ⟨rfl, _, sqL hB6⟩, B, .bl true, .bool true, bs.map PyData.bool, j, .bool true, rfl, rfl, dp (s5.trans s1), .bl true, sh, sb, by rw [dsm, j1]; rfl, ev true, fun m z hm hz => ?_, ?_⟩
        · rw [dsm, j2 m hm] at hz
          cases Option.some.inj hz
          exact ev false
        refine ixL hM (atI_nat (by rw [List.getElem?_map, j4]; rfl)) ?_
        have s56 := s5.trans s1
        refine ⟨_, rfl, rfl, He.ga K X, eC, ec.xf, ec.no, dd, fs, x, eD, s56 _ _ eH, eL, ?_⟩
        refine ⟨by show (2 : Nat) ≤ sizeLine; decide, fun P nP => ?_⟩
        exact kk P _ (s1.trans (samN nP)) updS
      have rest : ∀ P H', Same H5 H' → H' P = some (.tup [.str X, x]) →
          (tSeq (tIfS (tB (tCB (rIsU K a cls d) (tCons (tVar 2) (tCons (tC (.ref (He.ga K "NoTalk"))) tNil)))) (tAsg (tTup (tCons (tC (.str "NoTalk")) (tCons (tXfU K a cls d "number" (tVar 2)) tNil))) (gName 1)) tNext)
    (tSeq (tIfS (tB (tCB (rIsU K a cls d) (tCons (tVar 2) (tCons (tC (.ref (He.ga K "NoMark"))) tNil)))) (tAsg (tTup (tCons (tC (.str "NoMark")) (tCons (tXfU K a cls d "mark" (tVar 2)) tNil))) (gName 1)) tNext)
    (tSeq (tIfS (tB (tCB (rIsU K a cls d) (tCons (tVar 2) (tCons (tC (.ref (He.ga K "Broken"))) tNil)))) (tAsg (tTup (tCons (tC (.str "Broken")) (tCons (tXfU K a cls d "rows" (tVar 2)) tNil))) (gName 1)) tNext)
    (tIfS (tOr (tB (tCB (rIsU K a cls d) (tCons (tVar 2) (tCons (tC (.ref (He.ga K "Lack"))) tNil)))) (tB (tCB (rIsU K a cls d) (tCons (tVar 2) (tCons (tC (.ref (He.ga K "NoName"))) tNil))))) (tAsg (tTup (tCons (tC (.str "name")) (tCons (tXfU K a cls d "name" (tVar 2)) tNil))) (gName 1)) tNext))))
          { nx := fun σ' H' => tRet (tVar 1) { nx := fun _ H' => Q .non H', rt := Q } (σ'.set 2 none) H', rt := Q, bk := fun σ' H' => False, ct := fun σ' H' => False } [y0, some (.ref P), some (.ref a), some (.ref B)] H' := by
        intro P H' s hP
        have e' := e5.mono s
        refine ⟨_, rfl, isTf w e' (by simp) ⟨_, rfl, iteF ?_⟩⟩
        refine ⟨_, rfl, isTf w e' (by simp) ⟨_, rfl, iteF ?_⟩⟩
        refine ⟨_, rfl, isTf w e' (by simp) ⟨_, rfl, iteF ?_⟩⟩
        refine ⟨_, rfl, isTf w e' (by simp) ⟨_, rfl, iteF ⟨_, rfl, isTf w e' (by simp) ⟨_, rfl, iteF ?_⟩⟩⟩⟩
        exact ⟨_, rfl, k P H' (s14.trans (s5.trans s)) hP⟩
      have done : ∀ (b1 b2 : Bool), b1 = decide (X = "NoHouse") → b2 = decide (X = "Taken") → b1 = true ∨ b2 = true := fun b1 b2 h1 h2 => by
        rcases e.1 with h | h
        · exact .inl (by rw [h1, h]; rfl)
        · exact .inr (by rw [h2, h]; rfl)
      refine ⟨_, rfl, isT w e5 (by simp) ⟨_, rfl, ?_⟩⟩
      by_cases hX : X = "NoHouse"
      · rw [decide_eq_true hX]
        refine iteT (iteT ?_)
        exact body _ _ rfl rest
      · rw [decide_eq_false hX]
        refine iteF ⟨_, rfl, isT w e5 (by simp) ⟨_, rfl, ?_⟩⟩
        rw [decide_eq_true (e.1.resolve_left hX)]
        refine iteT ?_
        exact body _ _ rfl rest
  · have e : (fun (_ : V) (H' : Hp) => tRet (tVar 1) { nx := fun _ H' => Q .non H', rt := Q } [some (.ref f), some (.ref p), none, none] H') = fun (_ : V) (H' : Hp) => Q (.ref p) H' := by
      funext v H'
      refine propext ⟨fun ⟨z, h1, h2⟩ => ?_, fun h1 => ⟨_, rfl, h1⟩⟩
      cases Option.some.inj (Option.some.inj h1)
      exact h2
    have := h p np
    rw [← e] at this
    exact this
end
end
end Fw

set_option Elab.async false
set_option linter.all false
set_option maxRecDepth 100000
set_option maxHeartbeats 4000000
/-! The book's methods, where nothing is refused. -/
namespace Fw
open PySem L2 RZ RT
section
variable [HasW]
def sp_Book_init (K : PySem.W.Frag) : Sp := fun vs H Q _ => ∃ (x dx : Addr), vs = [.ref x] ∧ BkC K ∧ H x = some (.ins (He.ga K "Book") dx []) ∧
  ∀ (b : BkA) (H' : Hp), b.B = x → (∀ a o, H a = some o → a ≠ x → H' a = some o) → H b.L = none → H b.E = none → H b.G = none → BkAt K H' b [] [] → Q .non H'
def sp_Book_len (K : PySem.W.Frag) : Sp := fun vs H Q _ => ∃ (b : BkA) (cs : List Ct) (as : List Addr), vs = [.ref b.B] ∧ BkAt K H b cs as ∧ Q (.int (cs.length : Nat)) H
def sp_Book_is_name (K : PySem.W.Frag) : Sp := fun vs H Q _ => ∃ (b : BkA) (cs : List Ct) (as : List Addr) (i : Int), vs = [.ref b.B, .int i] ∧ BkAt K H b cs as ∧ Q (.bl (decide (0 ≤ i) && decide (i < (cs.length : Nat)))) H
def sp_Book_thing (K : PySem.W.Frag) : Sp := fun vs H Q _ => ∃ (b : BkA) (cs : List Ct) (as : List Addr) (i : Nat) (a : Addr), vs = [.ref b.B, .int (i : Int)] ∧ BkAt K H b cs as ∧ as[i]? = some a ∧ Q (.ref a) H
def sp_Book_kind (K : PySem.W.Frag) : Sp := fun vs H Q _ => ∃ (b : BkA) (cs : List Ct) (as : List Addr) (i : Nat) (c : Ct), vs = [.ref b.B, .int (i : Int)] ∧ BkAt K H b cs as ∧ cs[i]? = some c ∧ Q (.str c.word) H
def sp_Book_parts (K : PySem.W.Frag) : Sp := fun vs H Q _ => ∃ (b : BkA) (cs : List Ct) (as : List Addr) (i : Nat) (c : Ct), vs = [.ref b.B, .int (i : Int)] ∧ BkAt K H b cs as ∧ cs[i]? = some c ∧
  ∀ (r : Addr) (H' : Hp), Same H H' → H' r = some (.tup (c.parts.map V.int)) → Q (.ref r) H'
def sp_Book_has_kinds (K : PySem.W.Frag) : Sp := fun vs H Q _ => ∃ (b : BkA) (cs : List Ct) (as : List Addr) (n q : Addr) (ns : List Int) (ks : List Str), vs = [.ref b.B, .ref n, .ref q] ∧ BkAt K H b cs as ∧ (H n = some (.lst (ns.map V.int)) ∨ H n = some (.tup (ns.map V.int))) ∧ ns.length ≤ 1000 ∧ H q = some (.tup (ks.map V.str)) ∧
  ∀ H', Same H H' → Q (.bl (ns.all (hasK cs ks))) H'
def sp_Book_depth (K : PySem.W.Frag) : Sp := fun vs H Q _ => ∃ (b : BkA) (ds : List Int) (a : Addr) (c : Ct), vs = [.ref b.B, .ref a] ∧ BkC K ∧ BO K H b ∧ H b.E = some (.lst (ds.map V.int)) ∧ CtAt H a c ∧ c.form ∧ (∀ es, c = .tree es → ∀ e ∈ es, 0 ≤ e.2 ∧ e.2.toNat < ds.length) ∧
  ∀ H', Same H H' → Q (.int (depOf ds c)) H'
def sp_Book_is_content (K : PySem.W.Frag) : Sp := fun vs H Q _ => ∃ (b : BkA) (cs : List Ct) (as : List Addr) (a : Addr) (c : Ct), vs = [.ref b.B, .ref a] ∧ BkAt K H b cs as ∧ CtAt H a c ∧ c.form ∧ ∀ H', Same H H' → Q (.bl (c.inB cs)) H'
def sp_Book_give_next (K : PySem.W.Frag) : Sp := fun vs H Q _ => ∃ (b : BkA) (cs : List Ct) (as : List Addr) (a : Addr) (c : Ct), vs = [.ref b.B, .ref a] ∧ BkAt K H b cs as ∧ CtAt H a c ∧ c.form ∧ c.inB cs = true ∧ c ∉ cs ∧ cs.length < 400 ∧
  ∀ H', Kb b H H' → BkAt K H' b (cs ++ [c]) (as ++ [a]) → Q .non H'
def sp_Book_named (K : PySem.W.Frag) : Sp := fun vs H Q _ => ∃ (b : BkA) (cs : List Ct) (as : List Addr) (a : Addr) (c : Ct), vs = [.ref b.B, .ref a] ∧ BkAt K H b cs as ∧ CtAt H a c ∧ c.form ∧ c.inB cs = true ∧ (c ∉ cs → cs.length < 400) ∧
  (∀ (i : Nat) (H' : Hp), cs[i]? = some c → Same H H' → Q (.int (i : Int)) H') ∧ (c ∉ cs → ∀ H', Kb b H H' → BkAt K H' b (cs ++ [c]) (as ++ [a]) → Q (.int (cs.length : Nat)) H')
def sp_Book_name_of (K : PySem.W.Frag) : Sp := fun vs H Q _ => ∃ (b : BkA) (cs : List Ct) (as : List Addr) (a : Addr) (c : Ct), vs = [.ref b.B, .ref a] ∧ BkAt K H b cs as ∧ CtAt H a c ∧ c.form ∧
  (∀ (i : Nat) (H' : Hp), cs[i]? = some c → Same H H' → Q (.int (i : Int)) H') ∧ (c ∉ cs → ∀ H', Same H H' → Q .non H')
end
section
variable [HasW] {K : PySem.W.Frag} {vs : List V} {H : Hp} {Q : VK} {E : XK}
theorem len_Book_init (h : sp_Book_init K vs H Q E) : vs.length = 1 := by obtain ⟨_, _, rfl, _⟩ := h; rfl
theorem len_Book_len (h : sp_Book_len K vs H Q E) : vs.length = 1 := by obtain ⟨_, _, _, rfl, _⟩ := h; rfl
theorem len_Book_is_name (h : sp_Book_is_name K vs H Q E) : vs.length = 2 := by obtain ⟨_, _, _, _, rfl, _⟩ := h; rfl
theorem len_Book_thing (h : sp_Book_thing K vs H Q E) : vs.length = 2 := by obtain ⟨_, _, _, _, _, rfl, _⟩ := h; rfl
theorem len_Book_kind (h : sp_Book_kind K vs H Q E) : vs.length = 2 := by obtain ⟨_, _, _, _, _, rfl, _⟩ := h; rfl
theorem len_Book_parts (h : sp_Book_parts K vs H Q E) : vs.length = 2 := by obtain ⟨_, _, _, _, _, rfl, _⟩ := h; rfl
theorem len_Book_has_kinds (h : sp_Book_has_kinds K vs H Q E) : vs.length = 3 := by obtain ⟨_, _, _, _, _, _, _, rfl, _⟩ := h; rfl
theorem len_Book_depth (h : sp_Book_depth K vs H Q E) : vs.length = 2 := by obtain ⟨_, _, _, _, rfl, _⟩ := h; rfl
theorem len_Book_is_content (h : sp_Book_is_content K vs H Q E) : vs.length = 2 := by obtain ⟨_, _, _, _, _, rfl, _⟩ := h; rfl
theorem len_Book_give_next (h : sp_Book_give_next K vs H Q E) : vs.length = 2 := by obtain ⟨_, _, _, _, _, rfl, _⟩ := h; rfl
theorem len_Book_named (h : sp_Book_named K vs H Q E) : vs.length = 2 := by obtain ⟨_, _, _, _, _, rfl, _⟩ := h; rfl
theorem len_Book_name_of (h : sp_Book_name_of K vs H Q E) : vs.length = 2 := by obtain ⟨_, _, _, _, _, rfl, _⟩ := h; rfl
end
section
variable [HasW]
abbrev N_Book_init : List Str := ["self"]
def t_Book_init (K : PySem.W.Frag) : TS := (tSeq (sFld K (tVar 0) (tLst tNil) "contents")
    (tSeq (sFld K (tVar 0) (tLst tNil) "depths")
    (sFld K (tVar 0) tNNew "given")))
abbrev N_Book_len : List Str := ["self"]
def t_Book_len (K : PySem.W.Frag) : TS := (tRet (tCB (fLen K) (tCons (tFld K (tVar 0) "contents") tNil)))
abbrev N_Book_is_name : List Str := ["self", "thing"]
def t_Book_is_name (K : PySem.W.Frag) : TS := (tRet (tAndV (tCall (sp_is_intI K) [] E0 (tCons (tVar 1) tNil)) (tChain rLeI rLtI (tC (.int 0)) (tVar 1) (tCB (fLen K) (tCons (tFld K (tVar 0) "contents") tNil)))))
abbrev N_Book_thing : List Str := ["self", "name"]
def t_Book_thing (K : PySem.W.Frag) : TS := (tSeq (tIfS (tNot (tB (tMeth (He.ga K "Book") "is_name" (sp_Book_is_name K) [] E0 (tVar 0) (tCons (tVar 1) tNil)))) tNever tNext)
    (tRet (tOp (rIx K) (tFld K (tVar 0) "contents") (tVar 1))))
abbrev N_Book_kind : List Str := ["self", "name"]
def t_Book_kind (K : PySem.W.Frag) : TS := (tRet (tOp (rIx K) (tMeth (He.ga K "Book") "thing" (sp_Book_thing K) [] E0 (tVar 0) (tCons (tVar 1) tNil)) (tC (.int 0))))
abbrev N_Book_parts : List Str := ["self", "name", "content", "label", "part"]
def t_Book_parts (K : PySem.W.Frag) : TS := (tSeq (tAsg (tMeth (He.ga K "Book") "thing" (sp_Book_thing K) [] E0 (tVar 0) (tCons (tVar 1) tNil)) (gName 2))
    (tSeq (tIfS (tTest (tOp rEq (tOp (rIx K) (tVar 2) (tC (.int 0))) (tC (.str "tree")))) (tRet (tCB (fTupleOf K) (tCons (tLc (iTup K (tOp (rIx K) (tVar 2) (tC (.int 1)))) (gTup K 2 (gCons (gName 3) (gCons (gName 4) gNil))) tYes (tVar 4) [3, 4]) tNil))) tNext)
    (tSeq (tIfS (tTest (tOp rEq (tOp (rIx K) (tVar 2) (tC (.int 0))) (tC (.str "version")))) (tRet (tOp (rCatA K) (tOp (rIx K) (tVar 2) (tC (.int 1))) (tTup (tCons (tOp (rIx K) (tVar 2) (tC (.int 2))) tNil)))) tNext)
    (tRet (tTup tNil)))))
abbrev N_Book_has_kinds : List Str := ["self", "names", "kinds", "name"]
def t_Book_has_kinds (K : PySem.W.Frag) : TS := (tRet (tCB (rAll K) (tCons (tLc (iOr (iList K (tVar 1)) (iTup K (tVar 1))) (gName 3) tYes (tAndV (tMeth (He.ga K "Book") "is_name" (sp_Book_is_name K) [] E0 (tVar 0) (tCons (tVar 3) tNil)) (tOp (rIn K false) (tOp (rIx K) (tOp (rIx K) (tFld K (tVar 0) "contents") (tVar 3)) (tC (.int 0))) (tVar 2))) [3]) tNil)))
abbrev N_Book_depth : List Str := ["self", "content", "label", "part"]
def t_Book_depth (K : PySem.W.Frag) : TS := (tSeq (tIfS (tTest (tOp rNe (tOp (rIx K) (tVar 1) (tC (.int 0))) (tC (.str "tree")))) (tRet (tC (.int 0))) tNext)
    (tRet (tOp rAddI (tC (.int 1)) (tCKw (rMaxD0 K) (tCons (tLc (iTup K (tOp (rIx K) (tVar 1) (tC (.int 1)))) (gTup K 2 (gCons (gName 2) (gCons (gName 3) gNil))) tYes (tOp (rIx K) (tFld K (tVar 0) "depths") (tVar 3)) [2, 3]) tNil) (tCons (tC (.int 0)) tNil)))))
abbrev N_Book_is_content : List Str := ["self", "thing", "label", "part"]
def t_Book_is_content (K : PySem.W.Frag) : TS := (tSeq (tIfS (tNot (tB (tCall (sp_is_content_form K) [] E0 (tCons (tVar 1) tNil)))) (tRet (tC (.bl false))) tNext)
    (tSeq (tIfS (tTest (tOp rEq (tOp (rIx K) (tVar 1) (tC (.int 0))) (tC (.str "tree")))) (tRet (tAndV (tMeth (He.ga K "Book") "has_kinds" (sp_Book_has_kinds K) [] E0 (tVar 0) (tCons (tLc (iTup K (tOp (rIx K) (tVar 1) (tC (.int 1)))) (gTup K 2 (gCons (gName 2) (gCons (gName 3) gNil))) tYes (tVar 3) [2, 3]) (tCons (tTup (tCons (tC (.str "leaf")) (tCons (tC (.str "tree")) tNil))) tNil))) (tOp rLeI (tMeth (He.ga K "Book") "depth" (sp_Book_depth K) [] E0 (tVar 0) (tCons (tVar 1) tNil)) (tC (.int 8))))) tNext)
    (tSeq (tIfS (tTest (tOp rEq (tOp (rIx K) (tVar 1) (tC (.int 0))) (tC (.str "version")))) (tRet (tAndV (tMeth (He.ga K "Book") "has_kinds" (sp_Book_has_kinds K) [] E0 (tVar 0) (tCons (tOp (rIx K) (tVar 1) (tC (.int 1))) (tCons (tTup (tCons (tC (.str "version")) tNil)) tNil))) (tMeth (He.ga K "Book") "has_kinds" (sp_Book_has_kinds K) [] E0 (tVar 0) (tCons (tLst (tCons (tOp (rIx K) (tVar 1) (tC (.int 2))) tNil)) (tCons (tTup (tCons (tC (.str "tree")) tNil)) tNil))))) tNext)
    (tRet (tC (.bl true))))))
abbrev N_Book_give_next : List Str := ["self", "content"]
def t_Book_give_next (K : PySem.W.Frag) : TS := (tSeq (tIfS (tTest (tOp rGeI (tCB (fLen K) (tCons (tFld K (tVar 0) "contents") tNil)) (tC (.int 400)))) tNever tNext)
    (tSeq (sNPut (tFld K (tVar 0) "given") (tVar 1) (tCB (fLen K) (tCons (tFld K (tVar 0) "contents") tNil)))
    (tSeq (tDrop (tBM K "list" rAppend (tFld K (tVar 0) "depths") (tCons (tMeth (He.ga K "Book") "depth" (sp_Book_depth K) [] E0 (tVar 0) (tCons (tVar 1) tNil)) tNil)))
    (tDrop (tBM K "list" rAppend (tFld K (tVar 0) "contents") (tCons (tVar 1) tNil))))))
abbrev N_Book_named : List Str := ["self", "content"]
def t_Book_named (K : PySem.W.Frag) : TS := (tSeq (tIfS (tNot (tB (tMeth (He.ga K "Book") "is_content" (sp_Book_is_content K) [] E0 (tVar 0) (tCons (tVar 1) tNil)))) tNever tNext)
    (tSeq (tIfS (tB (tNNotIn (tVar 1) (tFld K (tVar 0) "given"))) (tDrop (tMeth (He.ga K "Book") "give_next" (sp_Book_give_next K) [] E0 (tVar 0) (tCons (tVar 1) tNil))) tNext)
    (tRet (tNGet (tFld K (tVar 0) "given") (tVar 1)))))
abbrev N_Book_name_of : List Str := ["self", "thing"]
def t_Book_name_of (K : PySem.W.Frag) : TS := (tRet (tIf (tB (tMeth (He.ga K "Book") "is_content" (sp_Book_is_content K) [] E0 (tVar 0) (tCons (tVar 1) tNil))) (tNGet1 (tFld K (tVar 0) "given") (tVar 1)) (tC .non)))
end
theorem strD {x y : Str} : decide (V.str x = V.str y) = decide (x = y) := by
  by_cases h : x = y
  · rw [h, decide_eq_true rfl, decide_eq_true rfl]
  · rw [decide_eq_false h, decide_eq_false fun e => h (by injection e)]
theorem strN {x y : Str} (h : x ≠ y) : decide (V.str x = V.str y) = false := decide_eq_false fun e => h (by injection e)
theorem eqV_str (x y : Str) : eqV (.str x) (.str y) = (y == x) := by
  show (x == y) = (y == x)
  by_cases h : x = y
  · rw [h]
  · rw [beq_eq_false_iff_ne.mpr h, beq_eq_false_iff_ne.mpr fun e => h e.symm]
theorem inV_strs (w : Str) : ∀ ns : List Str, inV (.str w) (ns.map V.str) = ns.contains w
  | [] => rfl
  | n :: r => by
    have ih := inV_strs w r
    unfold inV at ih ⊢
    rw [List.map_cons, List.any_cons, ih, List.contains_cons, eqV_str]
theorem flat_strs : ∀ ns : List Str, (ns.map V.str).all flatV = true
  | [] => rfl
  | n :: r => by rw [List.map_cons, List.all_cons, flat_strs r]; rfl
theorem CtAt.fst {K : PySem.W.Frag} {H : Hp} {a : Addr} {c : Ct} {Q : VK} (h : CtAt H a c) (q : Q (.str c.word) H) : rIx K (.ref a) (.int 0) H Q := by
  cases c with
  | leaf rows => obtain ⟨r, h1, h2⟩ := h; exact ixT h1 rfl q
  | tree es => obtain ⟨r, as, h1, h2⟩ := h; exact ixT h1 rfl q
  | ver ps r s => obtain ⟨r, h1, h2⟩ := h; exact ixT h1 rfl q
theorem BkAt.lenC [HasW] {K : PySem.W.Frag} {H : Hp} {b : BkA} {cs : List Ct} {as : List Addr} {Q : VK} {σ : L2.St} {i : Nat} (k : BkAt K H b cs as) (e : σ[i]? = some (some (.ref b.B))) (q : Q (.int (cs.length : Nat)) H) : tCB (fLen K) (tCons (tFld K (tVar i) "contents") tNil) σ H Q :=
  k.fL e (show tNil σ H fun ys H2 => fLen K (.ref b.L :: ys) H2 Q from lenL k.hL (by rw [List.length_map, k.at_.1]; exact q))
theorem dmax_eq (l : List Int) : dmax l = maxD 0 l := by cases l <;> rfl
theorem BO.fE {K : PySem.W.Frag} {H : Hp} {b : BkA} {Q : VK} {σ : L2.St} {i : Nat} (bc : BkC K) (o : BO K H b) (e : σ[i]? = some (some (.ref b.B))) (q : Q (.ref b.E) H) : tFld K (tVar i) "depths" σ H Q := by
  obtain ⟨dx, fs, hx, h1, h2, h3, h4⟩ := o
  exact ⟨_, e, b.B, _, dx, fs, _, rfl, hx, bc.cl, bc.n2, h2, q⟩
theorem BO.fL {K : PySem.W.Frag} {H : Hp} {b : BkA} {Q : VK} {σ : L2.St} {i : Nat} (bc : BkC K) (o : BO K H b) (e : σ[i]? = some (some (.ref b.B))) (q : Q (.ref b.L) H) : tFld K (tVar i) "contents" σ H Q := by
  obtain ⟨dx, fs, hx, h1, h2, h3, h4⟩ := o
  exact ⟨_, e, b.B, _, dx, fs, _, rfl, hx, bc.cl, bc.n1, h1, q⟩
theorem BO.me {K : PySem.W.Frag} {H : Hp} {b : BkA} {Q : VK} {σ : L2.St} {i : Nat} {m : Str} {sp : Sp} {E : XK} {ta : TA} (o : BO K H b) (hm : m ∈ (["named", "name_of", "thing", "kind", "parts", "parents", "root", "stamp", "entries", "leaf_rows", "is_name", "is_version", "is_content", "has_kinds", "depth", "give_next"] : List Str)) (e : σ[i]? = some (some (.ref b.B))) (q : ta σ H fun vs H2 => sp (.ref b.B :: (vs ++ [])) H2 Q E) : tMeth (He.ga K "Book") m sp [] E (tVar i) ta σ H Q := by
  obtain ⟨dx, fs, hx, h1, h2, h3, h4⟩ := o
  exact ⟨_, e, b.B, dx, fs, rfl, hx, h4 m hm, q⟩
theorem ints_all : ∀ (ns : List Int) (p : Int → Bool), ((ns.map fun n => p n).all id) = ns.all p
  | [], _ => rfl
  | n :: ns, p => by rw [List.map_cons, List.all_cons, List.all_cons, ints_all ns p]; rfl
section
variable [HasW] {K : PySem.W.Frag} {vs : List V} {H : Hp} {Q : VK} {E : XK}
theorem pure_Book_init (h : sp_Book_init K vs H Q E) : t_Book_init K { nx := fun _ H' => Q .non H', rt := Q } (start N_Book_init vs) H := by
  obtain ⟨x, dx, rfl, bc, hx, k⟩ := h
  refine ⟨by decide, fun L nL => ?_⟩
  have nxL : x ≠ L := ne_of_none hx nL
  refine ⟨_, rfl, x, _, dx, _, rfl, updN nxL hx, bc.cl, bc.n1, by decide, ?_⟩
  refine ⟨by decide, fun E0 nE => ?_⟩
  have nE0 : H E0 = none := by
    by_cases e : E0 = x
    · rw [e, updS] at nE; cases nE
    · rw [upd_ne e] at nE
      by_cases e2 : E0 = L
      · rw [e2, updS] at nE; cases nE
      · rw [upd_ne e2] at nE; exact nE
  have nxE : x ≠ E0 := ne_of_none hx nE0
  have nLE : L ≠ E0 := by
    intro e
    rw [← e, updN nxL.symm updS] at nE
    cases nE
  refine ⟨_, rfl, x, _, dx, _, rfl, updN nxE updS, bc.cl, bc.n2, by show (1 : Nat) < 1000; decide, ?_⟩
  refine fun G nG => ?_
  have nxG : x ≠ G := by intro e; rw [← e, updS] at nG; cases nG
  have nEG : E0 ≠ G := by intro e; rw [← e, updN nxE.symm updS] at nG; cases nG
  have nLG : L ≠ G := by intro e; rw [← e, updN nxL.symm (updN nLE (updN nxL.symm updS))] at nG; cases nG
  have nG0 : H G = none := by
    rw [upd_ne nxG.symm, upd_ne nEG.symm, upd_ne nxG.symm, upd_ne nLG.symm] at nG
    exact nG
  refine ⟨_, rfl, x, _, dx, _, rfl, updN nxG updS, bc.cl, bc.n3, by show (2 : Nat) < 1000; decide, ?_⟩
  refine k ⟨x, L, E0, G⟩ _ rfl (fun a o e n => updN n (updN (ne_of_none e nG0) (updN n (updN (ne_of_none e nE0) (updN n (updN (ne_of_none e nL) e)))))) nL nE0 nG0 ?_
  refine ⟨bc, ⟨dx, _, updS, rfl, rfl, rfl, ?_⟩, updN nxL.symm (updN nLG (updN nxL.symm (updN nLE (updN nxL.symm updS)))), updN nxE.symm (updN nEG (updN nxE.symm updS)), updN nxG.symm updS, CsAt.nil, List.nodup_nil, Nat.zero_le _, (fun c h => nomatch h), nLE⟩
  intro m hm
  simp only [List.mem_cons, List.not_mem_nil, or_false] at hm
  rcases hm with rfl | rfl | rfl | rfl | rfl | rfl | rfl | rfl | rfl | rfl | rfl | rfl | rfl | rfl | rfl | rfl <;> rfl
theorem pure_Book_len (h : sp_Book_len K vs H Q E) : t_Book_len K { nx := fun _ H' => Q .non H', rt := Q } (start N_Book_len vs) H := by
  obtain ⟨b, cs, as, rfl, bk, k⟩ := h
  exact bk.lenC rfl k
theorem pure_Book_is_name (h : sp_Book_is_name K vs H Q E) : t_Book_is_name K { nx := fun _ H' => Q .non H', rt := Q } (start N_Book_is_name vs) H := by
  obtain ⟨b, cs, as, i, rfl, bk, k⟩ := h
  refine ⟨_, rfl, i, rfl, _, rfl, iteT ⟨_, rfl, _, _, rfl, rfl, _, rfl, ?_⟩⟩
  by_cases h : (0 : Int) ≤ i
  · rw [decide_eq_true h] at k ⊢
    exact iteT (bk.lenC rfl ⟨_, _, rfl, rfl, k⟩)
  · rw [decide_eq_false h] at k ⊢
    exact iteF k
theorem pure_Book_thing (h : sp_Book_thing K vs H Q E) : t_Book_thing K { nx := fun _ H' => Q .non H', rt := Q } (start N_Book_thing vs) H := by
  obtain ⟨b, cs, as, i, a, rfl, bk, hi, k⟩ := h
  have hl := (List.getElem?_eq_some_iff.mp hi).1
  refine bk.me (by decide) rfl ⟨_, rfl, b, cs, as, _, rfl, bk, _, rfl, ?_⟩
  rw [decide_eq_true (show (0 : Int) ≤ (i : Int) by omega), decide_eq_true (show (i : Int) < (cs.length : Nat) by rw [← bk.at_.1]; omega)]
  obtain ⟨dx, fs, hx, h1, _⟩ := id bk.bo
  exact iteF ⟨_, rfl, b.B, _, dx, fs, _, rfl, hx, bk.bc.cl, bk.bc.n1, h1, _, rfl, ixL bk.hL (atI_nat (by rw [List.getElem?_map, hi]; rfl)) k⟩
theorem pure_Book_kind (h : sp_Book_kind K vs H Q E) : t_Book_kind K { nx := fun _ H' => Q .non H', rt := Q } (start N_Book_kind vs) H := by
  obtain ⟨b, cs, as, i, c, rfl, bk, hi, k⟩ := h
  obtain ⟨a, ha, hc⟩ := bk.at_.get hi
  exact bk.me (by decide) rfl ⟨_, rfl, b, cs, as, i, a, rfl, bk, ha, hc.fst k⟩
theorem pure_Book_parts (h : sp_Book_parts K vs H Q E) : t_Book_parts K { nx := fun _ H' => Q .non H', rt := Q } (start N_Book_parts vs) H := by
  obtain ⟨b, cs, as, i, c, rfl, bk, hi, k⟩ := h
  obtain ⟨a, ha, hc⟩ := bk.at_.get hi
  have fo := (bk.ok c (List.mem_of_getElem? hi)).1
  refine bk.me (by decide) rfl ⟨_, rfl, b, cs, as, i, a, rfl, bk, ha, ?_⟩
  refine ⟨_, rfl, hc.fst ⟨rfl, _, rfl, ?_⟩⟩
  cases c with
  | tree es =>
    obtain ⟨r, bs, h1, h2, h3, h4⟩ := hc
    have hz : es.length ≤ 20 := fo.1
    rw [show decide (V.str (Ct.tree es).word = V.str "tree") = true from decide_eq_true rfl]
    refine iteT ⟨_, rfl, ixT h1 rfl ⟨r, rfl, ⟨_, sqT h2⟩, fun L nL => ?_⟩⟩
    refine lc_pairs (ys := es.map fun e => V.int e.2) nL h2 h3 (by omega) (by rw [List.length_map]) h4 ?_ ?_
    · intro n e y H' R he hy s q
      rw [List.getElem?_map, he] at hy
      cases Option.some.inj hy
      exact ⟨rfl, _, rfl, q _ (Same.refl _)⟩
    · intro H' s hL
      refine ⟨L, _, rfl, .inl ⟨sqL hL, fun p np => k p _ (s.trans (samN np)) ?_⟩⟩
      rw [updS]
      show some (HO.tup (es.map fun e => V.int e.2)) = some (HO.tup ((es.map (·.2)).map V.int))
      rw [List.map_map]
      rfl
  | leaf rows =>
    obtain ⟨r, h1, h2⟩ := hc
    rw [show decide (V.str (Ct.leaf rows).word = V.str "tree") = false from strN wv_lt]
    refine iteF ⟨_, rfl, ixT h1 rfl ⟨rfl, _, rfl, ?_⟩⟩
    rw [strN wv_lv]
    exact iteF ⟨by show (0 : Nat) ≤ sizeLine; decide, fun p np => k p _ (samN np) updS⟩
  | ver ps r s =>
    obtain ⟨q, h1, h2⟩ := hc
    rw [show decide (V.str (Ct.ver ps r s).word = V.str "tree") = false from strN wv_tv.symm]
    refine iteF ⟨_, rfl, ixT h1 rfl ⟨rfl, _, rfl, ?_⟩⟩
    rw [decide_eq_true rfl]
    refine iteT ⟨_, rfl, ixT h1 rfl ⟨_, rfl, ixT h1 rfl ⟨by show (1 : Nat) ≤ sizeLine; decide, fun T nT => ?_⟩⟩⟩
    have hq := samN (o := .tup [.int r]) nT _ _ h2
    have e : ps.map V.int ++ [V.int r] = (Ct.ver ps r s).parts.map V.int := by
      show _ = (ps ++ [r]).map V.int
      rw [List.map_append]
      rfl
    have hz : ps.length ≤ 4 := fo.1
    refine ⟨q, T, _, _, rfl, rfl, sqT hq, sqT updS, ?_, fun e0 => ?_, fun _ z => (by cases z), fun _ _ p np => k p _ ((samN nT).trans (samN np)) (by rw [updS, e])⟩
    · rw [List.length_map]
      exact Nat.le_trans (show _ ≤ 1000 by rw [List.length_singleton]; omega) (by decide)
    · refine k T _ (samN nT) ?_
      rw [updS, ← e, e0]
      rfl
theorem pure_Book_has_kinds (h : sp_Book_has_kinds K vs H Q E) : t_Book_has_kinds K { nx := fun _ H' => Q .non H', rt := Q } (start N_Book_has_kinds vs) H := by
  obtain ⟨b, cs, as, n, q, ns, ks, rfl, bk, hn, hz, hq, k⟩ := h
  have step : ∀ (i : Nat) (x y : V) (H' : Hp) (R : VK), (ns.map V.int)[i]? = some x → (ns.map fun i => V.bl (hasK cs ks i))[i]? = some y → Same H H' → (∀ H'', Same H' H'' → R y H'') →
      tAndV (tMeth (He.ga K "Book") "is_name" (sp_Book_is_name K) [] E0 (tVar 0) (tCons (tVar 3) tNil)) (tOp (rIn K false) (tOp (rIx K) (tOp (rIx K) (tFld K (tVar 0) "contents") (tVar 3)) (tC (.int 0))) (tVar 2)) [some (.ref b.B), some (.ref n), some (.ref q), some x] H' R := by
    intro i x y H' R hx hy s r
    rw [List.getElem?_map] at hx hy
    cases e : ns[i]? with
    | none => rw [e] at hx; cases hx
    | some j =>
      rw [e] at hx hy
      cases Option.some.inj hx
      cases Option.some.inj hy
      have bk' := bk.same s
      refine bk'.me (by decide) rfl ⟨_, rfl, b, cs, as, j, rfl, bk', _, rfl, ?_⟩
      have r : ∀ H'', Same H' H'' → R (.bl (hasK cs ks j)) H'' := r
      unfold hasK at r
      by_cases h0 : (0 : Int) ≤ j
      · by_cases h1 : j < (cs.length : Nat)
        · rw [decide_eq_true h0, decide_eq_true h1] at r ⊢
          obtain ⟨m, rfl⟩ := Int.eq_ofNat_of_zero_le h0
          have hm : m < cs.length := by omega
          obtain ⟨a, ha, hc⟩ := bk'.at_.get (List.getElem?_eq_getElem hm)
          obtain ⟨dx, fs, hx, hf1, _⟩ := id bk'.bo
          refine iteT ⟨_, rfl, b.B, _, dx, fs, _, rfl, hx, bk.bc.cl, bk.bc.n1, hf1, _, rfl, ixL bk'.hL (atI_nat (by rw [List.getElem?_map, ha]; rfl)) (hc.fst ⟨_, rfl, q, _, rfl, .inr (sqT (s _ _ hq)), rfl, flat_strs _, ?_⟩)⟩
          rw [inV_strs]
          have e2 : (cs.getD (Int.toNat (m : Int)) (.leaf [])) = cs[m] := by
            rw [Int.toNat_natCast, List.getD_eq_getElem?_getD, List.getElem?_eq_getElem hm]
            rfl
          rw [e2] at r
          exact r _ (Same.refl _)
        · rw [decide_eq_true h0, decide_eq_false h1] at r ⊢
          exact iteF (r _ (Same.refl _))
      · rw [decide_eq_false h0] at r ⊢
        exact iteF (r _ (Same.refl _))
  have fin : ∀ (H' : Hp) (L : Addr), Same H H' → H' L = some (.lst (ns.map fun i => V.bl (hasK cs ks i))) → rAll K [V.ref L] H' Q := fun H' L s hL => by
    refine ⟨L, ns.map (hasK cs ks), rfl, sqL (by rw [hL, List.map_map]; rfl), ?_⟩
    rw [show (ns.map (hasK cs ks)).all id = ns.all (hasK cs ks) from ints_all ns _]
    exact k _ s
  rcases hn with hn | hn
  · refine .inl ⟨_, rfl, n, rfl, ⟨_, sqL hn⟩, fun L nL => ?_⟩
    refine lc_grow (walk_list (xs := ns.map V.int)) yAt (ys := ns.map fun i => V.bl (hasK cs ks i)) nL (by rw [List.length_map, List.length_map]) (by rw [List.length_map]; omega) (fun H' s => sqL (s _ _ hn)) ?_ ?_
    · rintro i x y H' R hi ⟨_, hx⟩ hy s r
      exact ⟨rfl, step i x y H' R hx hy s r⟩
    · intro H' s hL
      exact fin H' L s hL
  · refine .inr ⟨_, rfl, n, rfl, ⟨_, sqT hn⟩, fun L nL => ?_⟩
    refine lc_grow (walk_tup (xs := ns.map V.int)) yAt (ys := ns.map fun i => V.bl (hasK cs ks i)) nL (by rw [List.length_map, List.length_map]) (by rw [List.length_map]; omega) (fun H' s => sqT (s _ _ hn)) ?_ ?_
    · rintro i x y H' R hi ⟨_, hx⟩ hy s r
      exact ⟨rfl, step i x y H' R hx hy s r⟩
    · intro H' s hL
      exact fin H' L s hL
theorem pure_Book_depth (h : sp_Book_depth K vs H Q E) : t_Book_depth K { nx := fun _ H' => Q .non H', rt := Q } (start N_Book_depth vs) H := by
  obtain ⟨b, ds, a, c, rfl, bc, bo, hE, hc, fo, hp, k⟩ := h
  refine ⟨_, rfl, hc.fst ⟨rfl, _, rfl, ?_⟩⟩
  cases c with
  | leaf rows =>
    rw [show decide (V.str (Ct.leaf rows).word = V.str "tree") = false from strN wv_lt]
    exact iteT (k _ (Same.refl _))
  | ver ps r s =>
    rw [show decide (V.str (Ct.ver ps r s).word = V.str "tree") = false from strN wv_tv.symm]
    exact iteT (k _ (Same.refl _))
  | tree es =>
    obtain ⟨r, bs, h1, h2, h3, h4⟩ := hc
    have hz : es.length ≤ 20 := fo.1
    rw [show decide (V.str (Ct.tree es).word = V.str "tree") = true from decide_eq_true rfl]
    refine iteF ⟨_, rfl, ixT h1 rfl ⟨r, rfl, ⟨_, sqT h2⟩, fun L nL => ?_⟩⟩
    refine lc_pairs (ys := es.map fun e => V.int (ds.getD e.2.toNat 0)) nL h2 h3 (by omega) (by rw [List.length_map]) h4 ?_ ?_
    · intro n e y H' R he hy s q
      rw [List.getElem?_map, he] at hy
      cases Option.some.inj hy
      obtain ⟨p0, p1⟩ := hp es rfl e (List.mem_of_getElem? he)
      obtain ⟨m, hm⟩ := Int.eq_ofNat_of_zero_le p0
      rw [hm, Int.toNat_natCast] at p1
      have bo' : BO K H' b := by
        obtain ⟨dx, fs, hb, r⟩ := bo
        exact ⟨dx, fs, s _ _ hb, r⟩
      refine ⟨rfl, bo'.fE bc rfl ⟨_, rfl, ?_⟩⟩
      rw [hm]
      refine ixL (s _ _ hE) (atI_nat (by rw [List.getElem?_map, List.getElem?_eq_getElem p1]; rfl)) ?_
      have : R (.int (ds.getD e.2.toNat 0)) H' := q _ (Same.refl _)
      rw [hm, Int.toNat_natCast, List.getD_eq_getElem?_getD, List.getElem?_eq_getElem p1] at this
      exact this
    · intro H' s hL
      refine ⟨L, es.map fun e => ds.getD e.2.toNat 0, 0, rfl, rfl, sqL (by rw [hL, List.map_map]; rfl), _, _, rfl, rfl, ?_⟩
      rw [← dmax_eq]
      exact k _ s
theorem pure_Book_is_content (h : sp_Book_is_content K vs H Q E) : t_Book_is_content K { nx := fun _ H' => Q .non H', rt := Q } (start N_Book_is_content vs) H := by
  obtain ⟨b, cs, as, a, c, rfl, bk, hc, fo, k⟩ := h
  refine ⟨_, rfl, a, c, rfl, hc, fo, fun H1 s1 => ⟨_, rfl, iteF ?_⟩⟩
  have bk1 := bk.same s1
  have hc1 := hc.mono (TM.of s1)
  refine ⟨_, rfl, hc1.fst ⟨rfl, _, rfl, ?_⟩⟩
  cases c with
  | leaf rows =>
    rw [show decide (V.str (Ct.leaf rows).word = V.str "tree") = false from strN wv_lt]
    refine iteF ⟨_, rfl, hc1.fst ⟨rfl, _, rfl, ?_⟩⟩
    rw [show decide (V.str (Ct.leaf rows).word = V.str "version") = false from strN wv_lv]
    exact iteF (k _ s1)
  | tree es =>
    obtain ⟨r, bs, h1, h2, h3, h4⟩ := id hc1
    have hz : es.length ≤ 20 := fo.1
    rw [show decide (V.str (Ct.tree es).word = V.str "tree") = true from decide_eq_true rfl]
    refine iteT (bk1.me (by decide) rfl ⟨_, rfl, ixT h1 rfl ⟨r, rfl, ⟨_, sqT h2⟩, fun L nL => ?_⟩⟩)
    refine lc_pairs (ys := es.map fun e => V.int e.2) nL h2 h3 (by omega) (by rw [List.length_map]) h4 ?_ ?_
    · intro n e y H' R he hy s q
      rw [List.getElem?_map, he] at hy
      cases Option.some.inj hy
      exact ⟨rfl, _, rfl, q _ (Same.refl _)⟩
    · intro H2 s2 hL
      refine ⟨by show (2 : Nat) ≤ sizeLine; decide, fun T nT => ?_⟩
      have s3 : Same H1 (upd H2 T (.tup [.str "leaf", .str "tree"])) := s2.trans (samN nT)
      have bk3 := bk1.same s3
      refine ⟨b, cs, as, L, T, es.map (·.2), ["leaf", "tree"], rfl, bk3, .inl (samN nT _ _ (by rw [hL, List.map_map]; rfl)), by rw [List.length_map]; omega, updS, fun H4 s4 => ⟨_, rfl, ?_⟩⟩
      have s5 := s3.trans s4
      have bk5 := bk1.same s5
      have eA : (es.map (·.2)).all (hasK cs ["leaf", "tree"]) = es.all fun e => hasK cs ["leaf", "tree"] e.2 := by rw [List.all_map]; rfl
      have kk : ∀ H', Same H H' → Q (.bl (es.all (fun e => hasK cs ["leaf", "tree"] e.2) && decide (depOf (deps cs) (.tree es) ≤ 8))) H' := k
      rw [eA]
      cases hA : es.all (fun e => hasK cs ["leaf", "tree"] e.2) with
      | false =>
        refine iteF ?_
        have := kk _ (s1.trans s5)
        rw [hA] at this
        exact this
      | true =>
        refine iteT (bk5.bo.me (by decide) rfl ⟨_, rfl, b, deps cs, a, .tree es, rfl, bk5.bc, bk5.bo, bk5.hE, hc1.mono (TM.of s5), fo, fun es' e' e he => ?_, fun H6 s6 => ⟨_, _, rfl, rfl, ?_⟩⟩)
        · cases e'
          have := hasK_lt (List.all_eq_true.mp hA e he)
          rw [deps_len]
          exact this
        · have := kk _ (s1.trans (s5.trans s6))
          rw [hA] at this
          exact this
  | ver ps r s =>
    obtain ⟨p, h1, h2⟩ := id hc1
    have hz : ps.length ≤ 4 := fo.1
    rw [show decide (V.str (Ct.ver ps r s).word = V.str "tree") = false from strN wv_tv.symm]
    refine iteF ⟨_, rfl, hc1.fst ⟨rfl, _, rfl, ?_⟩⟩
    rw [show decide (V.str (Ct.ver ps r s).word = V.str "version") = true from decide_eq_true rfl]
    refine iteT (bk1.me (by decide) rfl ⟨_, rfl, ixT h1 rfl ⟨by show (1 : Nat) ≤ sizeLine; decide, fun T nT => ?_⟩⟩)
    have s2 : Same H1 (upd H1 T (.tup [.str "version"])) := samN nT
    have bk2 := bk1.same s2
    refine ⟨b, cs, as, p, T, ps, ["version"], rfl, bk2, .inr (s2 _ _ h2), by omega, updS, fun H3 s3 => ⟨_, rfl, ?_⟩⟩
    have s13 := s2.trans s3
    have bk3 := bk1.same s13
    have kk : ∀ H', Same H H' → Q (.bl (ps.all (hasK cs ["version"]) && hasK cs ["tree"] r)) H' := k
    cases hA : ps.all (hasK cs ["version"]) with
    | false =>
      refine iteF ?_
      have := kk _ (s1.trans s13)
      rw [hA] at this
      exact this
    | true =>
      refine iteT (bk3.me (by decide) rfl ⟨_, rfl, ixT (s13 _ _ h1) rfl ⟨by show (1 : Nat) ≤ sizeLine; decide, fun L nL => ⟨by show (1 : Nat) ≤ sizeLine; decide, fun T2 nT2 => ?_⟩⟩⟩)
      have s4 : Same H3 (upd (upd H3 L (.lst [.int r])) T2 (.tup [.str "tree"])) := (samN nL).trans (samN nT2)
      have bk4 := bk3.same s4
      refine ⟨b, cs, as, L, T2, [r], ["tree"], rfl, bk4, .inl (samN nT2 _ _ updS), by show (1 : Nat) ≤ 1000; decide, updS, fun H5 s5 => ?_⟩
      have := kk _ (s1.trans (s13.trans (s4.trans s5)))
      rw [hA] at this
      rw [List.all_cons, List.all_nil, Bool.and_true]
      exact this
theorem pure_Book_give_next (h : sp_Book_give_next K vs H Q E) : t_Book_give_next K { nx := fun _ H' => Q .non H', rt := Q } (start N_Book_give_next vs) H := by
  obtain ⟨b, cs, as, a, c, rfl, bk, hc, fo, inb, new, few, k⟩ := h
  refine bk.lenC rfl ⟨_, _, rfl, rfl, _, rfl, ?_⟩
  rw [decide_eq_false (show ¬ (400 : Int) ≤ ((cs.length : Nat) : Int) by omega)]
  refine iteF ?_
  refine bk.lenC (σ := [some (.ref b.B), some (.ref a)]) (i := 0) rfl ?_
  refine bk.fG (σ := [some (.ref b.B), some (.ref a)]) (i := 0) rfl ⟨_, rfl, b.G, _, rfl, ⟨ents 0 cs as, c.key, a, bk.hG, ents_keys 0 cs as bk.at_, rfl, hc.nkey, c.depth, ?_, rfl⟩, ?_⟩
  · exact Nat.lt_of_le_of_lt (Nat.le_trans (ents_len 0 cs as) bk.few) (by decide)
  rw [nPut_new (ents_none 0 cs as new)]
  have eS := ents_snoc 0 cs as c a bk.at_.1
  rw [Nat.zero_add] at eS
  rw [← eS]
  have kb1 : Kb b H (upd H b.G (ND b.G (ents 0 (cs ++ [c]) (as ++ [a])))) := Kb.refl.up (.inr (.inr rfl))
  have tm1 : TM H (upd H b.G (ND b.G (ents 0 (cs ++ [c]) (as ++ [a])))) := bk.tup kb1
  have bo1 := bk.boK kb1
  have hL1 : upd H b.G (ND b.G (ents 0 (cs ++ [c]) (as ++ [a]))) b.L = some (.lst (as.map V.ref)) := updN bk.neG.1 bk.hL
  have hE1 : upd H b.G (ND b.G (ents 0 (cs ++ [c]) (as ++ [a]))) b.E = some (.lst ((deps cs).map V.int)) := updN bk.neG.2 bk.hE
  have hG1 : upd H b.G (ND b.G (ents 0 (cs ++ [c]) (as ++ [a]))) b.G = some (ND b.G (ents 0 (cs ++ [c]) (as ++ [a]))) := updS
  generalize upd H b.G (ND b.G (ents 0 (cs ++ [c]) (as ++ [a]))) = H1 at kb1 tm1 bo1 hL1 hE1 hG1 ⊢
  obtain ⟨dx1, fs1, hx1, _, hf2, _, hf4⟩ := id bo1
  refine ⟨_, rfl, b.B, _, dx1, fs1, _, rfl, hx1, bk.bc.cl, bk.bc.n2, hf2, .inl ⟨rfl, _, sqL hE1⟩, _, rfl, b.B, dx1, fs1, rfl, hx1, hf4 "depth" (by decide), ⟨_, rfl, b, deps cs, a, c, rfl, bk.bc, bo1, hE1, hc.mono tm1, fo, fun es e' e he => ?_, fun H2 s2 => ?_⟩⟩
  · subst e'
    unfold Ct.inB at inb
    rw [Bool.and_eq_true] at inb
    have := hasK_lt (List.all_eq_true.mp inb.1 e he)
    rw [deps_len]
    exact this
  have lenD : ((deps cs).map V.int).length < sizeLine := by
    rw [List.length_map, deps_len]
    exact Nat.lt_of_le_of_lt bk.few (by decide)
  refine ⟨b.E, _, _, rfl, rfl, s2 _ _ hE1, lenD, ?_⟩
  have kb3 : Kb b H (upd H2 b.E (.lst ((deps cs).map V.int ++ [.int (depOf (deps cs) c)]))) := (kb1.trans (.same s2)).up (.inr (.inl rfl))
  have bo3 := bk.boK kb3
  obtain ⟨dx3, fs3, hx3, hg1, _⟩ := id bo3
  refine ⟨_, rfl, b.B, _, dx3, fs3, _, rfl, hx3, bk.bc.cl, bk.bc.n1, hg1, .inl ⟨rfl, _, sqL (updN bk.ne (s2 _ _ hL1))⟩, _, rfl, b.L, _, _, rfl, rfl, updN bk.ne (s2 _ _ hL1), ?_, ?_⟩
  · rw [List.length_map, bk.at_.1]
    exact Nat.lt_of_le_of_lt bk.few (by decide)
  have kb4 : Kb b H (upd (upd H2 b.E (.lst ((deps cs).map V.int ++ [.int (depOf (deps cs) c)]))) b.L (.lst (as.map V.ref ++ [.ref a]))) := kb3.up (.inl rfl)
  refine k _ kb4 ⟨bk.bc, bk.boK kb4, ?_, ?_, ?_, (bk.at_.mono (bk.tup kb4)).snoc (hc.mono (bk.tup kb4)), ?_, ?_, ?_, bk.ne⟩
  · rw [updS, List.map_append]
    rfl
  · rw [upd_ne bk.ne.symm, updS, deps_snoc, List.map_append]
    rfl
  · exact updN bk.neG.1.symm (updN bk.neG.2.symm (s2 _ _ hG1))
  · rw [List.nodup_append]
    exact ⟨bk.nd, by simp, fun x hx y hy e => new (by rw [List.mem_singleton.mp hy] at e; rw [← e]; exact hx)⟩
  · rw [List.length_append, List.length_singleton]
    omega
  · intro d hd
    rcases List.mem_append.mp hd with hd | hd
    · exact ⟨(bk.ok d hd).1, Ct.inB_mono (bk.ok d hd).2⟩
    · cases List.mem_singleton.mp hd
      exact ⟨fo, Ct.inB_mono inb⟩
theorem pure_Book_named (h : sp_Book_named K vs H Q E) : t_Book_named K { nx := fun _ H' => Q .non H', rt := Q } (start N_Book_named vs) H := by
  obtain ⟨b, cs, as, a, c, rfl, bk, hc, fo, inb, few, k1, k2⟩ := h
  refine bk.me (by decide) rfl ⟨_, rfl, b, cs, as, a, c, rfl, bk, hc, fo, fun H1 s1 => ⟨_, rfl, ?_⟩⟩
  rw [inb]
  have bk1 := bk.same s1
  have hc1 := hc.mono (TM.of s1)
  refine iteF ⟨_, rfl, bk1.fG rfl ⟨b.G, _, rfl, ⟨_, c.key, a, bk1.hG, ents_keys 0 cs as bk1.at_, rfl, hc1.nkey, c.depth, rfl⟩, _, rfl, ?_⟩⟩
  by_cases hm : c ∈ cs
  · obtain ⟨i, hi⟩ := List.mem_iff_getElem?.mp hm
    have e := ents_some 0 cs as bk.at_.1 bk.nd hi
    rw [e]
    refine iteF ?_
    show tNGet (tFld K (tVar 0) "given") (tVar 1) [some (.ref b.B), some (.ref a)] H1 Q
    refine bk1.fG rfl ⟨_, rfl, b.G, _, rfl, ⟨_, c.key, a, bk1.hG, ents_keys 0 cs as bk1.at_, rfl, hc1.nkey, c.depth, e.symm⟩, ?_⟩
    rw [Nat.zero_add]
    exact k1 i _ hi s1
  · rw [ents_none 0 cs as hm]
    refine iteT (bk1.me (by decide) rfl ⟨_, rfl, b, cs, as, a, c, rfl, bk1, hc1, fo, inb, hm, few hm, fun H2 kb2 bk2 => ?_⟩)
    have hc2 := hc1.mono (bk1.tup kb2)
    have e := ents_some 0 (cs ++ [c]) (as ++ [a]) bk2.at_.1 bk2.nd (i := cs.length) (c := c) (by rw [List.getElem?_append_right (Nat.le_refl _), Nat.sub_self]; rfl)
    show tNGet (tFld K (tVar 0) "given") (tVar 1) [some (.ref b.B), some (.ref a)] H2 Q
    refine bk2.fG rfl ⟨_, rfl, b.G, _, rfl, ⟨_, c.key, a, bk2.hG, ents_keys 0 _ _ bk2.at_, rfl, hc2.nkey, c.depth, e.symm⟩, ?_⟩
    rw [Nat.zero_add]
    exact k2 hm _ (Kb.trans (.same s1) kb2) bk2
theorem pure_Book_name_of (h : sp_Book_name_of K vs H Q E) : t_Book_name_of K { nx := fun _ H' => Q .non H', rt := Q } (start N_Book_name_of vs) H := by
  obtain ⟨b, cs, as, a, c, rfl, bk, hc, fo, k1, k2⟩ := h
  refine bk.me (by decide) rfl ⟨_, rfl, b, cs, as, a, c, rfl, bk, hc, fo, fun H1 s1 => ⟨_, rfl, ?_⟩⟩
  have bk1 := bk.same s1
  have hc1 := hc.mono (TM.of s1)
  cases hb : c.inB cs with
  | false => exact iteF (k2 (fun hm => by rw [(bk.ok c hm).2] at hb; cases hb) _ s1)
  | true =>
    refine iteT (bk1.fG rfl ⟨b.G, _, rfl, bk1.hG, _, rfl, _, ⟨_, c.key, a, bk1.hG, ents_keys 0 cs as bk1.at_, rfl, hc1.nkey, c.depth, rfl⟩, ?_⟩)
    by_cases hm : c ∈ cs
    · obtain ⟨i, hi⟩ := List.mem_iff_getElem?.mp hm
      rw [ents_some 0 cs as bk.at_.1 bk.nd hi, Nat.zero_add]
      exact k1 i _ hi s1
    · rw [ents_none 0 cs as hm]
      exact k2 hm _ s1
end
end Fw

set_option Elab.async false
set_option linter.all false
set_option maxRecDepth 100000
set_option maxHeartbeats 4000000
/-! What the laws draw for a book: labels, rows, entries, names. -/
namespace Fw
open PySem L2 RZ RT
def fInsert : V → List V → Hp → VK → Prop := fun x vs H Q => ∃ (l : Addr) (xs : List V) (i : Int) (y : V), x = .ref l ∧ vs = [.int i, y] ∧ H l = some (.lst xs) ∧ xs.length < sizeLine ∧ 0 ≤ i ∧ i < 2 ^ 63 ∧ Q .non (upd H l (.lst (xs.take i.toNat ++ [y] ++ xs.drop i.toNat)))
abbrev sp_l_alike (K : PySem.W.Frag) : Sp := sp_same2N K 6
abbrev N_l_alike : List Str := ["_law_found", "_law_due", "_law_k"]
def t_l_alike_loop (K : PySem.W.Frag) (n : Nat) : TS := (tSeq (tIfS (tTest (tOp rNe (tCB (fLen K) (tCons (tVar 0) tNil)) (tCB (fLen K) (tCons (tVar 1) tNil)))) (tRet (tC (.bl false))) tNext)
    (tSeq (tFor (iRng1 (tCons (tCB (fLen K) (tCons (tVar 1) tNil)) tNil)) (gName 2) (tIfS (tNot (tB (tCall (sp_same2N K n) [] E0 (tCons (tOp (rIx K) (tVar 0) (tVar 2)) (tCons (tOp (rIx K) (tVar 1) (tVar 2)) tNil))))) (tRet (tC (.bl false))) tNext))
    (tRet (tC (.bl true)))))
def t_l_alike (K : PySem.W.Frag) (n : Nat) : TS := (tSeq (tIfS (tB (tCB (rIsiT K) (tCons (tVar 1) (tCons (tTup (tCons (tC (.ty "tuple")) (tCons (tC (.ty "list")) tNil))) tNil)))) (tSeq (tIfS (tOr (tTest (tOp rNe (tCB (rIsi K) (tCons (tVar 1) (tCons (tC (.ty "tuple")) tNil))) (tCB (rIsi K) (tCons (tVar 0) (tCons (tC (.ty "tuple")) tNil))))) (tNot (tB (tCB (rIsiT K) (tCons (tVar 0) (tCons (tTup (tCons (tC (.ty "tuple")) (tCons (tC (.ty "list")) tNil))) tNil)))))) (tRet (tC (.bl false))) tNext)
    (t_l_alike_loop K n)) tNext)
    (tSeq (tIfS (tOr (tB (tCB (rIsi K) (tCons (tVar 1) (tCons (tC (.ty "bool")) tNil)))) (tB (tCB (rIsi K) (tCons (tVar 0) (tCons (tC (.ty "bool")) tNil))))) (tRet (tAndV (tCB (rIsi K) (tCons (tVar 1) (tCons (tC (.ty "bool")) tNil))) (tAndV (tCB (rIsi K) (tCons (tVar 0) (tCons (tC (.ty "bool")) tNil))) (tOp rEq (tVar 0) (tVar 1))))) tNext)
    (tSeq (tIfS (tB (tCB (rIsi K) (tCons (tVar 1) (tCons (tC (.ty "int")) tNil)))) (tRet (tAndV (tCB (rIsi K) (tCons (tVar 0) (tCons (tC (.ty "int")) tNil))) (tOp rEq (tVar 0) (tVar 1)))) tNext)
    (tSeq (tIfS (tB (tCB (rIsi K) (tCons (tVar 1) (tCons (tC (.ty "str")) tNil)))) (tRet (tAndV (tCB (rIsi K) (tCons (tVar 0) (tCons (tC (.ty "str")) tNil))) (tOp rEq (tVar 0) (tVar 1)))) tNext)
    (tRet (tAndV (tOp fIsN (tVar 1) (tC .non)) (tOp fIsN (tVar 0) (tC .non))))))))
theorem bbN (a b : Bool) : (decide (V.bl a = V.bl b)) = (a == b) := by cases a <;> cases b <;> rfl
theorem pure_l_alike {K : PySem.W.Frag} {n : Nat} {vs : List V} {H : Hp} {Q : VK} {E : XK} (h : sp_same2N K (n + 1) vs H Q E) : t_l_alike K n { nx := fun _ H' => Q .non H', rt := Q } (start N_l_alike vs) H := by
  obtain ⟨x, y, rfl, h, k⟩ := h
  rcases h with ⟨rfl, h⟩ | ⟨p, q, xs, ys, rfl, rfl, h, hl, hz, hs⟩
  · rcases h with rfl | ⟨i, rfl⟩ | ⟨b, rfl⟩ | ⟨z, rfl⟩
    · refine ⟨_, rfl, isi2 (fun _ _ => .base .non) k_nt k_nl fun T nT => ⟨_, rfl, iteF ?_⟩⟩
      refine ⟨_, rfl, isi (.base .non) k_nb ⟨_, rfl, iteF ⟨_, rfl, isi (.base .non) k_nb ⟨_, rfl, iteF ?_⟩⟩⟩⟩
      refine ⟨_, rfl, isi (.base .non) k_ni ⟨_, rfl, iteF ?_⟩⟩
      refine ⟨_, rfl, isi (.base .non) k_ns ⟨_, rfl, iteF ?_⟩⟩
      exact ⟨_, rfl, rfl, _, rfl, iteT ⟨_, rfl, rfl, k _ (Same.upd nT)⟩⟩
    · refine ⟨_, rfl, isi2 (fun _ _ => .base (.int i)) k_it k_il fun T nT => ⟨_, rfl, iteF ?_⟩⟩
      refine ⟨_, rfl, isi (.base (.int i)) k_ib ⟨_, rfl, iteF ⟨_, rfl, isi (.base (.int i)) k_ib ⟨_, rfl, iteF ?_⟩⟩⟩⟩
      refine ⟨_, rfl, isi (.base (.int i)) k_ii ⟨_, rfl, iteT ?_⟩⟩
      refine ⟨_, rfl, isi (.base (.int i)) k_ii ⟨_, rfl, iteT ⟨_, rfl, _, rfl, rfl, ?_⟩⟩⟩
      rw [decide_eq_true rfl]
      exact k _ (Same.upd nT)
    · refine ⟨_, rfl, isi2 (fun _ _ => .base (.bl b)) k_bt k_bl fun T nT => ⟨_, rfl, iteF ?_⟩⟩
      refine ⟨_, rfl, isi (.base (.bl b)) k_bb ⟨_, rfl, iteT ?_⟩⟩
      refine ⟨_, rfl, isi (.base (.bl b)) k_bb ⟨_, rfl, iteT ⟨_, rfl, isi (.base (.bl b)) k_bb ⟨_, rfl, iteT ⟨_, rfl, _, rfl, rfl, ?_⟩⟩⟩⟩⟩
      rw [decide_eq_true rfl]
      exact k _ (Same.upd nT)
    · refine ⟨_, rfl, isi2 (fun _ _ => .base (.str z)) k_st k_sl fun T nT => ⟨_, rfl, iteF ?_⟩⟩
      refine ⟨_, rfl, isi (.base (.str z)) k_sb ⟨_, rfl, iteF ⟨_, rfl, isi (.base (.str z)) k_sb ⟨_, rfl, iteF ?_⟩⟩⟩⟩
      refine ⟨_, rfl, isi (.base (.str z)) k_si ⟨_, rfl, iteF ?_⟩⟩
      refine ⟨_, rfl, isi (.base (.str z)) k_ss ⟨_, rfl, iteT ?_⟩⟩
      refine ⟨_, rfl, isi (.base (.str z)) k_ss ⟨_, rfl, iteT ⟨_, rfl, _, rfl, rfl, ?_⟩⟩⟩
      rw [decide_eq_true rfl]
      exact k _ (Same.upd nT)
  · have loop : ∀ (H0 : Hp) (N : L2.St → Hp → Prop), Same H H0 → (∃ o, (H p = some o ∧ (o = .lst xs ∨ o = .tup xs))) → (∃ o, (H q = some o ∧ (o = .lst ys ∨ o = .tup ys))) → ∀ z2 : Option V,
        t_l_alike_loop K n { nx := N, rt := Q } [some (.ref p), some (.ref q), z2] H0 := by
      intro H0 N s0 hp hq z2
      have hlen : ∀ {r : Addr} {zs : List V} {R : VK} {σ : L2.St} {H1 : Hp}, (∃ o, (H r = some o ∧ (o = .lst zs ∨ o = .tup zs))) → Same H H1 → R (.int zs.length) H1 → tNil σ H1 fun ws H2 => fLen K (.ref r :: ws) H2 R := by
        rintro r zs R σ H1 ⟨o, h1, rfl | rfl⟩ s h2
        · exact lenL (s _ _ h1) h2
        · exact lenT (s _ _ h1) h2
      have hix : ∀ {r : Addr} {zs : List V} {R : VK} {i : Int} {v : V} {H1 : Hp}, (∃ o, (H r = some o ∧ (o = .lst zs ∨ o = .tup zs))) → Same H H1 → atI zs i = some v → R v H1 → rIx K (.ref r) (.int i) H1 R := by
        rintro r zs R i v H1 ⟨o, h1, rfl | rfl⟩ s h2 h3
        · exact ixL (s _ _ h1) h2 h3
        · exact ixT (s _ _ h1) h2 h3
      refine ⟨_, rfl, hlen hp s0 ⟨_, rfl, hlen hq s0 ⟨rfl, _, rfl, ?_⟩⟩⟩
      rw [decide_eq_true (show V.int (xs.length : Int) = V.int (ys.length : Int) by rw [hl])]
      refine iteF ?_
      refine ⟨_, rfl, hlen hq s0 ⟨_, rfl, (len_le (by omega)).1, (len_le (by omega)).2, for_range (lo := 0) (n := ((ys.length : Int)).toNat) (fun i σ H' => Same H H' ∧ ∃ z, σ = [some (.ref p), some (.ref q), z]) ⟨s0, _, rfl⟩ ?_ ?_⟩⟩
      · rintro i σ H' hi ⟨s1, z, rfl⟩
        have hi1 : i < ys.length := by omega
        have hi2 : i < xs.length := by omega
        have e1 : atI xs (0 + (i : Int)) = some xs[i] := by rw [Int.zero_add]; exact atI_nat (List.getElem?_eq_getElem hi2)
        have e2 : atI ys (0 + (i : Int)) = some ys[i] := by rw [Int.zero_add]; exact atI_nat (List.getElem?_eq_getElem hi1)
        refine ⟨_, rfl, _, rfl, hix hp s1 e1 ⟨_, rfl, _, rfl, hix hq s1 e2 ⟨_, _, rfl, (hs i _ _ (List.getElem?_eq_getElem hi2) (List.getElem?_eq_getElem hi1)).mono s1, fun H2 s2 => ⟨_, rfl, iteF ?_⟩⟩⟩⟩
        exact ⟨s1.trans s2, _, rfl⟩
      · rintro σ H' ⟨s1, z, rfl⟩
        exact k _ s1
    rcases h with ⟨h1, h2⟩ | ⟨h1, h2⟩
    · have t1 : ∀ H', Same H H' → TyX K H' (.ref p) (.type "list") := fun H' s => .base (.lst (s _ _ h1))
      have t2 : ∀ H', Same H H' → TyX K H' (.ref q) (.type "list") := fun H' s => .base (.lst (s _ _ h2))
      refine ⟨_, rfl, isi2 t2 k_lt k_ll fun T nT => ⟨_, rfl, iteT ?_⟩⟩
      have s0 : Same H (upd H T (.tup [.ty "tuple", .ty "list"])) := Same.upd nT
      refine ⟨_, rfl, isi (t2 _ s0) k_lt ⟨_, rfl, isi (t1 _ s0) k_lt ⟨rfl, _, rfl, iteF ?_⟩⟩⟩
      refine ⟨_, rfl, isi2 (fun H' s => t1 H' (s0.trans s)) k_lt k_ll fun T2 nT2 => ⟨_, rfl, iteF ?_⟩⟩
      exact loop _ _ (s0.trans (Same.upd nT2)) ⟨_, h1, .inl rfl⟩ ⟨_, h2, .inl rfl⟩ _
    · have t1 : ∀ H', Same H H' → TyX K H' (.ref p) (.type "tuple") := fun H' s => .base (.tup (s _ _ h1))
      have t2 : ∀ H', Same H H' → TyX K H' (.ref q) (.type "tuple") := fun H' s => .base (.tup (s _ _ h2))
      refine ⟨_, rfl, isi2 t2 k_tt k_tl fun T nT => ⟨_, rfl, iteT ?_⟩⟩
      have s0 : Same H (upd H T (.tup [.ty "tuple", .ty "list"])) := Same.upd nT
      refine ⟨_, rfl, isi (t2 _ s0) k_tt ⟨_, rfl, isi (t1 _ s0) k_tt ⟨rfl, _, rfl, iteF ?_⟩⟩⟩
      refine ⟨_, rfl, isi2 (fun H' s => t1 H' (s0.trans s)) k_tt k_tl fun T2 nT2 => ⟨_, rfl, iteF ?_⟩⟩
      exact loop _ _ (s0.trans (Same.upd nT2)) ⟨_, h1, .inr rfl⟩ ⟨_, h2, .inr rfl⟩ _
/-! ### promises -/
def sp_l_label (_ : PySem.W.Frag) : Sp := fun vs H Q _ => ∃ (c D : Addr) (ns : List Int) (t : Nat), vs = [.ref D] ∧ Dk c D ns t H ∧ t + 10 < 1000000000 ∧
  ∀ (z : Str) (H' : Hp), OkLab z → Kp D H H' → Dk c D ns (t + 10) H' → Q (.str z) H'
def sp_l_give (_ : PySem.W.Frag) : Sp := fun vs H Q _ => ∃ (T a : Addr) (as : List Addr) (cs : List Ct) (c : Ct), vs = [.ref T, .ref a] ∧ H T = some (.lst (as.map V.ref)) ∧ CsAt H as cs ∧ CtAt H a c ∧ c.form ∧ (∀ d ∈ cs, d.form) ∧ cs.Nodup ∧ cs.length ≤ 1000 ∧
  (∀ i : Nat, cs[i]? = some c → Q (.int (i : Int)) H) ∧ (c ∉ cs → Q (.int (cs.length : Nat)) (upd H T (.lst ((as ++ [a]).map V.ref))))
def sp_l_rows (_ : PySem.W.Frag) : Sp := fun vs H Q _ => ∃ (c D r : Addr) (ns : List Int) (t : Nat) (rows : List Str), vs = [.ref D, .ref r] ∧ Dk c D ns t H ∧ H r = some (.tup (rows.map V.str)) ∧ rows.length ≤ 7 ∧ (∀ z ∈ rows, OkS z) ∧ t + 320 < 1000000000 ∧
  ∀ (r' : Addr) (rows' : List Str) (H' : Hp), H' r' = some (.tup (rows'.map V.str)) → rows'.length ≤ 7 → (∀ z ∈ rows', OkS z) → Kp D H H' → Dk c D ns (t + 320) H' → Q (.ref r') H'
def sp_l_entries (_ : PySem.W.Frag) : Sp := fun vs H Q _ => ∃ (c D w : Addr) (ns ls : List Int) (t : Nat), vs = [.ref D, .ref w] ∧ Dk c D ns t H ∧ H w = some (.lst (ls.map V.int)) ∧ w ≠ D ∧ ls ≠ [] ∧ ls.length ≤ 1000 ∧ t + 40 < 1000000000 ∧
  ∀ (r : Addr) (as : List Addr) (es : List (Str × Int)) (H' : Hp), H' r = some (.tup (as.map V.ref)) → as.length = es.length → (∀ (i : Nat) (b : Addr) (e : Str × Int), as[i]? = some b → es[i]? = some e → H' b = some (.tup [.str e.1, .int e.2])) → es.length ≤ 3 → (∀ e ∈ es, OkLab e.1 ∧ e.2 ∈ ls) → (es.Pairwise fun a b => ltS a.1 b.1) → Kp D H H' → Dk c D ns (t + 40) H' → Q (.ref r) H'
def sp_l_some (_ : PySem.W.Frag) : Sp := fun vs H Q _ => ∃ (c D w : Addr) (ns ls : List Int) (t : Nat) (most : Int), vs = [.ref D, .ref w, .int most] ∧ Dk c D ns t H ∧ H w = some (.lst (ls.map V.int)) ∧ w ≠ D ∧ ls.length ≤ 1000 ∧ 0 ≤ most ∧ most ≤ 40 ∧ t + 40 < 1000000000 ∧
  ∀ (r : Addr) (ys : List Int) (H' : Hp), H' r = some (.tup (ys.map V.int)) → ys.Pairwise (· < ·) → (∀ y ∈ ys, y ∈ ls) → (ys.length : Int) ≤ most → Kp D H H' → Dk c D ns (t + 40) H' → Q (.ref r) H'
section
variable {K : PySem.W.Frag} {vs : List V} {H : Hp} {Q : VK} {E : XK}
theorem len_l_label (h : sp_l_label K vs H Q E) : vs.length = 1 := by obtain ⟨_, _, _, _, rfl, _⟩ := h; rfl
theorem len_l_give (h : sp_l_give K vs H Q E) : vs.length = 2 := by obtain ⟨_, _, _, _, _, rfl, _⟩ := h; rfl
theorem len_l_rows (h : sp_l_rows K vs H Q E) : vs.length = 2 := by obtain ⟨_, _, _, _, _, _, rfl, _⟩ := h; rfl
theorem len_l_entries (h : sp_l_entries K vs H Q E) : vs.length = 2 := by obtain ⟨_, _, _, _, _, _, rfl, _⟩ := h; rfl
theorem len_l_some (h : sp_l_some K vs H Q E) : vs.length = 3 := by obtain ⟨_, _, _, _, _, _, _, rfl, _⟩ := h; rfl
end
abbrev N_l_label : List Str := ["_law_deck_here", "_law_letters", "_law_k"]
def t_l_label_long (K : PySem.W.Frag) : TS := (tSeq (tAsg (tC (.str "abcdefghijklmnopqrstuvwxyz")) (gName 1))
    (tRet (tM1 (fJoin K) (tC (.str "")) (tLc (iRng1 (tCons (tOp rAddI (tC (.int 1)) (tCall (sp_l_draw K) [] E0 (tCons (tVar 0) (tCons (tC (.int 8)) tNil)))) tNil)) (gName 2) tYes (tOp (rIx K) (tVar 1) (tCall (sp_l_draw K) [] E0 (tCons (tVar 0) (tCons (tC (.int 26)) tNil)))) [2]))))
def t_l_label (K : PySem.W.Frag) : TS := (tSeq (tIfS (tTest (tOp rGtI (tCall (sp_l_draw K) [] E0 (tCons (tVar 0) (tCons (tC (.int 3)) tNil))) (tC (.int 0)))) (tRet (tOp (rIx K) (tC (.str "abcd")) (tCall (sp_l_draw K) [] E0 (tCons (tVar 0) (tCons (tC (.int 4)) tNil))))) tNext)
    (t_l_label_long K))
abbrev N_l_give : List Str := ["_law_things", "_law_content"]
def t_l_give (K : PySem.W.Frag) : TS := (tSeq (tIfS (tTest (tOp (rInD K) (tVar 1) (tVar 0))) (tRet (tBM K "list" (rIndexD K) (tVar 0) (tCons (tVar 1) tNil))) tNext)
    (tSeq (tDrop (tBM K "list" rAppend (tVar 0) (tCons (tVar 1) tNil)))
    (tRet (tOp rSubI (tCB (fLen K) (tCons (tVar 0) tNil)) (tC (.int 1))))))
abbrev N_l_rows : List Str := ["_law_deck_here", "_law_elder", "_law_rows_here", "_law_k"]
def t_l_rows_d (K : PySem.W.Frag) : TS := (tRet (tCB (fTupleOf K) (tCons (tVar 2) tNil)))
def t_l_rows_c (K : PySem.W.Frag) : TS := (tSeq (tIfS (tTest (tOp rGtI (tCB (fLen K) (tCons (tVar 2) tNil)) (tC (.int 7)))) (tDrop (tBM K "list" rPopAt (tVar 2) (tCons (tCall (sp_l_draw K) [] E0 (tCons (tVar 0) (tCons (tCB (fLen K) (tCons (tVar 2) tNil)) tNil))) tNil))) tNext)
    (t_l_rows_d K))
def t_l_rows_b (K : PySem.W.Frag) : TS := (tSeq (tIfS (tTest (tOp rEq (tCall (sp_l_draw K) [] E0 (tCons (tVar 0) (tCons (tC (.int 2)) tNil))) (tC (.int 0)))) (tDrop (tBM K "list" fInsert (tVar 2) (tCons (tCall (sp_l_draw K) [] E0 (tCons (tVar 0) (tCons (tOp rAddI (tCB (fLen K) (tCons (tVar 2) tNil)) (tC (.int 1))) tNil))) (tCons (tCall (sp_l_text K) [] E0 (tCons (tVar 0) (tCons (tC (.int 3)) tNil))) tNil)))) tNext)
    (t_l_rows_c K))
def t_l_rows_a (K : PySem.W.Frag) : TS := (tSeq (tIfS (tTest (tOp rEq (tCall (sp_l_draw K) [] E0 (tCons (tVar 0) (tCons (tC (.int 2)) tNil))) (tC (.int 0)))) (tAsg (tLc (iRng1 (tCons (tCall (sp_l_draw K) [] E0 (tCons (tVar 0) (tCons (tC (.int 5)) tNil))) tNil)) (gName 3) tYes (tCall (sp_l_text K) [] E0 (tCons (tVar 0) (tCons (tC (.int 3)) tNil))) [3]) (gName 2)) tNext)
    (t_l_rows_b K))
def t_l_rows (K : PySem.W.Frag) : TS := (tSeq (tAsg (tCB (fListOf K) (tCons (tVar 1) tNil)) (gName 2))
    (t_l_rows_a K))
abbrev N_l_entries : List Str := ["_law_deck_here", "_law_lows", "_law_entries_here", "_law_k"]
def t_l_entries (K : PySem.W.Frag) : TS := (tSeq (tAsg tDNewK (gName 2))
    (tSeq (tFor (iRng1 (tCons (tCall (sp_l_draw K) [] E0 (tCons (tVar 0) (tCons (tC (.int 4)) tNil))) tNil)) (gName 3) (sDPut (tVar 2) (tCall (sp_l_label K) [] E0 (tCons (tVar 0) tNil)) (tOp (rIx K) (tVar 1) (tCall (sp_l_draw K) [] E0 (tCons (tVar 0) (tCons (tCB (fLen K) (tCons (tVar 1) tNil)) tNil))))))
    (tRet (tCB (fTupleOf K) (tCons (tCB rSortItD (tCons (tBM0 K "dict" rItemsD (tVar 2)) tNil)) tNil)))))
abbrev N_l_some : List Str := ["_law_deck_here", "_law_names", "_law_most", "_law_some_here", "_law_k"]
def t_l_some (K : PySem.W.Frag) : TS := (tSeq (tAsg (tLst tNil) (gName 3))
    (tSeq (tFor (iRng1 (tCons (tCB fMin2 (tCons (tVar 2) (tCons (tCB (fLen K) (tCons (tVar 1) tNil)) tNil))) tNil)) (gName 4) (tDrop (tBM K "list" rAppend (tVar 3) (tCons (tOp (rIx K) (tVar 1) (tCall (sp_l_draw K) [] E0 (tCons (tVar 0) (tCons (tCB (fLen K) (tCons (tVar 1) tNil)) tNil)))) tNil))))
    (tRet (tCB (fTupleOf K) (tCons (tSortSet K (tVar 3)) tNil)))))
theorem okLab1 {c : Nat} (h1 : 97 ≤ c) (h2 : c ≤ 122) : OkLab ⟨#[c]⟩ := ⟨Nat.le_refl _, by show (1 : Nat) ≤ 8; decide, fun x hx => by
  have : x = c := by simpa using hx
  rw [this]
  exact ⟨h1, h2⟩⟩
theorem abcd_ok : ∀ x ∈ ("abcd" : Str).cps.toList, 97 ≤ x ∧ x ≤ 122 := by
  have h : (("abcd" : Str).cps.toList.all fun x => decide (97 ≤ x) && decide (x ≤ 122)) = true := by decide +kernel
  intro x hx
  have := List.all_eq_true.mp h x hx
  simpa using this
theorem az_ok : ∀ x ∈ ("abcdefghijklmnopqrstuvwxyz" : Str).cps.toList, 97 ≤ x ∧ x ≤ 122 := by
  have h : (("abcdefghijklmnopqrstuvwxyz" : Str).cps.toList.all fun x => decide (97 ≤ x) && decide (x ≤ 122)) = true := by decide +kernel
  intro x hx
  have := List.all_eq_true.mp h x hx
  simpa using this
theorem az_len : ("abcdefghijklmnopqrstuvwxyz" : Str).cps.toList.length = 26 := by decide +kernel
theorem abcd_len : ("abcd" : Str).cps.toList.length = 4 := by decide +kernel
section
variable {K : PySem.W.Frag} {vs : List V} {H : Hp} {Q : VK} {E : XK}
theorem pure_l_label (h : sp_l_label K vs H Q E) : t_l_label K { nx := fun _ H' => Q .non H', rt := Q } (start N_l_label vs) H := by
  obtain ⟨c, D, ns, t, rfl, dk, ht, k⟩ := h
  refine ⟨_, rfl, c, D, ns, t, 3, rfl, dk, by omega, by decide, by decide, fun v H1 v0 v1 d1 fr1 => ⟨_, _, rfl, rfl, _, rfl, ite2 (fun _ => ?_) (fun _ => ?_)⟩⟩
  · refine ⟨_, rfl, c, D, ns, _, 4, rfl, d1, by omega, by decide, by decide, fun v2 H2 w0 w1 d2 fr2 => ?_⟩
    obtain ⟨j, rfl⟩ := Int.eq_ofNat_of_zero_le w0
    have hj : j < ("abcd" : Str).cps.toList.length := by rw [abcd_len]; omega
    have ho := abcd_ok _ (List.getElem_mem hj)
    refine ixS (by decide +kernel) (atI_nat (List.getElem?_eq_getElem hj)) (k _ _ (okLab1 ho.1 ho.2) ((Kp.fr fr1).trans (.fr fr2)) (d2.le (by omega)))
  · show t_l_label_long K { nx := fun _ H' => Q .non H', rt := Q } [some (.ref D), none, none] H1
    refine ⟨⟨_, rfl⟩, _, rfl, c, D, ns, _, 8, rfl, d1, by omega, by decide, by decide, fun n H2 n0 n1 d2 fr2 => ⟨_, _, rfl, rfl, _, rfl, by omega, by omega, fun L nL => ?_⟩⟩
    refine lc_deck (walk_range (lo := 0) (n := (1 + n).toNat)) yFn (fun x : Nat => V.str ⟨#[x]⟩) (fun x => 97 ≤ x ∧ x ≤ 122) 1 nL d2 (by omega) ?_ ?_
    · intro i x H3 R hi kp d3 r
      refine ⟨rfl, ⟨_, rfl, _, rfl, c, D, ns, _, 26, rfl, d3, by omega, by decide, by decide, fun v H4 v0 v1 d4 fr4 => ?_⟩⟩
      obtain ⟨j, rfl⟩ := Int.eq_ofNat_of_zero_le v0
      have hj : j < ("abcdefghijklmnopqrstuvwxyz" : Str).cps.toList.length := by rw [az_len]; omega
      exact ixS (by decide +kernel) (atI_nat (List.getElem?_eq_getElem hj)) (r _ _ (az_ok _ (List.getElem_mem hj)) (.fr fr4) d4)
    · intro ys H3 hl hp kp d3 hL
      have hlen : ys.length = (1 + n).toNat := hl
      refine ⟨_, L, (ys.map fun c => (⟨#[c]⟩ : Str)), rfl, rfl, .inl (sqL (by rw [hL, List.map_map]; rfl)), ?_, ?_⟩
      · rw [sum_ones, List.length_map]
        show ys.length + ys.length * 0 ≤ _
        omega
      · rw [join_chars]
        refine k _ _ ⟨?_, ?_, ?_⟩ ((Kp.fr fr1).trans ((Kp.fr fr2).trans kp)) (d3.le (by omega))
        · show 1 ≤ ys.toArray.size
          rw [List.size_toArray]
          omega
        · show ys.toArray.size ≤ 8
          rw [List.size_toArray]
          omega
        · intro x hx
          exact hp x (by simpa using hx)
theorem pure_l_give (h : sp_l_give K vs H Q E) : t_l_give K { nx := fun _ H' => Q .non H', rt := Q } (start N_l_give vs) H := by
  obtain ⟨T, a, as, cs, c, rfl, hT, hcs, hc, fo, fos, nd, few, k1, k2⟩ := h
  have any : ((cs.map Ct.data).any fun z => PyData.eqv z c.data) = decide (c ∈ cs) := by
    rw [List.any_map]
    by_cases h : c ∈ cs
    · rw [decide_eq_true h, List.any_eq_true]
      exact ⟨c, h, by show PyData.eqv c.data c.data = true; rw [Ct.eqv, decide_eq_true rfl]⟩
    · rw [decide_eq_false h, List.any_eq_false]
      intro d hd
      show ¬ PyData.eqv d.data c.data = true
      rw [Ct.eqv, decide_eq_true_eq]
      exact fun e => h (by rw [← e]; exact hd)
  refine ⟨_, rfl, _, rfl, c.data, cs.map Ct.data, hc.dp, .lst (sqL hT) (dp_contents as cs hcs), Ct.shaped fo, shaped_contents fos, _, rfl, ?_⟩
  rw [any]
  by_cases h : c ∈ cs
  · rw [decide_eq_true h]
    obtain ⟨i, hi⟩ := List.mem_iff_getElem?.mp h
    refine iteT ⟨_, rfl, .inl ⟨rfl, _, sqL hT⟩, _, rfl, T, .ref a, c.data, cs.map Ct.data, i, c.data, rfl, rfl, .lst (sqL hT) (dp_contents as cs hcs), hc.dp, shaped_contents fos, Ct.shaped fo, by rw [List.getElem?_map, hi]; rfl, by rw [Ct.eqv, decide_eq_true rfl], fun m z hm hz => ?_, k1 i hi⟩
    rw [List.getElem?_map] at hz
    cases e : cs[m]? with
    | none => rw [e] at hz; cases hz
    | some d =>
      rw [e] at hz
      cases Option.some.inj hz
      rw [Ct.eqv, decide_eq_false]
      rintro rfl
      have := (List.getElem?_inj (List.getElem?_eq_some_iff.mp e).1 nd).mp (e.trans hi.symm)
      omega
  · rw [decide_eq_false h]
    refine iteF ⟨_, rfl, .inl ⟨rfl, _, sqL hT⟩, _, rfl, T, _, _, rfl, rfl, hT, ?_, ?_⟩
    · rw [List.length_map, hcs.1]
      exact Nat.lt_of_le_of_lt few (by decide)
    · refine ⟨_, rfl, lenL updS ⟨_, _, rfl, rfl, ?_⟩⟩
      have := k2 h
      rw [List.map_append] at this
      rw [List.length_append, List.length_map, hcs.1]
      show Q (.int (((cs.length + 1 : Nat) : Int) - 1)) _
      rw [show (((cs.length + 1 : Nat) : Int) - 1) = ((cs.length : Nat) : Int) from by omega]
      exact this
/-- all but the deck and L stands -/
def Kp2 (D L : Addr) (H H' : Hp) : Prop := ∀ b o, H b = some o → b ≠ D → b ≠ L → H' b = some o
theorem Kp2.refl {D L : Addr} {H : Hp} : Kp2 D L H H := fun _ _ h _ _ => h
theorem Kp2.trans {D L : Addr} {H H1 H2 : Hp} (a : Kp2 D L H H1) (b : Kp2 D L H1 H2) : Kp2 D L H H2 := fun x o h h1 h2 => b x o (a x o h h1 h2) h1 h2
theorem Kp2.kp {D L : Addr} {H H' : Hp} (k : Kp D H H') : Kp2 D L H H' := fun b o h h1 _ => k b o h h1
theorem Kp2.up {D L : Addr} {H H' : Hp} {o : HO} (k : Kp2 D L H H') : Kp2 D L H (upd H' L o) := fun b u h h1 h2 => updN h2 (k b u h h1 h2)
theorem Kp2.out {D L : Addr} {H H1 H' : Hp} (s : Kp D H H1) (k : Kp2 D L H1 H') (nL : H L = none) : Kp D H H' := fun b o h h1 => k b o (s b o h h1) h1 (ne_of_none h nL)
theorem rows_d {c D L r0 : Addr} {ns : List Int} {t : Nat} {rows : List Str} {z3 : Option V} (dk : Dk c D ns t H) (hL : H L = some (.lst (rows.map V.str)))
    (k : ∀ (r' : Addr) (H' : Hp), H' r' = some (.tup (rows.map V.str)) → Kp2 D L H H' → Dk c D ns t H' → Q (.ref r') H') :
    t_l_rows_d K { nx := fun _ H' => Q .non H', rt := Q } [some (.ref D), some (.ref r0), some (.ref L), z3] H :=
  ⟨_, rfl, L, _, rfl, .inl ⟨sqL hL, fun r' nr => k r' _ updS (.kp (.new nr)) (dk.upd (dk.neC nr) (dk.neD nr))⟩⟩
theorem rows_c {c D L r0 : Addr} {ns : List Int} {t : Nat} {rows : List Str} {z3 : Option V} (dk : Dk c D ns t H) (hL : H L = some (.lst (rows.map V.str))) (nLD : L ≠ D) (nLc : L ≠ c) (few : rows.length ≤ 8) (ok : ∀ z ∈ rows, OkS z) (ht : t + 1 < 1000000000)
    (k : ∀ (r' : Addr) (rows' : List Str) (H' : Hp), H' r' = some (.tup (rows'.map V.str)) → rows'.length ≤ 7 → (∀ z ∈ rows', OkS z) → Kp2 D L H H' → Dk c D ns (t + 1) H' → Q (.ref r') H') :
    t_l_rows_c K { nx := fun _ H' => Q .non H', rt := Q } [some (.ref D), some (.ref r0), some (.ref L), z3] H := by
  refine ⟨_, rfl, lenL hL ⟨_, _, rfl, rfl, _, rfl, ite2 (fun e => ?_) (fun e => ?_)⟩⟩
  · have e := of_decide_eq_true e
    rw [List.length_map] at e
    refine ⟨_, rfl, .inl ⟨rfl, _, sqL hL⟩, _, rfl, _, rfl, lenL hL ⟨c, D, ns, t, _, rfl, dk, by omega, by rw [List.length_map]; omega, by rw [List.length_map]; exact small100 (by omega), fun v H1 v0 v1 d1 fr1 => ?_⟩⟩
    rw [List.length_map] at v1
    obtain ⟨j, rfl⟩ := Int.eq_ofNat_of_zero_le v0
    have hj : j < rows.length := by omega
    have hL1 : H1 L = some (.lst (rows.map V.str)) := by rw [fr1 _ nLD]; exact hL
    refine ⟨L, _, (j : Int), j, V.str rows[j], rfl, rfl, hL1, by omega, by omega, ?_, by rw [List.getElem?_map, List.getElem?_eq_getElem hj]; rfl, ?_⟩
    · rw [List.length_map]
      unfold seqIndex?
      simp
      omega
    · have e2 : (rows.map V.str).eraseIdx j = (rows.eraseIdx j).map V.str := (DT.map_erase V.str rows j).symm
      rw [e2]
      refine rows_d (d1.upd nLc nLD) updS fun r' H' hr kp d => k r' _ H' hr ?_ (fun z hz => ok z (List.mem_of_mem_eraseIdx hz)) ((Kp2.up (.kp (.fr fr1))).trans kp) d
      rw [List.length_eraseIdx]
      split <;> omega
  · have e : ¬ (7 : Int) < ((rows.map V.str).length : Int) := fun q => e (decide_eq_true q)
    rw [List.length_map] at e
    exact rows_d dk hL fun r' H' hr kp d => k r' rows H' hr (by omega) ok kp (d.le (by omega))
theorem rows_b {c D L r0 : Addr} {ns : List Int} {t : Nat} {rows : List Str} {z3 : Option V} (dk : Dk c D ns t H) (hL : H L = some (.lst (rows.map V.str))) (nLD : L ≠ D) (nLc : L ≠ c) (few : rows.length ≤ 7) (ok : ∀ z ∈ rows, OkS z) (ht : t + 60 < 1000000000)
    (k : ∀ (r' : Addr) (rows' : List Str) (H' : Hp), H' r' = some (.tup (rows'.map V.str)) → rows'.length ≤ 7 → (∀ z ∈ rows', OkS z) → Kp2 D L H H' → Dk c D ns (t + 60) H' → Q (.ref r') H') :
    t_l_rows_b K { nx := fun _ H' => Q .non H', rt := Q } [some (.ref D), some (.ref r0), some (.ref L), z3] H := by
  refine ⟨_, rfl, c, D, ns, t, 2, rfl, dk, by omega, by decide, by decide, fun v H1 v0 v1 d1 fr1 => ⟨rfl, _, rfl, ?_⟩⟩
  have hL1 : H1 L = some (.lst (rows.map V.str)) := by rw [fr1 _ nLD]; exact hL
  refine ite2 (fun _ => ?_) (fun _ => ?_)
  · refine ⟨_, rfl, .inl ⟨rfl, _, sqL hL1⟩, _, rfl, _, rfl, lenL hL1 ⟨_, _, rfl, rfl, c, D, ns, _, _, rfl, d1, by omega, by rw [List.length_map]; omega, by rw [List.length_map]; exact small100 (by omega), fun v H2 v0 v1 d2 fr2 => ?_⟩⟩
    rw [List.length_map] at v1
    have hL2 : H2 L = some (.lst (rows.map V.str)) := by rw [fr2 _ nLD]; exact hL1
    refine ⟨_, rfl, c, D, ns, _, 3, rfl, d2, by decide, by decide, by omega, fun z H3 oz kp3 d3 => ?_⟩
    have hL3 := kp3 _ _ hL2 nLD
    refine ⟨L, _, v, .str z, rfl, rfl, hL3, ?_, v0, by omega, ?_⟩
    · rw [List.length_map]
      exact Nat.lt_of_le_of_lt (show _ ≤ 1000 by omega) (by decide)
    · have e2 : (rows.map V.str).take v.toNat ++ [V.str z] ++ (rows.map V.str).drop v.toNat = (rows.take v.toNat ++ [z] ++ rows.drop v.toNat).map V.str := by
        rw [List.map_append, List.map_append, List.map_take, List.map_drop]
        rfl
      rw [e2]
      refine rows_c (d3.upd nLc nLD) updS nLD nLc ?_ ?_ (by omega) fun r' rows' H' hr hf ho kp d => k r' rows' H' hr hf ho ((Kp2.up ((Kp2.kp (.fr fr1)).trans ((Kp2.kp (.fr fr2)).trans (Kp2.kp kp3)))).trans kp) (d.le (by omega))
      · rw [List.length_append, List.length_append, List.length_take, List.length_drop, List.length_singleton]
        omega
      · intro y hy
        rw [List.mem_append, List.mem_append] at hy
        rcases hy with (hy | hy) | hy
        · exact ok y (List.mem_of_mem_take hy)
        · rw [List.mem_singleton.mp hy]; exact oz
        · exact ok y (List.mem_of_mem_drop hy)
  · exact rows_c d1 hL1 nLD nLc (by omega) ok (by omega) fun r' rows' H' hr hf ho kp d => k r' rows' H' hr hf ho ((Kp2.kp (.fr fr1)).trans kp) (d.le (by omega))
theorem pure_l_rows (h : sp_l_rows K vs H Q E) : t_l_rows K { nx := fun _ H' => Q .non H', rt := Q } (start N_l_rows vs) H := by
  obtain ⟨c, D, r, ns, t, rows, rfl, dk, hr, few, ok, ht, k⟩ := h
  refine ⟨_, rfl, r, _, rfl, .inr (sqT hr), fun L nL => ?_⟩
  show t_l_rows_a K { nx := fun _ H' => Q .non H', rt := Q } [some (.ref D), some (.ref r), some (.ref L), none] _
  have dk1 := dk.upd (o := .lst (rows.map V.str)) (dk.neC nL) (dk.neD nL)
  have s1 : Kp D H (upd H L (.lst (rows.map V.str))) := .new nL
  have hL1 : upd H L (.lst (rows.map V.str)) L = some (.lst (rows.map V.str)) := updS
  generalize upd H L (.lst (rows.map V.str)) = H1 at dk1 s1 hL1
  refine ⟨_, rfl, c, D, ns, t, 2, rfl, dk1, by omega, by decide, by decide, fun v H2 v0 v1 d2 fr2 => ⟨rfl, _, rfl, ?_⟩⟩
  have hL2 : H2 L = some (.lst (rows.map V.str)) := by rw [fr2 _ (dk.neD nL)]; exact hL1
  refine ite2 (fun _ => ?_) (fun _ => ?_)
  · refine ⟨_, rfl, c, D, ns, _, 5, rfl, d2, by omega, by decide, by decide, fun n H3 n0 n1 d3 fr3 => ⟨_, rfl, by omega, by omega, fun M nM => ?_⟩⟩
    refine lc_deck (walk_range (lo := 0) (n := n.toNat)) yFn V.str OkS 50 nM d3 (by omega) ?_ ?_
    · intro i x H4 R hi kp d4 q
      refine ⟨rfl, ⟨_, rfl, c, D, ns, _, 3, rfl, d4, by decide, by decide, by omega, fun z H5 o kp5 d5 => q z H5 o kp5 d5⟩⟩
    · intro ys H4 hl hp kp d4 hM
      have nM3 : H2 M = none := by rw [← fr3 M (d3.neD nM)]; exact nM
      refine rows_b (d4.le (show _ ≤ t + 1 + 1 + 50 * 5 by have : n.toNat ≤ 5 := by omega
                                                           have := Nat.mul_le_mul_left 50 this
                                                           omega)) hM (d3.neD nM) (d3.neC nM) (by omega) hp (by omega) fun r' rows' H' hr hf ho kp' d => k r' rows' H' hr hf ho ?_ (d.le (by omega))
      have a1 : Kp D H1 H4 := (Kp.fr fr2).trans ((Kp.fr fr3).trans kp)
      have nM1 : H1 M = none := by rw [← fr2 M (d3.neD nM)]; exact nM3
      exact s1.trans (Kp2.out a1 kp' nM1)
  · exact rows_b d2 hL2 (dk.neD nL) (dk.neC nL) few ok (by omega) fun r' rows' H' hr hf ho kp d => k r' rows' H' hr hf ho (Kp2.out (L := L) (H1 := H2) (fun b o h h1 => by rw [fr2 b h1]; exact s1 b o h h1) kp nL) (d.le (by omega))
theorem putK_lab (ks : List (Str × Int)) (z : Str) (v : Int) : ∃ ks' : List (Str × Int), putK (ks.map labK) (Sum.inr z) (.int v) = ks'.map labK ∧ (∀ e ∈ ks', e ∈ ks ∨ e = (z, v)) ∧ ks'.length ≤ ks.length + 1 := by
  unfold putK
  by_cases h : ((ks.map labK).any fun kv => decide (kv.1 = Sum.inr z)) = true
  · rw [if_pos h]
    refine ⟨ks.map fun e => if e.1 = z then (e.1, v) else e, ?_, fun e he => ?_, by rw [List.length_map]; omega⟩
    · rw [List.map_map, List.map_map]
      refine List.map_congr_left fun e _ => ?_
      show (if (Sum.inr e.1 : Key) = Sum.inr z then _ else _) = labK (if e.1 = z then _ else _)
      by_cases h2 : e.1 = z
      · rw [if_pos h2, if_pos (by rw [h2])]
      · rw [if_neg h2, if_neg (fun q => h2 (Sum.inr.inj q))]
    · obtain ⟨d, hd, rfl⟩ := List.mem_map.mp he
      by_cases h2 : d.1 = z
      · rw [if_pos h2]; exact .inr (by rw [h2])
      · rw [if_neg h2]; exact .inl hd
  · rw [if_neg h]
    refine ⟨ks ++ [(z, v)], by rw [List.map_append]; rfl, fun e he => ?_, by rw [List.length_append]; exact Nat.le_refl _⟩
    rcases List.mem_append.mp he with he | he
    · exact .inl he
    · exact .inr (List.mem_singleton.mp he)
theorem pure_l_entries (h : sp_l_entries K vs H Q E) : t_l_entries K { nx := fun _ H' => Q .non H', rt := Q } (start N_l_entries vs) H := by
  obtain ⟨c, D, w, ns, ls, t, rfl, dk, hw, nwD, ne, few, ht, k⟩ := h
  refine fun G nG => ?_
  have nGD := dk.neD nG
  have nGc := dk.neC nG
  have nwG : w ≠ G := ne_of_none hw nG
  refine ⟨_, rfl, c, D, ns, t, 4, rfl, dk.upd nGc nGD, by omega, by decide, by decide, fun n H1 n0 n1 d1 fr1 => ⟨_, rfl, by omega, by omega, ?_⟩⟩
  have lpos : 0 < ls.length := List.length_pos_iff.mpr ne
  refine for_range (lo := 0) (n := n.toNat) (fun i σ H' => Kp2 D G H H' ∧ Dk c D ns (t + 1 + 11 * i) H' ∧ (∃ ks : List (Str × Int), H' G = some (.dK (ks.map labK)) ∧ (∀ e ∈ ks, OkLab e.1 ∧ e.2 ∈ ls) ∧ ks.length ≤ i) ∧ ∃ z, σ = [some (.ref D), some (.ref w), some (.ref G), z]) ⟨(Kp2.kp (Kp.new nG)).trans (Kp2.kp (Kp.fr fr1)), d1, ⟨[], by rw [fr1 _ nGD, updS]; rfl, (fun e h => nomatch h), Nat.zero_le _⟩, _, rfl⟩ ?_ ?_
  · rintro i σ H' hi ⟨kp, d, ⟨ks, hG, hk, hl⟩, z, rfl⟩
    have hi4 : i < 4 := by omega
    have hw' := kp _ _ hw nwD nwG
    refine ⟨_, rfl, _, rfl, _, rfl, lenL hw' ⟨c, D, ns, _, _, rfl, d, by omega, by rw [List.length_map]; omega, by rw [List.length_map]; exact small100 (by omega), fun v H2 v0 v1 d2 fr2 => ?_⟩⟩
    rw [List.length_map] at v1
    obtain ⟨j, rfl⟩ := Int.eq_ofNat_of_zero_le v0
    have hj : j < ls.length := by omega
    refine ixL (by rw [fr2 _ nwD]; exact hw') (atI_nat (by rw [List.getElem?_map, List.getElem?_eq_getElem hj]; rfl)) ⟨_, rfl, _, rfl, c, D, ns, _, rfl, d2, by omega, fun lab H3 ol kp3 d3 => ?_⟩
    have hG3 : H3 G = some (.dK (ks.map labK)) := kp3 _ _ (by rw [fr2 _ nGD]; exact hG) nGD
    refine ⟨G, _, rfl, DPut.k (k := Sum.inr lab) hG3 ?_, ?_⟩
    · rw [List.length_map]
      exact Nat.lt_of_le_of_lt (show _ ≤ 1000 by omega) (by decide)
    obtain ⟨ks', e1, e2, e3⟩ := putK_lab ks lab ls[j]
    rw [show putK (ks.map labK) (Sum.inr lab) (V.int ls[j]) = ks'.map labK from e1]
    refine ⟨Kp2.up (kp.trans ((Kp2.kp (.fr fr2)).trans (Kp2.kp kp3))), (d3.upd nGc nGD).le (by omega), ⟨ks', updS, fun e he => ?_, by omega⟩, _, rfl⟩
    rcases e2 e he with h | h
    · exact hk e h
    · rw [h]
      exact ⟨ol, List.getElem_mem hj⟩
  · rintro σ H' ⟨kp, d, ⟨ks, hG, hk, hl⟩, z, rfl⟩
    refine ⟨_, rfl, .inr (.inr (.inl ⟨rfl, .inl ⟨_, hG⟩⟩)), G, _, rfl, rfl, hG, fun p np => ?_⟩
    have s1 : Same H' (upd H' p (L2.DX.itemsO p G)) := samN np
    refine ⟨p, G, ks, rfl, updS, s1 _ _ hG, by omega, fun H2 l ps s2 nl pm srt hl2 hps => ?_⟩
    have s3 := s1.trans s2
    have d3 : Dk c D ns (t + 1 + 11 * n.toNat) H2 := by
      obtain ⟨x1, x2, x3, i, m, u, x4, r⟩ := d
      exact ⟨x1, s3 _ _ x2, x3, i, m, u, s3 _ _ x4, r⟩
    have nf : n.toNat ≤ 3 := by omega
    have plen : ps.length ≤ 3 := by
      have := pm.length_eq
      rw [List.length_map] at this
      omega
    refine ⟨l, _, rfl, .inl ⟨sqL hl2, fun q nq => ?_⟩⟩
    have s4 : Same H2 (upd H2 q (.tup (ps.map fun z => V.ref z.1))) := samN nq
    refine k q (ps.map (·.1)) (ps.map (·.2)) _ (by rw [updS, List.map_map]; rfl) (by rw [List.length_map, List.length_map]) (fun i b e h1 h2 => ?_) (by rw [List.length_map]; exact plen) (fun e he => ?_) ?_ ?_ ((d3.upd (d3.neC nq) (d3.neD nq)).le (by omega))
    · rw [List.getElem?_map] at h1 h2
      cases e3 : ps[i]? with
      | none => rw [e3] at h1; cases h1
      | some x =>
        rw [e3] at h1 h2
        cases Option.some.inj h1
        cases Option.some.inj h2
        exact s4 _ _ (hps x (List.mem_of_getElem? e3)).2
    · exact hk e (pm.mem_iff.mp he)
    · rw [List.pairwise_map]
      exact srt
    · exact fun b o h h1 => (s3.trans s4) b o (kp b o h h1 (ne_of_none h nG))
theorem pure_l_some (h : sp_l_some K vs H Q E) : t_l_some K { nx := fun _ H' => Q .non H', rt := Q } (start N_l_some vs) H := by
  obtain ⟨c, D, w, ns, ls, t, most, rfl, dk, hw, nwD, few, m0, m1, ht, k⟩ := h
  refine ⟨by decide, fun L nL => ?_⟩
  have nLD := dk.neD nL
  have nLc := dk.neC nL
  have nwL : w ≠ L := ne_of_none hw nL
  refine ⟨_, rfl, _, rfl, lenL (updN nwL hw) ⟨_, _, rfl, ?_⟩⟩
  have hn : ∃ n : Nat, (if ((ls.map V.int).length : Int) < most then ((ls.map V.int).length : Int) else most) = (n : Int) ∧ (n : Int) ≤ most ∧ (n ≤ ls.length) := by
    rw [List.length_map]
    by_cases h : (ls.length : Int) < most
    · rw [if_pos h]; exact ⟨ls.length, rfl, by omega, by omega⟩
    · rw [if_neg h]; exact ⟨most.toNat, by omega, by omega, by omega⟩
  obtain ⟨n, en, n1, n2⟩ := hn
  rw [en]
  refine ⟨_, rfl, by omega, by omega, ?_⟩
  refine for_range (lo := 0) (n := (n : Int).toNat) (fun i σ H' => Kp2 D L H H' ∧ Dk c D ns (t + i) H' ∧ (∃ xs : List Int, H' L = some (.lst (xs.map V.int)) ∧ (∀ x ∈ xs, x ∈ ls) ∧ xs.length = i) ∧ ∃ z, σ = [some (.ref D), some (.ref w), some (.int most), some (.ref L), z]) ⟨Kp2.kp (Kp.new nL), dk.upd nLc nLD, ⟨[], updS, (fun e h => nomatch h), rfl⟩, _, rfl⟩ ?_ ?_
  · rintro i σ H' hi ⟨kp, d, ⟨xs, hL, hx, hl⟩, z, rfl⟩
    have hw' := kp _ _ hw nwD nwL
    refine ⟨_, rfl, .inl ⟨rfl, _, sqL hL⟩, _, rfl, _, rfl, _, rfl, lenL hw' ⟨c, D, ns, _, _, rfl, d, by omega, by rw [List.length_map]; omega, by rw [List.length_map]; exact small100 (by omega), fun v H2 v0 v1 d2 fr2 => ?_⟩⟩
    rw [List.length_map] at v1
    obtain ⟨j, rfl⟩ := Int.eq_ofNat_of_zero_le v0
    have hj : j < ls.length := by omega
    refine ixL (by rw [fr2 _ nwD]; exact hw') (atI_nat (by rw [List.getElem?_map, List.getElem?_eq_getElem hj]; rfl)) ⟨L, _, _, rfl, rfl, by rw [fr2 _ nLD]; exact hL, ?_, ?_⟩
    · rw [List.length_map]
      exact Nat.lt_of_le_of_lt (show _ ≤ 1000 by omega) (by decide)
    · refine ⟨Kp2.up (kp.trans (Kp2.kp (.fr fr2))), (d2.upd nLc nLD).le (by omega), ⟨xs ++ [ls[j]], by rw [updS, List.map_append]; rfl, fun x hx2 => ?_, by rw [List.length_append, hl]; rfl⟩, _, rfl⟩
      rcases List.mem_append.mp hx2 with h | h
      · exact hx x h
      · rw [List.mem_singleton.mp h]; exact List.getElem_mem hj
  · rintro σ H' ⟨kp, d, ⟨xs, hL, hx, hl⟩, z, rfl⟩
    refine ⟨_, rfl, L, xs, rfl, sqL hL, by omega, fun ys q p u nq np inc mem len => ?_⟩
    have s1 : Same H' (upd (upd H' q u) p (.lst (ys.map V.int))) := (samN nq).trans (samN np)
    refine ⟨p, _, rfl, .inl ⟨sqL updS, fun r nr => ?_⟩⟩
    have s2 := s1.trans (samN (o := .tup (ys.map V.int)) nr)
    have d2 : Dk c D ns (t + (n : Int).toNat) (upd (upd (upd H' q u) p (.lst (ys.map V.int))) r (.tup (ys.map V.int))) := by
      obtain ⟨x1, x2, x3, i, m, u, x4, r⟩ := d
      exact ⟨x1, s2 _ _ x2, x3, i, m, u, s2 _ _ x4, r⟩
    exact k r ys _ updS inc (fun y hy => hx y ((mem y).mp hy)) (by omega) (fun b o h h1 => s2 b o (kp b o h h1 (ne_of_none h nL))) (d2.le (by omega))
end
end Fw

set_option Elab.async false
set_option linter.all false
set_option maxRecDepth 100000
set_option maxHeartbeats 4000000
/-! The family of contents that a law draws. -/
namespace Fw
open PySem L2 RZ RT
def addC (cs : List Ct) (c : Ct) : List Ct := if c ∈ cs then cs else cs ++ [c]
structure FamOk (cs : List Ct) : Prop where
  nd : cs.Nodup
  form : ∀ c ∈ cs, c.form
  inb : ∀ (i : Nat) (c : Ct), cs[i]? = some c → c.inB (cs.take i) = true
theorem FamOk.nil : FamOk [] := ⟨List.nodup_nil, (fun c h => nomatch h), (fun i c h => by cases h)⟩
theorem FamOk.add {cs : List Ct} {c : Ct} (f : FamOk cs) (fo : c.form) (inb : c.inB cs = true) : FamOk (addC cs c) := by
  unfold addC
  by_cases h : c ∈ cs
  · rw [if_pos h]; exact f
  · rw [if_neg h]
    refine ⟨?_, fun d hd => ?_, fun i d hd => ?_⟩
    · rw [List.nodup_append]
      exact ⟨f.nd, by simp, fun x hx y hy e => h (by rw [List.mem_singleton.mp hy] at e; rw [← e]; exact hx)⟩
    · rcases List.mem_append.mp hd with hd | hd
      · exact f.form d hd
      · rw [List.mem_singleton.mp hd]; exact fo
    · by_cases hi : i < cs.length
      · rw [List.getElem?_append_left hi] at hd
        rw [List.take_append_of_le_length (Nat.le_of_lt hi)]
        exact f.inb i d hd
      · have hi2 := (List.getElem?_eq_some_iff.mp hd).1
        rw [List.length_append, List.length_singleton] at hi2
        have e : i = cs.length := by omega
        subst e
        rw [List.getElem?_append_right (Nat.le_refl _), Nat.sub_self] at hd
        cases Option.some.inj hd
        rw [List.take_append_of_le_length (Nat.le_refl _), List.take_length]
        exact inb
theorem addC_len (cs : List Ct) (c : Ct) : (addC cs c).length ≤ cs.length + 1 := by
  unfold addC
  split
  · omega
  · rw [List.length_append]; exact Nat.le_refl _
theorem addC_pre (cs : List Ct) (c : Ct) : ∃ m, addC cs c = cs ++ m := by
  unfold addC
  split
  · exact ⟨[], by simp⟩
  · exact ⟨[c], rfl⟩
theorem addC_app {c1 c2 : List Ct} {c : Ct} (h : c ∉ c1) : addC (c1 ++ c2) c = c1 ++ addC c2 c := by
  unfold addC
  by_cases h2 : c ∈ c2
  · rw [if_pos h2, if_pos (List.mem_append_right _ h2)]
  · rw [if_neg h2, if_neg (fun z => (List.mem_append.mp z).elim h h2), List.append_assoc]
theorem addC_ne (cs : List Ct) (c : Ct) : addC cs c ≠ [] := by
  unfold addC
  split
  · rename_i h; exact fun e => by rw [e] at h; cases h
  · simp
theorem addC_mem {cs : List Ct} {c d : Ct} (h : d ∈ addC cs c) : d ∈ cs ∨ d = c := by
  unfold addC at h
  split at h
  · exact .inl h
  · exact (List.mem_append.mp h).imp id fun z => List.mem_singleton.mp z
theorem hasK_add {cs : List Ct} {c : Ct} {ks : List Str} {i : Int} (h : hasK cs ks i = true) : hasK (addC cs c) ks i = true := by
  obtain ⟨m, e⟩ := addC_pre cs c
  rw [e]
  exact hasK_mono h
theorem hasK_at {cs : List Ct} {c : Ct} {ks : List Str} {i : Nat} (h : cs[i]? = some c) (hk : ks.contains c.word = true) : hasK cs ks (i : Int) = true := by
  unfold hasK
  have hi := (List.getElem?_eq_some_iff.mp h).1
  rw [decide_eq_true (show (0 : Int) ≤ (i : Int) by omega), decide_eq_true (show (i : Int) < (cs.length : Int) by omega), Int.toNat_natCast, List.getD_eq_getElem?_getD, h]
  exact hk
def isTree : Ct → Bool
  | .tree _ => true
  | _ => false
theorem foldl_max_le : ∀ (l : List Int) (x m : Int), x ≤ m → (∀ y ∈ l, y ≤ m) → l.foldl max x ≤ m
  | [], _, _, h, _ => h
  | y :: l, x, m, h, hl => by
    rw [List.foldl_cons]
    exact foldl_max_le l _ m (Int.max_le.mpr ⟨h, hl y List.mem_cons_self⟩) fun z hz => hl z (List.mem_cons_of_mem _ hz)
theorem dmax_le {l : List Int} {m : Int} (h0 : 0 ≤ m) (h : ∀ y ∈ l, y ≤ m) : dmax l ≤ m := by
  cases l with
  | nil => exact h0
  | cons x l => exact foldl_max_le l x m (h x List.mem_cons_self) fun y hy => h y (List.mem_cons_of_mem _ hy)
theorem depOf_le {ds : List Int} {c : Ct} {m : Int} (h0 : 0 ≤ m) (h : ∀ d ∈ ds, d ≤ m) : depOf ds c ≤ 1 + m := by
  cases c with
  | leaf rows => show (0 : Int) ≤ 1 + m; omega
  | ver ps r s => show (0 : Int) ≤ 1 + m; omega
  | tree es =>
    show 1 + dmax _ ≤ 1 + m
    have := dmax_le (l := es.map fun e => ds.getD e.2.toNat 0) h0 fun y hy => by
      obtain ⟨e, _, rfl⟩ := List.mem_map.mp hy
      rw [List.getD_eq_getElem?_getD]
      cases q : ds[e.2.toNat]? with
      | none => exact h0
      | some z => exact h z (List.mem_of_getElem? q)
    omega
theorem deps_bd : ∀ (more cs : List Ct), (∀ d ∈ deps cs, d ≤ (cs.countP isTree : Int)) → ∀ d ∈ deps (cs ++ more), d ≤ ((cs ++ more).countP isTree : Int)
  | [], cs, h => by rw [List.append_nil]; exact h
  | c :: more, cs, h => by
    have := deps_bd more (cs ++ [c]) fun d hd => by
      rw [deps_snoc] at hd
      rw [List.countP_append]
      rcases List.mem_append.mp hd with hd | hd
      · have := h d hd
        omega
      · rw [List.mem_singleton.mp hd]
        cases c with
        | leaf rows => show (0 : Int) ≤ _; omega
        | ver ps r s => show (0 : Int) ≤ _; omega
        | tree es =>
          have h1 := depOf_le (ds := deps cs) (c := .tree es) (m := (cs.countP isTree : Int)) (by omega) h
          have h2 : [Ct.tree es].countP isTree = 1 := rfl
          rw [h2]
          omega
    rw [List.append_assoc] at this
    exact this
theorem deps_le (cs : List Ct) : ∀ d ∈ deps cs, d ≤ (cs.countP isTree : Int) := by
  have := deps_bd cs [] fun d h => nomatch h
  exact this
theorem count_two {c1 c2 : List Ct} (h1 : ∀ c ∈ c1, isTree c = false) : (c1 ++ c2).countP isTree ≤ c2.length := by
  rw [List.countP_append, List.countP_eq_zero.mpr fun c hc => by rw [h1 c hc]; simp, Nat.zero_add]
  exact List.countP_le_length
/-- a tree over what is there, in a book of few trees -/
theorem inB_tree {cs : List Ct} {es : List (Str × Int)} (h : ∀ e ∈ es, hasK cs ["leaf", "tree"] e.2 = true) (few : cs.countP isTree ≤ 7) : (Ct.tree es).inB cs = true := by
  unfold Ct.inB
  rw [Bool.and_eq_true]
  refine ⟨List.all_eq_true.mpr h, decide_eq_true ?_⟩
  have := depOf_le (ds := deps cs) (c := .tree es) (m := (cs.countP isTree : Int)) (by omega) (deps_le cs)
  omega
theorem give_ok {K : PySem.W.Frag} {H : Hp} {Q : VK} {E : XK} {T a : Addr} {as : List Addr} {cs : List Ct} {c : Ct} (hT : H T = some (.lst (as.map V.ref))) (hcs : CsAt H as cs) (hc : CtAt H a c) (fo : c.form) (f : FamOk cs) (few : cs.length ≤ 1000)
    (k : ∀ (i : Nat) (as' : List Addr) (H' : Hp), H' T = some (.lst (as'.map V.ref)) → CsAt H' as' (addC cs c) → (addC cs c)[i]? = some c → (∀ b, b ≠ T → H' b = H b) → Q (.int (i : Int)) H') : sp_l_give K [.ref T, .ref a] H Q E := by
  refine ⟨T, a, as, cs, c, rfl, hT, hcs, hc, fo, f.form, f.nd, few, fun i hi => ?_, fun hn => ?_⟩
  · have e : addC cs c = cs := if_pos (List.mem_of_getElem? hi)
    refine k i as H hT ?_ ?_ fun b _ => rfl
    · rw [e]; exact hcs
    · rw [e]; exact hi
  · have e : addC cs c = cs ++ [c] := if_neg hn
    have tm : TM H (upd H T (.lst ((as ++ [a]).map V.ref))) := fun b xs h => updN (ne_of h hT fun z => by cases z) h
    refine k cs.length (as ++ [a]) _ updS ?_ ?_ fun b nb => upd_ne nb
    · rw [e]; exact (hcs.mono tm).snoc (hc.mono tm)
    · rw [e, List.getElem?_append_right (Nat.le_refl _), Nat.sub_self]; rfl
/-- all but these stands -/
def Kf (F : List Addr) (H H' : Hp) : Prop := ∀ b o, H b = some o → b ∉ F → H' b = some o
theorem Kf.refl {F : List Addr} {H : Hp} : Kf F H H := fun _ _ h _ => h
theorem Kf.trans {F : List Addr} {H H1 H2 : Hp} (a : Kf F H H1) (b : Kf F H1 H2) : Kf F H H2 := fun x o h n => b x o (a x o h n) n
theorem Kf.kp {F : List Addr} {D : Addr} {H H' : Hp} (k : Kp D H H') (h : D ∈ F) : Kf F H H' := fun b o e n => k b o e fun z => n (by rw [z]; exact h)
theorem Kf.same {F : List Addr} {H H' : Hp} (k : Same H H') : Kf F H H' := fun b o e _ => k b o e
theorem Kf.but {F : List Addr} {T : Addr} {H H' : Hp} (k : ∀ b, b ≠ T → H' b = H b) (h : T ∈ F) : Kf F H H' := fun b o e n => (k b fun z => n (by rw [z]; exact h)).trans e
theorem Kf.up {F : List Addr} {T : Addr} {H H' : Hp} {o : HO} (k : Kf F H H') (h : T ∈ F) : Kf F H (upd H' T o) := fun b u e n => updN (fun z => n (by rw [z]; exact h)) (k b u e n)
theorem Kf.sub {F G : List Addr} {H H' : Hp} (k : Kf F H H') (h : ∀ x ∈ F, x ∈ G) : Kf G H H' := fun b o e n => k b o e fun z => n (h b z)
/-- what is new may change -/
theorem Kf.out {F : List Addr} {D : Addr} {H H1 H' : Hp} (s : Kp D H H1) (k : Kf F H1 H') (nF : ∀ x ∈ F, x = D ∨ H x = none) : Kp D H H' := fun b o h n => k b o (s b o h n) fun z => by
  rcases nF b z with e | e
  · exact n e
  · rw [h] at e; cases e
theorem Dk.but {c D T : Addr} {ns : List Int} {t : Nat} {H H' : Hp} (d : Dk c D ns t H) (k : ∀ b, b ≠ T → H' b = H b) (h1 : T ≠ c) (h2 : T ≠ D) : Dk c D ns t H' := by
  obtain ⟨a, b, e, i, n, u, hh, r⟩ := d
  exact ⟨a, (k _ h1.symm).trans b, e, i, n, u, (k _ h2.symm).trans hh, r⟩
def sp_l_family (_ : PySem.W.Frag) : Sp := fun vs H Q _ => ∃ (c D : Addr) (ns : List Int) (t : Nat) (l tr v : Int), vs = [.ref D, .int l, .int tr, .int v] ∧ Dk c D ns t H ∧ 1 ≤ l ∧ l ≤ 40 ∧ 0 ≤ tr ∧ tr ≤ 7 ∧ 0 ≤ v ∧ v ≤ 40 ∧ (0 < v → 0 < tr) ∧ t + 20000 < 1000000000 ∧
  ∀ (T : Addr) (as : List Addr) (c1 c2 c3 : List Ct) (H' : Hp), H T = none → H' T = some (.lst (as.map V.ref)) → CsAt H' as (c1 ++ c2 ++ c3) → FamOk (c1 ++ c2 ++ c3) → (∀ d ∈ c1, d.word = "leaf") → c1 ≠ [] → (∀ d ∈ c2, d.word = "tree") → (0 < tr → c2 ≠ []) → (∀ d ∈ c3, d.word = "version") →
    (c1.length : Int) ≤ l → (c2.length : Int) ≤ tr → (c3.length : Int) ≤ v → Kp D H H' → Dk c D ns (t + 20000) H' → Q (.ref T) H'
theorem len_l_family {K : PySem.W.Frag} {vs : List V} {H : Hp} {Q : VK} {E : XK} (h : sp_l_family K vs H Q E) : vs.length = 4 := by obtain ⟨_, _, _, _, _, _, _, rfl, _⟩ := h; rfl
abbrev N_l_family : List Str := ["_law_deck_here", "_law_leaves", "_law_trees", "_law_versions", "_law_things", "_law_rows_here", "_law_lows", "_law_k", "_law_roots", "_law_stands", "_law_parents", "_law_root"]
def t_l_family_vers (K : PySem.W.Frag) : TS := (tSeq (tFor (iRng1 (tCons (tVar 3) tNil)) (gName 7) (tSeq (tAsg (tCall (sp_l_some K) [] E0 (tCons (tVar 0) (tCons (tSl (rSlL K) (tVar 9) (tPart (tUn rNegI (tC (.int 5)))) tNoPart) (tCons (tCall (sp_l_draw K) [] E0 (tCons (tVar 0) (tCons (tC (.int 4)) tNil))) tNil)))) (gName 10))
    (tSeq (tAsg (tOp (rIx K) (tVar 8) (tCall (sp_l_draw K) [] E0 (tCons (tVar 0) (tCons (tCB (fLen K) (tCons (tVar 8) tNil)) tNil)))) (gName 11))
    (tDrop (tBM K "list" rAppend (tVar 9) (tCons (tCall (sp_l_give K) [] E0 (tCons (tVar 4) (tCons (tTup (tCons (tC (.str "version")) (tCons (tVar 10) (tCons (tVar 11) (tCons (tCall (sp_l_draw K) [] E0 (tCons (tVar 0) (tCons (tOp rAddI (tOp rPowI (tC (.int 10)) (tC (.int 18))) (tC (.int 1))) tNil))) tNil))))) tNil))) tNil))))))
    (tRet (tVar 4)))
def t_l_family_mid2 (K : PySem.W.Frag) : TS := (tSeq (tAsg (tLst tNil) (gName 9))
    (t_l_family_vers K))
def t_l_family_trees (K : PySem.W.Frag) : TS := (tSeq (tFor (iRng1 (tCons (tVar 2) tNil)) (gName 7) (tDrop (tBM K "list" rAppend (tVar 8) (tCons (tCall (sp_l_give K) [] E0 (tCons (tVar 4) (tCons (tTup (tCons (tC (.str "tree")) (tCons (tCall (sp_l_entries K) [] E0 (tCons (tVar 0) (tCons (tOp rCat (tVar 6) (tVar 8)) tNil))) tNil))) tNil))) tNil))))
    (t_l_family_mid2 K))
def t_l_family_mid (K : PySem.W.Frag) : TS := (tSeq (tAsg (tLst tNil) (gName 8))
    (t_l_family_trees K))
def t_l_family_leaves (K : PySem.W.Frag) : TS := (tSeq (tFor (iRng1 (tCons (tVar 1) tNil)) (gName 7) (tSeq (tAsg (tCall (sp_l_rows K) [] E0 (tCons (tVar 0) (tCons (tVar 5) tNil))) (gName 5))
    (tDrop (tBM K "list" rAppend (tVar 6) (tCons (tCall (sp_l_give K) [] E0 (tCons (tVar 4) (tCons (tTup (tCons (tC (.str "leaf")) (tCons (tVar 5) tNil))) tNil))) tNil)))))
    (t_l_family_mid K))
def t_l_family (K : PySem.W.Frag) : TS := (tSeq (tAsg (tLst tNil) (gName 4))
    (tSeq (tAsg (tTup tNil) (gName 5))
    (tSeq (tAsg (tLst tNil) (gName 6))
    (t_l_family_leaves K))))
theorem word_tree {c : Ct} (h : c.word = "leaf" ∨ c.word = "version") : isTree c = false := by
  cases c with
  | leaf rows => rfl
  | ver ps r s => rfl
  | tree es => rcases h with h | h
               · exact absurd h wv_lt.symm
               · exact absurd h wv_tv
theorem con1 {a : Str} : ([a] : List Str).contains a = true := by simp
theorem con2 {a b : Str} : ([a, b] : List Str).contains a = true := by simp
theorem con3 {a b : Str} : ([a, b] : List Str).contains b = true := by simp
theorem cut_ints (xs : List Int) (lo hi : Option Int) : ∃ ys : List Int, cutV (xs.map V.int) lo hi = ys.map V.int ∧ (∀ y ∈ ys, y ∈ xs) ∧ ys.length ≤ xs.length := by
  unfold cutV
  rw [List.length_map]
  refine ⟨(xs.drop (HT.sIx xs.length 0 lo)).take (HT.sIx xs.length xs.length hi - HT.sIx xs.length 0 lo), by rw [List.map_take, List.map_drop], fun y hy => List.mem_of_mem_drop (List.mem_of_mem_take hy), ?_⟩
  rw [List.length_take, List.length_drop]
  omega
section
variable {K : PySem.W.Frag} {vs : List V} {H : Hp} {Q : VK} {E : XK}
theorem fam_vers {c D T W R S : Addr} {ns : List Int} {t : Nat} {l tr v : Int} {as : List Addr} {c1 c2 : List Ct} {rs : List Int} {z5 z7 z10 z11 : Option V} (dk : Dk c D ns t H) (ne : D ≠ T ∧ D ≠ R ∧ D ≠ S ∧ T ≠ R ∧ T ≠ S ∧ R ≠ S ∧ c ≠ T ∧ c ≠ S) (hT : H T = some (.lst (as.map V.ref))) (hcs : CsAt H as (c1 ++ c2)) (f : FamOk (c1 ++ c2))
    (hR : H R = some (.lst (rs.map V.int))) (rk : ∀ x ∈ rs, hasK (c1 ++ c2) ["tree"] x = true) (rz : rs.length ≤ 1000) (hS : H S = some (.lst [])) (k1 : ∀ d ∈ c1, d.word = "leaf") (k2 : ∀ d ∈ c2, d.word = "tree") (v0 : 0 ≤ v) (v1 : v ≤ 40) (vt : 0 < v → rs ≠ []) (cl : c1.length + c2.length ≤ 100) (ht : t + 2000 < 1000000000)
    (k : ∀ (as' : List Addr) (c3 : List Ct) (H' : Hp), H' T = some (.lst (as'.map V.ref)) → CsAt H' as' (c1 ++ c2 ++ c3) → FamOk (c1 ++ c2 ++ c3) → (∀ d ∈ c3, d.word = "version") → (c3.length : Int) ≤ v → Kf [D, T, S] H H' → Dk c D ns (t + 2000) H' → Q (.ref T) H') :
    t_l_family_vers K { nx := fun _ H' => Q .non H', rt := Q } [some (.ref D), some (.int l), some (.int tr), some (.int v), some (.ref T), z5, some (.ref W), z7, some (.ref R), some (.ref S), z10, z11] H := by
  obtain ⟨nDT, nDR, nDS, nTR, nTS, nRS, ncT, ncS⟩ := ne
  refine ⟨_, rfl, _, rfl, by omega, by omega, ?_⟩
  refine for_range (lo := 0) (n := v.toNat) (fun i σ H' => Kf [D, T, S] H H' ∧ Dk c D ns (t + 45 * i) H' ∧ (∃ (as' : List Addr) (c3 : List Ct) (ss : List Int), H' T = some (.lst (as'.map V.ref)) ∧ CsAt H' as' (c1 ++ c2 ++ c3) ∧ FamOk (c1 ++ c2 ++ c3) ∧ (∀ d ∈ c3, d.word = "version") ∧ c3.length ≤ i ∧ H' S = some (.lst (ss.map V.int)) ∧ (∀ x ∈ ss, hasK (c1 ++ c2 ++ c3) ["version"] x = true) ∧ ss.length = i) ∧ ∃ z7 z10 z11, σ = [some (.ref D), some (.int l), some (.int tr), some (.int v), some (.ref T), z5, some (.ref W), z7, some (.ref R), some (.ref S), z10, z11])
    ⟨.refl, dk, ⟨as, [], [], hT, by rw [List.append_nil]; exact hcs, by rw [List.append_nil]; exact f, (fun d h => nomatch h), Nat.le_refl _, hS, (fun d h => nomatch h), rfl⟩, _, _, _, rfl⟩ ?_ ?_
  · rintro i σ H1 hi ⟨kf, d1, ⟨as1, c3, ss, hT1, hcs1, f1, k3, hl3, hS1, sk, sl⟩, z7, z10, z11, rfl⟩
    have hi40 : i < 40 := by omega
    -- parents
    refine ⟨_, rfl, _, rfl, _, rfl, _, rfl, S, _, rfl, sqL hS1, fun P nP => ?_⟩
    obtain ⟨qs, eq, hq, lq⟩ := cut_ints ss (some (-5)) none
    have nPD := d1.neD nP
    have nPc := d1.neC nP
    have hP2 : upd H1 P (.lst (qs.map V.int)) P = some (.lst (qs.map V.int)) := updS
    show tCons (tCall (sp_l_draw K) [] E0 (tCons (tVar 0) (tCons (tC (.int 4)) tNil))) tNil _ (upd H1 P (.lst (cutV (ss.map V.int) (some (-5)) none))) _
    rw [eq]
    have d2 := d1.upd (o := .lst (qs.map V.int)) nPc nPD
    have s2 : Same H1 (upd H1 P (.lst (qs.map V.int))) := samN nP
    generalize upd H1 P (.lst (qs.map V.int)) = H2 at hP2 d2 s2
    refine ⟨_, rfl, c, D, ns, _, 4, rfl, d2, by omega, by decide, by decide, fun m H3 m0 m1 d3 fr3 => ?_⟩
    refine ⟨c, D, P, ns, qs, _, m, rfl, d3, by rw [fr3 _ nPD]; exact hP2, nPD, by omega, m0, by omega, by omega, fun p ps H4 hp inc sub lp kp4 d4 => ?_⟩
    -- root
    have kf4 : Kf [D, T, S] H1 H4 := (Kf.same s2).trans ((Kf.but fr3 (by simp)).trans (Kf.kp kp4 (by simp)))
    have keep4 : ∀ b o, H1 b = some o → b ≠ D → H4 b = some o := fun b o e n => kp4 b o ((fr3 b n).trans (s2 b o e)) n
    have hR4 : H4 R = some (.lst (rs.map V.int)) := keep4 _ _ (kf _ _ hR (by simp [nDR.symm, nTR.symm, nRS])) nDR.symm
    have rpos : 0 < rs.length := List.length_pos_iff.mpr (vt (by omega))
    refine ⟨_, rfl, _, rfl, _, rfl, lenL hR4 ⟨c, D, ns, _, _, rfl, d4, by omega, by rw [List.length_map]; omega, by rw [List.length_map]; exact small100 (by omega), fun w H5 w0 w1 d5 fr5 => ?_⟩⟩
    rw [List.length_map] at w1
    obtain ⟨j, rfl⟩ := Int.eq_ofNat_of_zero_le w0
    have hj : j < rs.length := by omega
    refine ixL (by rw [fr5 _ nDR.symm]; exact hR4) (atI_nat (by rw [List.getElem?_map, List.getElem?_eq_getElem hj]; rfl)) ?_
    have keep5 : ∀ b o, H1 b = some o → b ≠ D → H5 b = some o := fun b o e n => (fr5 b n).trans (keep4 b o e n)
    have hS5 := keep5 _ _ hS1 nDS.symm
    have hT5 := keep5 _ _ hT1 nDT.symm
    -- the version
    refine ⟨_, rfl, .inl ⟨rfl, _, sqL hS5⟩, _, rfl, ?_⟩
    refine ⟨_, rfl, _, rfl, _, rfl, ⟨_, _, rfl, rfl, ⟨by decide, by decide, by decide⟩, _, _, rfl, rfl, c, D, ns, _, _, rfl, d5, by omega, by decide +kernel, by decide +kernel, fun st H6 st0 st1 d6 fr6 => ⟨by show (4 : Nat) ≤ sizeLine; decide, fun A nA => ?_⟩⟩⟩
    have hp6 : H6 p = some (.tup (ps.map V.int)) := by
      have npD : p ≠ D := by
        obtain ⟨xs, e⟩ := d4.someD
        exact ne_of hp e (by intro z; cases z)
      rw [fr6 _ npD, fr5 _ npD]
      exact hp
    have keep6 : ∀ b o, H1 b = some o → b ≠ D → H6 b = some o := fun b o e n => (fr6 b n).trans (keep5 b o e n)
    have sA : Same H6 (upd H6 A (.tup [.str "version", .ref p, .int rs[j], .int st])) := samN nA
    have hc : CtAt (upd H6 A (.tup [.str "version", .ref p, .int rs[j], .int st])) A (.ver ps rs[j] st) := ⟨p, updS, sA _ _ hp6⟩
    have d7 := d6.upd (o := .tup [.str "version", .ref p, .int rs[j], .int st]) (d6.neC nA) (d6.neD nA)
    generalize upd H6 A (.tup [.str "version", .ref p, .int rs[j], .int st]) = H7 at sA hc d7
    have keep7 : ∀ b o, H1 b = some o → b ≠ D → H7 b = some o := fun b o e n => sA b o (keep6 b o e n)
    have tm7 : TM H1 H7 := fun b xs h => keep7 b _ h (by
      obtain ⟨ys, e⟩ := d1.someD
      exact ne_of h e (by intro z; cases z))
    have st1 : st < 1000000000000000001 := st1
    have fo : (Ct.ver ps rs[j] st).form := ⟨by omega, inc, st0, by omega⟩
    have inb : (Ct.ver ps rs[j] st).inB (c1 ++ c2 ++ c3) = true := by
      unfold Ct.inB
      rw [Bool.and_eq_true]
      exact ⟨List.all_eq_true.mpr fun x hx => sk x (hq x (sub x hx)), hasK_mono (rk _ (List.getElem_mem hj))⟩
    have nin : (Ct.ver ps rs[j] st) ∉ c1 ++ c2 := fun h => by
      rcases List.mem_append.mp h with h | h
      · exact wv_lv (k1 _ h).symm
      · exact wv_tv (k2 _ h).symm
    dsimp only [tNil]
    show sp_l_give K [V.ref T, V.ref A] _ _ E0
    refine give_ok (keep7 _ _ hT1 nDT.symm) (hcs1.mono tm7) hc fo f1 (by rw [List.length_append, List.length_append]; omega) fun n as2 H8 hT8 hcs8 hn fr8 => ?_
    have e8 := addC_app (c2 := c3) nin
    have hS8 : H8 S = some (.lst (ss.map V.int)) := by rw [fr8 _ nTS.symm]; exact keep7 _ _ hS1 nDS.symm
    refine ⟨S, _, _, rfl, rfl, hS8, ?_, ?_⟩
    · rw [List.length_map]
      exact Nat.lt_of_le_of_lt (show _ ≤ 1000 by omega) (by decide)
    have f8 := f1.add fo inb
    rw [e8] at hcs8 hn f8
    have tm9 : TM H8 (upd H8 S (.lst (ss.map V.int ++ [.int (n : Int)]))) := fun b xs h => updN (ne_of h hS8 (by intro z; cases z)) h
    refine ⟨kf.trans ((kf4.trans ((Kf.but fr5 (by simp)).trans ((Kf.but fr6 (by simp)).trans ((Kf.same sA).trans (Kf.but fr8 (by simp)))))).up (by simp)), ((d7.but fr8 ncT.symm nDT.symm).upd ncS.symm nDS.symm).le (by omega), ⟨as2, addC c3 (.ver ps rs[j] st), ss ++ [(n : Int)], updN nTS hT8, hcs8.mono tm9, f8, fun d hd => ?_, ?_, by rw [updS, List.map_append]; rfl, fun x hx => ?_, by rw [List.length_append, sl]; rfl⟩, _, _, _, rfl⟩
    · rcases addC_mem hd with h | h
      · exact k3 d h
      · rw [h]; rfl
    · have := addC_len c3 (.ver ps rs[j] st)
      omega
    · rcases List.mem_append.mp hx with h | h
      · rw [← e8]; exact hasK_add (sk x h)
      · rw [List.mem_singleton.mp h]; exact hasK_at hn con1
  · rintro σ H1 ⟨kf, d1, ⟨as1, c3, ss, hT1, hcs1, f1, k3, hl3, hS1, sk, sl⟩, z7, z10, z11, rfl⟩
    exact ⟨_, rfl, k as1 c3 H1 hT1 hcs1 f1 k3 (by omega) kf (d1.le (by omega))⟩
theorem fam_trees {c D T W R : Addr} {ns : List Int} {t : Nat} {l tr v : Int} {as : List Addr} {c1 : List Ct} {ls : List Int} {z5 z7 z9 z10 z11 : Option V} (dk : Dk c D ns t H) (ne : D ≠ T ∧ D ≠ R ∧ D ≠ W ∧ T ≠ R ∧ T ≠ W ∧ R ≠ W ∧ c ≠ T ∧ c ≠ R) (hT : H T = some (.lst (as.map V.ref))) (hcs : CsAt H as c1) (f : FamOk c1)
    (hW : H W = some (.lst (ls.map V.int))) (lk : ∀ x ∈ ls, hasK c1 ["leaf", "tree"] x = true) (lz : ls.length ≤ 100) (lne : ls ≠ []) (hR : H R = some (.lst [])) (k1 : ∀ d ∈ c1, d.word = "leaf") (t0 : 0 ≤ tr) (t1 : tr ≤ 7) (v0 : 0 ≤ v) (v1 : v ≤ 40) (vt : 0 < v → 0 < tr) (cl : c1.length ≤ 50) (ht : t + 3000 < 1000000000)
    (k : ∀ (T' : Addr) (as' : List Addr) (c2 c3 : List Ct) (H' : Hp), T' = T → H' T = some (.lst (as'.map V.ref)) → CsAt H' as' (c1 ++ c2 ++ c3) → FamOk (c1 ++ c2 ++ c3) → (∀ d ∈ c2, d.word = "tree") → (0 < tr → c2 ≠ []) → (∀ d ∈ c3, d.word = "version") → (c2.length : Int) ≤ tr → (c3.length : Int) ≤ v → Kf [D, T, R] H H' → Dk c D ns (t + 3000) H' → Q (.ref T) H') :
    t_l_family_trees K { nx := fun _ H' => Q .non H', rt := Q } [some (.ref D), some (.int l), some (.int tr), some (.int v), some (.ref T), z5, some (.ref W), z7, some (.ref R), z9, z10, z11] H := by
  obtain ⟨nDT, nDR, nDW, nTR, nTW, nRW, ncT, ncR⟩ := ne
  refine ⟨_, rfl, _, rfl, by omega, by omega, ?_⟩
  refine for_range (lo := 0) (n := tr.toNat) (fun i σ H' => Kf [D, T, R] H H' ∧ Dk c D ns (t + 45 * i) H' ∧ (∃ (as' : List Addr) (c2 : List Ct) (rs : List Int), H' T = some (.lst (as'.map V.ref)) ∧ CsAt H' as' (c1 ++ c2) ∧ FamOk (c1 ++ c2) ∧ (∀ d ∈ c2, d.word = "tree") ∧ c2.length ≤ i ∧ (0 < i → c2 ≠ []) ∧ H' R = some (.lst (rs.map V.int)) ∧ (∀ x ∈ rs, hasK (c1 ++ c2) ["tree"] x = true) ∧ rs.length = i) ∧ ∃ z7 z9 z10 z11, σ = [some (.ref D), some (.int l), some (.int tr), some (.int v), some (.ref T), z5, some (.ref W), z7, some (.ref R), z9, z10, z11])
    ⟨.refl, dk, ⟨as, [], [], hT, by rw [List.append_nil]; exact hcs, by rw [List.append_nil]; exact f, (fun d h => nomatch h), Nat.le_refl _, (fun z => absurd z (Nat.lt_irrefl _)), hR, (fun d h => nomatch h), rfl⟩, _, _, _, _, rfl⟩ ?_ ?_
  · rintro i σ H1 hi ⟨kf, d1, ⟨as1, c2, rs, hT1, hcs1, f1, k2, hl2, _, hR1, rk, rl⟩, z7, z9, z10, z11, rfl⟩
    have hi7 : i < 7 := by omega
    have hW1 := kf _ _ hW (by simp [nDW.symm, nTW.symm, nRW.symm])
    refine ⟨_, rfl, .inl ⟨rfl, _, sqL hR1⟩, _, rfl, ?_⟩
    refine ⟨_, rfl, _, rfl, _, rfl, W, R, _, _, rfl, rfl, hW1, hR1, ?_, fun P nP => ?_⟩
    · rw [List.length_map, List.length_map]
      exact Nat.le_trans (show _ ≤ 1000 by omega) (by decide)
    have nPD := d1.neD nP
    have nPc := d1.neC nP
    have d2 := d1.upd (o := .lst (ls.map V.int ++ rs.map V.int)) nPc nPD
    have s2 : Same H1 (upd H1 P (.lst (ls.map V.int ++ rs.map V.int))) := samN nP
    have hP2 : upd H1 P (.lst (ls.map V.int ++ rs.map V.int)) P = some (.lst ((ls ++ rs).map V.int)) := by rw [updS, List.map_append]
    generalize upd H1 P (.lst (ls.map V.int ++ rs.map V.int)) = H2 at hP2 d2 s2
    refine ⟨c, D, P, ns, ls ++ rs, _, rfl, d2, hP2, nPD, by simp [lne], by rw [List.length_append]; omega, by omega, fun r bs es H3 hr lb hb le hes pw kp3 d3 => ⟨by show (2 : Nat) ≤ sizeLine; decide, fun A nA => ?_⟩⟩
    have keep3 : ∀ b o, H1 b = some o → b ≠ D → H3 b = some o := fun b o e n => kp3 b o (s2 b o e) n
    have sA : Same H3 (upd H3 A (.tup [.str "tree", .ref r])) := samN nA
    have hc : CtAt (upd H3 A (.tup [.str "tree", .ref r])) A (.tree es) := ⟨r, bs, updS, sA _ _ hr, lb, fun i b e x y => sA _ _ (hb i b e x y)⟩
    have d4 := d3.upd (o := .tup [.str "tree", .ref r]) (d3.neC nA) (d3.neD nA)
    generalize upd H3 A (.tup [.str "tree", .ref r]) = H4 at sA hc d4
    have keep4 : ∀ b o, H1 b = some o → b ≠ D → H4 b = some o := fun b o e n => sA b o (keep3 b o e n)
    have tm4 : TM H1 H4 := fun b xs h => keep4 b _ h (by
      obtain ⟨ys, e⟩ := d1.someD
      exact ne_of h e (by intro z; cases z))
    have fo : (Ct.tree es).form := ⟨by omega, fun e he => (hes e he).1, pw⟩
    have inb : (Ct.tree es).inB (c1 ++ c2) = true := by
      refine inB_tree (fun e he => ?_) (Nat.le_trans (count_two fun d hd => word_tree (.inl (k1 d hd))) (by omega))
      rcases List.mem_append.mp (hes e he).2 with h | h
      · exact hasK_mono (lk _ h)
      · have := rk _ h
        unfold hasK at this ⊢
        simp only [Bool.and_eq_true, decide_eq_true_eq] at this ⊢
        refine ⟨this.1, this.2.1, ?_⟩
        have q := this.2.2
        simp at q ⊢
        exact .inr q
    have nin : (Ct.tree es) ∉ c1 := fun h => wv_lt (k1 _ h).symm
    dsimp only [tNil]
    show sp_l_give K [V.ref T, V.ref A] _ _ E0
    refine give_ok (keep4 _ _ hT1 nDT.symm) (hcs1.mono tm4) hc fo f1 (by rw [List.length_append]; omega) fun n as2 H8 hT8 hcs8 hn fr8 => ?_
    have e8 := addC_app (c2 := c2) nin
    have hR8 : H8 R = some (.lst (rs.map V.int)) := by rw [fr8 _ nTR.symm]; exact keep4 _ _ hR1 nDR.symm
    refine ⟨R, _, _, rfl, rfl, hR8, ?_, ?_⟩
    · rw [List.length_map]
      exact Nat.lt_of_le_of_lt (show _ ≤ 1000 by omega) (by decide)
    have f8 := f1.add fo inb
    rw [e8] at hcs8 hn f8
    have tm9 : TM H8 (upd H8 R (.lst (rs.map V.int ++ [.int (n : Int)]))) := fun b xs h => updN (ne_of h hR8 (by intro z; cases z)) h
    refine ⟨kf.trans (((Kf.same s2).trans ((Kf.kp kp3 (by simp)).trans ((Kf.same sA).trans (Kf.but fr8 (by simp))))).up (by simp)), ((d4.but fr8 ncT.symm nDT.symm).upd ncR.symm nDR.symm).le (by omega), ⟨as2, addC c2 (.tree es), rs ++ [(n : Int)], updN nTR hT8, hcs8.mono tm9, f8, fun d hd => ?_, ?_, fun _ => addC_ne _ _, by rw [updS, List.map_append]; rfl, fun x hx => ?_, by rw [List.length_append, rl]; rfl⟩, _, _, _, _, rfl⟩
    · rcases addC_mem hd with h | h
      · exact k2 d h
      · rw [h]; rfl
    · have := addC_len c2 (.tree es)
      omega
    · rcases List.mem_append.mp hx with h | h
      · rw [← e8]; exact hasK_add (rk x h)
      · rw [List.mem_singleton.mp h]; exact hasK_at hn con1
  · rintro σ H1 ⟨kf, d1, ⟨as1, c2, rs, hT1, hcs1, f1, k2, hl2, ne2, hR1, rk, rl⟩, z7, z9, z10, z11, rfl⟩
    refine ⟨by decide, fun S nS => ?_⟩
    have sS : Same H1 (upd H1 S (.lst [])) := samN nS
    refine fam_vers (d1.upd (d1.neC nS) (d1.neD nS)) ⟨nDT, nDR, (d1.neD nS).symm, nTR, ne_of_none hT1 nS, ne_of_none hR1 nS, ncT, (d1.neC nS).symm⟩ (sS _ _ hT1) (hcs1.mono (TM.of sS)) f1 (sS _ _ hR1) rk (by omega) updS k1 k2 v0 v1 (fun h e => ?_) (by omega) (by omega) fun as' c3 H' hT' hcs' f' k3 l3 kf' d' => ?_
    · have := vt h
      rw [e] at rl
      have : tr.toNat = 0 := rl.symm
      omega
    · have nS0 : H S = none ∨ S = D ∨ S = T ∨ S = R := by
        by_cases q : S ∈ [D, T, R]
        · simp at q; exact .inr q
        · cases e : H S with
          | none => exact .inl rfl
          | some o => rw [kf S o e q] at nS; cases nS
      have nSD := d1.neD nS
      have nST : S ≠ T := (ne_of_none hT1 nS).symm
      have nSR : S ≠ R := (ne_of_none hR1 nS).symm
      have nS0 : H S = none := by
        rcases nS0 with h | h | h | h
        · exact h
        · exact absurd h nSD
        · exact absurd h nST
        · exact absurd h nSR
      refine k T as' c2 c3 H' rfl hT' hcs' f' k2 (fun h => ne2 (by omega)) k3 (by omega) l3 (fun b o e n => ?_) (d'.le (by omega))
      have hb : b ≠ S := ne_of_none e nS0
      have n2 : b ∉ [D, T, S] := fun z => by
        simp at z n
        rcases z with z | z | z
        · exact n.1 z
        · exact n.2.1 z
        · exact hb z
      exact kf' b o (sS b o (kf b o e n)) n2
theorem pure_l_family (h : sp_l_family K vs H Q E) : t_l_family K { nx := fun _ H' => Q .non H', rt := Q } (start N_l_family vs) H := by
  obtain ⟨c, D, ns, t, l, tr, v, rfl, dk, l0, l1, t0, t1, v0, v1, vt, ht, k⟩ := h
  refine ⟨by decide, fun T nT => ?_⟩
  have d1 := dk.upd (o := .lst []) (dk.neC nT) (dk.neD nT)
  have k1 : Kp D H (upd H T (.lst [])) := .new nT
  have hT1 : upd H T (.lst []) T = some (.lst ([].map V.ref)) := updS
  have nDT := (dk.neD nT).symm
  have ncT := (dk.neC nT).symm
  generalize upd H T (.lst []) = H1 at d1 k1 hT1
  refine ⟨by decide, fun r nr => ?_⟩
  have nTr : T ≠ r := ne_of_none hT1 nr
  have d2 := d1.upd (o := .tup []) (d1.neC nr) (d1.neD nr)
  have k2 : Kp D H (upd H1 r (.tup [])) := k1.trans (.new nr)
  have hT2 : upd H1 r (.tup []) T = some (.lst ([].map V.ref)) := updN nTr hT1
  have hr2 : upd H1 r (.tup []) r = some (.tup (([] : List Str).map V.str)) := updS
  generalize upd H1 r (.tup []) = H2 at d2 k2 hT2 hr2
  refine ⟨by decide, fun W nW => ?_⟩
  have nTW : T ≠ W := ne_of_none hT2 nW
  have nrW : r ≠ W := ne_of_none hr2 nW
  have nDW := (d2.neD nW).symm
  have ncW := (d2.neC nW).symm
  have d3 := d2.upd (o := .lst []) ncW.symm nDW.symm
  have k3 : Kp D H (upd H2 W (.lst [])) := k2.trans (.new nW)
  have hT3 : upd H2 W (.lst []) T = some (.lst ([].map V.ref)) := updN nTW hT2
  have hr3 : upd H2 W (.lst []) r = some (.tup (([] : List Str).map V.str)) := updN nrW hr2
  have hW3 : upd H2 W (.lst []) W = some (.lst (([] : List Int).map V.int)) := updS
  have nW0 : H W = none := k2.free nW nDW.symm
  generalize upd H2 W (.lst []) = H3 at d3 k3 hT3 hr3 hW3
  show t_l_family_leaves K { nx := fun _ H' => Q .non H', rt := Q } [some (.ref D), some (.int l), some (.int tr), some (.int v), some (.ref T), some (.ref r), some (.ref W), none, none, none, none, none] H3
  refine ⟨_, rfl, _, rfl, by omega, by omega, ?_⟩
  refine for_range (lo := 0) (n := l.toNat) (fun i σ H' => Kf [D, T, W] H3 H' ∧ Dk c D ns (t + 320 * i) H' ∧ (∃ (as' : List Addr) (c1 : List Ct) (ls : List Int) (r' : Addr) (rows : List Str), H' T = some (.lst (as'.map V.ref)) ∧ CsAt H' as' c1 ∧ FamOk c1 ∧ (∀ d ∈ c1, d.word = "leaf") ∧ c1.length ≤ i ∧ (0 < i → c1 ≠ []) ∧ H' W = some (.lst (ls.map V.int)) ∧ (∀ x ∈ ls, hasK c1 ["leaf", "tree"] x = true) ∧ ls.length = i ∧ H' r' = some (.tup (rows.map V.str)) ∧ rows.length ≤ 7 ∧ (∀ z ∈ rows, OkS z) ∧ ∃ z7, σ = [some (.ref D), some (.int l), some (.int tr), some (.int v), some (.ref T), some (.ref r'), some (.ref W), z7, none, none, none, none]))
    ⟨.refl, d3, ⟨[], [], [], r, [], hT3, CsAt.nil, FamOk.nil, (fun d h => nomatch h), Nat.le_refl _, (fun z => absurd z (Nat.lt_irrefl _)), hW3, (fun d h => nomatch h), rfl, hr3, Nat.zero_le _, (fun d h => nomatch h), _, rfl⟩⟩ ?_ ?_
  · rintro i σ H4 hi ⟨kf, d4, ⟨as1, c1, ls, r', rows, hT4, hcs1, f1, kl, hl1, _, hW4, lk, ll, hr4, few, ok, z7, rfl⟩⟩
    have hi40 : i < 40 := by omega
    refine ⟨_, rfl, _, rfl, c, D, r', ns, _, rows, rfl, d4, hr4, few, ok, by omega, fun q rows' H5 hq few' ok' kp5 d5 => ?_⟩
    have hW5 := kp5 _ _ hW4 nDW.symm
    refine ⟨_, rfl, .inl ⟨rfl, _, sqL hW5⟩, _, rfl, ?_⟩
    refine ⟨_, rfl, by show (2 : Nat) ≤ sizeLine; decide, fun A nA => ?_⟩
    have sA : Same H5 (upd H5 A (.tup [.str "leaf", .ref q])) := samN nA
    have hc : CtAt (upd H5 A (.tup [.str "leaf", .ref q])) A (.leaf rows') := ⟨q, updS, sA _ _ hq⟩
    have d6 := d5.upd (o := .tup [.str "leaf", .ref q]) (d5.neC nA) (d5.neD nA)
    generalize upd H5 A (.tup [.str "leaf", .ref q]) = H6 at sA hc d6
    have keep6 : ∀ b o, H4 b = some o → b ≠ D → H6 b = some o := fun b o e n => sA b o (kp5 b o e n)
    have tm6 : TM H4 H6 := fun b xs h => keep6 b _ h (by
      obtain ⟨ys, e⟩ := d4.someD
      exact ne_of h e (by intro z; cases z))
    have fo : (Ct.leaf rows').form := ⟨by omega, ok'⟩
    dsimp only [tNil]
    show sp_l_give K [V.ref T, V.ref A] _ _ E0
    refine give_ok (keep6 _ _ hT4 nDT.symm) (hcs1.mono tm6) hc fo f1 (by omega) fun n as2 H8 hT8 hcs8 hn fr8 => ?_
    have hW8 : H8 W = some (.lst (ls.map V.int)) := by rw [fr8 _ nTW.symm]; exact keep6 _ _ hW4 nDW.symm
    refine ⟨W, _, _, rfl, rfl, hW8, ?_, ?_⟩
    · rw [List.length_map]
      exact Nat.lt_of_le_of_lt (show _ ≤ 1000 by omega) (by decide)
    have f8 := f1.add fo rfl
    have tm9 : TM H8 (upd H8 W (.lst (ls.map V.int ++ [.int (n : Int)]))) := fun b xs h => updN (ne_of h hW8 (by intro z; cases z)) h
    have hq6 := sA _ _ hq
    have hq8 : H8 q = some (.tup (rows'.map V.str)) := by
      rw [fr8 _ (ne_of hq6 (keep6 _ _ hT4 nDT.symm) (by intro z; cases z))]
      exact hq6
    refine ⟨kf.trans (((Kf.kp kp5 (by simp)).trans ((Kf.same sA).trans (Kf.but fr8 (by simp)))).up (by simp)), ((d6.but fr8 ncT.symm nDT.symm).upd ncW.symm nDW.symm).le (by omega), ⟨as2, addC c1 (.leaf rows'), ls ++ [(n : Int)], q, rows', updN nTW hT8, hcs8.mono tm9, f8, fun d hd => ?_, ?_, fun _ => addC_ne _ _, by rw [updS, List.map_append]; rfl, fun x hx => ?_, by rw [List.length_append, ll]; rfl, tm9 _ _ hq8, few', ok', _, rfl⟩⟩
    · rcases addC_mem hd with h | h
      · exact kl d h
      · rw [h]; rfl
    · have := addC_len c1 (.leaf rows')
      omega
    · rcases List.mem_append.mp hx with h | h
      · exact hasK_add (lk x h)
      · rw [List.mem_singleton.mp h]; exact hasK_at hn con2
  · rintro σ H4 ⟨kf, d4, ⟨as1, c1, ls, r', rows, hT4, hcs1, f1, kl, hl1, ne1, hW4, lk, ll, hr4, few, ok, z7, rfl⟩⟩
    refine ⟨by decide, fun R nR => ?_⟩
    have sR : Same H4 (upd H4 R (.lst [])) := samN nR
    have lne : ls ≠ [] := fun e => by
      rw [e] at ll
      have : l.toNat = 0 := ll.symm
      omega
    refine fam_trees (d4.upd (d4.neC nR) (d4.neD nR)) ⟨nDT, (d4.neD nR).symm, nDW, ne_of_none hT4 nR, nTW, (ne_of_none hW4 nR).symm, ncT, (d4.neC nR).symm⟩ (sR _ _ hT4) (hcs1.mono (TM.of sR)) f1 (sR _ _ hW4) lk (by omega) lne updS kl t0 t1 v0 v1 vt (by omega) (by omega) fun T' as' c2 c3 H' eT hT' hcs' f' k2' ne2 k3' l2 l3 kf' d' => ?_
    have nRD := d4.neD nR
    have nRT : R ≠ T := (ne_of_none hT4 nR).symm
    have nRW : R ≠ W := (ne_of_none hW4 nR).symm
    have nR3 : H3 R = none := by
      cases e : H3 R with
      | none => rfl
      | some o => rw [kf R o e (by simp [nRD, nRT, nRW])] at nR; cases nR
    have nR0 : H R = none := k3.free nR3 nRD
    refine k T as' c1 c2 c3 H' nT hT' hcs' f' kl (ne1 (by omega)) k2' ne2 k3' (by omega) l2 l3 ?_ (d'.le (by omega))
    intro b o e n
    have b1 : b ≠ T := ne_of_none e nT
    have b2 : b ≠ W := ne_of_none e nW0
    have b3 : b ≠ R := ne_of_none e nR0
    exact kf' b o (sR b o (kf b o (k3 b o e n) (by simp [n, b1, b2]))) (by simp [n, b1, b3])
end
end Fw

set_option Elab.async false
set_option linter.all false
set_option maxRecDepth 100000
set_option maxHeartbeats 4000000
/-! What a book tells of a name, looked at by a law. -/
namespace Fw
open PySem L2 RZ RT
theorem Ct.same {H : Hp} {a b : Addr} {c : Ct} (f : c.form) (x : CtAt H a c) (y : CtAt H b c) : SameV H 6 (.ref a) (.ref b) := by
  have st : ∀ {n : Nat} (z : Str), SameV H (n + 1) (.str z) (.str z) := fun z => Or.inl ⟨rfl, .inr (.inr (.inr ⟨z, rfl⟩))⟩
  cases c with
  | leaf rows =>
    obtain ⟨r, h1, h2⟩ := x
    obtain ⟨r', h3, h4⟩ := y
    refine SameV.tup h1 h3 rfl (by show (2 : Nat) ≤ 100000; decide) fun i u v hu hv => ?_
    match i, hu, hv with
    | 0, hu, hv => cases Option.some.inj hu; cases Option.some.inj hv; exact st _
    | 1, hu, hv =>
      cases Option.some.inj hu
      cases Option.some.inj hv
      exact SameV.tup h2 h4 rfl (by rw [List.length_map]; have := f.1; omega) SameV.strs
  | tree es =>
    obtain ⟨r, as, h1, h2, h3, h4⟩ := x
    obtain ⟨r', as', g1, g2, g3, g4⟩ := y
    have hz : es.length ≤ 20 := f.1
    refine SameV.tup h1 g1 rfl (by show (2 : Nat) ≤ 100000; decide) fun i u v hu hv => ?_
    match i, hu, hv with
    | 0, hu, hv => cases Option.some.inj hu; cases Option.some.inj hv; exact st _
    | 1, hu, hv =>
      cases Option.some.inj hu
      cases Option.some.inj hv
      refine SameV.tup h2 g2 (by rw [List.length_map, List.length_map, h3, g3]) (by rw [List.length_map]; omega) fun j u v hu hv => ?_
      rw [List.getElem?_map] at hu hv
      cases e1 : as[j]? with
      | none => rw [e1] at hu; cases hu
      | some p =>
        cases e2 : as'[j]? with
        | none => rw [e2] at hv; cases hv
        | some q =>
          rw [e1] at hu
          rw [e2] at hv
          cases Option.some.inj hu
          cases Option.some.inj hv
          have hj : j < es.length := by rw [← h3]; exact (List.getElem?_eq_some_iff.mp e1).1
          have ee : es[j]? = some es[j] := List.getElem?_eq_getElem hj
          refine SameV.tup (h4 j p _ e1 ee) (g4 j q _ e2 ee) rfl (by show (2 : Nat) ≤ 100000; decide) fun k u v hu hv => ?_
          match k, hu, hv with
          | 0, hu, hv => cases Option.some.inj hu; cases Option.some.inj hv; exact st _
          | 1, hu, hv => cases Option.some.inj hu; cases Option.some.inj hv; exact SameV.int rfl
  | ver ps r s =>
    obtain ⟨p, h1, h2⟩ := x
    obtain ⟨q, h3, h4⟩ := y
    refine SameV.tup h1 h3 rfl (by show (4 : Nat) ≤ 100000; decide) fun i u v hu hv => ?_
    match i, hu, hv with
    | 0, hu, hv => cases Option.some.inj hu; cases Option.some.inj hv; exact st _
    | 1, hu, hv =>
      cases Option.some.inj hu
      cases Option.some.inj hv
      exact SameV.tup h2 h4 rfl (by rw [List.length_map]; have := f.1; omega) SameV.ints
    | 2, hu, hv => cases Option.some.inj hu; cases Option.some.inj hv; exact SameV.int rfl
    | 3, hu, hv => cases Option.some.inj hu; cases Option.some.inj hv; exact SameV.int rfl
theorem Ct.parts_len {c : Ct} (f : c.form) : c.parts.length ≤ 20 := by
  cases c with
  | leaf rows => exact Nat.zero_le _
  | tree es => show (es.map (·.2)).length ≤ 20; rw [List.length_map]; exact f.1
  | ver ps r s =>
    show (ps ++ [r]).length ≤ 20
    have := f.1
    rw [List.length_append, List.length_singleton]
    omega
section
variable [HasW]
def sp_l_parts (_ : PySem.W.Frag) : Sp := fun vs H Q _ => ∃ (a : Addr) (c : Ct), vs = [.ref a] ∧ CtAt H a c ∧ c.form ∧ ∀ (r : Addr) (H' : Hp), Same H H' → H' r = some (.lst (c.parts.map V.int)) → Q (.ref r) H'
def sp_l_told (K : PySem.W.Frag) : Sp := fun vs H Q _ => ∃ (b : BkA) (T : Addr) (cs : List Ct) (as tas : List Addr) (i : Nat) (a : Addr) (c : Ct), vs = [.ref b.B, .ref T, .int (i : Int)] ∧ BkAt K H b cs as ∧ H T = some (.lst (tas.map V.ref)) ∧ tas[i]? = some a ∧ cs[i]? = some c ∧ CtAt H a c ∧
  ∀ H', Same H H' → Q (.bl true) H'
end
theorem len_l_parts {K : PySem.W.Frag} {vs : List V} {H : Hp} {Q : VK} {E : XK} (h : sp_l_parts K vs H Q E) : vs.length = 1 := by obtain ⟨_, _, rfl, _⟩ := h; rfl
theorem len_l_told [HasW] {K : PySem.W.Frag} {vs : List V} {H : Hp} {Q : VK} {E : XK} (h : sp_l_told K vs H Q E) : vs.length = 3 := by obtain ⟨_, _, _, _, _, _, _, _, rfl, _⟩ := h; rfl
section
variable [HasW]
abbrev N_l_parts : List Str := ["_law_content", "_law_label_here", "_law_name"]
def t_l_parts (K : PySem.W.Frag) : TS := (tSeq (tIfS (tTest (tOp rEq (tOp (rIx K) (tVar 0) (tC (.int 0))) (tC (.str "leaf")))) (tRet (tLst tNil)) tNext)
    (tSeq (tIfS (tTest (tOp rEq (tOp (rIx K) (tVar 0) (tC (.int 0))) (tC (.str "tree")))) (tRet (tLc (iTup K (tOp (rIx K) (tVar 0) (tC (.int 1)))) (gTup K 2 (gCons (gName 1) (gCons (gName 2) gNil))) tYes (tVar 2) [1, 2])) tNext)
    (tRet (tOp rCat (tCB (fListOf K) (tCons (tOp (rIx K) (tVar 0) (tC (.int 1))) tNil)) (tLst (tCons (tOp (rIx K) (tVar 0) (tC (.int 2))) tNil))))))
abbrev N_l_told : List Str := ["_law_book", "_law_things", "_law_name"]
def t_l_told_c (K : PySem.W.Frag) : TS := (tRet (tAndV (tCall (sp_l_alike K) [] E0 (tCons (tMeth (He.ga K "Book") "name_of" (sp_Book_name_of K) [] E0 (tVar 0) (tCons (tOp (rIx K) (tVar 1) (tVar 2)) tNil)) (tCons (tVar 2) tNil))) (tCall (sp_l_alike K) [] E0 (tCons (tMeth (He.ga K "Book") "named" (sp_Book_named K) [] E0 (tVar 0) (tCons (tOp (rIx K) (tVar 1) (tVar 2)) tNil)) (tCons (tVar 2) tNil)))))
def t_l_told_b (K : PySem.W.Frag) : TS := (tSeq (tIfS (tNot (tB (tCall (sp_l_alike K) [] E0 (tCons (tMeth (He.ga K "Book") "parts" (sp_Book_parts K) [] E0 (tVar 0) (tCons (tVar 2) tNil)) (tCons (tCB (fTupleOf K) (tCons (tCall (sp_l_parts K) [] E0 (tCons (tOp (rIx K) (tVar 1) (tVar 2)) tNil)) tNil)) tNil))))) (tRet (tC (.bl false))) tNext)
    (t_l_told_c K))
def t_l_told (K : PySem.W.Frag) : TS := (tSeq (tIfS (tOr (tNot (tB (tCall (sp_l_alike K) [] E0 (tCons (tMeth (He.ga K "Book") "thing" (sp_Book_thing K) [] E0 (tVar 0) (tCons (tVar 2) tNil)) (tCons (tOp (rIx K) (tVar 1) (tVar 2)) tNil))))) (tNot (tB (tCall (sp_l_alike K) [] E0 (tCons (tMeth (He.ga K "Book") "kind" (sp_Book_kind K) [] E0 (tVar 0) (tCons (tVar 2) tNil)) (tCons (tOp (rIx K) (tOp (rIx K) (tVar 1) (tVar 2)) (tC (.int 0))) tNil)))))) (tRet (tC (.bl false))) tNext)
    (t_l_told_b K))
end
/-- the parts behind the word -/
theorem CtAt.snd {K : PySem.W.Frag} {H : Hp} {a : Addr} {c : Ct} {Q : VK} (h : CtAt H a c) (q : ∀ r, Q (.ref r) H) : rIx K (.ref a) (.int 1) H Q := by
  cases c with
  | leaf rows => obtain ⟨r, h1, h2⟩ := h; exact ixT h1 rfl (q _)
  | tree es => obtain ⟨r, as, h1, h2⟩ := h; exact ixT h1 rfl (q _)
  | ver ps r s => obtain ⟨r, h1, h2⟩ := h; exact ixT h1 rfl (q _)
section
variable [HasW] {K : PySem.W.Frag} {vs : List V} {H : Hp} {Q : VK} {E : XK}
theorem pure_l_parts (h : sp_l_parts K vs H Q E) : t_l_parts K { nx := fun _ H' => Q .non H', rt := Q } (start N_l_parts vs) H := by
  obtain ⟨a, c, rfl, hc, fo, k⟩ := h
  refine ⟨_, rfl, hc.fst ⟨rfl, _, rfl, ?_⟩⟩
  cases c with
  | leaf rows =>
    rw [show decide (V.str (Ct.leaf rows).word = V.str "leaf") = true from decide_eq_true rfl]
    exact iteT ⟨by decide, fun p np => k p _ (samN np) updS⟩
  | tree es =>
    obtain ⟨r, bs, h1, h2, h3, h4⟩ := hc
    have hz : es.length ≤ 20 := fo.1
    rw [show decide (V.str (Ct.tree es).word = V.str "leaf") = false from strN wv_lt.symm]
    refine iteF ⟨_, rfl, ixT h1 rfl ⟨rfl, _, rfl, ?_⟩⟩
    rw [decide_eq_true rfl]
    refine iteT ⟨_, rfl, ixT h1 rfl ⟨r, rfl, ⟨_, sqT h2⟩, fun L nL => ?_⟩⟩
    refine lc_pairs (ys := es.map fun e => V.int e.2) nL h2 h3 (by omega) (by rw [List.length_map]) h4 ?_ ?_
    · intro n e y H' R he hy s q
      rw [List.getElem?_map, he] at hy
      cases Option.some.inj hy
      exact ⟨rfl, _, rfl, q _ (Same.refl _)⟩
    · intro H' s hL
      refine k L _ s ?_
      rw [hL]
      show some (HO.lst (es.map fun e => V.int e.2)) = some (HO.lst ((es.map (·.2)).map V.int))
      rw [List.map_map]
      rfl
  | ver ps r s =>
    obtain ⟨q, h1, h2⟩ := hc
    have hz : ps.length ≤ 4 := fo.1
    rw [show decide (V.str (Ct.ver ps r s).word = V.str "leaf") = false from strN wv_lv.symm]
    refine iteF ⟨_, rfl, ixT h1 rfl ⟨rfl, _, rfl, ?_⟩⟩
    rw [strN wv_tv.symm]
    refine iteF ⟨_, rfl, ixT h1 rfl ⟨q, _, rfl, .inr (sqT h2), fun L nL => ?_⟩⟩
    have s1 : Same H (upd H L (.lst (ps.map V.int))) := samN nL
    refine ⟨_, rfl, ixT (s1 _ _ h1) rfl ⟨by show (1 : Nat) ≤ sizeLine; decide, fun M nM => ?_⟩⟩
    have s2 := s1.trans (samN (o := .lst [.int r]) nM)
    refine ⟨L, M, _, _, rfl, rfl, samN nM _ _ updS, updS, ?_, fun p np => k p _ (s2.trans (samN np)) ?_⟩
    · rw [List.length_map]
      exact Nat.le_trans (show _ ≤ 1000 by rw [List.length_singleton]; omega) (by decide)
    · rw [updS]
      show some (HO.lst (ps.map V.int ++ [.int r])) = some (HO.lst ((ps ++ [r]).map V.int))
      rw [List.map_append]
      rfl
theorem pure_l_told (h : sp_l_told K vs H Q E) : t_l_told K { nx := fun _ H' => Q .non H', rt := Q } (start N_l_told vs) H := by
  obtain ⟨b, T, cs, as, tas, i, a, c, rfl, bk, hT, ha, hi, hc, k⟩ := h
  obtain ⟨a0, ha0, hc0⟩ := bk.at_.get hi
  have fo := (bk.ok c (List.mem_of_getElem? hi)).1
  have iT : ∀ {H' : Hp} {R : VK}, Same H H' → R (.ref a) H' → rIx K (.ref T) (.int (i : Int)) H' R := fun s q => ixL (s _ _ hT) (atI_nat (by rw [List.getElem?_map, ha]; rfl)) q
  have st : ∀ {H' : Hp} {n : Nat} (z : Str), SameV H' (n + 1) (.str z) (.str z) := fun z => Or.inl ⟨rfl, .inr (.inr (.inr ⟨z, rfl⟩))⟩
  refine bk.me (by decide) rfl ⟨_, rfl, b, cs, as, i, a0, rfl, bk, ha0, ⟨_, rfl, _, rfl, iT (Same.refl _) ⟨_, _, rfl, Ct.same fo hc0 hc, fun H1 s1 => ⟨_, rfl, iteF ?_⟩⟩⟩⟩
  have bk1 := bk.same s1
  refine bk1.me (by decide) rfl ⟨_, rfl, b, cs, as, i, c, rfl, bk1, hi, ⟨_, rfl, _, rfl, iT s1 ((hc.mono (TM.of s1)).fst ⟨_, _, rfl, st _, fun H2 s2 => ⟨_, rfl, iteF ?_⟩⟩)⟩⟩
  have s12 := s1.trans s2
  have bk2 := bk.same s12
  show t_l_told_b K { nx := fun _ H' => Q .non H', rt := Q } [some (.ref b.B), some (.ref T), some (.int (i : Int))] H2
  refine bk2.me (by decide) rfl ⟨_, rfl, b, cs, as, i, c, rfl, bk2, hi, fun r H3 s3 hr => ?_⟩
  have s13 := s12.trans s3
  refine ⟨_, rfl, _, rfl, iT s13 ⟨a, c, rfl, hc.mono (TM.of s13), fo, fun r2 H4 s4 hr2 => ⟨r2, _, rfl, .inl ⟨sqL hr2, fun r3 nr3 => ?_⟩⟩⟩⟩
  have s5 : Same H4 (upd H4 r3 (.tup (c.parts.map V.int))) := samN nr3
  have s15 := (s13.trans s4).trans s5
  refine ⟨_, _, rfl, SameV.tup (s5 _ _ (s4 _ _ hr)) updS rfl (by rw [List.length_map]; have := Ct.parts_len fo; omega) SameV.ints, fun H6 s6 => ⟨_, rfl, iteF ?_⟩⟩
  have s16 := s15.trans s6
  have bk6 := bk.same s16
  show t_l_told_c K { nx := fun _ H' => Q .non H', rt := Q } [some (.ref b.B), some (.ref T), some (.int (i : Int))] H6
  refine bk6.me (by decide) rfl ⟨_, rfl, _, rfl, iT s16 ⟨b, cs, as, a, c, rfl, bk6, hc.mono (TM.of s16), fo, fun j H7 hj s7 => ?_, fun hn => absurd (List.mem_of_getElem? hi) hn⟩⟩
  have ej : j = i := (List.getElem?_inj (List.getElem?_eq_some_iff.mp hj).1 bk.nd).mp (hj.trans hi.symm)
  subst ej
  refine ⟨_, rfl, _, _, rfl, SameV.int rfl, fun H8 s8 => ⟨_, rfl, iteT ?_⟩⟩
  have s18 := s16.trans (s7.trans s8)
  have bk8 := bk.same s18
  refine bk8.me (by decide) rfl ⟨_, rfl, _, rfl, iT s18 ⟨b, cs, as, a, c, rfl, bk8, hc.mono (TM.of s18), fo, (bk.ok c (List.mem_of_getElem? hi)).2, fun hn => absurd (List.mem_of_getElem? hi) hn, fun j2 H9 hj2 s9 => ?_, fun hn => absurd (List.mem_of_getElem? hi) hn⟩⟩
  have ej : j2 = j := (List.getElem?_inj (List.getElem?_eq_some_iff.mp hj2).1 bk.nd).mp (hj2.trans hi.symm)
  subst ej
  exact ⟨_, rfl, _, _, rfl, SameV.int rfl, fun H10 s10 => k _ (s18.trans (s9.trans s10))⟩
end
/-- what changes elsewhere -/
theorem BkAt.kf [HasW] {K : PySem.W.Frag} {H H' : Hp} {b : BkA} {cs : List Ct} {as F : List Addr} (k : BkAt K H b cs as) (x : Kf F H H') (h : ∀ y ∈ [b.B, b.L, b.E, b.G], y ∉ F) (ht : TM H H') : BkAt K H' b cs as := by
  obtain ⟨dx, fs, hB, r⟩ := k.bo
  exact ⟨k.bc, ⟨dx, fs, x _ _ hB (h _ (by simp)), r⟩, x _ _ k.hL (h _ (by simp)), x _ _ k.hE (h _ (by simp)), x _ _ k.hG (h _ (by simp)), k.at_.mono ht, k.nd, k.few, k.ok, k.ne⟩
theorem Kb.kf {b : BkA} {H H' : Hp} (k : Kb b H H') : Kf [b.L, b.E, b.G] H H' := fun a o h n => k a o h (fun z => n (by simp [z])) (fun z => n (by simp [z])) fun z => n (by simp [z])
theorem Kf.tm {F : List Addr} {H H' : Hp} (k : Kf F H H') (h : ∀ x ∈ F, ∀ ys, H x ≠ some (.tup ys)) : TM H H' := fun a xs e => k a _ e fun z => h a z xs e
end Fw

set_option Elab.async false
set_option linter.all false
set_option maxRecDepth 100000
set_option maxHeartbeats 4000000
/-! sorted(d), d a dict by ints. -/
namespace Fw
open PySem PySem.Spec PyProof.Rows L2 PySem.W SrtO
def rSortK : List V → Hp → VK → Prop := fun vs H Q => ∃ (a : Addr) (kvs : List (Key × V)) (ns : List Int), vs = [.ref a] ∧ H a = some (.dK kvs) ∧ kvs.map (·.1) = ns.map Sum.inl ∧
  ∀ (ns' : List Int) (p : Addr), ns'.Perm ns → ns'.Pairwise (· ≤ ·) → H p = none → Q (.ref p) (upd H p (.lst (ns'.map V.int)))
theorem ints_at {ns : List Int} : ∀ {ks : List (Key × Value)} {vs : List Value} , ks.map (·.1) = ns.map Sum.inl → vs.length = ks.length → (∀ (j : Nat) (v : Value), vs[j]? = some v → ∃ k x, ks[j]? = some (k, x) ∧ keyIs k v = true) → IntsAre vs ns := by
  induction ns with
  | nil =>
    intro ks vs h1 h2 h3
    cases ks with
    | nil =>
      cases vs with
      | nil => exact .nil
      | cons v vs => simp at h2
    | cons k ks => simp at h1
  | cons n ns ih =>
    intro ks vs h1 h2 h3
    cases ks with
    | nil => simp at h1
    | cons k ks =>
      cases vs with
      | nil => simp at h2
      | cons v vs =>
        rw [List.map_cons, List.map_cons] at h1
        injection h1 with e1 e2
        obtain ⟨k', x, hx, hk⟩ := h3 0 v rfl
        have hx : k = (k', x) := by simpa using hx
        rw [hx] at e1
        rw [show k' = Sum.inl n from e1] at hk
        rcases keyIs_shape hk with ⟨i, t, e, ev⟩ | ⟨z, t, e, _⟩
        · cases e
          rw [ev]
          exact .cons n t (ih e2 (by simpa using h2) fun j u hu => by
            have := h3 (j + 1) u (by simpa using hu)
            simpa using this)
        · cases e
theorem cr_sortedK {X : Cx} (hc : X.calm = true) : CallR X (.builtin "sorted") rSortK := by
  intro pins s σ H xs us Q I r h
  obtain ⟨a, kvs, ns, rfl, ha, hk, q⟩ := h
  obtain rfl := Vals.ref1 r
  obtain ⟨z, hd, vs, rel, o, es, ep, hat0⟩ := dk_of I.hok ha
  have hat : s.heap.DictAt (mixKind X.prog X.w) a vs ep := ⟨o, es, hat0⟩
  have hks : vs.map (·.1) = ns.map Sum.inl := by rw [← hk]; exact rel.keys.symm
  have hlen : vs.length = ns.length := by
    have := congrArg List.length hks
    rwa [List.length_map, List.length_map] at this
  have hz : vs.length ≤ sizeLine := by
    have : kvs.length = ns.length := by
      have := congrArg List.length hk
      rwa [List.length_map, List.length_map] at this
    omega
  refine Calls.call_function_entry kind_sorted plain_sorted entry_sorted (args_sorted1 _) ?_
  unfold Builtin.«sorted»
  refine wpAny_bind (m := checkCount "sorted" 1 1 _) (wpAny_pure ?_)
  refine wpAny_bind (kdu_collect (A := X.A.in1) (kdl_dict (knd := mixKind X.prog X.w) (kvs := vs) (ep := ep) hd) (I.ok.hd hc) hat hz fun h' tk acc kp hacc => ?_)
  have hl : acc.toList.length = vs.length := by rw [Array.length_toList]; exact hacc.1
  have hi : IntsAre acc.toList ns := ints_at hks hl fun j v hv => hacc.2 j v (by rw [← Array.getElem?_toList]; exact hv)
  refine wpAny_bind (wpAny_newList ?_ (by rw [hl]; exact hz))
  have hoL : (h'.push { cls := .type "list", data := .seq acc.toList.toArray }).get? h'.objs.size = some (seqObj "list" acc.toList.toArray 0) := Heap.get?_push_size _ rfl
  have kp2 : ∀ b o, s.heap.get? b = some o → b ≠ h'.objs.size ∧ (h'.push { cls := .type "list", data := .seq acc.toList.toArray }).get? b = some o := fun b o e => ⟨Nat.ne_of_lt (Heap.lt_size (kp b o e)), Heap.get?_push_of_some _ (kp b o e)⟩
  have n0 : s.heap.get? h'.objs.size = none := by
    cases e : s.heap.get? h'.objs.size with
    | none => rfl
    | some o => exact absurd (Heap.lt_size (kp _ o e)) (Nat.lt_irrefl _)
  have nH : H h'.objs.size = none := (I.kept (h' := h') (t' := tk) kp).hok.fresh (Nat.le_refl _)
  refine wpAny_bind (wpAny_holding (wpAny_call_entry slot_list_sort ⟨_, hoL, rfl⟩ entry_list_sort (list_sort_ord swo_int hoL (by rw [hl]; exact hz) (fun h2 => ints_sortable hi h2) fun out hs hb => ⟨_, rfl, ?_⟩) (args_list_sort _)))
  obtain ⟨k1, k2, k3⟩ := ints_out hi hs hb
  obtain ⟨eF, heF⟩ := PyProof.Rows.sortedHeap_at (vs := acc.toList) (out := out.toArray) hoL
  have kF : ∀ b o, s.heap.get? b = some o → (sortedHeap (h'.push { cls := .type "list", data := .seq acc.toList.toArray }) h'.objs.size acc.toList out.toArray).get? b = some o := fun b o e => (PyProof.Rows.sortedHeap_old (kp2 b o e).1 (Heap.lt_size (kp2 b o e).2)).trans (kp2 b o e).2
  have hlen2 : ((out.map iv).map V.int).length ≤ sizeLine := by
    rw [List.length_map, k2.length_eq, ← hlen]
    exact hz
  exact wpAny_pure ⟨_, rfl, .ref _, upd H h'.objs.size (.lst ((out.map iv).map V.int)), I.laidN (t' := tk) kF n0 nH ⟨hlen2, out, eF, vals_of_ints k1, heF⟩, rfl, q _ _ k2 k3 nH⟩
end Fw

set_option Elab.async false
set_option linter.all false
set_option maxRecDepth 100000
set_option maxHeartbeats 4000000
/-! Holdings and stores: their state, and the methods that law k09 calls. -/
namespace Fw
open PySem L2 RZ RT
/-! ### names as a dict's keys -/
abbrev nmD (ns : List Int) : List (Key × V) := ns.map fun n => ((Sum.inl n : Key), V.bl true)
theorem nmD_keys (ns : List Int) : (nmD ns).map (·.1) = ns.map Sum.inl := by
  rw [List.map_map]
  rfl
theorem nmD_val : ∀ (ns : List Int) (n : Int), valV (nmD ns) (.inl n) = if n ∈ ns then some (.bl true) else none
  | [], n => by rw [if_neg (by simp)]; rfl
  | m :: ns, n => by
    by_cases h : m = n
    · rw [show nmD (m :: ns) = ((Sum.inl m : Key), V.bl true) :: nmD ns from rfl, valV_pos (by rw [h]), if_pos (by rw [h]; exact List.mem_cons_self)]
    · have := nmD_val ns n
      have e : valV (nmD (m :: ns)) (.inl n) = valV (nmD ns) (.inl n) := by
        show ((((Sum.inl m : Key), V.bl true) :: nmD ns).find? fun kv => decide (kv.1 = Sum.inl n)).map (·.2) = _
        rw [List.find?_cons_of_neg (by simp; exact fun e => h e)]
        rfl
      rw [e, this]
      by_cases h2 : n ∈ ns
      · rw [if_pos h2, if_pos (List.mem_cons_of_mem _ h2)]
      · rw [if_neg h2, if_neg fun z => (List.mem_cons.mp z).elim (fun q => h q.symm) h2]
theorem nmD_some (ns : List Int) (n : Int) : (valV (nmD ns) (.inl n)).isSome = decide (n ∈ ns) := by
  rw [nmD_val]
  by_cases h : n ∈ ns
  · rw [if_pos h, decide_eq_true h]; rfl
  · rw [if_neg h, decide_eq_false h]; rfl
theorem nmD_put {ns : List Int} {n : Int} (h : n ∉ ns) : putK (nmD ns) (.inl n) (.bl true) = nmD (ns ++ [n]) := by
  unfold putK
  rw [if_neg]
  · show _ = (ns ++ [n]).map _
    rw [List.map_append]
    rfl
  · intro z
    obtain ⟨p, hp, e⟩ := List.any_eq_true.mp z
    obtain ⟨m, hm, rfl⟩ := List.mem_map.mp hp
    have e : (Sum.inl m : Key) = Sum.inl n := of_decide_eq_true e
    cases e
    exact h hm
/-- the ints of a walk that a test keeps -/
theorem lc_filt {J : It} {n : Nat} {G : Hp → Prop} {Y : Nat → Hp → V → Hp → Prop} {ns : List Int} (w : Walk J n G Y) (hY : ∀ i H x H', Y i H x H' → H' = H ∧ (ns.map V.int)[i]? = some x) {p : Int → Bool} {k : Nat} {tt : TT} {σ : L2.St} {H1 : Hp} {D : Addr} {Qd : Hp → Prop} (hk : k < σ.length)
    (hD : H1 D = none) (hl : ns.length = n) (hz : n ≤ 100000) (hG : ∀ H', Same H1 H' → G H')
    (hs : ∀ (v : Int) (H' : Hp) (R : Bool → Hp → Prop), v ∈ ns → Same H1 H' → (∀ H'', Same H' H'' → R (p v) H'') → tt ((wipe σ [k]).set k (some (.int v))) H' R)
    (hd : ∀ H', Same H1 H' → H' D = some (.lst ((ns.filter p).map V.int)) → Qd H') :
    ∃ W : Nat → Nat → Hp → Prop, (∃ m, W 0 m (L2.upd H1 D (.lst []))) ∧ ∀ i m H, W i m H →
      (J.stop i H ∧ Qd H) ∨ (J.go i H ∧ ∃ Nx : Hp → Prop, (∀ H', Nx H' → ∃ m', m' < m ∧ W (i + 1) m' H') ∧ ∀ x H', J.yld i H x H' → gName k x (wipe σ [k]) H' fun σ2 H2 => wipe σ2 [k] = wipe σ [k] ∧ tt σ2 H2 fun b H3 =>
        if b = true then tVar k σ2 H3 fun y H4 => ∃ acc, H4 D = some (.lst acc) ∧ acc.length < sizeLine ∧ Nx (L2.upd H4 D (.lst (acc ++ [y]))) else Nx H3) := by
  refine lc_it w (fun i H => Same H1 H ∧ H D = some (.lst (((ns.take i).filter p).map V.int))) ⟨samN hD, updS⟩ (fun i H _ q => hG H q.1) (fun i x H H' hi q hy => ?_) fun H q => hd H q.1 (by rw [q.2, List.take_of_length_le (by omega)])
  obtain ⟨rfl, hx⟩ := hY i H x H' hy
  obtain ⟨s, hL⟩ := q
  rw [List.getElem?_map] at hx
  have hv : ns[i]? = some ns[i] := List.getElem?_eq_getElem (by omega)
  rw [hv] at hx
  cases Option.some.inj hx
  have eT : ns.take (i + 1) = ns.take i ++ [ns[i]] := by rw [List.take_succ, hv]; rfl
  refine ⟨?_, hs _ _ _ (List.getElem_mem _) s fun H'' s'' => ?_⟩
  · show (((σ.set k none).set k _).set k none) = σ.set k none
    rw [List.set_set, List.set_set]
  have hL2 := s'' _ _ hL
  rw [eT, List.filter_append]
  refine ite2 (fun e => ?_) fun e => ?_
  · rw [show [ns[i]].filter p = [ns[i]] from List.filter_cons_of_pos e]
    refine ⟨.int ns[i], List.getElem?_set_self (show k < (σ.set k none).length by rw [List.length_set]; exact hk), _, hL2, ?_, fun b o e => updN (ne_of_none e hD) (s'' _ _ (s b o e)), ?_⟩
    · rw [List.length_map]
      have := List.length_filter_le p (ns.take i)
      rw [List.length_take] at this
      exact Nat.lt_of_le_of_lt (show ((ns.take i).filter p).length ≤ 100000 by omega) (by decide)
    · rw [updS]
      simp
  · rw [show [ns[i]].filter p = [] from List.filter_cons_of_neg e, List.append_nil]
    exact ⟨fun b o e => s'' _ _ (s b o e), hL2⟩
/-! ### state -/
structure HdC (K : PySem.W.Frag) : Prop where
  cl : Cls K (He.ga K "Holding")
  n1 : NoAttr K (He.ga K "Holding") "book"
  n2 : NoAttr K (He.ga K "Holding") "inside"
  n3 : NoAttr K (He.ga K "Holding") "ordered"
structure StC (K : PySem.W.Frag) : Prop where
  cl : Cls K (He.ga K "Store")
  n1 : NoAttr K (He.ga K "Store") "book"
  n2 : NoAttr K (He.ga K "Store") "inside"
  n3 : NoAttr K (He.ga K "Store") "many_changes"
structure HlA where
  A : Addr
  I : Addr
  O : Addr
abbrev hdF (B : Addr) (h : HlA) : List (Str × V) := [("book", .ref B), ("inside", .ref h.I), ("ordered", .ref h.O)]
structure HlAt (K : PySem.W.Frag) (H : Hp) (h : HlA) (B : Addr) (ns : List Int) : Prop where
  hc : HdC K
  ho : ∃ dx, H h.A = some (.ins (He.ga K "Holding") dx (hdF B h))
  hI : ∃ is : List Int, H h.I = some (.dK (nmD is)) ∧ ∀ n, n ∈ is ↔ n ∈ ns
  hO : H h.O = some (.lst (ns.map V.int))
  inc : ns.Pairwise (· < ·)
  few : ns.length ≤ 400
abbrev stF (B I : Addr) (m : Int) : List (Str × V) := [("book", .ref B), ("inside", .ref I), ("many_changes", .int m)]
structure SrAt (K : PySem.W.Frag) (H : Hp) (A I B : Addr) (ns : List Int) : Prop where
  sc : StC K
  so : ∃ dx m, H A = some (.ins (He.ga K "Store") dx (stF B I m))
  hI : H I = some (.dK (nmD ns))
  nd : ns.Nodup
  few : ns.length ≤ 400
section
variable {K : PySem.W.Frag} {H H' : Hp} {h : HlA} {A I B : Addr} {ns : List Int} {Q : VK} {σ : L2.St} {i : Nat}
theorem HlAt.kf {F : List Addr} (x : HlAt K H h B ns) (kf : Kf F H H') (n : ∀ y ∈ [h.A, h.I, h.O], y ∉ F) : HlAt K H' h B ns := by
  obtain ⟨dx, e⟩ := x.ho
  obtain ⟨is, e2, m⟩ := x.hI
  exact ⟨x.hc, ⟨dx, kf _ _ e (n _ (by simp))⟩, ⟨is, kf _ _ e2 (n _ (by simp)), m⟩, kf _ _ x.hO (n _ (by simp)), x.inc, x.few⟩
theorem HlAt.same (x : HlAt K H h B ns) (s : Same H H') : HlAt K H' h B ns := x.kf (F := []) (.same s) fun _ _ z => nomatch z
theorem SrAt.kf {F : List Addr} (x : SrAt K H A I B ns) (kf : Kf F H H') (n : ∀ y ∈ [A, I], y ∉ F) : SrAt K H' A I B ns := by
  obtain ⟨dx, m, e⟩ := x.so
  exact ⟨x.sc, ⟨dx, m, kf _ _ e (n _ (by simp))⟩, kf _ _ x.hI (n _ (by simp)), x.nd, x.few⟩
theorem SrAt.same (x : SrAt K H A I B ns) (s : Same H H') : SrAt K H' A I B ns := x.kf (F := []) (.same s) fun _ _ z => nomatch z
theorem HlAt.fB (x : HlAt K H h B ns) (e : σ[i]? = some (some (.ref h.A))) (q : Q (.ref B) H) : tFld K (tVar i) "book" σ H Q := by
  obtain ⟨dx, hx⟩ := x.ho
  exact ⟨_, e, h.A, _, dx, _, _, rfl, hx, x.hc.cl, x.hc.n1, rfl, q⟩
theorem HlAt.fI (x : HlAt K H h B ns) (e : σ[i]? = some (some (.ref h.A))) (q : Q (.ref h.I) H) : tFld K (tVar i) "inside" σ H Q := by
  obtain ⟨dx, hx⟩ := x.ho
  exact ⟨_, e, h.A, _, dx, _, _, rfl, hx, x.hc.cl, x.hc.n2, rfl, q⟩
theorem HlAt.fO (x : HlAt K H h B ns) (e : σ[i]? = some (some (.ref h.A))) (q : Q (.ref h.O) H) : tFld K (tVar i) "ordered" σ H Q := by
  obtain ⟨dx, hx⟩ := x.ho
  exact ⟨_, e, h.A, _, dx, _, _, rfl, hx, x.hc.cl, x.hc.n3, rfl, q⟩
theorem HlAt.me {m : Str} {sp : Sp} {E : XK} {ta : TA} (x : HlAt K H h B ns) (hm : (hdF B h).lookup m = none) (e : σ[i]? = some (some (.ref h.A))) (q : ta σ H fun vs H2 => sp (.ref h.A :: (vs ++ [])) H2 Q E) : tMeth (He.ga K "Holding") m sp [] E (tVar i) ta σ H Q := by
  obtain ⟨dx, hx⟩ := x.ho
  exact ⟨_, e, h.A, dx, _, rfl, hx, hm, q⟩
theorem SrAt.fB (x : SrAt K H A I B ns) (e : σ[i]? = some (some (.ref A))) (q : Q (.ref B) H) : tFld K (tVar i) "book" σ H Q := by
  obtain ⟨dx, m, hx⟩ := x.so
  exact ⟨_, e, A, _, dx, _, _, rfl, hx, x.sc.cl, x.sc.n1, rfl, q⟩
theorem SrAt.fI (x : SrAt K H A I B ns) (e : σ[i]? = some (some (.ref A))) (q : Q (.ref I) H) : tFld K (tVar i) "inside" σ H Q := by
  obtain ⟨dx, m, hx⟩ := x.so
  exact ⟨_, e, A, _, dx, _, _, rfl, hx, x.sc.cl, x.sc.n2, rfl, q⟩
theorem SrAt.me {m : Str} {sp : Sp} {E : XK} {ta : TA} (x : SrAt K H A I B ns) (hm : ∀ m', (stF B I m').lookup m = none) (e : σ[i]? = some (some (.ref A))) (q : ta σ H fun vs H2 => sp (.ref A :: (vs ++ [])) H2 Q E) : tMeth (He.ga K "Store") m sp [] E (tVar i) ta σ H Q := by
  obtain ⟨dx, m', hx⟩ := x.so
  exact ⟨_, e, A, dx, _, rfl, hx, hm m', q⟩
/-- a method of the book, the book being read from elsewhere -/
theorem BkAt.meF [HasW] {b : BkA} {cs : List Ct} {as : List Addr} {m : Str} {sp : Sp} {E : XK} {ta : TA} (k : BkAt K H b cs as) (hm : m ∈ (["named", "name_of", "thing", "kind", "parts", "parents", "root", "stamp", "entries", "leaf_rows", "is_name", "is_version", "is_content", "has_kinds", "depth", "give_next"] : List Str)) (q : ta σ H fun vs H2 => sp (.ref b.B :: (vs ++ [])) H2 Q E) :
    ∃ a dx fs, V.ref b.B = .ref a ∧ H a = some (.ins (He.ga K "Book") dx fs) ∧ fs.lookup m = none ∧ ta σ H fun vs H2 => sp (V.ref b.B :: (vs ++ [])) H2 Q E := by
  obtain ⟨dx, fs, hx, h1, h2, h3, h4⟩ := k.bo
  exact ⟨b.B, dx, fs, rfl, hx, h4 m hm, q⟩
theorem BkAt.meV [HasW] {b : BkA} {cs : List Ct} {as : List Addr} {m : Str} {sp : Sp} {E : XK} {ta : TA} (k : BkAt K H b cs as) (hm : m ∈ (["named", "name_of", "thing", "kind", "parts", "parents", "root", "stamp", "entries", "leaf_rows", "is_name", "is_version", "is_content", "has_kinds", "depth", "give_next"] : List Str)) (e : σ[i]? = some (some (.ref b.B))) (q : ta σ H fun vs H2 => sp (.ref b.B :: (vs ++ [])) H2 Q E) : tMeth (He.ga K "Book") m sp [] E (tVar i) ta σ H Q := k.me hm e q
end
def isV (cs : List Ct) (n : Int) : Bool := decide ((cs.getD n.toNat (.leaf [])).word = "version")
def parsOf (cs : List Ct) (n : Int) : List Int :=
  match cs.getD n.toNat (.leaf []) with
  | .ver ps _ _ => ps
  | _ => []
/-- the versions whose parents are not all there -/
def edg (cs : List Ct) (ns : List Int) : List Int := (ns.filter (isV cs)).filter fun n => !(parsOf cs n).all fun p => decide (p ∈ ns)
theorem getD_nat {cs : List Ct} {n : Nat} {c : Ct} (h : cs[n]? = some c) : cs.getD (Int.toNat (n : Int)) (.leaf []) = c := by
  rw [Int.toNat_natCast, List.getD_eq_getElem?_getD, h]
  rfl
theorem isV_at {cs : List Ct} {n : Nat} {c : Ct} (h : cs[n]? = some c) : isV cs (n : Int) = decide (c.word = "version") := by
  unfold isV
  rw [getD_nat h]
theorem parsOf_at {cs : List Ct} {n : Nat} {ps : List Int} {r s : Int} (h : cs[n]? = some (.ver ps r s)) : parsOf cs (n : Int) = ps := by
  unfold parsOf
  rw [getD_nat h]
theorem isV_ver {cs : List Ct} {n : Nat} {c : Ct} (h : cs[n]? = some c) (v : isV cs (n : Int) = true) : ∃ ps r s, c = .ver ps r s := by
  rw [isV_at h] at v
  have v := of_decide_eq_true v
  cases c with
  | leaf rows => exact absurd v wv_lv
  | tree es => exact absurd v wv_tv
  | ver ps r s => exact ⟨ps, r, s, rfl⟩
/-- names of the book -/
def NmOk (cs : List Ct) (ns : List Int) : Prop := ∀ n ∈ ns, 0 ≤ n ∧ n.toNat < cs.length
theorem NmOk.get {cs : List Ct} {ns : List Int} (h : NmOk cs ns) {n : Int} (hn : n ∈ ns) : ∃ (m : Nat) (c : Ct), n = (m : Int) ∧ cs[m]? = some c := by
  have := h n hn
  obtain ⟨m, rfl⟩ := Int.eq_ofNat_of_zero_le this.1
  exact ⟨m, _, rfl, List.getElem?_eq_getElem (by have := this.2; rwa [Int.toNat_natCast] at this)⟩
section
variable [HasW]
def sp_Book_parents (K : PySem.W.Frag) : Sp := fun vs H Q _ => ∃ (b : BkA) (cs : List Ct) (as : List Addr) (i : Nat) (ps : List Int) (r s : Int), vs = [.ref b.B, .int (i : Int)] ∧ BkAt K H b cs as ∧ cs[i]? = some (.ver ps r s) ∧ ∀ p, H p = some (.tup (ps.map V.int)) → Q (.ref p) H
def sp_Holding_init (K : PySem.W.Frag) : Sp := fun vs H Q _ => ∃ (x dx n : Addr) (b : BkA) (cs : List Ct) (as : List Addr) (ns : List Int), vs = [.ref x, .ref b.B, .ref n] ∧ HdC K ∧ H x = some (.ins (He.ga K "Holding") dx []) ∧ BkAt K H b cs as ∧ H n = some (.lst (ns.map V.int)) ∧ ns.Nodup ∧ NmOk cs ns ∧ ns.length ≤ 400 ∧
  ∀ (h : HlA) (ns' : List Int) (H' : Hp), h.A = x → (∀ a o, H a = some o → a ≠ x → H' a = some o) → H h.I = none → H h.O = none → ns'.Perm ns → HlAt K H' h b.B ns' → Q .non H'
def sp_Holding_versions (K : PySem.W.Frag) : Sp := fun vs H Q _ => ∃ (h : HlA) (b : BkA) (cs : List Ct) (as : List Addr) (ns : List Int), vs = [.ref h.A] ∧ HlAt K H h b.B ns ∧ BkAt K H b cs as ∧ NmOk cs ns ∧
  ∀ (L : Addr) (H' : Hp), Same H H' → H L = none → H' L = some (.lst ((ns.filter (isV cs)).map V.int)) → Q (.ref L) H'
def sp_Holding_has_parents (K : PySem.W.Frag) : Sp := fun vs H Q _ => ∃ (h : HlA) (b : BkA) (cs : List Ct) (as : List Addr) (ns : List Int) (i : Nat) (ps : List Int) (r s : Int), vs = [.ref h.A, .int (i : Int)] ∧ HlAt K H h b.B ns ∧ BkAt K H b cs as ∧ cs[i]? = some (.ver ps r s) ∧
  ∀ H', Same H H' → Q (.bl (ps.all fun p => decide (p ∈ ns))) H'
def sp_Holding_edges (K : PySem.W.Frag) : Sp := fun vs H Q _ => ∃ (h : HlA) (b : BkA) (cs : List Ct) (as : List Addr) (ns : List Int), vs = [.ref h.A] ∧ HlAt K H h b.B ns ∧ BkAt K H b cs as ∧ NmOk cs ns ∧
  ∀ (L : Addr) (H' : Hp), Same H H' → H L = none → H' L = some (.lst ((edg cs ns).map V.int)) → Q (.ref L) H'
def sp_Store_init (K : PySem.W.Frag) : Sp := fun vs H Q _ => ∃ (x dx B : Addr), vs = [.ref x, .ref B] ∧ StC K ∧ H x = some (.ins (He.ga K "Store") dx []) ∧
  ∀ (I : Addr) (H' : Hp), (∀ a o, H a = some o → a ≠ x → H' a = some o) → H I = none → SrAt K H' x I B [] → Q .non H'
def sp_Store_put (K : PySem.W.Frag) : Sp := fun vs H Q _ => ∃ (A I : Addr) (b : BkA) (cs : List Ct) (as : List Addr) (ns : List Int) (n : Int), vs = [.ref A, .int n] ∧ SrAt K H A I b.B ns ∧ BkAt K H b cs as ∧ 0 ≤ n ∧ n < (cs.length : Nat) ∧ (n ∉ ns → ns.length < 400) ∧
  (n ∈ ns → Q (.bl false) H) ∧ (n ∉ ns → ∀ H', Kf [A, I] H H' → SrAt K H' A I b.B (ns ++ [n]) → Q (.bl true) H')
def sp_Store_held (K : PySem.W.Frag) : Sp := fun vs H Q _ => ∃ (A I B : Addr) (ns : List Int), vs = [.ref A] ∧ SrAt K H A I B ns ∧
  ∀ (L : Addr) (ns' : List Int), H L = none → ns'.Perm ns → ns'.Pairwise (· ≤ ·) → Q (.ref L) (upd H L (.lst (ns'.map V.int)))
def sp_Store_view (K : PySem.W.Frag) : Sp := fun vs H Q _ => ∃ (A I : Addr) (b : BkA) (cs : List Ct) (as : List Addr) (ns : List Int), vs = [.ref A] ∧ HdC K ∧ SrAt K H A I b.B ns ∧ BkAt K H b cs as ∧ NmOk cs ns ∧
  ∀ (h : HlA) (ns' : List Int) (H' : Hp), Same H H' → H h.A = none → H h.I = none → H h.O = none → ns'.Perm ns → HlAt K H' h b.B ns' → Q (.ref h.A) H'
end
section
variable [HasW] {K : PySem.W.Frag} {vs : List V} {H : Hp} {Q : VK} {E : XK}
theorem len_Book_parents (h : sp_Book_parents K vs H Q E) : vs.length = 2 := by obtain ⟨_, _, _, _, _, _, _, rfl, _⟩ := h; rfl
theorem len_Holding_init (h : sp_Holding_init K vs H Q E) : vs.length = 3 := by obtain ⟨_, _, _, _, _, _, _, rfl, _⟩ := h; rfl
theorem len_Holding_versions (h : sp_Holding_versions K vs H Q E) : vs.length = 1 := by obtain ⟨_, _, _, _, _, rfl, _⟩ := h; rfl
theorem len_Holding_has_parents (h : sp_Holding_has_parents K vs H Q E) : vs.length = 2 := by obtain ⟨_, _, _, _, _, _, _, _, _, rfl, _⟩ := h; rfl
theorem len_Holding_edges (h : sp_Holding_edges K vs H Q E) : vs.length = 1 := by obtain ⟨_, _, _, _, _, rfl, _⟩ := h; rfl
theorem len_Store_init (h : sp_Store_init K vs H Q E) : vs.length = 2 := by obtain ⟨_, _, _, rfl, _⟩ := h; rfl
theorem len_Store_put (h : sp_Store_put K vs H Q E) : vs.length = 2 := by obtain ⟨_, _, _, _, _, _, _, rfl, _⟩ := h; rfl
theorem len_Store_held (h : sp_Store_held K vs H Q E) : vs.length = 1 := by obtain ⟨_, _, _, _, rfl, _⟩ := h; rfl
theorem len_Store_view (h : sp_Store_view K vs H Q E) : vs.length = 1 := by obtain ⟨_, _, _, _, _, _, rfl, _⟩ := h; rfl
end
section
variable [HasW]
abbrev N_Book_parents : List Str := ["self", "version"]
def t_Book_parents (K : PySem.W.Frag) : TS := (tRet (tOp (rIx K) (tMeth (He.ga K "Book") "thing" (sp_Book_thing K) [] E0 (tVar 0) (tCons (tVar 1) tNil)) (tC (.int 1))))
abbrev N_Holding_init : List Str := ["self", "book", "names", "name"]
def t_Holding_init (K : PySem.W.Frag) : TS := (tSeq (tFor (iList K (tVar 2)) (gName 3) (tIfS (tNot (tB (tMeth (He.ga K "Book") "is_name" (sp_Book_is_name K) [] E0 (tVar 1) (tCons (tVar 3) tNil)))) tNever tNext))
    (tSeq (sFld K (tVar 0) (tVar 1) "book")
    (tSeq (sFld K (tVar 0) (tDc (iList K (tVar 2)) (gName 3) tYes (tVar 3) (tC (.bl true)) [3]) "inside")
    (sFld K (tVar 0) (tCB rSortK (tCons (tFld K (tVar 0) "inside") tNil)) "ordered"))))
abbrev N_Holding_versions : List Str := ["self", "name"]
def t_Holding_versions (K : PySem.W.Frag) : TS := (tRet (tLc (iList K (tFld K (tVar 0) "ordered")) (gName 1) (tTest (tOp rEq (tMeth (He.ga K "Book") "kind" (sp_Book_kind K) [] E0 (tFld K (tVar 0) "book") (tCons (tVar 1) tNil)) (tC (.str "version")))) (tVar 1) [1]))
abbrev N_Holding_has_parents : List Str := ["self", "version", "parent"]
def t_Holding_has_parents (K : PySem.W.Frag) : TS := (tRet (tCB (rAll K) (tCons (tLc (iTup K (tMeth (He.ga K "Book") "parents" (sp_Book_parents K) [] E0 (tFld K (tVar 0) "book") (tCons (tVar 1) tNil))) (gName 2) tYes (tDIn (tVar 2) (tFld K (tVar 0) "inside")) [2]) tNil)))
abbrev N_Holding_edges : List Str := ["self", "version"]
def t_Holding_edges (K : PySem.W.Frag) : TS := (tRet (tLc (iList K (tMeth (He.ga K "Holding") "versions" (sp_Holding_versions K) [] E0 (tVar 0) tNil)) (gName 1) (tNot (tB (tMeth (He.ga K "Holding") "has_parents" (sp_Holding_has_parents K) [] E0 (tVar 0) (tCons (tVar 1) tNil)))) (tVar 1) [1]))
abbrev N_Store_init : List Str := ["self", "book"]
def t_Store_init (K : PySem.W.Frag) : TS := (tSeq (sFld K (tVar 0) (tVar 1) "book")
    (tSeq (sFld K (tVar 0) tDNewK "inside")
    (sFld K (tVar 0) (tC (.int 0)) "many_changes")))
abbrev N_Store_put : List Str := ["self", "name"]
def t_Store_put (K : PySem.W.Frag) : TS := (tSeq (tIfS (tNot (tB (tMeth (He.ga K "Book") "is_name" (sp_Book_is_name K) [] E0 (tFld K (tVar 0) "book") (tCons (tVar 1) tNil)))) tNever tNext)
    (tSeq (tIfS (tB (tDIn (tVar 1) (tFld K (tVar 0) "inside"))) (tRet (tC (.bl false))) tNext)
    (tSeq (sDPut (tFld K (tVar 0) "inside") (tVar 1) (tC (.bl true)))
    (tSeq (sFldAug K (tVar 0) (tC (.int 1)) rAdd "many_changes")
    (tRet (tC (.bl true)))))))
abbrev N_Store_held : List Str := ["self"]
def t_Store_held (K : PySem.W.Frag) : TS := (tRet (tCB rSortK (tCons (tFld K (tVar 0) "inside") tNil)))
abbrev N_Store_view : List Str := ["self"]
def t_Store_view (K : PySem.W.Frag) : TS := (tRet (tMake (He.ga K "Holding") (sp_Holding_init K) [] E0 (tCons (tFld K (tVar 0) "book") (tCons (tMeth (He.ga K "Store") "held" (sp_Store_held K) [] E0 (tVar 0) tNil) tNil))))
end
section
variable [HasW] {K : PySem.W.Frag} {vs : List V} {H : Hp} {Q : VK} {E : XK}
theorem pure_Book_parents (h : sp_Book_parents K vs H Q E) : t_Book_parents K { nx := fun _ H' => Q .non H', rt := Q } (start N_Book_parents vs) H := by
  obtain ⟨b, cs, as, i, ps, r, s, rfl, bk, hi, k⟩ := h
  obtain ⟨a, ha, hc⟩ := bk.at_.get hi
  obtain ⟨p, h1, h2⟩ := id hc
  exact bk.me (by decide) rfl ⟨_, rfl, b, cs, as, i, a, rfl, bk, ha, ixT h1 rfl (k p h2)⟩
theorem pure_Holding_versions (h : sp_Holding_versions K vs H Q E) : t_Holding_versions K { nx := fun _ H' => Q .non H', rt := Q } (start N_Holding_versions vs) H := by
  obtain ⟨h, b, cs, as, ns, rfl, hl, bk, nm, k⟩ := h
  dsimp only [t_Holding_versions, tRet, tLc, iList]
  refine hl.fO rfl ⟨h.O, rfl, ⟨_, sqL hl.hO⟩, fun L nL => ?_⟩
  refine lc_filt (ns := ns) (p := isV cs) (walk_list (xs := ns.map V.int)) (fun i H x H' y => ⟨y.1, y.2⟩) (by show 1 < 2; decide) nL (by rw [List.length_map]) (by rw [List.length_map]; have := hl.few; omega) (fun H' s => sqL (s _ _ hl.hO)) ?_ fun H' s hL => k L H' s nL hL
  intro v H' R hv s q
  obtain ⟨m, c, rfl, hm⟩ := nm.get hv
  rw [isV_at hm] at q
  dsimp only [tTest, tOp, tMeth]
  refine (hl.same s).fB rfl ?_
  refine (bk.same s).meF (m := "kind") (by decide) ?_
  exact ⟨_, rfl, b, cs, as, m, c, rfl, bk.same s, hm, rfl, _, rfl, by rw [strD]; exact q _ (Same.refl _)⟩
theorem pure_Holding_has_parents (h : sp_Holding_has_parents K vs H Q E) : t_Holding_has_parents K { nx := fun _ H' => Q .non H', rt := Q } (start N_Holding_has_parents vs) H := by
  obtain ⟨h, b, cs, as, ns, i, ps, r, s, rfl, hl, bk, hi, k⟩ := h
  have fo := (bk.ok _ (List.mem_of_getElem? hi)).1
  have lp : ps.length ≤ 4 := fo.1
  dsimp only [t_Holding_has_parents, tRet, tLc, iTup, tCB, tCons, tMeth]
  refine hl.fB rfl ?_
  obtain ⟨dxb, fsb, hxb, _, _, _, hmb⟩ := id bk.bo
  refine ⟨b.B, dxb, fsb, rfl, hxb, hmb "parents" (by decide), ?_⟩
  refine ⟨_, rfl, b, cs, as, i, ps, r, s, rfl, bk, hi, fun p hp => ⟨p, rfl, ⟨_, sqT hp⟩, fun L nL => ?_⟩⟩
  refine lc_grow (walk_tup (xs := ps.map V.int)) yAt (ys := ps.map fun p => V.bl (decide (p ∈ ns))) nL (by rw [List.length_map, List.length_map]) (by rw [List.length_map]; omega) (fun H' s => sqT (s _ _ hp)) ?_ ?_
  · rintro j x y H' R hj ⟨_, hx⟩ hy s q
    rw [List.getElem?_map] at hx hy
    cases e : ps[j]? with
    | none => rw [e] at hx; cases hx
    | some n =>
      rw [e] at hx hy
      cases Option.some.inj hx
      cases Option.some.inj hy
      obtain ⟨is, hI, m⟩ := (hl.same s).hI
      refine ⟨rfl, _, rfl, (hl.same s).fI rfl ⟨h.I, _, rfl, DGet.k (k := Sum.inl n) hI, ?_⟩⟩
      rw [nmD_some, show decide (n ∈ is) = decide (n ∈ ns) from decide_eq_decide.mpr (m n)]
      exact q _ (Same.refl _)
  · intro H' s hL
    refine ⟨L, ps.map fun p => decide (p ∈ ns), rfl, sqL (by rw [hL, List.map_map]; rfl), ?_⟩
    rw [show (ps.map fun p => decide (p ∈ ns)).all id = ps.all fun p => decide (p ∈ ns) from ints_all ps _]
    exact k _ s
theorem pure_Holding_edges (h : sp_Holding_edges K vs H Q E) : t_Holding_edges K { nx := fun _ H' => Q .non H', rt := Q } (start N_Holding_edges vs) H := by
  obtain ⟨h, b, cs, as, ns, rfl, hl, bk, nm, k⟩ := h
  refine hl.me rfl rfl ⟨h, b, cs, as, ns, rfl, hl, bk, nm, fun L1 H1 s1 nL1 hL1 => ⟨L1, rfl, ⟨_, sqL hL1⟩, fun L nL => ?_⟩⟩
  have lf : (ns.filter (isV cs)).length ≤ 400 := Nat.le_trans (List.length_filter_le _ _) hl.few
  have nL0 : H L = none := by
    cases e : H L with
    | none => rfl
    | some o => rw [s1 _ _ e] at nL; cases nL
  refine lc_filt (ns := ns.filter (isV cs)) (p := fun n => !(parsOf cs n).all fun p => decide (p ∈ ns)) (walk_list (xs := (ns.filter (isV cs)).map V.int)) (fun i H x H' y => ⟨y.1, y.2⟩) (by show 1 < 2; decide) nL (by rw [List.length_map]) (by rw [List.length_map]; omega) (fun H' s => sqL (s _ _ hL1)) ?_ fun H' s hL => k L H' (s1.trans s) nL0 hL
  intro v H' R hv s q
  have s2 := s1.trans s
  obtain ⟨hv1, hv2⟩ := List.mem_filter.mp hv
  obtain ⟨m, c, rfl, hm⟩ := nm.get hv1
  obtain ⟨ps, r, st, rfl⟩ := isV_ver hm hv2
  refine (hl.same s2).me rfl rfl ⟨_, rfl, h, b, cs, as, ns, m, ps, r, st, rfl, hl.same s2, bk.same s2, hm, fun H'' s'' => ⟨_, rfl, ?_⟩⟩
  rw [show parsOf cs (m : Int) = ps from parsOf_at hm] at q
  exact q _ s''
/-- a list's ints as a dict's keys -/
theorem tDc_setL {σ : L2.St} {s : Nat} {te : TE} {a : Addr} {ns : List Int} (hte : ∀ R : VK, R (.ref a) H → te σ H R) (hs : s < σ.length) (ha : H a = some (.lst (ns.map V.int))) (nd : ns.Nodup) (hz : ns.length ≤ 1000)
    (hd : ∀ F, H F = none → Q (.ref F) (upd H F (.dK (nmD ns)))) : tDc (iList K te) (gName s) tYes (tVar s) (tC (.bl true)) [s] σ H Q := by
  refine hte _ ⟨a, rfl, ⟨_, sqL ha⟩, fun F nF => ?_⟩
  have up : ∀ kvs, Same H (upd H F (.dK kvs)) := fun kvs b o e => updN (ne_of_none e nF) e
  refine ⟨fun i m H2 => m = ns.length - i ∧ i ≤ ns.length ∧ H2 = upd H F (.dK (nmD (ns.take i))), ⟨ns.length, by omega, Nat.zero_le _, by rw [List.take_zero]; rfl⟩, ?_⟩
  rintro i m H2 ⟨em, hi, rfl⟩
  by_cases h : i < ns.length
  · have hv : ns[i]? = some ns[i] := List.getElem?_eq_getElem h
    refine .inr ⟨⟨_, V.int ns[i], sqL (up _ _ _ ha), by rw [List.getElem?_map, hv]; rfl⟩, fun H3 => H3 = upd H F (.dK (nmD (ns.take (i + 1)))), fun H' e => ⟨ns.length - (i + 1), by omega, rfl, h, e⟩, ?_⟩
    rintro x H3 ⟨rfl, hx⟩
    have hx := hx _ (sqL (up _ _ _ ha))
    rw [List.getElem?_map, hv] at hx
    cases Option.some.inj hx
    refine ⟨by show (((σ.set s none).set s _).set s none) = σ.set s none; rw [List.set_set, List.set_set], ?_⟩
    dsimp only [tYes]
    rw [if_pos rfl]
    refine ⟨_, List.getElem?_set_self (show s < (σ.set s none).length by rw [List.length_set]; exact hs), nmD (ns.take i), Sum.inl ns[i], rfl, updS, ?_, ?_⟩
    · rw [List.length_map]
      exact Nat.lt_of_le_of_lt (by rw [List.length_take]; omega : (ns.take i).length ≤ 1000) (by decide)
    · have nin : ns[i] ∉ ns.take i := fun hm => by
        obtain ⟨j, hj, e⟩ := List.getElem_of_mem hm
        rw [List.length_take] at hj
        rw [List.getElem_take] at e
        have : j = i := (List.getElem_inj nd).mp e
        omega
      rw [upd_upd, nmD_put nin, List.take_succ, hv]
      rfl
  · have e : i = ns.length := by omega
    subst e
    refine .inl ⟨⟨_, sqL (up _ _ _ ha), by rw [List.length_map]; exact Nat.le_refl _⟩, ?_⟩
    rw [List.take_length]
    exact hd F nF
theorem perm_lt {ns ns' : List Int} (p : ns'.Perm ns) (i : ns'.Pairwise (· ≤ ·)) (nd : ns.Nodup) : ns'.Pairwise (· < ·) :=
  List.Pairwise.imp₂ (fun a b h1 h2 => by omega) i (p.nodup_iff.mpr nd)
theorem pure_Holding_init (h : sp_Holding_init K vs H Q E) : t_Holding_init K { nx := fun _ H' => Q .non H', rt := Q } (start N_Holding_init vs) H := by
  obtain ⟨x, dx, n, b, cs, as, ns, rfl, hc, hx, bk, hn, nd, nm, few, k⟩ := h
  refine ⟨_, rfl, n, rfl, ⟨_, sqL hn⟩, ?_⟩
  refine for_it (walk_list (xs := ns.map V.int)) (fun i σ H' => H' = H ∧ ∃ z, σ = [some (.ref x), some (.ref b.B), some (.ref n), z]) ⟨rfl, _, rfl⟩ (fun i σ H' _ e => by rw [e.1]; exact sqL hn) ?_ ?_
  · rintro i y σ H2 H3 hi ⟨rfl, z, rfl⟩ ⟨rfl, hy⟩
    rw [List.getElem?_map] at hy
    cases e : ns[i]? with
    | none => rw [e] at hy; cases hy
    | some v =>
      rw [e] at hy
      cases Option.some.inj hy
      have hv := nm v (List.mem_of_getElem? e)
      refine bk.meV (by decide) rfl ⟨_, rfl, b, cs, as, v, rfl, bk, _, rfl, ?_⟩
      rw [decide_eq_true hv.1, decide_eq_true (show v < (cs.length : Nat) by omega)]
      exact iteF ⟨rfl, _, rfl⟩
  · rintro σ H2 ⟨rfl, z, rfl⟩
    refine ⟨_, rfl, _, rfl, x, _, dx, _, rfl, hx, hc.cl, hc.n1, by decide, ?_⟩
    have s1 : ∀ a o, H2 a = some o → a ≠ x → upd H2 x (.ins (He.ga K "Holding") dx (putF "book" (.ref b.B) [])) a = some o := fun a o e ne => updN ne e
    have hx1 : upd H2 x (.ins (He.ga K "Holding") dx (putF "book" (.ref b.B) [])) x = some (.ins (He.ga K "Holding") dx [("book", .ref b.B)]) := updS
    have nnx : n ≠ x := ne_of hn hx (by intro z; cases z)
    have hn1 := s1 _ _ hn nnx
    generalize upd H2 x (.ins (He.ga K "Holding") dx (putF "book" (.ref b.B) [])) = H3 at s1 hx1 hn1
    dsimp only [tSeq, sFld]
    refine tDc_setL (fun R r => ⟨_, rfl, r⟩) (by show 3 < 4; decide) hn1 nd (by omega) fun I nI => ?_
    have nxI : x ≠ I := ne_of_none hx1 nI
    have nI0 : H2 I = none := by
      cases e : H2 I with
      | none => rfl
      | some o => rw [s1 _ _ e nxI.symm] at nI; cases nI
    refine ⟨_, rfl, x, _, dx, _, rfl, updN nxI hx1, hc.cl, hc.n2, by show (1 : Nat) < 1000; decide, ?_⟩
    refine ⟨_, rfl, x, _, dx, _, _, rfl, updS, hc.cl, hc.n2, rfl, I, nmD ns, ns, rfl, updN nxI.symm updS, nmD_keys ns, fun ns' O pm inc nO => ?_⟩
    have nxO : x ≠ O := ne_of_none updS nO
    have nIO : I ≠ O := ne_of_none (updN nxI.symm updS) nO
    have nO0 : H2 O = none := by
      cases e : H2 O with
      | none => rfl
      | some o => rw [updN nxO.symm (updN nIO.symm (s1 _ _ e nxO.symm))] at nO; cases nO
    refine ⟨_, rfl, x, _, dx, _, rfl, updN nxO updS, hc.cl, hc.n3, by show (2 : Nat) < 1000; decide, ?_⟩
    refine k ⟨x, I, O⟩ ns' _ rfl (fun a o e ne => updN ne (updN (ne_of_none e nO0) (updN ne (updN (ne_of_none e nI0) (s1 _ _ e ne))))) nI0 nO0 pm ?_
    exact ⟨hc, ⟨dx, updS⟩, ⟨ns, updN nxI.symm (updN nIO (updN nxI.symm updS)), fun m => (pm.mem_iff (a := m)).symm⟩, updN nxO.symm updS, perm_lt pm inc nd, by rw [pm.length_eq]; exact few⟩
theorem pure_Store_init (h : sp_Store_init K vs H Q E) : t_Store_init K { nx := fun _ H' => Q .non H', rt := Q } (start N_Store_init vs) H := by
  obtain ⟨x, dx, B, rfl, sc, hx, k⟩ := h
  refine ⟨_, rfl, _, rfl, x, _, dx, _, rfl, hx, sc.cl, sc.n1, by decide, ?_⟩
  refine fun I nI => ?_
  have nxI : x ≠ I := ne_of_none updS nI
  have nI0 : H I = none := by rw [upd_ne nxI.symm] at nI; exact nI
  refine ⟨_, rfl, x, _, dx, _, rfl, updN nxI updS, sc.cl, sc.n2, by show (1 : Nat) < 1000; decide, ?_⟩
  refine ⟨_, rfl, x, _, dx, _, rfl, updS, sc.cl, sc.n3, by show (2 : Nat) < 1000; decide, ?_⟩
  exact k I _ (fun a o e ne => updN ne (updN ne (updN (ne_of_none e nI0) (updN ne e)))) nI0 ⟨sc, ⟨dx, 0, updS⟩, updN nxI.symm (updN nxI.symm updS), List.nodup_nil, Nat.zero_le _⟩
theorem pure_Store_put (h : sp_Store_put K vs H Q E) : t_Store_put K { nx := fun _ H' => Q .non H', rt := Q } (start N_Store_put vs) H := by
  obtain ⟨A, I, b, cs, as, ns, n, rfl, st, bk, n0, n1, few, k1, k2⟩ := h
  dsimp only [t_Store_put, tSeq, tIfS, tNot, tB, tMeth]
  refine st.fB rfl ?_
  refine bk.meF (m := "is_name") (by decide) ?_
  refine ⟨_, rfl, b, cs, as, n, rfl, bk, _, rfl, ?_⟩
  rw [decide_eq_true n0, decide_eq_true n1]
  refine iteF ?_
  refine ⟨_, rfl, ?_⟩
  show tFld K (tVar 0) "inside" _ _ _
  refine st.fI rfl ?_
  refine ⟨I, _, rfl, DGet.k (k := Sum.inl n) st.hI, _, rfl, ?_⟩
  rw [nmD_some]
  by_cases hm : n ∈ ns
  · rw [decide_eq_true hm]
    exact iteT (k1 hm)
  · rw [decide_eq_false hm]
    refine iteF ?_
    dsimp only [tNext, tSeq, sDPut, tC]
    refine st.fI rfl ?_
    obtain ⟨dx, m, hA⟩ := st.so
    have nAI : A ≠ I := ne_of hA st.hI (by intro z; cases z)
    refine ⟨_, rfl, I, _, rfl, DPut.k (k := Sum.inl n) st.hI (by rw [List.length_map]; exact Nat.lt_of_le_of_lt st.few (by decide)), ?_⟩
    rw [nmD_put hm]
    refine ⟨_, rfl, A, _, dx, _, _, rfl, updN nAI hA, st.sc.cl, st.sc.n3, rfl, _, _, rfl, rfl, _, _, updN nAI hA, by show (3 : Nat) < 1000; decide, ?_⟩
    exact k2 hm _ ((Kf.refl.up (by simp)).up (by simp)) ⟨st.sc, ⟨dx, m + 1, updS⟩, updN nAI.symm updS, by
      rw [List.nodup_append]
      exact ⟨st.nd, by simp, fun a ha c hc e => hm (by rw [List.mem_singleton.mp hc] at e; rw [← e]; exact ha)⟩, by rw [List.length_append, List.length_singleton]; have := few hm; omega⟩
theorem pure_Store_held (h : sp_Store_held K vs H Q E) : t_Store_held K { nx := fun _ H' => Q .non H', rt := Q } (start N_Store_held vs) H := by
  obtain ⟨A, I, B, ns, rfl, st, k⟩ := h
  dsimp only [t_Store_held, tRet, tCB, tCons]
  refine st.fI rfl ?_
  exact ⟨I, nmD ns, ns, rfl, st.hI, nmD_keys ns, fun ns' p pm inc np => k p ns' np pm inc⟩
theorem pure_Store_view (h : sp_Store_view K vs H Q E) : t_Store_view K { nx := fun _ H' => Q .non H', rt := Q } (start N_Store_view vs) H := by
  obtain ⟨A, I, b, cs, as, ns, rfl, hc, st, bk, nm, k⟩ := h
  dsimp only [t_Store_view, tRet, tMake, tCons]
  refine st.fB rfl ?_
  refine st.me (fun _ => rfl) rfl ?_
  refine ⟨A, I, b.B, ns, rfl, st, fun L ns1 nL pm inc => ?_⟩
  intro x dx nx ndx ne
  have s1 : Same H (upd H L (.lst (ns1.map V.int))) := samN nL
  have hL : upd H L (.lst (ns1.map V.int)) L = some (.lst (ns1.map V.int)) := updS
  generalize upd H L (.lst (ns1.map V.int)) = H1 at s1 hL nx ndx
  have s2 : Same H1 (upd (upd H1 dx (.own x)) x (.ins (He.ga K "Holding") dx [])) := fun b o e => updN (ne_of_none e nx) (updN (ne_of_none e ndx) e)
  have s12 := s1.trans s2
  have fr : ∀ {y : Addr}, upd (upd H1 dx (.own x)) x (.ins (He.ga K "Holding") dx []) y = none → H y = none := by
    intro y e
    cases q : H y with
    | none => rfl
    | some o => rw [s12 _ _ q] at e; cases e
  have nx0 : H x = none := by
    cases q : H x with
    | none => rfl
    | some o => rw [s1 _ _ q] at nx; cases nx
  refine ⟨x, dx, L, b, cs, as, ns1, rfl, hc, updS, bk.same s12, s2 _ _ hL, pm.nodup_iff.mpr st.nd, fun n hn => nm n (pm.mem_iff.mp hn), by rw [pm.length_eq]; exact st.few, fun h ns' H' eA kp nI nO pm2 hl => ⟨rfl, ?_⟩⟩
  subst eA
  exact k h ns' H' (fun a o e => kp a o (s12 a o e) (ne_of_none e nx0)) nx0 (fr nI) (fr nO) (pm2.trans pm) hl
end
end Fw

set_option Elab.async false
set_option linter.all false
set_option maxRecDepth 100000
set_option maxHeartbeats 4000000
/-! str(x), x of an own class with its own __str__. -/
namespace Fw
open PySem PySem.Spec PyProof.Rows L2
section
variable {X : Cx} {CX : CXT} {k : Nat} {f C : Addr} {fd : FuncData} {ps : List Str} {sp : Sp} {E1 : XK}
theorem room_in2 {k : Nat} {A : Around} (r : Room (k + 1) A) : Room k A.in1.in1 :=
  ⟨r.hd, by have := r.dp; show A.depth + 3 * k + 5 < _; omega, by have := r.un; show A.units + 1 + 1 + 16 * k + 200 < _; omega⟩
def rStrC (C : Addr) (sp : Sp) (E : XK) : List V → Hp → VK → Prop := fun xs H Q => ∃ a dx fs, xs = [.ref a] ∧ H a = some (.ins C dx fs) ∧ sp [.ref a] H (fun v H' => ∃ z : Str, v = .str z ∧ Q (.str z) H') E
theorem call_strC (F : FnOk X.prog X.w X.K X.mg X.base CX k f fd ps sp) (hm : Meth X.K C "__str__" f) (hr : Room (k + 1) X.A) (hb : Binds X.K fd ps []) (hx : Passes CX X E1) : CallR X (.type "str") (rStrC C sp E1) := by
  intro pins s σ H xs us Q I r h
  obtain ⟨a, dx, fs, rfl, ha, q⟩ := h
  obtain rfl : us = [Value.ref a] := by
    cases r with
    | cons h t =>
      cases t
      obtain rfl := (show _ = Value.ref a from h)
      rfl
  obtain ⟨mA, J, _⟩ := ins_get I.hok ha
  obtain ⟨od, J, _⟩ := J.look
  refine PySem.W.kso_call (room_in2 hr).units0 I.kIn J hm.at_ hm.fn ?_
  have e0 : Env0 X.prog X.w X.K X.mg X.base X.A.in1.in1 X.stack s H := by
    have e := I.env0
    exact ⟨e.frames, e.mod, e.bs, e.bsz, e.funs, e.frf, e.hok, e.bare⟩
  have hl := F.len _ _ _ _ q
  refine wpAny_call (codeAny_mono (F.run X.A.in1.in1 X.stack s H ⟨[.ref a], []⟩ [.ref a] [.ref a] _ E1 (room_in2 hr) e0 (by
    have := hb s [.ref a] I.kIn (by simpa using hl)
    simpa using this) (.cons rfl .nil) q) fun r s' hq => ?_)
  cases r with
  | error e => exact hx pins σ H s e s' I hq
  | ok fl =>
    cases fl with
    | ret w =>
      obtain ⟨z, H', I', rz, n, ez, hz⟩ := I.after hq
      subst ez
      obtain ⟨t, rfl⟩ : ∃ t, w = .str n t := rz
      exact ⟨.str n, H', I', ⟨_, rfl⟩, hz⟩
    | next => exact False.elim hq
    | brk => exact False.elim hq
    | cont => exact False.elim hq
end
end Fw

set_option Elab.async false
set_option linter.all false
set_option maxRecDepth 100000
set_option maxHeartbeats 4000000
/-! x != x, x of an own class that has neither __eq__ nor __ne__ of its own. -/
namespace Fw
open PySem PySem.Spec PySem.Calls PyProof.Rows
structure ObjCmp (K : PySem.W.Frag) (C : Addr) : Prop where
  mro : PySem.W.mroIn K C (.type "object") = some true
  eq : PySem.W.findIn K (.ref C) "__eq__" = some (some (.builtin "object.__eq__"))
  ne : PySem.W.findIn K (.ref C) "__ne__" = some (some (.builtin "object.__ne__"))
section
variable {prog : Program} {w : World} {A : Around} {E : Value → Shared → Prop} {s : Shared} {K : PySem.W.Frag} {x C : Addr} {ox : Obj} {od : Option Obj}
theorem call_objEqS {Q : Value → Shared → Prop} (X : K.In s.heap) (I : PySem.W.InstAt s.heap x ox C od) (hm : PySem.W.mroIn K C (.type "object") = some true) (hq : Q (.bool true) s) :
    wpAny (model prog w) A (call (.builtin "object.__eq__") [.ref x, .ref x]) Q E s :=
  wpAny_call (codeAny_call_builtin F.cmp_object.eq.plain F.cmpEntry_eq (PySem.W.check_slot F.cmpKind_eq F.cmpSplit_eq (I.type.andThen (PySem.W.looks_mroIn X hm)) (F.cmpArgs_eq _ _) (objEq_entry_same hq)))
theorem objNe_entryS {Q : Fin → Shared → Prop} (hu : A.units < cLine) (X : K.In s.heap) (I : PySem.W.InstAt s.heap x ox C od) (c : ObjCmp K C) (hq : Q (.done (.ret (.bool false))) s) :
    wpAny (model prog w) A (Builtin.«object.__ne__» ⟨[.ref x, .ref x], []⟩) Q E s := by
  unfold Builtin.«object.__ne__»
  repeat (first | with_reducible refine wpAny_cRoomFor hu ?_ | with_reducible refine HN.ifBound_objEq X I c.eq (call_objEqS X I c.mro ?_) | wp_step)
  exact hq
theorem ifBound_objNeS {args : List Value} {Q : Option Value → Shared → Prop} (X : K.In s.heap) (I : PySem.W.InstAt s.heap x ox C od) (hs : PySem.W.findIn K (.ref C) "__ne__" = some (some (.builtin "object.__ne__")))
    (h : wpAny (model prog w) A (call (.builtin "object.__ne__") (.ref x :: args)) (fun v => Q (some v)) E s) : wpAny (model prog w) A (callSpecialIfBound? (.ref x) "__ne__" args) Q E s := by
  simp only [callSpecialIfBound?, bindSpecialIfBound?]
  refine wpAny_holding (wpAny_bind (wpAny_bind (wpAny_bind (I.type.here ((PySem.W.looks_findIn X hs).here ?_)))))
  refine wpAny_bind (wpAny_askSetting (wpAny_ite ?_))
  have fin : wpAny (model prog w) A (call (.builtin "object.__ne__") ([.ref x] ++ args) >>= fun v => pure (some v)) Q E s := wpAny_bind (wpAny_mono h (fun v s' h' => wpAny_pure h') fun _ _ h' => h')
  split
  · exact wpAny_bind (wpAny_of_eq (F.cmp_object.ne.bind _) (wpAny_pure (by exact fin)))
  · exact wpAny_tryCatch (wpAny_bind (wpAny_of_eq (F.cmp_object.ne.bind _) (wpAny_pure (by exact fin))))
theorem rc_neS (hu : A.units + 1 < cLine) (X : K.In s.heap) (I : PySem.W.InstAt s.heap x ox C od) (c : ObjCmp K C) {Q : Value → Shared → Prop} (h : Q (.bool false) s) : wpAny (model prog w) A (richCompare .NotEq (.ref x) (.ref x)) Q E s := by
  have hu0 : A.units < cLine := Nat.lt_of_succ_lt hu
  have one : wpAny (model prog w) A (tryCompare (.ref x) "__ne__" (.ref x)) (fun r s' => r = some (.bool false) ∧ s' = s) E s := by
    unfold tryCompare
    refine wpAny_bind (ifBound_objNeS X I c.ne (wpAny_call (codeAny_call_builtin F.cmp_object.ne.plain F.cmpEntry_ne (PySem.W.check_slot F.cmpKind_ne F.cmpSplit_ne (I.type.andThen (PySem.W.looks_mroIn X c.mro)) (F.cmpArgs_ne _ _) (objNe_entryS (A := A.in1) hu X I c ?_)))))
    exact wpAny_pure ⟨rfl, rfl⟩
  simp only [richCompare, cmpInfo_NotEq, oneThing_ref]
  refine wpAny_holding (wpAny_bind (wpAny_cRoomFor hu0 ?_))
  refine wpAny_bind (I.type.here ?_)
  refine wpAny_bind (I.type.here ?_)
  split
  · rename_i q
    exact absurd q (by simp)
  · refine wpAny_bind (m := tryCompare (.ref x) _ (.ref x)) (wpAny_mono one (fun r s1 z => ?_) fun _ _ e => e)
    obtain ⟨z1, z2⟩ := z
    subst z1
    subst z2
    first
      | exact wpAny_pure h
      | exact wpAny_bind (wpAny_pure h)
      | exact wpAny_bind (wpAny_rule (wpAny_pure h))
      | exact wpAny_rule (wpAny_pure h)
end
open L2
/-- x != x, x of a class without an __eq__ of its own -/
def rNeSame (K : PySem.W.Frag) : R2 := fun x y H Q => ∃ a C dx fs, x = .ref a ∧ y = .ref a ∧ H a = some (.ins C dx fs) ∧ ObjCmp K C ∧ Q (.bl false) H
theorem op_neSame {X : Cx} {k : Nat} (hr : Room k X.A) : OpR X (compareOp .NotEq) (rNeSame X.K) := by
  intro pins s σ H x y v u Q I rx ry h
  obtain ⟨a, C, dx, fs, rfl, rfl, ha, c, q⟩ := h
  cases rx
  cases ry
  obtain ⟨mA, J, _⟩ := ins_get I.hok ha
  obtain ⟨od, J, _⟩ := J.look
  show wpAny (model X.prog X.w) X.A (richCompare .NotEq (.ref a) (.ref a)) (EP X pins σ Q) X.xe s
  exact rc_neS (by have := hr.un; omega) I.kIn J c ⟨.bl false, H, I, rfl, q⟩
end Fw

set_option Elab.async false
set_option linter.all false
set_option maxRecDepth 100000
set_option maxHeartbeats 4000000
/-! A holding of any names, and what it tells of itself (law k06). -/
namespace Fw
open PySem L2 RZ RT
/-- data that is no int -/
def OddV (H : Hp) (x : V) : Prop := x = .non ∨ (∃ b, x = .bl b) ∨ (∃ z, x = .str z) ∨ (∃ a xs, x = .ref a ∧ H a = some (.tup xs)) ∨ (∃ a xs, x = .ref a ∧ H a = some (.lst xs)) ∨ ∃ a ks, x = .ref a ∧ H a = some (.dK ks)
theorem ki_b : kitB "bool" "int" = some true := by decide +kernel
theorem kb_b : kitB "bool" "bool" = some true := by decide +kernel
theorem ki_s : kitB "str" "int" = some false := by decide +kernel
theorem ki_t : kitB "tuple" "int" = some false := by decide +kernel
theorem ki_l : kitB "list" "int" = some false := by decide +kernel
theorem ki_d : kitB "dict" "int" = some false := by decide +kernel
theorem iOr_ints {K : PySem.W.Frag} {H : Hp} {σ : L2.St} {i : Nat} {a : Addr} {ns : List Int} {R : It → Hp → Prop} (e : σ[i]? = some (some (.ref a))) (hn : H a = some (.lst (ns.map V.int)) ∨ H a = some (.tup (ns.map V.int)))
    (r : ∀ (J : It) (G : Hp → Prop), Walk J (ns.map V.int).length G (YAt (ns.map V.int)) → (∀ H', H' a = H a → G H') → R J H) : iOr (iList K (tVar i)) (iTup K (tVar i)) σ H R := by
  rcases hn with h | h
  · exact .inl ⟨_, e, a, rfl, ⟨_, sqL h⟩, r _ _ walk_list fun H' e => sqL (e.trans h)⟩
  · exact .inr ⟨_, e, a, rfl, ⟨_, sqT h⟩, r _ _ walk_tup fun H' e => sqT (e.trans h)⟩
def insM (ns : List Int) (n : Int) : List Int := if n ∈ ns then ns else ns ++ [n]
theorem nmD_insM (ns : List Int) (n : Int) : putK (nmD ns) (.inl n) (.bl true) = nmD (insM ns n) := by
  unfold insM
  by_cases h : n ∈ ns
  · rw [if_pos h]
    unfold putK
    rw [if_pos (List.any_eq_true.mpr ⟨((Sum.inl n : Key), V.bl true), List.mem_map.mpr ⟨n, h, rfl⟩, decide_eq_true rfl⟩)]
    rw [List.map_map]
    refine List.map_congr_left fun m _ => ?_
    show (if (Sum.inl m : Key) = Sum.inl n then ((Sum.inl m : Key), V.bl true) else ((Sum.inl m : Key), V.bl true)) = _
    split <;> rfl
  · rw [if_neg h]
    exact nmD_put h
/-- names once each, in the order in which they come -/
def once (ns : List Int) : List Int := ns.foldl insM []
theorem once_snoc (ns : List Int) (n : Int) : once (ns ++ [n]) = insM (once ns) n := by
  unfold once
  rw [List.foldl_append]
  rfl
theorem insM_mem {ns : List Int} {n m : Int} : m ∈ insM ns n ↔ m ∈ ns ∨ m = n := by
  unfold insM
  split
  · rename_i h
    exact ⟨.inl, fun z => z.elim id fun e => by rw [e]; exact h⟩
  · rw [List.mem_append, List.mem_singleton]
theorem insM_nodup {ns : List Int} {n : Int} (h : ns.Nodup) : (insM ns n).Nodup := by
  unfold insM
  split
  · exact h
  · rename_i hn
    rw [List.nodup_append]
    exact ⟨h, by simp, fun y hy z hz e => hn (by rw [List.mem_singleton.mp hz] at e; rw [← e]; exact hy)⟩
theorem once_go : ∀ (ns acc : List Int), acc.Nodup → (ns.foldl insM acc).Nodup ∧ ∀ m, m ∈ ns.foldl insM acc ↔ m ∈ acc ∨ m ∈ ns
  | [], acc, h => ⟨h, fun m => by simp⟩
  | n :: ns, acc, h => by
    obtain ⟨h1, h2⟩ := once_go ns (insM acc n) (insM_nodup h)
    refine ⟨h1, fun m => ?_⟩
    rw [List.foldl_cons, h2 m, insM_mem, List.mem_cons, or_assoc]
theorem once_ok (ns : List Int) : (once ns).Nodup ∧ ∀ m, m ∈ once ns ↔ m ∈ ns := by
  obtain ⟨h1, h2⟩ := once_go ns [] List.nodup_nil
  exact ⟨h1, fun m => by rw [show once ns = ns.foldl insM [] from rfl, h2 m]; simp⟩
theorem once_len (ns : List Int) : (once ns).length ≤ ns.length := by
  have : ∀ (ns acc : List Int), (ns.foldl insM acc).length ≤ acc.length + ns.length := by
    intro ns
    induction ns with
    | nil => intro acc; exact Nat.le_refl _
    | cons n ns ih =>
      intro acc
      rw [List.foldl_cons, List.length_cons]
      have h1 := ih (insM acc n)
      have h2 : (insM acc n).length ≤ acc.length + 1 := by
        unfold insM
        split
        · omega
        · rw [List.length_append]; exact Nat.le_refl _
      omega
  have h := this ns []
  rw [List.length_nil, Nat.zero_add] at h
  exact h
theorem sub_len : ∀ {fs vs : List Int}, fs.Nodup → (∀ x ∈ fs, x ∈ vs) → fs.length ≤ vs.length
  | [], _, _, _ => Nat.zero_le _
  | x :: fs, vs, nd, h => by
    rw [List.nodup_cons] at nd
    have hx := h x List.mem_cons_self
    have e : (vs.erase x).length = vs.length - 1 := List.length_erase_of_mem hx
    have pos : 0 < vs.length := List.length_pos_of_mem hx
    have := sub_len (vs := vs.erase x) nd.2 fun y hy => (List.mem_erase_of_ne fun z => nd.1 (by rw [← z]; exact hy)).mpr (h y (List.mem_cons_of_mem _ hy))
    rw [List.length_cons]
    omega
theorem NmOk.lenM {cs : List Ct} {ns : List Int} (h : NmOk cs ns) (nd : ns.Nodup) : ns.length ≤ cs.length := by
  have := sub_len (vs := (List.range cs.length).map Int.ofNat) nd fun n hn => by
    have := h n hn
    obtain ⟨m, rfl⟩ := Int.eq_ofNat_of_zero_le this.1
    exact List.mem_map.mpr ⟨m, List.mem_range.mpr (by have := this.2; rwa [Int.toNat_natCast] at this), rfl⟩
  rwa [List.length_map, List.length_range] at this
/-- the text of a holding -/
def strS (ns : List Int) : Str := Txt.join " " (ns.map fun n => (toString n : Str))
section
variable [HasW]
def sp_is_intO (_ : PySem.W.Frag) : Sp := fun vs H Q _ => ∃ x, vs = [x] ∧ ((∃ i, x = .int i ∧ Q (.bl true) H) ∨ (OddV H x ∧ Q (.bl false) H))
def sp_Holding_inits (K : PySem.W.Frag) : Sp := fun vs H Q _ => ∃ (x dx n : Addr) (b : BkA) (cs : List Ct) (as : List Addr) (ns : List Int), vs = [.ref x, .ref b.B, .ref n] ∧ HdC K ∧ H x = some (.ins (He.ga K "Holding") dx []) ∧ BkAt K H b cs as ∧ (H n = some (.lst (ns.map V.int)) ∨ H n = some (.tup (ns.map V.int))) ∧ NmOk cs ns ∧ ns.length ≤ 1000 ∧
  ∀ (h : HlA) (ns' : List Int) (H' : Hp), h.A = x → (∀ a o, H a = some o → a ≠ x → H' a = some o) → H h.I = none → H h.O = none → (∀ m, m ∈ ns' ↔ m ∈ ns) → HlAt K H' h b.B ns' → Q .non H'
def sp_Holding_len (K : PySem.W.Frag) : Sp := fun vs H Q _ => ∃ (h : HlA) (B : Addr) (ns : List Int), vs = [.ref h.A] ∧ HlAt K H h B ns ∧ Q (.int (ns.length : Nat)) H
def sp_Holding_str (K : PySem.W.Frag) : Sp := fun vs H Q _ => ∃ (h : HlA) (B : Addr) (ns : List Int), vs = [.ref h.A] ∧ HlAt K H h B ns ∧ (∀ n ∈ ns, 0 ≤ n ∧ n.toNat < 400) ∧ ∀ H', Same H H' → Q (.str (strS ns)) H'
def sp_Holding_holds (K : PySem.W.Frag) : Sp := fun vs H Q _ => ∃ (h : HlA) (B : Addr) (ns : List Int) (x : V), vs = [.ref h.A, x] ∧ HlAt K H h B ns ∧ ((∃ i, x = .int i ∧ Q (.bl (decide (i ∈ ns))) H) ∨ (OddV H x ∧ Q (.bl false) H))
def sp_Holding_names (K : PySem.W.Frag) : Sp := fun vs H Q _ => ∃ (h : HlA) (B : Addr) (ns : List Int), vs = [.ref h.A] ∧ HlAt K H h B ns ∧ ∀ L, H L = none → Q (.ref L) (upd H L (.lst (ns.map V.int)))
end
section
variable [HasW] {K : PySem.W.Frag} {vs : List V} {H : Hp} {Q : VK} {E : XK}
theorem len_is_intO (h : sp_is_intO K vs H Q E) : vs.length = 1 := by obtain ⟨_, rfl, _⟩ := h; rfl
theorem len_Holding_inits (h : sp_Holding_inits K vs H Q E) : vs.length = 3 := by obtain ⟨_, _, _, _, _, _, _, rfl, _⟩ := h; rfl
theorem len_Holding_len (h : sp_Holding_len K vs H Q E) : vs.length = 1 := by obtain ⟨_, _, _, rfl, _⟩ := h; rfl
theorem len_Holding_str (h : sp_Holding_str K vs H Q E) : vs.length = 1 := by obtain ⟨_, _, _, rfl, _⟩ := h; rfl
theorem len_Holding_holds (h : sp_Holding_holds K vs H Q E) : vs.length = 2 := by obtain ⟨_, _, _, _, rfl, _⟩ := h; rfl
theorem len_Holding_names (h : sp_Holding_names K vs H Q E) : vs.length = 1 := by obtain ⟨_, _, _, rfl, _⟩ := h; rfl
end
section
variable [HasW]
abbrev N_is_intO : List Str := ["thing"]
def t_is_intO (K : PySem.W.Frag) : TS := (tRet (tAndV (tCB (rIsi K) (tCons (tVar 0) (tCons (tC (.ty "int")) tNil))) (tNotV (tCB (rIsi K) (tCons (tVar 0) (tCons (tC (.ty "bool")) tNil))))))
abbrev N_Holding_inits : List Str := ["self", "book", "names", "name"]
def t_Holding_inits (K : PySem.W.Frag) : TS := (tSeq (tFor (iOr (iList K (tVar 2)) (iTup K (tVar 2))) (gName 3) (tIfS (tNot (tB (tMeth (He.ga K "Book") "is_name" (sp_Book_is_name K) [] E0 (tVar 1) (tCons (tVar 3) tNil)))) tNever tNext))
    (tSeq (sFld K (tVar 0) (tVar 1) "book")
    (tSeq (sFld K (tVar 0) (tDc (iOr (iList K (tVar 2)) (iTup K (tVar 2))) (gName 3) tYes (tVar 3) (tC (.bl true)) [3]) "inside")
    (sFld K (tVar 0) (tCB rSortK (tCons (tFld K (tVar 0) "inside") tNil)) "ordered"))))
abbrev N_Holding_len : List Str := ["self"]
def t_Holding_len (K : PySem.W.Frag) : TS := (tRet (tCB (fLen K) (tCons (tFld K (tVar 0) "ordered") tNil)))
abbrev N_Holding_str : List Str := ["self", "name"]
def t_Holding_str (K : PySem.W.Frag) : TS := (tRet (tM1 (fJoin K) (tC (.str " ")) (tLc (iList K (tFld K (tVar 0) "ordered")) (gName 1) tYes (tCB rStrI (tCons (tVar 1) tNil)) [1])))
abbrev N_Holding_holds : List Str := ["self", "name"]
def t_Holding_holds (K : PySem.W.Frag) : TS := (tRet (tAndV (tCall (sp_is_intO K) [] E0 (tCons (tVar 1) tNil)) (tDIn (tVar 1) (tFld K (tVar 0) "inside"))))
abbrev N_Holding_names : List Str := ["self"]
def t_Holding_names (K : PySem.W.Frag) : TS := (tRet (tCB (fListOf K) (tCons (tFld K (tVar 0) "ordered") tNil)))
end
section
variable [HasW] {K : PySem.W.Frag} {vs : List V} {H : Hp} {Q : VK} {E : XK}
theorem pure_is_intO (h : sp_is_intO K vs H Q E) : t_is_intO K { nx := fun _ H' => Q .non H', rt := Q } (start N_is_intO vs) H := by
  obtain ⟨x, rfl, ⟨i, rfl, k⟩ | ⟨o, k⟩⟩ := h
  · exact ⟨_, rfl, isi (.base (.int i)) k_ii ⟨_, rfl, iteT ⟨_, rfl, isi (.base (.int i)) k_ib ⟨_, rfl, k⟩⟩⟩⟩
  · rcases o with rfl | ⟨b, rfl⟩ | ⟨z, rfl⟩ | ⟨a, xs, rfl, ha⟩ | ⟨a, xs, rfl, ha⟩ | ⟨a, ks, rfl, ha⟩
    · exact ⟨_, rfl, isi (.base .non) k_ni ⟨_, rfl, iteF k⟩⟩
    · exact ⟨_, rfl, isi (.base (.bl b)) ki_b ⟨_, rfl, iteT ⟨_, rfl, isi (.base (.bl b)) kb_b ⟨_, rfl, k⟩⟩⟩⟩
    · exact ⟨_, rfl, isi (.base (.str z)) ki_s ⟨_, rfl, iteF k⟩⟩
    · exact ⟨_, rfl, isi (.base (.tup ha)) ki_t ⟨_, rfl, iteF k⟩⟩
    · exact ⟨_, rfl, isi (.base (.lst ha)) ki_l ⟨_, rfl, iteF k⟩⟩
    · exact ⟨_, rfl, isi (.base (.dK ha)) ki_d ⟨_, rfl, iteF k⟩⟩
theorem pure_Holding_len (h : sp_Holding_len K vs H Q E) : t_Holding_len K { nx := fun _ H' => Q .non H', rt := Q } (start N_Holding_len vs) H := by
  obtain ⟨h, B, ns, rfl, hl, k⟩ := h
  dsimp only [t_Holding_len, tRet, tCB, tCons]
  refine hl.fO rfl (lenL hl.hO ?_)
  rw [List.length_map]
  exact k
theorem pure_Holding_names (h : sp_Holding_names K vs H Q E) : t_Holding_names K { nx := fun _ H' => Q .non H', rt := Q } (start N_Holding_names vs) H := by
  obtain ⟨h, B, ns, rfl, hl, k⟩ := h
  dsimp only [t_Holding_names, tRet, tCB, tCons]
  exact hl.fO rfl ⟨h.O, _, rfl, .inl (sqL hl.hO), k⟩
theorem pure_Holding_holds (h : sp_Holding_holds K vs H Q E) : t_Holding_holds K { nx := fun _ H' => Q .non H', rt := Q } (start N_Holding_holds vs) H := by
  obtain ⟨h, B, ns, x, rfl, hl, ⟨i, rfl, k⟩ | ⟨o, k⟩⟩ := h
  · refine ⟨_, rfl, _, rfl, .inl ⟨i, rfl, _, rfl, iteT ?_⟩⟩
    obtain ⟨is, hI, m⟩ := hl.hI
    refine ⟨_, rfl, hl.fI rfl ⟨h.I, _, rfl, DGet.k (k := Sum.inl i) hI, ?_⟩⟩
    rw [nmD_some, show decide (i ∈ is) = decide (i ∈ ns) from decide_eq_decide.mpr (m i)]
    exact k
  · exact ⟨_, rfl, _, rfl, .inr ⟨o, _, rfl, iteF k⟩⟩
theorem tDc_setA {σ : L2.St} {s i : Nat} {a : Addr} {ns : List Int} (e : σ[i]? = some (some (.ref a))) (hs : s < σ.length) (hn : H a = some (.lst (ns.map V.int)) ∨ H a = some (.tup (ns.map V.int))) (hz : ns.length ≤ 1000)
    (hd : ∀ F, H F = none → Q (.ref F) (upd H F (.dK (nmD (once ns))))) : tDc (iOr (iList K (tVar i)) (iTup K (tVar i))) (gName s) tYes (tVar s) (tC (.bl true)) [s] σ H Q := by
  refine iOr_ints e hn fun J G w hG F nF => ?_
  have so : ∃ o, H a = some o := hn.elim (fun h => ⟨_, h⟩) fun h => ⟨_, h⟩
  obtain ⟨o, ho⟩ := so
  have naF : a ≠ F := ne_of_none ho nF
  have st : ∀ kvs, upd H F (.dK kvs) a = H a := fun kvs => upd_ne naF
  have l0 : (ns.map V.int).length = ns.length := List.length_map ..
  refine ⟨fun i m H2 => m = ns.length - i ∧ i ≤ ns.length ∧ H2 = upd H F (.dK (nmD (once (ns.take i)))), ⟨ns.length, by omega, Nat.zero_le _, by rw [List.take_zero]; rfl⟩, ?_⟩
  rintro i m H2 ⟨em, hi, rfl⟩
  by_cases h : i < ns.length
  · have hv : ns[i]? = some ns[i] := List.getElem?_eq_getElem h
    refine .inr ⟨w.goes i _ (by rw [l0]; exact h) (hG _ (st _)), fun H3 => H3 = upd H F (.dK (nmD (once (ns.take (i + 1))))), fun H' e => ⟨ns.length - (i + 1), by omega, rfl, h, e⟩, ?_⟩
    intro x H3 hy
    obtain ⟨rfl, hx⟩ := w.yields i _ x H3 (by rw [l0]; exact h) (hG _ (st _)) hy
    rw [List.getElem?_map, hv] at hx
    cases Option.some.inj hx
    refine ⟨by show (((σ.set s none).set s _).set s none) = σ.set s none; rw [List.set_set, List.set_set], ?_⟩
    dsimp only [tYes]
    rw [if_pos rfl]
    refine ⟨_, List.getElem?_set_self (show s < (σ.set s none).length by rw [List.length_set]; exact hs), nmD (once (ns.take i)), Sum.inl ns[i], rfl, updS, ?_, ?_⟩
    · rw [List.length_map]
      have := once_len (ns.take i)
      rw [List.length_take] at this
      exact Nat.lt_of_le_of_lt (show _ ≤ 1000 by omega) (by decide)
    · rw [upd_upd, nmD_insM, ← once_snoc, List.take_succ, hv]
      rfl
  · have e : i = ns.length := by omega
    subst e
    refine .inl ⟨?_, ?_⟩
    · have := w.stops _ (hG _ (st (nmD (once (ns.take ns.length)))))
      rw [l0] at this
      exact this
    · rw [List.take_length]
      exact hd F nF
theorem pure_Holding_inits (h : sp_Holding_inits K vs H Q E) : t_Holding_inits K { nx := fun _ H' => Q .non H', rt := Q } (start N_Holding_inits vs) H := by
  obtain ⟨x, dx, n, b, cs, as, ns, rfl, hc, hx, bk, hn, nm, few, k⟩ := h
  have l0 : (ns.map V.int).length = ns.length := List.length_map ..
  refine iOr_ints (i := 2) rfl hn fun J G w hG => ?_
  refine for_it w (fun i σ H' => H' = H ∧ ∃ z, σ = [some (.ref x), some (.ref b.B), some (.ref n), z]) ⟨rfl, _, rfl⟩ (fun i σ H' _ e => hG _ (by rw [e.1])) ?_ ?_
  · rintro i y σ H2 H3 hi ⟨rfl, z, rfl⟩ ⟨rfl, hy⟩
    rw [List.getElem?_map] at hy
    cases e : ns[i]? with
    | none => rw [e] at hy; cases hy
    | some v =>
      rw [e] at hy
      cases Option.some.inj hy
      have hv := nm v (List.mem_of_getElem? e)
      refine bk.meV (by decide) rfl ⟨_, rfl, b, cs, as, v, rfl, bk, _, rfl, ?_⟩
      rw [decide_eq_true hv.1, decide_eq_true (show v < (cs.length : Nat) by omega)]
      exact iteF ⟨rfl, _, rfl⟩
  · rintro σ H2 ⟨rfl, z, rfl⟩
    refine ⟨_, rfl, _, rfl, x, _, dx, _, rfl, hx, hc.cl, hc.n1, by decide, ?_⟩
    have s1 : ∀ a o, H2 a = some o → a ≠ x → upd H2 x (.ins (He.ga K "Holding") dx (putF "book" (.ref b.B) [])) a = some o := fun a o e ne => updN ne e
    have hx1 : upd H2 x (.ins (He.ga K "Holding") dx (putF "book" (.ref b.B) [])) x = some (.ins (He.ga K "Holding") dx [("book", .ref b.B)]) := updS
    have nnx : n ≠ x := hn.elim (fun h => ne_of h hx (by intro z; cases z)) fun h => ne_of h hx (by intro z; cases z)
    have hn1 := hn.imp (fun h => s1 _ _ h nnx) fun h => s1 _ _ h nnx
    generalize upd H2 x (.ins (He.ga K "Holding") dx (putF "book" (.ref b.B) [])) = H3 at s1 hx1 hn1
    dsimp only [tSeq, sFld]
    refine tDc_setA (i := 2) rfl (by show 3 < 4; decide) hn1 few fun I nI => ?_
    have nxI : x ≠ I := ne_of_none hx1 nI
    have nI0 : H2 I = none := by
      cases e : H2 I with
      | none => rfl
      | some o => rw [s1 _ _ e nxI.symm] at nI; cases nI
    obtain ⟨nd, mem⟩ := once_ok ns
    refine ⟨_, rfl, x, _, dx, _, rfl, updN nxI hx1, hc.cl, hc.n2, by show (1 : Nat) < 1000; decide, ?_⟩
    refine ⟨_, rfl, x, _, dx, _, _, rfl, updS, hc.cl, hc.n2, rfl, I, nmD (once ns), once ns, rfl, updN nxI.symm updS, nmD_keys (once ns), fun ns' O pm inc nO => ?_⟩
    have nxO : x ≠ O := ne_of_none updS nO
    have nIO : I ≠ O := ne_of_none (updN nxI.symm updS) nO
    have nO0 : H2 O = none := by
      cases e : H2 O with
      | none => rfl
      | some o => rw [updN nxO.symm (updN nIO.symm (s1 _ _ e nxO.symm))] at nO; cases nO
    have mem2 : ∀ m, m ∈ ns' ↔ m ∈ ns := fun m => pm.mem_iff.trans (mem m)
    have lt := perm_lt pm inc nd
    have ok : NmOk cs ns' := fun m hm => nm m ((mem2 m).mp hm)
    refine ⟨_, rfl, x, _, dx, _, rfl, updN nxO updS, hc.cl, hc.n3, by show (2 : Nat) < 1000; decide, ?_⟩
    refine k ⟨x, I, O⟩ ns' _ rfl (fun a o e ne => updN ne (updN (ne_of_none e nO0) (updN ne (updN (ne_of_none e nI0) (s1 _ _ e ne))))) nI0 nO0 mem2 ?_
    exact ⟨hc, ⟨dx, updS⟩, ⟨once ns, updN nxI.symm (updN nIO (updN nxI.symm updS)), fun m => (pm.mem_iff (a := m)).symm⟩, updN nxO.symm updS, lt, Nat.le_trans (ok.lenM (pm.nodup_iff.mpr nd)) bk.few⟩
theorem str_len {n : Int} (h0 : 0 ≤ n) (h1 : n.toNat < 400) : (toString n : Str).length ≤ 20 := by
  have h : ((List.range 400).all fun n => decide ((toString (Int.ofNat n) : Str).length ≤ 20)) = true := by decide +kernel
  obtain ⟨m, rfl⟩ := Int.eq_ofNat_of_zero_le h0
  exact of_decide_eq_true (List.all_eq_true.mp h m (List.mem_range.mpr (by rwa [Int.toNat_natCast] at h1)))
theorem log_le {i : Int} (h0 : 0 ≤ i) (h1 : i.toNat < 400) : i.natAbs.log2 < 1920 := by
  have h : i.natAbs ≠ 0 → i.natAbs.log2 < 1920 := fun z => Nat.lt_of_lt_of_le ((Nat.log2_lt z).mpr (show i.natAbs < 2 ^ 9 by omega)) (by decide)
  by_cases z : i.natAbs = 0
  · rw [z]; decide
  · exact h z
theorem sum_le : ∀ {zs : List Str} , (∀ z ∈ zs, z.length ≤ 20) → (zs.map (·.length)).sum ≤ 20 * zs.length
  | [], _ => Nat.le_refl _
  | z :: zs, h => by
    have h1 := h z List.mem_cons_self
    have h2 := sum_le fun y hy => h y (List.mem_cons_of_mem _ hy)
    rw [List.map_cons, List.sum_cons, List.length_cons]
    omega
theorem pure_Holding_str (h : sp_Holding_str K vs H Q E) : t_Holding_str K { nx := fun _ H' => Q .non H', rt := Q } (start N_Holding_str vs) H := by
  obtain ⟨h, B, ns, rfl, hl, nm, k⟩ := h
  refine ⟨⟨_, rfl⟩, ?_⟩
  dsimp only [tLc, iList]
  refine hl.fO rfl ⟨h.O, rfl, ⟨_, sqL hl.hO⟩, fun L nL => ?_⟩
  refine lc_grow (walk_list (xs := ns.map V.int)) yAt (ys := ns.map fun n => V.str (toString n)) nL (by rw [List.length_map, List.length_map]) (by rw [List.length_map]; have := hl.few; omega) (fun H' s => sqL (s _ _ hl.hO)) ?_ ?_
  · rintro j x y H' R hj ⟨_, hx⟩ hy s q
    rw [List.getElem?_map] at hx hy
    cases e : ns[j]? with
    | none => rw [e] at hx; cases hx
    | some n =>
      rw [e] at hx hy
      cases Option.some.inj hx
      cases Option.some.inj hy
      have hn := nm n (List.mem_of_getElem? e)
      exact ⟨rfl, _, rfl, n, rfl, log_le hn.1 hn.2, q _ (Same.refl _)⟩
  · intro H' s hL
    refine ⟨_, L, ns.map fun n => (toString n : Str), rfl, rfl, .inl (sqL (by rw [hL, List.map_map]; rfl)), ?_, k _ s⟩
    have h1 := sum_le (zs := ns.map fun n => (toString n : Str)) fun z hz => by
      obtain ⟨n, hn, rfl⟩ := List.mem_map.mp hz
      exact str_len (nm n hn).1 (nm n hn).2
    have h2 : (" " : Str).length = 1 := by decide +kernel
    have h3 := hl.few
    rw [List.length_map] at h1
    rw [List.length_map, h2]
    omega
end
end Fw

set_option Elab.async false
set_option linter.all false
set_option maxRecDepth 100000
set_option maxHeartbeats 4000000
/-! A house: a store with marks, moves, far marks and pins. -/
namespace Fw
open PySem L2 RZ RT
/-- what the class House must have -/
structure HsC (K : PySem.W.Frag) : Prop where
  cl : Cls K (He.ga K "House")
  n1 : NoAttr K (He.ga K "House") "book"
  n2 : NoAttr K (He.ga K "House") "inside"
  n3 : NoAttr K (He.ga K "House") "many_changes"
  n4 : NoAttr K (He.ga K "House") "standing"
  n5 : NoAttr K (He.ga K "House") "last_moves"
  n6 : NoAttr K (He.ga K "House") "far_standing"
  n7 : NoAttr K (He.ga K "House") "pinned"
structure HsA where
  A : Addr
  I : Addr
  S : Addr
  M : Addr
  F : Addr
  P : Addr
abbrev hsF (B : Addr) (h : HsA) (m : Int) : List (Str × V) := [("book", .ref B), ("inside", .ref h.I), ("many_changes", .int m), ("standing", .ref h.S), ("last_moves", .ref h.M), ("far_standing", .ref h.F), ("pinned", .ref h.P)]
/-- a house of the book B that holds these names -/
structure HsAt (K : PySem.W.Frag) (H : Hp) (h : HsA) (B : Addr) (ns : List Int) (m : Int) : Prop where
  hc : HsC K
  ho : ∃ dx, H h.A = some (.ins (He.ga K "House") dx (hsF B h m))
  hI : H h.I = some (.dK (nmD ns))
  nd : ns.Nodup
  few : ns.length ≤ 400
section
variable {K : PySem.W.Frag} {H H' : Hp} {h : HsA} {B : Addr} {ns : List Int} {m : Int} {Q : VK} {σ : L2.St} {i : Nat}
theorem HsAt.kf {F : List Addr} (x : HsAt K H h B ns m) (kf : Kf F H H') (n : ∀ y ∈ [h.A, h.I], y ∉ F) : HsAt K H' h B ns m := by
  obtain ⟨dx, e⟩ := x.ho
  exact ⟨x.hc, ⟨dx, kf _ _ e (n _ (by simp))⟩, kf _ _ x.hI (n _ (by simp)), x.nd, x.few⟩
theorem HsAt.same (x : HsAt K H h B ns m) (s : Same H H') : HsAt K H' h B ns m := x.kf (F := []) (.same s) fun _ _ z => nomatch z
theorem HsAt.fB (x : HsAt K H h B ns m) (e : σ[i]? = some (some (.ref h.A))) (q : Q (.ref B) H) : tFld K (tVar i) "book" σ H Q := by
  obtain ⟨dx, hx⟩ := x.ho
  exact ⟨_, e, h.A, _, dx, _, _, rfl, hx, x.hc.cl, x.hc.n1, rfl, q⟩
theorem HsAt.fI (x : HsAt K H h B ns m) (e : σ[i]? = some (some (.ref h.A))) (q : Q (.ref h.I) H) : tFld K (tVar i) "inside" σ H Q := by
  obtain ⟨dx, hx⟩ := x.ho
  exact ⟨_, e, h.A, _, dx, _, _, rfl, hx, x.hc.cl, x.hc.n2, rfl, q⟩
theorem HsAt.me {n : Str} {sp : Sp} {E : XK} {ta : TA} (x : HsAt K H h B ns m) (hm : ∀ m', (hsF B h m').lookup n = none) (e : σ[i]? = some (some (.ref h.A))) (q : ta σ H fun vs H2 => sp (.ref h.A :: (vs ++ [])) H2 Q E) : tMeth (He.ga K "House") n sp [] E (tVar i) ta σ H Q := by
  obtain ⟨dx, hx⟩ := x.ho
  exact ⟨_, e, h.A, dx, _, rfl, hx, hm m, q⟩
theorem HsAt.ne (x : HsAt K H h B ns m) : h.A ≠ h.I := by
  obtain ⟨dx, e⟩ := x.ho
  exact ne_of e x.hI fun z => by cases z
/-- a house is no part of a book -/
theorem HsAt.sep [HasW] {b : BkA} {cs : List Ct} {as : List Addr} (x : HsAt K H h B ns m) (bk : BkAt K H b cs as) : ∀ y ∈ [b.B, b.L, b.E, b.G], y ∉ [h.A, h.I] := fun y hy hz => by
  obtain ⟨dx, e⟩ := x.ho
  obtain ⟨dx2, fs, hB, c1, _⟩ := bk.bo
  simp only [List.mem_cons, List.not_mem_nil, or_false] at hy hz
  rcases hz with rfl | rfl
  · rcases hy with e2 | e2 | e2 | e2
    · rw [e2, hB] at e
      injection e with e
      injection e with _ _ e
      rw [e] at c1
      cases c1
    · rw [e2, bk.hL] at e; cases e
    · rw [e2, bk.hE] at e; cases e
    · rw [e2, bk.hG] at e
      exact nd_ne_ins (Option.some.inj e)
  · have hI := x.hI
    rcases hy with e2 | e2 | e2 | e2
    · rw [e2, hB] at hI; cases hI
    · rw [e2, bk.hL] at hI; cases hI
    · rw [e2, bk.hE] at hI; cases hI
    · rw [e2, bk.hG] at hI
      unfold ND at hI
      cases hI
end
section
variable [HasW]
/-- a new house's other parts -/
def HsE (H : Hp) (h : HsA) : Prop := H h.S = some (.dK []) ∧ H h.M = some (.lst []) ∧ H h.F = some (ND h.F []) ∧ H h.P = some (.lst [])
def sp_Store_initH (K : PySem.W.Frag) : Sp := fun vs H Q _ => ∃ (x dx B : Addr), vs = [.ref x, .ref B] ∧ HsC K ∧ H x = some (.ins (He.ga K "House") dx []) ∧
  ∀ (I : Addr) (H' : Hp), (∀ a o, H a = some o → a ≠ x → H' a = some o) → H I = none → I ≠ x → H' x = some (.ins (He.ga K "House") dx [("book", .ref B), ("inside", .ref I), ("many_changes", .int 0)]) → H' I = some (.dK []) → Q .non H'
def sp_House_init (K : PySem.W.Frag) : Sp := fun vs H Q _ => ∃ (x dx B : Addr), vs = [.ref x, .ref B] ∧ HsC K ∧ H x = some (.ins (He.ga K "House") dx []) ∧
  ∀ (h : HsA) (H' : Hp), h.A = x → (∀ a o, H a = some o → a ≠ x → H' a = some o) → (∀ y ∈ [h.I, h.S, h.M, h.F, h.P], H y = none) → [h.A, h.I, h.S, h.M, h.F, h.P].Nodup → HsAt K H' h B [] 0 → HsE H' h → Q .non H'
def sp_House_put (K : PySem.W.Frag) : Sp := fun vs H Q _ => ∃ (h : HsA) (b : BkA) (cs : List Ct) (as : List Addr) (ns : List Int) (m n : Int), vs = [.ref h.A, .int n] ∧ HsAt K H h b.B ns m ∧ BkAt K H b cs as ∧ 0 ≤ n ∧ n < (cs.length : Nat) ∧ (n ∉ ns → ns.length < 400) ∧
  (n ∈ ns → Q (.bl false) H) ∧ (n ∉ ns → ∀ H', Kf [h.A, h.I] H H' → HsAt K H' h b.B (ns ++ [n]) (m + 1) → Q (.bl true) H')
def sp_House_held (K : PySem.W.Frag) : Sp := fun vs H Q _ => ∃ (h : HsA) (B : Addr) (ns : List Int) (m : Int), vs = [.ref h.A] ∧ HsAt K H h B ns m ∧
  ∀ (L : Addr) (ns' : List Int), H L = none → ns'.Perm ns → ns'.Pairwise (· ≤ ·) → Q (.ref L) (upd H L (.lst (ns'.map V.int)))
def sp_House_view (K : PySem.W.Frag) : Sp := fun vs H Q _ => ∃ (h : HsA) (b : BkA) (cs : List Ct) (as : List Addr) (ns : List Int) (m : Int), vs = [.ref h.A] ∧ HdC K ∧ HsAt K H h b.B ns m ∧ BkAt K H b cs as ∧ NmOk cs ns ∧
  ∀ (v : HlA) (ns' : List Int) (H' : Hp), Same H H' → H v.A = none → H v.I = none → H v.O = none → (∀ q, q ∈ ns' ↔ q ∈ ns) → HlAt K H' v b.B ns' → Q (.ref v.A) H'
end
section
variable [HasW] {K : PySem.W.Frag} {vs : List V} {H : Hp} {Q : VK} {E : XK}
theorem len_Store_initH (h : sp_Store_initH K vs H Q E) : vs.length = 2 := by obtain ⟨_, _, _, rfl, _⟩ := h; rfl
theorem len_House_init (h : sp_House_init K vs H Q E) : vs.length = 2 := by obtain ⟨_, _, _, rfl, _⟩ := h; rfl
theorem len_House_put (h : sp_House_put K vs H Q E) : vs.length = 2 := by obtain ⟨_, _, _, _, _, _, _, rfl, _⟩ := h; rfl
theorem len_House_held (h : sp_House_held K vs H Q E) : vs.length = 1 := by obtain ⟨_, _, _, _, rfl, _⟩ := h; rfl
theorem len_House_view (h : sp_House_view K vs H Q E) : vs.length = 1 := by obtain ⟨_, _, _, _, _, _, rfl, _⟩ := h; rfl
end
section
variable [HasW]
abbrev N_Store_initH : List Str := ["self", "book"]
def t_Store_initH (K : PySem.W.Frag) : TS := (tSeq (sFld K (tVar 0) (tVar 1) "book")
    (tSeq (sFld K (tVar 0) tDNewK "inside")
    (sFld K (tVar 0) (tC (.int 0)) "many_changes")))
abbrev N_House_init : List Str := ["self", "book"]
def t_House_init (K : PySem.W.Frag) : TS := (tSeq (tDrop (tCall (sp_Store_initH K) [] E0 (tCons (tVar 0) (tCons (tVar 1) tNil))))
    (tSeq (sFld K (tVar 0) tDNewK "standing")
    (tSeq (sFld K (tVar 0) (tLst tNil) "last_moves")
    (tSeq (sFld K (tVar 0) tNNew "far_standing")
    (sFld K (tVar 0) (tLst tNil) "pinned")))))
abbrev N_House_put : List Str := ["self", "name"]
def t_House_put (K : PySem.W.Frag) : TS := (tSeq (tIfS (tNot (tB (tMeth (He.ga K "Book") "is_name" (sp_Book_is_name K) [] E0 (tFld K (tVar 0) "book") (tCons (tVar 1) tNil)))) tNever tNext)
    (tSeq (tIfS (tB (tDIn (tVar 1) (tFld K (tVar 0) "inside"))) (tRet (tC (.bl false))) tNext)
    (tSeq (sDPut (tFld K (tVar 0) "inside") (tVar 1) (tC (.bl true)))
    (tSeq (sFldAug K (tVar 0) (tC (.int 1)) rAdd "many_changes")
    (tRet (tC (.bl true)))))))
abbrev N_House_held : List Str := ["self"]
def t_House_held (K : PySem.W.Frag) : TS := (tRet (tCB rSortK (tCons (tFld K (tVar 0) "inside") tNil)))
abbrev N_House_view : List Str := ["self"]
def t_House_view (K : PySem.W.Frag) : TS := (tRet (tMake (He.ga K "Holding") (sp_Holding_inits K) [] E0 (tCons (tFld K (tVar 0) "book") (tCons (tMeth (He.ga K "House") "held" (sp_House_held K) [] E0 (tVar 0) tNil) tNil))))
end
section
variable [HasW] {K : PySem.W.Frag} {vs : List V} {H : Hp} {Q : VK} {E : XK}
theorem pure_Store_initH (h : sp_Store_initH K vs H Q E) : t_Store_initH K { nx := fun _ H' => Q .non H', rt := Q } (start N_Store_initH vs) H := by
  obtain ⟨x, dx, B, rfl, sc, hx, k⟩ := h
  refine ⟨_, rfl, _, rfl, x, _, dx, _, rfl, hx, sc.cl, sc.n1, by decide, ?_⟩
  refine fun I nI => ?_
  have nxI : x ≠ I := ne_of_none updS nI
  have nI0 : H I = none := by rw [upd_ne nxI.symm] at nI; exact nI
  refine ⟨_, rfl, x, _, dx, _, rfl, updN nxI updS, sc.cl, sc.n2, by show (1 : Nat) < 1000; decide, ?_⟩
  refine ⟨_, rfl, x, _, dx, _, rfl, updS, sc.cl, sc.n3, by show (2 : Nat) < 1000; decide, ?_⟩
  exact k I _ (fun a o e ne => updN ne (updN ne (updN (ne_of_none e nI0) (updN ne e)))) nI0 nxI.symm updS (updN nxI.symm (updN nxI.symm updS))
theorem pure_House_init (h : sp_House_init K vs H Q E) : t_House_init K { nx := fun _ H' => Q .non H', rt := Q } (start N_House_init vs) H := by
  obtain ⟨x, dx, B, rfl, sc, hx, k⟩ := h
  refine ⟨_, rfl, _, rfl, x, dx, B, rfl, sc, hx, fun I H1 kp1 nI nIx hx1 hI1 => ?_⟩
  have old : ∀ {y : Addr} {Hn : Hp}, (∀ a o, H a = some o → a ≠ x → Hn a = some o) → Hn y = none → y ≠ x → H y = none := fun kp e n => by
    cases q : H _ with
    | none => rfl
    | some o => rw [kp _ _ q n] at e; cases e
  -- standing
  refine fun S nS => ?_
  have xS : x ≠ S := ne_of_none hx1 nS
  have IS : I ≠ S := ne_of_none hI1 nS
  have nS0 := old kp1 nS xS.symm
  refine ⟨_, rfl, x, _, dx, _, rfl, updN xS hx1, sc.cl, sc.n4, by show (3 : Nat) < 1000; decide, ?_⟩
  refine ⟨by show (0 : Nat) ≤ sizeLine; decide, fun M nM => ?_⟩
  have xM : x ≠ M := ne_of_none updS nM
  rw [upd_ne xM.symm] at nM
  have SM : S ≠ M := ne_of_none updS nM
  rw [upd_ne SM.symm] at nM
  have IM : I ≠ M := ne_of_none hI1 nM
  have nM0 := old kp1 nM xM.symm
  refine ⟨_, rfl, x, _, dx, _, rfl, updN xM updS, sc.cl, sc.n5, by show (4 : Nat) < 1000; decide, ?_⟩
  refine fun F nF => ?_
  have xF : x ≠ F := ne_of_none updS nF
  rw [upd_ne xF.symm] at nF
  have MF : M ≠ F := ne_of_none updS nF
  rw [upd_ne MF.symm, upd_ne xF.symm] at nF
  have SF : S ≠ F := ne_of_none updS nF
  rw [upd_ne SF.symm] at nF
  have IF : I ≠ F := ne_of_none hI1 nF
  have nF0 := old kp1 nF xF.symm
  refine ⟨_, rfl, x, _, dx, _, rfl, updN xF updS, sc.cl, sc.n6, by show (5 : Nat) < 1000; decide, ?_⟩
  refine ⟨by show (0 : Nat) ≤ sizeLine; decide, fun P nP => ?_⟩
  have xP : x ≠ P := ne_of_none updS nP
  rw [upd_ne xP.symm] at nP
  have FP : F ≠ P := ne_of_none updS nP
  rw [upd_ne FP.symm, upd_ne xP.symm] at nP
  have MP : M ≠ P := ne_of_none updS nP
  rw [upd_ne MP.symm, upd_ne xP.symm] at nP
  have SP : S ≠ P := ne_of_none updS nP
  rw [upd_ne SP.symm] at nP
  have IP : I ≠ P := ne_of_none hI1 nP
  have nP0 := old kp1 nP xP.symm
  refine ⟨_, rfl, x, _, dx, _, rfl, updN xP updS, sc.cl, sc.n7, by show (6 : Nat) < 1000; decide, ?_⟩
  refine k ⟨x, I, S, M, F, P⟩ _ rfl (fun a o e n => updN n (updN (ne_of_none e nP0) (updN n (updN (ne_of_none e nF0) (updN n (updN (ne_of_none e nM0) (updN n (updN (ne_of_none e nS0) (kp1 a o e n))))))))) ?_ ?_ ⟨sc, ⟨dx, updS⟩, ?_, List.nodup_nil, Nat.zero_le _⟩ ⟨?_, ?_, ?_, ?_⟩
  · intro y hy
    simp only [List.mem_cons, List.not_mem_nil, or_false] at hy
    rcases hy with rfl | rfl | rfl | rfl | rfl
    · exact nI
    · exact nS0
    · exact nM0
    · exact nF0
    · exact nP0
  · simp [nIx.symm, xS, xM, xF, xP, IS, IM, IF, IP, SM, SF, SP, MF, MP, FP]
  · exact updN nIx (updN IP (updN nIx (updN IF (updN nIx (updN IM (updN nIx (updN IS hI1)))))))
  · exact updN xS.symm (updN SP (updN xS.symm (updN SF (updN xS.symm (updN SM (updN xS.symm updS))))))
  · exact updN xM.symm (updN MP (updN xM.symm (updN MF (updN xM.symm updS))))
  · exact updN xF.symm (updN FP (updN xF.symm updS))
  · exact updN xP.symm updS
theorem pure_House_put (h : sp_House_put K vs H Q E) : t_House_put K { nx := fun _ H' => Q .non H', rt := Q } (start N_House_put vs) H := by
  obtain ⟨h, b, cs, as, ns, m, n, rfl, st, bk, n0, n1, few, k1, k2⟩ := h
  dsimp only [t_House_put, tSeq, tIfS, tNot, tB, tMeth]
  refine st.fB rfl ?_
  refine bk.meF (m := "is_name") (by decide) ?_
  refine ⟨_, rfl, b, cs, as, n, rfl, bk, _, rfl, ?_⟩
  rw [decide_eq_true n0, decide_eq_true n1]
  refine iteF ?_
  refine ⟨_, rfl, ?_⟩
  show tFld K (tVar 0) "inside" _ _ _
  refine st.fI rfl ?_
  refine ⟨h.I, _, rfl, DGet.k (k := Sum.inl n) st.hI, _, rfl, ?_⟩
  rw [nmD_some]
  by_cases hm : n ∈ ns
  · rw [decide_eq_true hm]
    exact iteT (k1 hm)
  · rw [decide_eq_false hm]
    refine iteF ?_
    dsimp only [tNext, tSeq, sDPut, tC]
    refine st.fI rfl ?_
    obtain ⟨dx, hA⟩ := st.ho
    have nAI : h.A ≠ h.I := st.ne
    refine ⟨_, rfl, h.I, _, rfl, DPut.k (k := Sum.inl n) st.hI (by rw [List.length_map]; exact Nat.lt_of_le_of_lt st.few (by decide)), ?_⟩
    rw [nmD_put hm]
    refine ⟨_, rfl, h.A, _, dx, _, _, rfl, updN nAI hA, st.hc.cl, st.hc.n3, rfl, _, _, rfl, rfl, _, _, updN nAI hA, by show (7 : Nat) < 1000; decide, ?_⟩
    exact k2 hm _ ((Kf.refl.up (by simp)).up (by simp)) ⟨st.hc, ⟨dx, updS⟩, updN nAI.symm updS, by
      rw [List.nodup_append]
      exact ⟨st.nd, by simp, fun a ha c hc e => hm (by rw [List.mem_singleton.mp hc] at e; rw [← e]; exact ha)⟩, by rw [List.length_append, List.length_singleton]; have := few hm; omega⟩
theorem pure_House_held (h : sp_House_held K vs H Q E) : t_House_held K { nx := fun _ H' => Q .non H', rt := Q } (start N_House_held vs) H := by
  obtain ⟨h, B, ns, m, rfl, st, k⟩ := h
  dsimp only [t_House_held, tRet, tCB, tCons]
  refine st.fI rfl ?_
  exact ⟨h.I, nmD ns, ns, rfl, st.hI, nmD_keys ns, fun ns' p pm inc np => k p ns' np pm inc⟩
theorem pure_House_view (h : sp_House_view K vs H Q E) : t_House_view K { nx := fun _ H' => Q .non H', rt := Q } (start N_House_view vs) H := by
  obtain ⟨h, b, cs, as, ns, m, rfl, hc, st, bk, nm, k⟩ := h
  dsimp only [t_House_view, tRet, tMake, tCons]
  refine st.fB rfl ?_
  refine st.me (fun _ => rfl) rfl ?_
  refine ⟨h, b.B, ns, m, rfl, st, fun L ns1 nL pm inc => ?_⟩
  intro x dx nx ndx ne
  have s1 : Same H (upd H L (.lst (ns1.map V.int))) := samN nL
  have hL : upd H L (.lst (ns1.map V.int)) L = some (.lst (ns1.map V.int)) := updS
  generalize upd H L (.lst (ns1.map V.int)) = H1 at s1 hL nx ndx
  have s2 : Same H1 (upd (upd H1 dx (.own x)) x (.ins (He.ga K "Holding") dx [])) := fun b o e => updN (ne_of_none e nx) (updN (ne_of_none e ndx) e)
  have s12 := s1.trans s2
  have fr : ∀ {y : Addr}, upd (upd H1 dx (.own x)) x (.ins (He.ga K "Holding") dx []) y = none → H y = none := by
    intro y e
    cases q : H y with
    | none => rfl
    | some o => rw [s12 _ _ q] at e; cases e
  have nx0 : H x = none := by
    cases q : H x with
    | none => rfl
    | some o => rw [s1 _ _ q] at nx; cases nx
  refine ⟨x, dx, L, b, cs, as, ns1, rfl, hc, updS, bk.same s12, .inl (s2 _ _ hL), fun n hn => nm n (pm.mem_iff.mp hn), by have := st.few; rw [pm.length_eq]; omega, fun v ns' H' eA kp nI nO mem hl => ⟨rfl, ?_⟩⟩
  subst eA
  exact k v ns' H' (fun a o e => kp a o (s12 a o e) (ne_of_none e nx0)) nx0 (fr nI) (fr nO) (fun q => (mem q).trans pm.mem_iff) hl
end
end Fw

set_option Elab.async false
set_option linter.all false
set_option maxRecDepth 100000
set_option maxHeartbeats 4000000
/-! A holding made of what is no name of the book. -/
namespace Fw
open PySem L2 RZ RT
structure NoNameC (K : PySem.W.Frag) : Prop where
  oex : OexC K (He.ga K "NoName")
  no : PySem.W.findIn K (.ref (He.ga K "NoName")) "name" = some none
def sp_NoName_init (K : PySem.W.Frag) : Sp := fun vs H Q _ => ∃ (a C : Addr) (u : V), vs = [.ref a, u] ∧ OexC K C ∧ PySem.W.findIn K (.ref C) "name" = some none ∧ H a = some (exo a C none) ∧
  ∀ d, H d = none → d ≠ a → Q .non (upd (upd H d (exd d [("name", u)])) a (exo a C (some d)))
/-- a name of the book; none of it -/
def GoodN (cs : List Ct) (y : V) : Prop := ∃ i : Int, y = .int i ∧ 0 ≤ i ∧ i < (cs.length : Nat)
def BadN (cs : List Ct) (H : Hp) (v : V) : Prop := (∃ i : Int, v = .int i ∧ ¬ (0 ≤ i ∧ i < (cs.length : Nat))) ∨ OddV H v
section
variable [HasW]
def sp_Book_is_nameO (K : PySem.W.Frag) : Sp := fun vs H Q _ => ∃ (b : BkA) (cs : List Ct) (as : List Addr) (x : V), vs = [.ref b.B, x] ∧ BkAt K H b cs as ∧ ((∃ i : Int, x = .int i ∧ Q (.bl (decide (0 ≤ i) && decide (i < (cs.length : Nat)))) H) ∨ (OddV H x ∧ Q (.bl false) H))
def sp_Holding_initX (K : PySem.W.Frag) : Sp := fun vs H Q E => ∃ (x dx n : Addr) (b : BkA) (cs : List Ct) (as : List Addr) (xs : List V) (j : Nat) (v : V), vs = [.ref x, .ref b.B, .ref n] ∧ NoNameC K ∧ BkAt K H b cs as ∧ (H n = some (.lst xs) ∨ H n = some (.tup xs)) ∧ xs[j]? = some v ∧ BadN cs H v ∧ (∀ (m : Nat) (y : V), m < j → xs[m]? = some y → GoodN cs y) ∧
  ∀ d H', Same H H' → H d = none → H' d = some (.xd [("name", v)]) → E (.ref (He.ga K "NoName")) (some d) H'
end
section
variable [HasW] {K : PySem.W.Frag} {vs : List V} {H : Hp} {Q : VK} {E : XK}
theorem len_NoName_init (h : sp_NoName_init K vs H Q E) : vs.length = 2 := by obtain ⟨_, _, _, rfl, _⟩ := h; rfl
theorem len_Book_is_nameO (h : sp_Book_is_nameO K vs H Q E) : vs.length = 2 := by obtain ⟨_, _, _, _, rfl, _⟩ := h; rfl
theorem len_Holding_initX (h : sp_Holding_initX K vs H Q E) : vs.length = 3 := by obtain ⟨_, _, _, _, _, _, _, _, _, rfl, _⟩ := h; rfl
end
section
variable [HasW]
abbrev N_NoName_init : List Str := ["self", "name"]
def t_NoName_init (K : PySem.W.Frag) : TS := (tSeq (tDrop (tVeI K (tCons (tVar 0) (tCons (tC (.str "the book has given no such name")) tNil))))
    (tOst K "name" (tVar 0) (tVar 1)))
abbrev N_Book_is_nameO : List Str := ["self", "thing"]
def t_Book_is_nameO (K : PySem.W.Frag) : TS := (tRet (tAndV (tCall (sp_is_intO K) [] E0 (tCons (tVar 1) tNil)) (tChain rLeI rLtI (tC (.int 0)) (tVar 1) (tCB (fLen K) (tCons (tFld K (tVar 0) "contents") tNil)))))
abbrev N_Holding_initX : List Str := ["self", "book", "names", "name"]
def t_Holding_initX (K : PySem.W.Frag) (E : XK) : TS := (tSeq (tFor (iOr (iList K (tVar 2)) (iTup K (tVar 2))) (gName 3) (tIfS (tNot (tB (tMeth (He.ga K "Book") "is_name" (sp_Book_is_nameO K) [] E0 (tVar 1) (tCons (tVar 3) tNil)))) (tRaiseO E (He.ga K "NoName") (sp_NoName_init K) (tCons (tVar 3) tNil)) tNext))
    (tSeq (sFld K (tVar 0) (tVar 1) "book")
    (tSeq (sFld K (tVar 0) (tDc (iOr (iList K (tVar 2)) (iTup K (tVar 2))) (gName 3) tYes (tVar 3) (tC (.bl true)) [3]) "inside")
    (sFld K (tVar 0) (tCB rSortK (tCons (tFld K (tVar 0) "inside") tNil)) "ordered"))))
end
section
variable [HasW] {K : PySem.W.Frag} {vs : List V} {H : Hp} {Q : VK} {E : XK}
theorem pure_NoName_init (h : sp_NoName_init K vs H Q E) : t_NoName_init K { nx := fun _ H' => Q .non H', rt := Q } (start N_NoName_init vs) H := by
  obtain ⟨a, C, u, rfl, oe, n1, ha, k⟩ := h
  refine ⟨_, rfl, a, C, _, rfl, (by show (1 : Nat) ≤ 1000; decide), oe, ha, ?_⟩
  exact ⟨_, rfl, _, rfl, a, C, rfl, oe, n1, .inl ⟨ha, fun d nd hd => k d nd hd⟩⟩
theorem pure_Book_is_nameO (h : sp_Book_is_nameO K vs H Q E) : t_Book_is_nameO K { nx := fun _ H' => Q .non H', rt := Q } (start N_Book_is_nameO vs) H := by
  obtain ⟨b, cs, as, x, rfl, bk, ⟨i, rfl, k⟩ | ⟨o, k⟩⟩ := h
  · refine ⟨_, rfl, _, rfl, .inl ⟨i, rfl, _, rfl, iteT ?_⟩⟩
    refine ⟨_, rfl, _, _, rfl, rfl, _, rfl, ?_⟩
    by_cases h0 : (0 : Int) ≤ i
    · rw [decide_eq_true h0] at k ⊢
      refine iteT (bk.lenC rfl ⟨_, _, rfl, rfl, ?_⟩)
      simpa using k
    · rw [decide_eq_false h0] at k ⊢
      exact iteF k
  · exact ⟨_, rfl, _, rfl, .inr ⟨o, _, rfl, iteF k⟩⟩
theorem iOr_any {σ : L2.St} {i : Nat} {a : Addr} {xs : List V} {R : It → Hp → Prop} (e : σ[i]? = some (some (.ref a))) (hn : H a = some (.lst xs) ∨ H a = some (.tup xs))
    (r : ∀ (J : It) (G : Hp → Prop), Walk J xs.length G (YAt xs) → (∀ H', H' a = H a → G H') → R J H) : iOr (iList K (tVar i)) (iTup K (tVar i)) σ H R := by
  rcases hn with h | h
  · exact .inl ⟨_, e, a, rfl, ⟨_, sqL h⟩, r _ _ walk_list fun H' e => sqL (e.trans h)⟩
  · exact .inr ⟨_, e, a, rfl, ⟨_, sqT h⟩, r _ _ walk_tup fun H' e => sqT (e.trans h)⟩
theorem pure_Holding_initX (h : sp_Holding_initX K vs H Q E) : t_Holding_initX K E { nx := fun _ H' => Q .non H', rt := Q } (start N_Holding_initX vs) H := by
  obtain ⟨x, dx, n, b, cs, as, xs, j, v, rfl, nc, bk, hn, hj, bad, good, k⟩ := h
  have hjl := (List.getElem?_eq_some_iff.mp hj).1
  refine iOr_any (i := 2) rfl hn fun J G w hG => ?_
  refine for_it w (fun i σ H' => i ≤ j ∧ H' = H ∧ ∃ z, σ = [some (.ref x), some (.ref b.B), some (.ref n), z]) ⟨Nat.zero_le _, rfl, _, rfl⟩ (fun i σ H' _ e => hG _ (by rw [e.2.1])) ?_ ?_
  · rintro i y σ H2 H3 hi ⟨ij, rfl, z, rfl⟩ ⟨rfl, hy⟩
    by_cases e : i < j
    · obtain ⟨u, rfl, u0, u1⟩ := good i y e hy
      refine bk.meV (by decide) rfl ⟨_, rfl, b, cs, as, _, rfl, bk, .inl ⟨u, rfl, _, rfl, ?_⟩⟩
      rw [decide_eq_true u0, decide_eq_true u1]
      exact iteF ⟨e, rfl, _, rfl⟩
    · obtain rfl : i = j := by omega
      rw [hj] at hy
      cases Option.some.inj hy
      have rz : (tRaiseO E (He.ga K "NoName") (sp_NoName_init K) (tCons (tVar 3) tNil)) { nx := fun σ H' => False, rt := Q } [some (.ref x), some (.ref b.B), some (.ref n), some v] H3 := by
        refine ⟨_, rfl, (by show (1 : Nat) ≤ 1000; decide), fun a na => ?_⟩
        refine ⟨a, _, v, rfl, nc.oex, nc.no, updS, fun d nd hd => ⟨rfl, d, _, updS, updN hd updS, ?_, ?_⟩⟩
        · rw [upd_ne hd] at nd
          exact nd
        · rw [upd_ne hd] at nd
          refine k d _ (fun b o e => ?_) nd updS
          have b1 : b ≠ d := ne_of_none e nd
          have b2 : b ≠ a := ne_of_none e na
          rw [upd_ne b1, del_ne b2, upd_ne b2, upd_ne b1, upd_ne b2]
          exact e
      rcases bad with ⟨u, rfl, no⟩ | o
      · refine bk.meV (by decide) rfl ⟨_, rfl, b, cs, as, _, rfl, bk, .inl ⟨u, rfl, _, rfl, ?_⟩⟩
        rw [show (decide (0 ≤ u) && decide (u < (cs.length : Nat))) = false from by
          rw [Bool.and_eq_false_iff, decide_eq_false_iff_not, decide_eq_false_iff_not]
          by_cases h0 : (0 : Int) ≤ u
          · exact .inr fun h1 => no ⟨h0, h1⟩
          · exact .inl h0]
        exact iteT rz
      · exact bk.meV (by decide) rfl ⟨_, rfl, b, cs, as, _, rfl, bk, .inr ⟨o, _, rfl, iteT rz⟩⟩
  · rintro σ H2 ⟨ij, rfl, z, rfl⟩
    exact absurd hjl (by omega)
end
end Fw

set_option Elab.async false
set_option linter.all false
set_option maxRecDepth 100000
set_option maxHeartbeats 4000000
/-! A house that writes; a town and its houses. -/
namespace Fw
open PySem L2 RZ RT
/-- sorted(d), d by texts -/
def rSortedD : List V → Hp → VK → Prop := fun xs H Q => ∃ (a : Addr) (kvs : List (Key × V)) (ks : List Str), xs = [.ref a] ∧ Rd H a (.dK kvs) ∧ kvs.map (·.1) = ks.map Sum.inr ∧ ks.length < 64 ∧
    ∀ ys p, ys.Perm ks → PyProof.Rows.sortedS ys = true → H p = none → Q (.ref p) (upd H p (.lst (ys.map V.str)))
structure TwC (K : PySem.W.Frag) : Prop where
  cl : Cls K (He.ga K "Town")
  n1 : NoAttr K (He.ga K "Town") "book"
  n2 : NoAttr K (He.ga K "Town") "houses"
  n3 : NoAttr K (He.ga K "Town") "talks"
abbrev twF (B D L : Addr) : List (Str × V) := [("book", .ref B), ("houses", .ref D), ("talks", .ref L)]
/-- a town of the book B, whose houses stand in the dict D -/
structure TwAt (K : PySem.W.Frag) (H : Hp) (T D B : Addr) (kvs : List (Key × V)) : Prop where
  tc : TwC K
  to : ∃ dx L, H T = some (.ins (He.ga K "Town") dx (twF B D L))
  hD : H D = some (.dK kvs)
section
variable {K : PySem.W.Frag} {H H' : Hp} {T D B : Addr} {kvs : List (Key × V)} {Q : VK} {σ : L2.St} {i : Nat}
theorem TwAt.keep (x : TwAt K H T D B kvs) (k : ∀ y ∈ [T, D], ∀ o, H y = some o → H' y = some o) : TwAt K H' T D B kvs := by
  obtain ⟨dx, L, e⟩ := x.to
  exact ⟨x.tc, ⟨dx, L, k _ (by simp) _ e⟩, k _ (by simp) _ x.hD⟩
theorem TwAt.same (x : TwAt K H T D B kvs) (s : Same H H') : TwAt K H' T D B kvs := x.keep fun y _ o e => s y o e
theorem TwAt.fD (x : TwAt K H T D B kvs) (e : σ[i]? = some (some (.ref T))) (q : Q (.ref D) H) : tFld K (tVar i) "houses" σ H Q := by
  obtain ⟨dx, L, hx⟩ := x.to
  exact ⟨_, e, T, _, dx, _, _, rfl, hx, x.tc.cl, x.tc.n2, rfl, q⟩
theorem TwAt.fB (x : TwAt K H T D B kvs) (e : σ[i]? = some (some (.ref T))) (q : Q (.ref B) H) : tFld K (tVar i) "book" σ H Q := by
  obtain ⟨dx, L, hx⟩ := x.to
  exact ⟨_, e, T, _, dx, _, _, rfl, hx, x.tc.cl, x.tc.n1, rfl, q⟩
theorem TwAt.me {n : Str} {sp : Sp} {E : XK} {ta : TA} (x : TwAt K H T D B kvs) (hm : ∀ L, (twF B D L).lookup n = none) (e : σ[i]? = some (some (.ref T))) (q : ta σ H fun vs H2 => sp (.ref T :: (vs ++ [])) H2 Q E) : tMeth (He.ga K "Town") n sp [] E (tVar i) ta σ H Q := by
  obtain ⟨dx, L, hx⟩ := x.to
  exact ⟨_, e, T, dx, _, rfl, hx, hm L, q⟩
theorem TwAt.ne (x : TwAt K H T D B kvs) : T ≠ D := by
  obtain ⟨dx, L, e⟩ := x.to
  exact ne_of e x.hD fun z => by cases z
end
section
variable [HasW]
def sp_House_write (K : PySem.W.Frag) : Sp := fun vs H Q _ => ∃ (h : HsA) (b : BkA) (cs : List Ct) (as : List Addr) (ns : List Int) (m : Int) (a : Addr) (c : Ct), vs = [.ref h.A, .ref a] ∧ HsAt K H h b.B ns m ∧ BkAt K H b cs as ∧ CtAt H a c ∧ c.form ∧ c.inB cs = true ∧ cs.length < 400 ∧ ns.length < 400 ∧
  ∀ (i : Nat) (as' : List Addr) (m' : Int) (H' : Hp), (addC cs c)[i]? = some c → Kf [h.A, h.I, b.L, b.E, b.G] H H' → BkAt K H' b (addC cs c) as' → HsAt K H' h b.B (insM ns (i : Int)) m' → TM H H' → Q (.int (i : Int)) H'
end
section
variable [HasW]
def sp_Town_init (K : PySem.W.Frag) : Sp := fun vs H Q _ => ∃ (x dx : Addr), vs = [.ref x] ∧ BkC K ∧ TwC K ∧ H x = some (.ins (He.ga K "Town") dx []) ∧
  ∀ (b : BkA) (D : Addr) (H' : Hp), (∀ a o, H a = some o → a ≠ x → H' a = some o) → (∀ y ∈ [b.B, b.L, b.E, b.G, D], H y = none) → TwAt K H' x D b.B [] → BkAt K H' b [] [] → Q .non H'
def sp_Town_build (K : PySem.W.Frag) : Sp := fun vs H Q _ => ∃ (T D B : Addr) (kvs : List (Key × V)) (l : Str), vs = [.ref T, .str l] ∧ TwAt K H T D B kvs ∧ HsC K ∧ valV kvs (Sum.inr l) = none ∧ kvs.length < 100 ∧
  ∀ (h : HsA) (H' : Hp), (∀ a o, H a = some o → a ≠ D → H' a = some o) → H h.A = none → H h.I = none → h.A ≠ h.I → TwAt K H' T D B (kvs ++ [(Sum.inr l, .ref h.A)]) → HsAt K H' h B [] 0 → Q (.ref h.A) H'
def sp_Town_house (K : PySem.W.Frag) : Sp := fun vs H Q _ => ∃ (T D B : Addr) (kvs : List (Key × V)) (l : Str) (v : V), vs = [.ref T, .str l] ∧ TwAt K H T D B kvs ∧ valV kvs (Sum.inr l) = some v ∧ Q v H
def sp_Town_labels (K : PySem.W.Frag) : Sp := fun vs H Q _ => ∃ (T D B : Addr) (kvs : List (Key × V)) (ks : List Str), vs = [.ref T] ∧ TwAt K H T D B kvs ∧ kvs.map (·.1) = ks.map Sum.inr ∧ ks.length < 64 ∧
  ∀ (ys : List Str) (p : Addr), ys.Perm ks → PyProof.Rows.sortedS ys = true → H p = none → Q (.ref p) (upd H p (.lst (ys.map V.str)))
end
section
variable {K : PySem.W.Frag} {vs : List V} {H : Hp} {Q : VK} {E : XK}
variable [HasW]
theorem len_House_write (h : sp_House_write K vs H Q E) : vs.length = 2 := by obtain ⟨_, _, _, _, _, _, _, _, rfl, _⟩ := h; rfl
theorem len_Town_init (h : sp_Town_init K vs H Q E) : vs.length = 1 := by obtain ⟨_, _, rfl, _⟩ := h; rfl
theorem len_Town_build (h : sp_Town_build K vs H Q E) : vs.length = 2 := by obtain ⟨_, _, _, _, _, rfl, _⟩ := h; rfl
theorem len_Town_house (h : sp_Town_house K vs H Q E) : vs.length = 2 := by obtain ⟨_, _, _, _, _, _, rfl, _⟩ := h; rfl
theorem len_Town_labels (h : sp_Town_labels K vs H Q E) : vs.length = 1 := by obtain ⟨_, _, _, _, _, rfl, _⟩ := h; rfl
end
section
variable [HasW]
abbrev N_House_write : List Str := ["self", "content", "name"]
def t_House_write (K : PySem.W.Frag) : TS := (tSeq (tAsg (tMeth (He.ga K "Book") "named" (sp_Book_named K) [] E0 (tFld K (tVar 0) "book") (tCons (tVar 1) tNil)) (gName 2))
    (tSeq (tDrop (tMeth (He.ga K "House") "put" (sp_House_put K) [] E0 (tVar 0) (tCons (tVar 2) tNil)))
    (tRet (tVar 2))))
abbrev N_Town_init : List Str := ["self"]
def t_Town_init (K : PySem.W.Frag) : TS := (tSeq (sFld K (tVar 0) (tMake (He.ga K "Book") (sp_Book_init K) [] E0 tNil) "book")
    (tSeq (sFld K (tVar 0) tDNewK "houses")
    (sFld K (tVar 0) (tLst tNil) "talks")))
abbrev N_Town_build : List Str := ["self", "label"]
def t_Town_build (K : PySem.W.Frag) : TS := (tSeq (tIfS (tB (tDIn (tVar 1) (tFld K (tVar 0) "houses"))) tNever tNext)
    (tSeq (sDPut (tFld K (tVar 0) "houses") (tVar 1) (tMake (He.ga K "House") (sp_House_init K) [] E0 (tCons (tFld K (tVar 0) "book") tNil)))
    (tRet (tDGet (tFld K (tVar 0) "houses") (tVar 1)))))
abbrev N_Town_house : List Str := ["self", "label"]
def t_Town_house (K : PySem.W.Frag) : TS := (tSeq (tIfS (tOr (tNot (tB (tCB (rIsi K) (tCons (tVar 1) (tCons (tC (.ty "str")) tNil))))) (tB (tDNotIn (tVar 1) (tFld K (tVar 0) "houses")))) tNever tNext)
    (tRet (tDGet (tFld K (tVar 0) "houses") (tVar 1))))
abbrev N_Town_labels : List Str := ["self"]
def t_Town_labels (K : PySem.W.Frag) : TS := (tRet (tCB rSortedD (tCons (tFld K (tVar 0) "houses") tNil)))
end
section
variable [HasW] {K : PySem.W.Frag} {vs : List V} {H : Hp} {Q : VK} {E : XK}
theorem pure_House_write (h : sp_House_write K vs H Q E) : t_House_write K { nx := fun _ H' => Q .non H', rt := Q } (start N_House_write vs) H := by
  obtain ⟨h, b, cs, as, ns, m, a, c, rfl, st, bk, hc, fo, inb, few, few2, k⟩ := h
  dsimp only [t_House_write, tSeq, tAsg, tMeth]
  refine st.fB rfl ?_
  refine bk.meF (m := "named") (by decide) ?_
  have fin : ∀ (i : Nat) (as' : List Addr) (H1 : Hp), (addC cs c)[i]? = some c → Kf [b.L, b.E, b.G] H H1 → BkAt K H1 b (addC cs c) as' → TM H H1 →
      (tSeq (tDrop (tMeth (He.ga K "House") "put" (sp_House_put K) [] E0 (tVar 0) (tCons (tVar 2) tNil))) (tRet (tVar 2))) { nx := fun _ H' => Q .non H', rt := Q } [some (.ref h.A), some (.ref a), some (.int (i : Int))] H1 := by
    intro i as' H1 hi kf bk1 tm
    have sp := st.sep bk
    have s1 : HsAt K H1 h b.B ns m := st.kf kf fun y hy hz => sp y (List.mem_cons_of_mem _ hz) hy
    have hl := (List.getElem?_eq_some_iff.mp hi).1
    refine s1.me (fun _ => rfl) rfl ⟨_, rfl, h, b, _, as', ns, m, (i : Int), rfl, s1, bk1, by omega, by omega, fun _ => few2, fun hm => ⟨_, rfl, ?_⟩, fun hm H2 kf2 s2 => ⟨_, rfl, ?_⟩⟩
    · refine k i as' m H1 hi (kf.sub (by simp)) bk1 ?_ tm
      unfold insM
      rw [if_pos hm]
      exact s1
    · have sp1 := s1.sep bk1
      have tm2 : TM H1 H2 := kf2.tm fun y hy ys z => by
        obtain ⟨dx, hA⟩ := s1.ho
        simp only [List.mem_cons, List.not_mem_nil, or_false] at hy
        rcases hy with rfl | rfl
        · rw [hA] at z; cases z
        · rw [s1.hI] at z; cases z
      refine k i as' (m + 1) H2 hi ((kf.sub (by simp)).trans (kf2.sub (by simp))) (bk1.kf kf2 sp1 tm2) ?_ (fun x xs e => tm2 _ _ (tm _ _ e))
      unfold insM
      rw [if_neg hm]
      exact s2
  refine ⟨_, rfl, b, cs, as, a, c, rfl, bk, hc, fo, inb, fun _ => few, fun i H1 hi s => ?_, fun hn H1 kb bk1 => ?_⟩
  · have e : addC cs c = cs := if_pos (List.mem_of_getElem? hi)
    exact fin i as H1 (by rw [e]; exact hi) (.same s) (by rw [e]; exact bk.same s) (TM.of s)
  · have e : addC cs c = cs ++ [c] := if_neg hn
    exact fin cs.length (as ++ [a]) H1 (by rw [e, List.getElem?_append_right (Nat.le_refl _), Nat.sub_self]; rfl) kb.kf (by rw [e]; exact bk1) (bk.tup kb)
theorem pure_Town_house (h : sp_Town_house K vs H Q E) : t_Town_house K { nx := fun _ H' => Q .non H', rt := Q } (start N_Town_house vs) H := by
  obtain ⟨T, D, B, kvs, l, v, rfl, tw, hv, k⟩ := h
  refine ⟨_, rfl, isi (.base (.str l)) k_ss ⟨_, rfl, iteF ⟨_, rfl, tw.fD rfl ⟨D, _, rfl, DGet.k (k := Sum.inr l) tw.hD, ?_⟩⟩⟩⟩
  rw [hv]
  refine ⟨_, rfl, iteF ?_⟩
  dsimp only [tNext, tRet, tDGet]
  refine tw.fD rfl ⟨_, rfl, D, v, rfl, ?_, k⟩
  have := DGet.k (k := Sum.inr l) tw.hD
  rw [hv] at this
  exact this
theorem pure_Town_labels (h : sp_Town_labels K vs H Q E) : t_Town_labels K { nx := fun _ H' => Q .non H', rt := Q } (start N_Town_labels vs) H := by
  obtain ⟨T, D, B, kvs, ks, rfl, tw, hk, hl, k⟩ := h
  exact tw.fD rfl ⟨D, kvs, ks, rfl, .inl tw.hD, hk, hl, k⟩
theorem pure_Town_init (h : sp_Town_init K vs H Q E) : t_Town_init K { nx := fun _ H' => Q .non H', rt := Q } (start N_Town_init vs) H := by
  obtain ⟨x, dx, rfl, bc, tc, hx, k⟩ := h
  intro B db nB ndb ne
  have s0 : Same H (upd (upd H db (.own B)) B (.ins (He.ga K "Book") db [])) := fun b o e => updN (ne_of_none e nB) (updN (ne_of_none e ndb) e)
  refine ⟨B, db, rfl, bc, updS, fun b H1 eB kp nL nE nG bk => ⟨rfl, ?_⟩⟩
  subst eB
  have s1 : Same H H1 := fun a o e => kp a o (s0 a o e) (ne_of_none e nB)
  have fr : ∀ {y : Addr}, upd (upd H db (.own b.B)) b.B (.ins (He.ga K "Book") db []) y = none → H y = none := fun {y} e => by
    cases q : H y with
    | none => rfl
    | some o => rw [s0 _ _ q] at e; cases e
  have hx1 := s1 _ _ hx
  obtain ⟨dxb, fsb, hB1, c1, _⟩ := id bk.bo
  have xb : ∀ y ∈ [b.B, b.L, b.E, b.G], y ≠ x := fun y hy z => by
    subst z
    simp only [List.mem_cons, List.not_mem_nil, or_false] at hy
    rcases hy with e2 | e2 | e2 | e2
    · rw [e2, nB] at hx; cases hx
    · rw [e2, fr nL] at hx; cases hx
    · rw [e2, fr nE] at hx; cases hx
    · rw [e2, fr nG] at hx; cases hx
  refine ⟨_, rfl, x, _, dx, _, rfl, hx1, tc.cl, tc.n1, by decide, ?_⟩
  have bk2 : BkAt K (upd H1 x (.ins (He.ga K "Town") dx [("book", .ref b.B)])) b [] [] := bk.kf (F := [x]) (Kf.refl.up (by simp)) (fun y hy z => xb y hy (List.mem_singleton.mp z)) fun a xs e => updN (ne_of e hx1 fun z => by cases z) e
  refine fun D nD => ?_
  have xD : x ≠ D := ne_of_none updS nD
  have nD1 : H1 D = none := by rw [upd_ne xD.symm] at nD; exact nD
  have nD0 : H D = none := by
    cases q : H D with
    | none => rfl
    | some o => rw [s1 _ _ q] at nD1; cases nD1
  refine ⟨_, rfl, x, _, dx, _, rfl, updN xD updS, tc.cl, tc.n2, by show (1 : Nat) < 1000; decide, ?_⟩
  refine ⟨by show (0 : Nat) ≤ sizeLine; decide, fun L nL2 => ?_⟩
  have xL : x ≠ L := ne_of_none updS nL2
  rw [upd_ne xL.symm] at nL2
  have DL : D ≠ L := ne_of_none updS nL2
  rw [upd_ne DL.symm, upd_ne xL.symm] at nL2
  refine ⟨_, rfl, x, _, dx, _, rfl, updN xL updS, tc.cl, tc.n3, by show (2 : Nat) < 1000; decide, ?_⟩
  refine k b D _ (fun a o e n => updN n (updN (ne_of_none (s1 _ _ e) nL2) (updN n (updN (ne_of_none e nD0) (updN n (s1 _ _ e)))))) ?_ ⟨tc, ⟨dx, L, updS⟩, updN xD.symm (updN DL (updN xD.symm updS))⟩ ?_
  · intro y hy
    simp only [List.mem_cons, List.not_mem_nil, or_false] at hy
    rcases hy with rfl | rfl | rfl | rfl | rfl
    · exact nB
    · exact fr nL
    · exact fr nE
    · exact fr nG
    · exact nD0
  · refine bk2.kf (F := [x, D, L]) ((((Kf.refl.up (by simp)).up (by simp)).up (by simp)).up (by simp)) (fun y hy z => ?_) fun a xs e => ?_
    · simp only [List.mem_cons, List.not_mem_nil, or_false] at z
      have al : ∃ o, H1 y = some o := by
        simp only [List.mem_cons, List.not_mem_nil, or_false] at hy
        rcases hy with rfl | rfl | rfl | rfl
        · exact ⟨_, hB1⟩
        · exact ⟨_, bk.hL⟩
        · exact ⟨_, bk.hE⟩
        · exact ⟨_, bk.hG⟩
      obtain ⟨o, ho⟩ := al
      rcases z with z | z | z
      · exact xb y hy z
      · rw [z, nD1] at ho; cases ho
      · rw [z, nL2] at ho; cases ho
    · have ax : a ≠ x := ne_of e updS fun z => by cases z
      have e1 : H1 a = some (.tup xs) := by rw [upd_ne ax] at e; exact e
      exact updN ax (updN (ne_of_none e1 nL2) (updN ax (updN (ne_of_none e1 nD1) (updN ax e1))))
theorem pure_Town_build (h : sp_Town_build K vs H Q E) : t_Town_build K { nx := fun _ H' => Q .non H', rt := Q } (start N_Town_build vs) H := by
  obtain ⟨T, D, B, kvs, l, rfl, tw, hc, hv, few, k⟩ := h
  refine ⟨_, rfl, tw.fD rfl ⟨D, _, rfl, DGet.k (k := Sum.inr l) tw.hD, ?_⟩⟩
  rw [hv]
  refine ⟨_, rfl, iteF ?_⟩
  dsimp only [tNext, tSeq, sDPut, tMake, tCons]
  refine tw.fB rfl ?_
  dsimp only [tNil]
  intro x dx nx ndx ne
  have s0 : Same H (upd (upd H dx (.own x)) x (.ins (He.ga K "House") dx [])) := fun b o e => updN (ne_of_none e nx) (updN (ne_of_none e ndx) e)
  refine ⟨x, dx, B, rfl, hc, updS, fun h H1 eA kp fr nd hs _ => ⟨rfl, ?_⟩⟩
  subst eA
  have s1 : Same H H1 := fun a o e => kp a o (s0 a o e) (ne_of_none e nx)
  have nI : H h.I = none := by
    have := fr h.I (by simp)
    cases q : H h.I with
    | none => rfl
    | some o => rw [s0 _ _ q] at this; cases this
  have AI : h.A ≠ h.I := by
    intro z
    rw [z] at nd
    simp at nd
  have tw1 := tw.same s1
  refine tw1.fD rfl ⟨_, rfl, D, _, rfl, DPut.k (k := Sum.inr l) tw1.hD (by exact Nat.lt_of_lt_of_le few (by decide)), ?_⟩
  have eP : putK kvs (Sum.inr l) (V.ref h.A) = kvs ++ [(Sum.inr l, .ref h.A)] := by
    unfold putK
    rw [valV_any, hv]
    rfl
  rw [eP]
  have TD := tw1.ne
  have tw2 : TwAt K (upd H1 D (.dK (kvs ++ [(Sum.inr l, .ref h.A)]))) T D B (kvs ++ [(Sum.inr l, .ref h.A)]) := by
    obtain ⟨dx', L, e⟩ := tw1.to
    exact ⟨tw1.tc, ⟨dx', L, updN TD e⟩, updS⟩
  have nAD : h.A ≠ D := (ne_of_none tw.hD nx).symm
  have nID : h.I ≠ D := (ne_of_none tw.hD nI).symm
  have hs2 : HsAt K (upd H1 D (.dK (kvs ++ [(Sum.inr l, .ref h.A)]))) h B [] 0 := hs.kf (F := [D]) (Kf.refl.up (by simp)) fun y hy z => by
    rw [List.mem_singleton.mp z] at hy
    simp only [List.mem_cons, List.not_mem_nil, or_false] at hy
    rcases hy with q | q
    · exact nAD q.symm
    · exact nID q.symm
  dsimp only [tNext, tRet, tDGet]
  refine tw2.fD rfl ⟨_, rfl, D, .ref h.A, rfl, ?_, ?_⟩
  · have := DGet.k (k := Sum.inr l) tw2.hD
    rw [valV_snoc _ _ _ _ hv, if_pos rfl] at this
    exact this
  · exact k h _ (fun a o e n => updN n (s1 _ _ e)) nx nI AI tw2 hs2
end
end Fw

set_option Elab.async false
set_option linter.all false
set_option maxRecDepth 100000
set_option maxHeartbeats 4000000
/-! A town that refuses. -/
namespace Fw
open PySem L2 RZ RT
def sp_NoHouse_init (K : PySem.W.Frag) : Sp := fun vs H Q _ => ∃ (a C : Addr) (u : V), vs = [.ref a, u] ∧ OexC K C ∧ PySem.W.findIn K (.ref C) "label" = some none ∧ H a = some (exo a C none) ∧
  ∀ d, H d = none → d ≠ a → Q .non (upd (upd H d (exd d [("label", u)])) a (exo a C (some d)))
def sp_Taken_init (K : PySem.W.Frag) : Sp := fun vs H Q _ => ∃ (a C : Addr) (u : V), vs = [.ref a, u] ∧ OexC K C ∧ PySem.W.findIn K (.ref C) "label" = some none ∧ H a = some (exo a C none) ∧
  ∀ d, H d = none → d ≠ a → Q .non (upd (upd H d (exd d [("label", u)])) a (exo a C (some d)))
section
variable [HasW]
def sp_House_sweep (K : PySem.W.Frag) : Sp := fun _ _ _ _ => False
def sp_Town_buildX (K : PySem.W.Frag) : Sp := fun vs H _ E => ∃ (T D B : Addr) (kvs : List (Key × V)) (l : Str) (v : V), vs = [.ref T, .str l] ∧ TwAt K H T D B kvs ∧ EcT K "Taken" ∧ valV kvs (Sum.inr l) = some v ∧
  ∀ d H', Same H H' → H d = none → H' d = some (.xd [("label", .str l)]) → E (.ref (He.ga K "Taken")) (some d) H'
def sp_Town_houseX (K : PySem.W.Frag) : Sp := fun vs H _ E => ∃ (T D B : Addr) (kvs : List (Key × V)) (l : Str), vs = [.ref T, .str l] ∧ TwAt K H T D B kvs ∧ EcT K "NoHouse" ∧ valV kvs (Sum.inr l) = none ∧
  ∀ d H', Same H H' → H d = none → H' d = some (.xd [("label", .str l)]) → E (.ref (He.ga K "NoHouse")) (some d) H'
def sp_Town_sweepX (K : PySem.W.Frag) : Sp := fun vs H Q E => sp_Town_houseX K vs H Q E
end
section
variable {K : PySem.W.Frag} {vs : List V} {H : Hp} {Q : VK} {E : XK}
theorem len_NoHouse_init (h : sp_NoHouse_init K vs H Q E) : vs.length = 2 := by obtain ⟨_, _, _, rfl, _⟩ := h; rfl
theorem len_Taken_init (h : sp_Taken_init K vs H Q E) : vs.length = 2 := by obtain ⟨_, _, _, rfl, _⟩ := h; rfl
variable [HasW]
theorem len_House_sweep (h : sp_House_sweep K vs H Q E) : vs.length = 2 := h.elim
theorem len_Town_buildX (h : sp_Town_buildX K vs H Q E) : vs.length = 2 := by obtain ⟨_, _, _, _, _, _, rfl, _⟩ := h; rfl
theorem len_Town_houseX (h : sp_Town_houseX K vs H Q E) : vs.length = 2 := by obtain ⟨_, _, _, _, _, rfl, _⟩ := h; rfl
theorem len_Town_sweepX (h : sp_Town_sweepX K vs H Q E) : vs.length = 2 := by obtain ⟨_, _, _, _, _, rfl, _⟩ := h; rfl
end
abbrev N_NoHouse_init : List Str := ["self", "label"]
def t_NoHouse_init (K : PySem.W.Frag) : TS := (tSeq (tDrop (tVeI K (tCons (tVar 0) (tCons (tC (.str "there is no house of this label")) tNil))))
    (tOst K "label" (tVar 0) (tVar 1)))
abbrev N_Taken_init : List Str := ["self", "label"]
def t_Taken_init (K : PySem.W.Frag) : TS := (tSeq (tDrop (tVeI K (tCons (tVar 0) (tCons (tC (.str "there is a house of this label already")) tNil))))
    (tOst K "label" (tVar 0) (tVar 1)))
section
variable [HasW]
abbrev N_Town_buildX : List Str := ["self", "label"]
def t_Town_buildX (K : PySem.W.Frag) (E : XK) : TS := (tSeq (tIfS (tB (tDIn (tVar 1) (tFld K (tVar 0) "houses"))) (tRaiseO E (He.ga K "Taken") (sp_Taken_init K) (tCons (tVar 1) tNil)) tNext)
    (tSeq (sDPut (tFld K (tVar 0) "houses") (tVar 1) (tMake (He.ga K "House") (sp_House_init K) [] E0 (tCons (tFld K (tVar 0) "book") tNil)))
    (tRet (tDGet (tFld K (tVar 0) "houses") (tVar 1)))))
abbrev N_Town_houseX : List Str := ["self", "label"]
def t_Town_houseX (K : PySem.W.Frag) (E : XK) : TS := (tSeq (tIfS (tOr (tNot (tB (tCB (rIsi K) (tCons (tVar 1) (tCons (tC (.ty "str")) tNil))))) (tB (tDNotIn (tVar 1) (tFld K (tVar 0) "houses")))) (tRaiseO E (He.ga K "NoHouse") (sp_NoHouse_init K) (tCons (tVar 1) tNil)) tNext)
    (tRet (tDGet (tFld K (tVar 0) "houses") (tVar 1))))
abbrev N_Town_sweepX : List Str := ["self", "label"]
def t_Town_sweepX (K : PySem.W.Frag) (E : XK) : TS := (tRet (tMeth (He.ga K "House") "sweep" (sp_House_sweep K) [.int 400] E0 (tMethX (He.ga K "Town") "house" (sp_Town_houseX K) (fun _ => E) (tVar 0) (tCons (tVar 1) tNil)) tNil))
end
section
variable {K : PySem.W.Frag} {vs : List V} {H : Hp} {Q : VK} {E : XK}
theorem pure_NoHouse_init (h : sp_NoHouse_init K vs H Q E) : t_NoHouse_init K { nx := fun _ H' => Q .non H', rt := Q } (start N_NoHouse_init vs) H := by
  obtain ⟨a, C, u, rfl, oe, n1, ha, k⟩ := h
  refine ⟨_, rfl, a, C, _, rfl, (by show (1 : Nat) ≤ 1000; decide), oe, ha, ?_⟩
  exact ⟨_, rfl, _, rfl, a, C, rfl, oe, n1, .inl ⟨ha, fun d nd hd => k d nd hd⟩⟩
theorem pure_Taken_init (h : sp_Taken_init K vs H Q E) : t_Taken_init K { nx := fun _ H' => Q .non H', rt := Q } (start N_Taken_init vs) H := by
  obtain ⟨a, C, u, rfl, oe, n1, ha, k⟩ := h
  refine ⟨_, rfl, a, C, _, rfl, (by show (1 : Nat) ≤ 1000; decide), oe, ha, ?_⟩
  exact ⟨_, rfl, _, rfl, a, C, rfl, oe, n1, .inl ⟨ha, fun d nd hd => k d nd hd⟩⟩
end
section
variable [HasW] {K : PySem.W.Frag} {vs : List V} {H : Hp} {Q : VK} {E : XK}
/-- a refusal that has the label -/
theorem raise_lab {X : Str} {sp : Sp} {D' : Ends} {σ : L2.St} {l : Str} (ec : EcT K X) (hs : sp = sp_NoHouse_init K ∨ sp = sp_Taken_init K) (e : σ[1]? = some (some (.str l)))
    (k : ∀ d H', Same H H' → H d = none → H' d = some (.xd [("label", .str l)]) → E (.ref (He.ga K X)) (some d) H') : tRaiseO E (He.ga K X) sp (tCons (tVar 1) tNil) D' σ H := by
  refine ⟨_, e, (by show (1 : Nat) ≤ 1000; decide), fun a na => ?_⟩
  rcases hs with rfl | rfl <;>
  · refine ⟨a, _, .str l, rfl, ec.oex, ec.no, updS, fun d nd hd => ⟨rfl, d, _, updS, updN hd updS, ?_, ?_⟩⟩
    · rw [upd_ne hd] at nd
      exact nd
    · rw [upd_ne hd] at nd
      refine k d _ (fun b o e => ?_) nd updS
      have b1 : b ≠ d := ne_of_none e nd
      have b2 : b ≠ a := ne_of_none e na
      rw [upd_ne b1, del_ne b2, upd_ne b2, upd_ne b1, upd_ne b2]
      exact e
theorem pure_Town_buildX (h : sp_Town_buildX K vs H Q E) : t_Town_buildX K E { nx := fun _ H' => Q .non H', rt := Q } (start N_Town_buildX vs) H := by
  obtain ⟨T, D, B, kvs, l, v, rfl, tw, ec, hv, k⟩ := h
  refine ⟨_, rfl, tw.fD rfl ⟨D, _, rfl, DGet.k (k := Sum.inr l) tw.hD, ?_⟩⟩
  rw [hv]
  exact ⟨_, rfl, iteT (raise_lab ec (.inr rfl) rfl k)⟩
theorem houseX {D' : Ends} {T D B : Addr} {kvs : List (Key × V)} {l : Str} (tw : TwAt K H T D B kvs) (ec : EcT K "NoHouse") (hv : valV kvs (Sum.inr l) = none) (k : ∀ d H', Same H H' → H d = none → H' d = some (.xd [("label", .str l)]) → E (.ref (He.ga K "NoHouse")) (some d) H') :
    t_Town_houseX K E D' [some (.ref T), some (.str l)] H := by
  refine ⟨_, rfl, isi (.base (.str l)) k_ss ⟨_, rfl, iteF ⟨_, rfl, tw.fD rfl ⟨D, _, rfl, DGet.k (k := Sum.inr l) tw.hD, ?_⟩⟩⟩⟩
  rw [hv]
  exact ⟨_, rfl, iteT (raise_lab ec (.inl rfl) rfl k)⟩
theorem pure_Town_houseX (h : sp_Town_houseX K vs H Q E) : t_Town_houseX K E { nx := fun _ H' => Q .non H', rt := Q } (start N_Town_houseX vs) H := by
  obtain ⟨T, D, B, kvs, l, rfl, tw, ec, hv, k⟩ := h
  exact houseX tw ec hv k
theorem pure_Town_sweepX (h : sp_Town_sweepX K vs H Q E) : t_Town_sweepX K E { nx := fun _ H' => Q .non H', rt := Q } (start N_Town_sweepX vs) H := by
  obtain ⟨T, D, B, kvs, l, rfl, tw, ec, hv, k⟩ := h
  obtain ⟨dx, L, hx⟩ := tw.to
  exact ⟨_, rfl, T, dx, _, rfl, hx, rfl, _, rfl, T, D, B, kvs, l, rfl, tw, ec, hv, k⟩
end
end Fw

set_option Elab.async false
set_option linter.all false
set_option maxRecDepth 100000
set_option maxHeartbeats 4000000
/-! Where lambdas' tables stay, though a book, lists and decks change. -/
namespace Fw
open PySem L2 RZ RT
theorem nd_ne_code [HasW] {a c : Addr} {xs : List NEnt} {q : Str} : ND a xs ≠ LamX.CodeO c q := fun h => by
  unfold ND LamX.CodeO at h
  injection h with h
  let o : Obj := { cls := .none, data := .fields #[.none, .str q 0] }
  have hg : ∀ b, b < a + c + 1 → ({ objs := (List.replicate (a + c + 1) o).toArray } : Heap).get? b = some o := fun b hb => by
    unfold Heap.get?
    have e : (List.replicate (a + c + 1) o).toArray[b]? = some o := by
      rw [List.getElem?_toArray, List.getElem?_replicate, if_pos hb]
    rw [e]
  have h1 := (congrFun h { objs := (List.replicate (a + c + 1) o).toArray }).mpr ⟨o, _, 0, hg c (Nat.lt_succ_of_le (Nat.le_add_left c a)), rfl, rfl⟩
  obtain ⟨_, _, ys, _, o2, es, ep, e1, _, e2, _⟩ := h1
  rw [hg a (Nat.lt_succ_of_le (Nat.le_add_right a c))] at e1
  cases Option.some.inj e1
  cases e2
/-- what holds no table and no code -/
def NoTab (y : HO) : Prop := (∀ ps, y ≠ .tbl ps) ∧ ∀ c q, y ≠ LamX.CodeO c q
theorem noTab_lst {xs : List V} : NoTab (.lst xs) := ⟨fun ps z => (by cases z), fun c q z => (by unfold LamX.CodeO at z; cases z)⟩
theorem noTab_dK {xs : List (Key × V)} : NoTab (.dK xs) := ⟨fun ps z => (by cases z), fun c q z => (by unfold LamX.CodeO at z; cases z)⟩
theorem noTab_nd [HasW] {a : Addr} {xs : List NEnt} : NoTab (ND a xs) := ⟨fun ps z => (by unfold ND at z; cases z), fun c q => nd_ne_code⟩
section
variable {K : PySem.W.Frag} {H H' : Hp}
theorem tabs_kf {TL : List (Addr × Str)} {F : List Addr} (tb : LamX.Tabs TL H) (kf : Kf F H H') (hF : ∀ y ∈ F, ∃ o, H y = some o ∧ NoTab o) : LamX.Tabs TL H' := fun p hp => by
  obtain ⟨ps, h1, h2, h3⟩ := tb p hp
  refine ⟨ps, kf _ _ h1 fun z => ?_, h2, fun pos cv e => ?_⟩
  · obtain ⟨o, e, n⟩ := hF _ z
    rw [h1] at e
    exact n.1 _ (Option.some.inj e).symm
  · obtain ⟨cc, e1, e2⟩ := h3 pos cv e
    refine ⟨cc, e1, kf _ _ e2 fun z => ?_⟩
    obtain ⟨o, e, n⟩ := hF _ z
    rw [e2] at e
    exact n.2 _ _ (Option.some.inj e).symm
theorem Dk.extN {c D : Addr} {ns : List Int} {t : Nat} (d : Dk c D ns t H) (e : LamX.ExtN H H') : Dk c D ns t H' := by
  obtain ⟨x1, x2, x3, i, m, u, x4, r⟩ := d
  exact ⟨x1, e _ _ x2 (fun ps z => by cases z), x3, i, m, u, e _ _ x4 (fun ps z => by cases z), r⟩
theorem ExtN.tm {H H' : Hp} (e : LamX.ExtN H H') : TM H H' := fun a xs h => e a _ h fun ps z => by cases z
variable [HasW] {b : BkA} {cs : List Ct} {as : List Addr}
theorem BkAt.ext (k : BkAt K H b cs as) (e : LamX.ExtN H H') : BkAt K H' b cs as := by
  obtain ⟨dx, fs, hB, r⟩ := k.bo
  exact ⟨k.bc, ⟨dx, fs, e _ _ hB (fun ps z => by cases z), r⟩, e _ _ k.hL (fun ps z => by cases z), e _ _ k.hE (fun ps z => by cases z), e _ _ k.hG (fun ps z => by unfold ND at z; cases z), k.at_.mono (ExtN.tm e), k.nd, k.few, k.ok, k.ne⟩
theorem BkAt.noTab (k : BkAt K H b cs as) : ∀ y ∈ [b.L, b.E, b.G], ∃ o, H y = some o ∧ NoTab o := fun y hy => by
  simp only [List.mem_cons, List.not_mem_nil, or_false] at hy
  rcases hy with rfl | rfl | rfl
  · exact ⟨_, k.hL, noTab_lst⟩
  · exact ⟨_, k.hE, noTab_lst⟩
  · exact ⟨_, k.hG, noTab_nd⟩
end
end Fw

set_option Elab.async false
set_option linter.all false
set_option maxRecDepth 100000
set_option maxHeartbeats 4000000
/-! ==, != of an own class with an own __eq__, with anything at the other side; == of objects of a class without one. -/
namespace Fw
open PySem PySem.Spec PySem.Calls PyProof.Rows
def ownTs : List String := ["list", "tuple", "str", "int", "bool", "NoneType", "dict"]
/-- the class C is under none of the built-in types -/
def NoBase (K : PySem.W.Frag) (C : Addr) : Prop := ∀ T ∈ ownTs, PySem.W.subIn K (.ref C) (.type T) = some false
section
variable {prog : Program} {w : World} {A : Around} {E : Value → Shared → Prop} {s : Shared} {K : PySem.W.Frag} {x C dx : Addr} {ox : Obj} {od : Option Obj}
theorem isInst_no {M : Model} {T : String} {Q : Bool → Shared → Prop} (X : K.In s.heap) (I : PySem.W.InstAt s.heap x ox C od) (hs : PySem.W.subIn K (.ref C) (.type T) = some false) (h : Q false s) : wpAny M A (isInstance (.ref x) (.type T)) Q E s := by
  unfold isInstance
  exact wpAny_bind (I.type.here ((PySem.W.looks_subIn X hs).here h))
theorem list_decl {l : Addr} {Q : Fin → Shared → Prop} (X : K.In s.heap) (I : PySem.W.InstAt s.heap x ox C od) (hs : PySem.W.subIn K (.ref C) (.type "list") = some false) (h : Q (.done (.ret .notImplemented)) s) : wpAny (model prog w) A (Builtin.«list.__eq__» ⟨[.ref l, .ref x], []⟩) Q E s := by
  wp_walk using isInst_no X I hs
  exact h
theorem tuple_decl {l : Addr} {Q : Fin → Shared → Prop} (X : K.In s.heap) (I : PySem.W.InstAt s.heap x ox C od) (hs : PySem.W.subIn K (.ref C) (.type "tuple") = some false) (h : Q (.done (.ret .notImplemented)) s) : wpAny (model prog w) A (Builtin.«tuple.__eq__» ⟨[.ref l, .ref x], []⟩) Q E s := by
  wp_walk using isInst_no X I hs
  exact h
theorem dict_decl {l : Addr} {Q : Fin → Shared → Prop} (X : K.In s.heap) (I : PySem.W.InstAt s.heap x ox C od) (hs : PySem.W.subIn K (.ref C) (.type "dict") = some false) (h : Q (.done (.ret .notImplemented)) s) : wpAny (model prog w) A (Builtin.«dict.__eq__» ⟨[.ref l, .ref x], []⟩) Q E s := by
  wp_walk using isInst_no X I hs
  exact h
theorem int_decl {i : Int} {t : Tok} {Q : Fin → Shared → Prop} (hx : s.heap.get? x = some (PySem.W.instObj C dx)) (h : Q (.done (.ret .notImplemented)) s) : wpAny (model prog w) A (Builtin.«int.__eq__» ⟨[.int i t, .ref x], []⟩) Q E s := by
  obtain ⟨hp, g, d, tk, os⟩ := s
  unfold PySem.W.instObj at hx
  wp_walk using wpAny_loadPart' hx
  exact h
theorem bool_decl {i : Bool} {Q : Fin → Shared → Prop} (hx : s.heap.get? x = some (PySem.W.instObj C dx)) (h : Q (.done (.ret .notImplemented)) s) : wpAny (model prog w) A (Builtin.«int.__eq__» ⟨[.bool i, .ref x], []⟩) Q E s := by
  obtain ⟨hp, g, d, tk, os⟩ := s
  unfold PySem.W.instObj at hx
  wp_walk using wpAny_loadPart' hx
  exact h
theorem str_decl {i : Str} {t : Tok} {Q : Fin → Shared → Prop} (hx : s.heap.get? x = some (PySem.W.instObj C dx)) (h : Q (.done (.ret .notImplemented)) s) : wpAny (model prog w) A (Builtin.«str.__eq__» ⟨[.str i t, .ref x], []⟩) Q E s := by
  obtain ⟨hp, g, d, tk, os⟩ := s
  unfold PySem.W.instObj at hx
  wp_walk using wpAny_loadPart' hx
  exact h
/-- a value of a built-in type, by its shape -/
inductive UK : Value → String → Prop where
  | non : UK .none "NoneType"
  | bl (b : Bool) : UK (.bool b) "bool"
  | int (i : Int) (t : Tok) : UK (.int i t) "int"
  | str (z : Str) (t : Tok) : UK (.str z t) "str"
  | lst (a : Addr) : UK (.ref a) "list"
  | tup (a : Addr) : UK (.ref a) "tuple"
  | dct (a : Addr) : UK (.ref a) "dict"
theorem decl_try {u : Value} {T : String} (X : K.In s.heap) (I : PySem.W.InstAt s.heap x ox C od) (hx : s.heap.get? x = some (PySem.W.instObj C dx)) (nb : NoBase K C) (k : UK u T) (ty : s.TypeIs u T) :
    wpAny (model prog w) A (tryCompare u "__eq__" (.ref x)) (fun r s' => r = none ∧ s' = s) E s := by
  cases k with
  | non => exact wpAny_tryCompare_declines ty PySem.F.slot_NoneType_eq_refl (call_gives PySem.F.slot_NoneType_eq_refl ty PySem.F.entry_NoneType_eq (PySem.F.args_NoneType_eq_2 _ _) (PySem.SeqAt.NoneType___eq___none_ref_0 x) ⟨rfl, rfl, rfl⟩)
  | bl b => exact wpAny_tryCompare_declines ty PySem.F.slot_bool_eq (wpAny_call_entry PySem.F.slot_bool_eq ty PySem.F.entry_int_eq (bool_decl hx ⟨_, rfl, rfl, rfl, rfl⟩) (PySem.F.args_int_eq_2 _ _))
  | int i t => exact wpAny_tryCompare_declines ty PySem.F.slot_int_eq (wpAny_call_entry PySem.F.slot_int_eq ty PySem.F.entry_int_eq (int_decl hx ⟨_, rfl, rfl, rfl, rfl⟩) (PySem.F.args_int_eq_2 _ _))
  | str z t => exact wpAny_tryCompare_declines ty PySem.F.slot_str_eq (wpAny_call_entry PySem.F.slot_str_eq ty PySem.F.entry_str_eq (str_decl hx ⟨_, rfl, rfl, rfl, rfl⟩) (PySem.F.args_str_eq_2 _ _))
  | lst a => exact wpAny_tryCompare_declines ty PySem.F.slot_list_eq (wpAny_call_entry PySem.F.slot_list_eq ty PySem.F.entry_list_eq (list_decl X I (nb "list" (by decide)) ⟨_, rfl, rfl, rfl, rfl⟩) (PySem.F.args_list_eq_2 _ _))
  | tup a => exact wpAny_tryCompare_declines ty PySem.F.slot_tuple_eq (wpAny_call_entry PySem.F.slot_tuple_eq ty PySem.F.entry_tuple_eq (tuple_decl X I (nb "tuple" (by decide)) ⟨_, rfl, rfl, rfl, rfl⟩) (PySem.F.args_tuple_eq_2 _ _))
  | dct a => exact wpAny_tryCompare_declines ty PySem.F.slot_dict_eq (wpAny_call_entry PySem.F.slot_dict_eq ty PySem.F.entry_dict_eq (dict_decl X I (nb "dict" (by decide)) ⟨_, rfl, rfl, rfl, rfl⟩) (PySem.F.args_dict_eq_2 _ _))
theorem uk_mem {u : Value} {T : String} (k : UK u T) : T ∈ ownTs := by cases k <;> decide
/-- no built-in type is under an own class -/
theorem sub_own {T : String} (h : T ∈ ownTs) : PySem.W.subIn K (.type T) (.ref C) = some false := by
  have e : ∃ l : List Value, fastBuiltinMro T = some l ∧ l.contains (.ref C) = false := by
    simp only [ownTs, List.mem_cons, List.not_mem_nil, or_false] at h
    rcases h with rfl | rfl | rfl | rfl | rfl | rfl | rfl
    · exact ⟨[.type "list", .type "object"], by decide +kernel, by simp⟩
    · exact ⟨[.type "tuple", .type "object"], by decide +kernel, by simp⟩
    · exact ⟨[.type "str", .type "object"], by decide +kernel, by simp⟩
    · exact ⟨[.type "int", .type "object"], by decide +kernel, by simp⟩
    · exact ⟨[.type "bool", .type "int", .type "object"], by decide +kernel, by simp⟩
    · exact ⟨[.type "NoneType", .type "object"], by decide +kernel, by simp⟩
    · exact ⟨[.type "dict", .type "object"], by decide +kernel, by simp⟩
  obtain ⟨l, e1, e2⟩ := e
  show (fastBuiltinMro T).map (·.contains (.ref C)) = some false
  rw [e1]
  exact congrArg some e2
theorem own_try {f : Addr} {v : Value} {Q : Bool → Shared → Prop} (X : K.In s.heap) (I : PySem.W.InstAt s.heap x ox C od) (hs : PySem.W.findIn K (.ref C) "__eq__" = some (some (.ref f))) (hf : PySem.W.isFn K (.ref f) = true)
    (h : wpAny (model prog w) A (call (.ref f) [.ref x, v]) (fun r s' => ∃ b, r = .bool b ∧ Q b s') E s) : wpAny (model prog w) A (tryCompare (.ref x) "__eq__" v) (fun r s' => ∃ b, r = some (.bool b) ∧ Q b s') E s := by
  unfold tryCompare
  refine wpAny_bind (PySem.W.ifBound_K X I hs hf (wpAny_mono h (fun r s' hr => ?_) fun _ _ e => e))
  obtain ⟨b, rfl, q⟩ := hr
  exact wpAny_pure ⟨b, rfl, q⟩
/-- x == v, the own class at the left -/
theorem rc_ownL {f : Addr} {v tb : Value} {Q : Value → Shared → Prop} (hu : A.units < cLine) (X : K.In s.heap) (I : PySem.W.InstAt s.heap x ox C od) (hb : PySem.W.Looks (model prog w) s.heap (typeOf v) tb) (hn : PySem.W.notFirst K C tb = true) (hs : PySem.W.findIn K (.ref C) "__eq__" = some (some (.ref f))) (hf : PySem.W.isFn K (.ref f) = true)
    (h : wpAny (model prog w) A (call (.ref f) [.ref x, v]) (fun r s' => ∃ b, r = .bool b ∧ Q (.bool b) s') E s) : wpAny (model prog w) A (richCompare .Eq (.ref x) v) Q E s := by
  have one := own_try (Q := fun b => Q (.bool b)) X I hs hf h
  simp only [richCompare, cmpInfo_Eq, oneThing_ref]
  refine wpAny_holding (wpAny_bind (wpAny_cRoomFor hu ?_))
  refine wpAny_bind (I.type.here (wpAny_bind (hb.here ?_)))
  split
  · rename_i q
    have e : PySem.W.subIn K tb (.ref C) = some false := by
      rcases Bool.or_eq_true_iff.mp hn with e | e
      · rw [beq_iff_eq.mp e] at q; simp at q
      · exact beq_iff_eq.mp e
    refine wpAny_bind ((PySem.W.looks_subIn X e).here ?_)
    simp only [Bool.false_eq_true, if_false]
    refine wpAny_bind (m := tryCompare (.ref x) _ v) (wpAny_mono one (fun r s' z => ?_) fun _ _ e => e)
    obtain ⟨b, rfl, hq⟩ := z
    exact wpAny_pure hq
  · refine wpAny_bind (wpAny_pure ?_)
    simp only [Bool.false_eq_true, if_false]
    refine wpAny_bind (m := tryCompare (.ref x) _ v) (wpAny_mono one (fun r s' z => ?_) fun _ _ e => e)
    obtain ⟨b, rfl, hq⟩ := z
    exact wpAny_pure hq
/-- v == x, the own class at the right, a built-in value at the left -/
theorem rc_ownR {f : Addr} {v : Value} {T : String} {Q : Value → Shared → Prop} (hu : A.units < cLine) (X : K.In s.heap) (I : PySem.W.InstAt s.heap x ox C od) (hx : s.heap.get? x = some (PySem.W.instObj C dx)) (nb : NoBase K C) (k : UK v T) (ty : s.TypeIs v T) (hs : PySem.W.findIn K (.ref C) "__eq__" = some (some (.ref f))) (hf : PySem.W.isFn K (.ref f) = true)
    (h : wpAny (model prog w) A (call (.ref f) [.ref x, v]) (fun r s' => ∃ b, r = .bool b ∧ Q (.bool b) s') E s) : wpAny (model prog w) A (richCompare .Eq v (.ref x)) Q E s := by
  have one := own_try (Q := fun b => Q (.bool b)) X I hs hf h
  have two := decl_try (A := A) (E := E) (prog := prog) (w := w) X I hx nb k ty
  simp only [richCompare, cmpInfo_Eq, ty.oneThing_none]
  refine wpAny_holding (wpAny_bind (wpAny_cRoomFor hu ?_))
  refine wpAny_bind (wpAny_typeOf ty ?_)
  refine wpAny_bind (I.type.here ?_)
  split
  · refine wpAny_bind ((PySem.W.looks_subIn X (nb T (uk_mem k))).here ?_)
    simp only [Bool.false_eq_true, if_false, Bool.not_false, if_true]
    refine wpAny_bind (m := tryCompare v _ (.ref x)) (wpAny_mono two (fun r s1 z => ?_) fun _ _ e => e)
    obtain ⟨z1, z2⟩ := z
    subst z1
    subst z2
    refine wpAny_bind (m := tryCompare (.ref x) _ v) (wpAny_mono one (fun r s' z => ?_) fun _ _ e => e)
    obtain ⟨b, rfl, hq⟩ := z
    exact wpAny_pure hq
  · rename_i q
    exact absurd (by simp) q
theorem objNe_own {f : Addr} {v : Value} {Q : Fin → Shared → Prop} (hu : A.units < cLine) (X : K.In s.heap) (I : PySem.W.InstAt s.heap x ox C od) (hs : PySem.W.findIn K (.ref C) "__eq__" = some (some (.ref f))) (hf : PySem.W.isFn K (.ref f) = true)
    (h : wpAny (model prog w) A (call (.ref f) [.ref x, v]) (fun r s' => ∃ b, r = .bool b ∧ Q (.done (.ret (.bool (!b)))) s') E s) :
    wpAny (model prog w) A (Builtin.«object.__ne__» ⟨[.ref x, v], []⟩) Q E s := by
  unfold Builtin.«object.__ne__»
  have own : ∀ {R : Option Value → Shared → Prop}, (∀ b s', Q (.done (.ret (.bool (!b)))) s' → R (some (.bool b)) s') → wpAny (model prog w) A (callSpecialIfBound? (.ref x) (Str.ofString "__eq__") [v]) R E s := fun r =>
    PySem.W.ifBound_K X I hs hf (wpAny_mono h (fun z s' hz => by
      obtain ⟨b, rfl, q⟩ := hz
      exact r b s' q) fun _ _ e => e)
  repeat (first
    | with_reducible refine wpAny_cRoomFor hu ?_
    | (refine wpAny_bind (m := callSpecialIfBound? (.ref x) (Str.ofString "__eq__") [v]) (own fun b s' hq => ?_))
    | wp_step)
  all_goals first | exact hq | exact wpAny_pure hq | exact wpAny_truthy_bool hq | (refine wpAny_bind (m := truthy (.bool _)) (wpAny_truthy_bool ?_); first | exact hq | exact wpAny_pure hq)
/-- x != v, the own class at the left -/
theorem rc_ownNe {f : Addr} {v tb : Value} {Q : Value → Shared → Prop} (hu : A.units + 1 < cLine) (X : K.In s.heap) (I : PySem.W.InstAt s.heap x ox C od) (hb : PySem.W.Looks (model prog w) s.heap (typeOf v) tb) (hn : PySem.W.notFirst K C tb = true) (hs : PySem.W.findIn K (.ref C) "__eq__" = some (some (.ref f))) (hf : PySem.W.isFn K (.ref f) = true)
    (hne : PySem.W.findIn K (.ref C) "__ne__" = some (some (.builtin "object.__ne__"))) (hm : PySem.W.mroIn K C (.type "object") = some true)
    (h : wpAny (model prog w) A.in1 (call (.ref f) [.ref x, v]) (fun r s' => ∃ b, r = .bool b ∧ Q (.bool (!b)) s') E s) : wpAny (model prog w) A (richCompare .NotEq (.ref x) v) Q E s := by
  have one : wpAny (model prog w) A (tryCompare (.ref x) "__ne__" v) (fun r s' => ∃ b, r = some (.bool b) ∧ Q (.bool b) s') E s := by
    unfold tryCompare
    refine wpAny_bind (ifBound_objNeS X I hne (wpAny_call (codeAny_call_builtin PySem.F.cmp_object.ne.plain PySem.F.cmpEntry_ne (PySem.W.check_slot PySem.F.cmpKind_ne PySem.F.cmpSplit_ne (I.type.andThen (PySem.W.looks_mroIn X hm)) (PySem.F.cmpArgs_ne _ _) (objNe_own (A := A.in1) hu X I hs hf (wpAny_mono h (fun r s' hr => ?_) fun _ _ e => e))))))
    obtain ⟨b, rfl, q⟩ := hr
    exact ⟨b, rfl, wpAny_pure ⟨!b, rfl, q⟩⟩
  simp only [richCompare, cmpInfo_NotEq, oneThing_ref]
  refine wpAny_holding (wpAny_bind (wpAny_cRoomFor (Nat.lt_of_succ_lt hu) ?_))
  refine wpAny_bind (I.type.here (wpAny_bind (hb.here ?_)))
  split
  · rename_i q
    have e : PySem.W.subIn K tb (.ref C) = some false := by
      rcases Bool.or_eq_true_iff.mp hn with e | e
      · rw [beq_iff_eq.mp e] at q; simp at q
      · exact beq_iff_eq.mp e
    refine wpAny_bind ((PySem.W.looks_subIn X e).here ?_)
    simp only [Bool.false_eq_true, if_false]
    refine wpAny_bind (m := tryCompare (.ref x) _ v) (wpAny_mono one (fun r s' z => ?_) fun _ _ e => e)
    obtain ⟨b, rfl, hq⟩ := z
    exact wpAny_pure hq
  · refine wpAny_bind (wpAny_pure ?_)
    simp only [Bool.false_eq_true, if_false]
    refine wpAny_bind (m := tryCompare (.ref x) _ v) (wpAny_mono one (fun r s' z => ?_) fun _ _ e => e)
    obtain ⟨b, rfl, hq⟩ := z
    exact wpAny_pure hq
/-! ### == of a class without one -/
theorem objEq_entry_other {y : Addr} {oy : Obj} {Q : Fin → Shared → Prop} (ne : x ≠ y) (hx : s.heap.get? x = some ox) (hy : s.heap.get? y = some oy) (hc : oy.cls ≠ .type "tuple") (hq : Q (.done (.ret .notImplemented)) s) :
    wpAny (model prog w) A (Builtin.«object.__eq__» ⟨[.ref x, .ref y], []⟩) Q E s := by
  unfold Builtin.«object.__eq__»
  repeat (first | with_reducible refine PySem.SeqAt.wpAny_isSame_ref_other' ne hx hy hc ?_ | wp_step)
  exact hq
theorem rc_objEq {y : Addr} {oy : Obj} {oe : Option Obj} {Q : Value → Shared → Prop} (hu : A.units < cLine) (X : K.In s.heap) (I : PySem.W.InstAt s.heap x ox C od) (J : PySem.W.InstAt s.heap y oy C oe) (c : ObjCmp K C) (h : Q (.bool (decide (x = y))) s) : wpAny (model prog w) A (richCompare .Eq (.ref x) (.ref y)) Q E s := by
  by_cases ne : x = y
  · subst ne
    rw [decide_eq_true rfl] at h
    have one : wpAny (model prog w) A (tryCompare (.ref x) "__eq__" (.ref x)) (fun r s' => r = some (.bool true) ∧ s' = s) E s := by
      unfold tryCompare
      exact wpAny_bind (HN.ifBound_objEq X I c.eq (call_objEqS X I c.mro (wpAny_pure ⟨rfl, rfl⟩)))
    simp only [richCompare, cmpInfo_Eq, oneThing_ref]
    refine wpAny_holding (wpAny_bind (wpAny_cRoomFor hu ?_))
    refine wpAny_bind (I.type.here ?_)
    refine wpAny_bind (I.type.here ?_)
    split
    · rename_i q
      exact absurd q (by simp)
    · refine wpAny_bind (wpAny_pure ?_)
      simp only [Bool.false_eq_true, if_false]
      refine wpAny_bind (m := tryCompare (.ref x) _ (.ref x)) (wpAny_mono one (fun r s1 z => ?_) fun _ _ e => e)
      obtain ⟨z1, z2⟩ := z
      subst z1
      subst z2
      exact wpAny_pure h
  · rw [decide_eq_false ne] at h
    have hcx : ∀ {o : Obj}, o.cls = .ref C → o.cls ≠ .type "tuple" := fun e z => by rw [e] at z; cases z
    have dec : ∀ {a b : Addr} {oa ob : Obj} {od : Option Obj}, PySem.W.InstAt s.heap a oa C od → s.heap.get? b = some ob → ob.cls = .ref C → a ≠ b → wpAny (model prog w) A (tryCompare (.ref a) "__eq__" (.ref b)) (fun r s' => r = none ∧ s' = s) E s := by
      intro a b oa ob od Ia hb hc nab
      unfold tryCompare
      exact wpAny_bind (HN.ifBound_objEq X Ia c.eq (wpAny_call (codeAny_call_builtin PySem.F.cmp_object.eq.plain PySem.F.cmpEntry_eq (PySem.W.check_slot PySem.F.cmpKind_eq PySem.F.cmpSplit_eq (Ia.type.andThen (PySem.W.looks_mroIn X c.mro)) (PySem.F.cmpArgs_eq _ _) (objEq_entry_other nab Ia.at_ hb (hcx hc) (wpAny_pure ⟨rfl, rfl⟩))))))
    have one := dec I J.at_ J.cls ne
    have two := dec J I.at_ I.cls (Ne.symm ne)
    simp only [richCompare, cmpInfo_Eq, oneThing_ref]
    refine wpAny_holding (wpAny_bind (wpAny_cRoomFor hu ?_))
    refine wpAny_bind (I.type.here ?_)
    refine wpAny_bind (J.type.here ?_)
    split
    · rename_i q
      exact absurd q (by simp)
    · refine wpAny_bind (wpAny_pure ?_)
      simp only [Bool.false_eq_true, if_false, Bool.not_false, if_true]
      refine wpAny_bind (m := tryCompare (.ref x) _ (.ref y)) (wpAny_mono one (fun r s1 z => ?_) fun _ _ e => e)
      obtain ⟨z1, z2⟩ := z
      subst z1
      subst z2
      refine wpAny_bind (m := tryCompare (.ref y) _ (.ref x)) (wpAny_mono two (fun r s2 z => ?_) fun _ _ e => e)
      obtain ⟨z1, z2⟩ := z
      subst z1
      subst z2
      exact wpAny_bind (wpAny_rule (wpAny_bind (PySem.SeqAt.wpAny_isSame_ref_other' ne I.at_ J.at_ (hcx J.cls) (wpAny_pure h))))
end
open L2
/-- what stands at the other side: a value of a built-in type, or an instance of the class -/
def OthV (K : PySem.W.Frag) (C : Addr) (H : Hp) (y : V) : Prop := (∃ T, TyB K H y T ∧ T ≠ "bytes") ∨ ∃ b dy gs, y = .ref b ∧ H b = some (.ins C dy gs)
def rOwnEq (K : PySem.W.Frag) (C : Addr) (sp : Sp) (E : XK) : R2 := fun x y H Q =>
  (∃ a dx fs, x = .ref a ∧ H a = some (.ins C dx fs) ∧ OthV K C H y ∧ sp [.ref a, y] H (fun v H' => ∃ b, v = .bl b ∧ Q (.bl b) H') E) ∨
  (∃ a dx fs T, y = .ref a ∧ H a = some (.ins C dx fs) ∧ TyB K H x T ∧ T ≠ "bytes" ∧ sp [.ref a, x] H (fun v H' => ∃ b, v = .bl b ∧ Q (.bl b) H') E)
def rOwnNe (K : PySem.W.Frag) (C : Addr) (sp : Sp) (E : XK) : R2 := fun x y H Q =>
  ∃ a dx fs, x = .ref a ∧ H a = some (.ins C dx fs) ∧ OthV K C H y ∧ sp [.ref a, y] H (fun v H' => ∃ b, v = .bl b ∧ Q (.bl (!b)) H') E
def rObjEq (K : PySem.W.Frag) : R2 := fun x y H Q => ∃ a b C dx dy fs gs, x = .ref a ∧ y = .ref b ∧ H a = some (.ins C dx fs) ∧ H b = some (.ins C dy gs) ∧ ObjCmp K C ∧ Q (.bl (decide (a = b))) H
section
variable {X : Cx} {pins : List (Addr × Obj)} {σ : L2.St} {H : Hp} {s : Shared}
theorem _root_.L2.TyB.uk {K : PySem.W.Frag} {y : V} {u : Value} {T : String} (t : TyB K H y T) (rx : RelV y u) (nb : T ≠ "bytes") : UK u T := by
  cases t with
  | non => cases rx; exact .non
  | bl b => cases rx; exact .bl b
  | int i => obtain ⟨t, rfl⟩ := rx; exact .int i t
  | str z => obtain ⟨t, rfl⟩ := rx; exact .str z t
  | byt b => exact absurd rfl nb
  | lst h => cases rx; exact .lst _
  | tup h => cases rx; exact .tup _
  | dK h => cases rx; exact .dct _
theorem looks_is {M : Model} {u : Value} {T : String} (k : UK u T) (ty : s.TypeIs u T) : PySem.W.Looks M s.heap (typeOf u) (.type T) := fun A Q E s' kp q => by
  refine wpAny_typeOf (T := T) ?_ q
  cases k with
  | non => exact ty
  | bl b => exact ty
  | int i t => exact ty
  | str z t => exact ty
  | lst a => obtain ⟨o, h, c⟩ := ty; exact ⟨o, kp _ _ h, c⟩
  | tup a => obtain ⟨o, h, c⟩ := ty; exact ⟨o, kp _ _ h, c⟩
  | dct a => obtain ⟨o, h, c⟩ := ty; exact ⟨o, kp _ _ h, c⟩
variable {CX : CXT} {k : Nat} {f C : Addr} {fd : FuncData} {ps : List Str} {sp : Sp} {E1 : XK}
theorem own_call (F : FnOk X.prog X.w X.K X.mg X.base CX k f fd ps sp) (hb : Binds X.K fd ps []) (hx : Passes CX X E1) {A : Around} (room : Room k A) (fr : A.frames = X.A.frames) (I : Inv X pins σ H s) {a : Addr} {y : V} {u : Value} (ry : RelV y u) {Q : Bool → Hp → Prop} (h : sp [.ref a, y] H (fun v H' => ∃ b, v = .bl b ∧ Q b H') E1) :
    wpAny (model X.prog X.w) A (call (.ref f) [.ref a, u]) (fun r s' => ∃ b, r = .bool b ∧ ∃ H', Inv X pins σ H' s' ∧ Q b H') X.xe s := by
  have e0 : Env0 X.prog X.w X.K X.mg X.base A X.stack s H := by
    have e := I.env0
    exact ⟨by rw [fr]; exact e.frames, e.mod, e.bs, e.bsz, e.funs, e.frf, e.hok, e.bare⟩
  have hl := F.len _ _ _ _ h
  have r2 : Vals [V.ref a, y] [Value.ref a, u] := .cons rfl (.cons ry .nil)
  refine wpAny_call (codeAny_mono (F.run A X.stack s H ⟨[.ref a, u], []⟩ [.ref a, u] [.ref a, y] _ E1 room e0 (by
    have := hb s [.ref a, u] I.kIn (by simpa using hl)
    simpa using this) r2 h) fun r s' hq => ?_)
  cases r with
  | error e => exact hx pins σ H s e s' I hq
  | ok fl =>
    cases fl with
    | ret w =>
      obtain ⟨z, H', I', rz, b, ez, q⟩ := I.after hq
      subst ez
      cases rz
      exact ⟨b, rfl, H', I', q⟩
    | next => exact False.elim hq
    | brk => exact False.elim hq
    | cont => exact False.elim hq
theorem OthV.looks {y : V} {u : Value} (I : Inv X pins σ H s) (ry : RelV y u) (o : OthV X.K C H y) : ∃ tb, PySem.W.Looks (model X.prog X.w) s.heap (typeOf u) tb ∧ PySem.W.notFirst X.K C tb = true := by
  rcases o with ⟨T, t, nb⟩ | ⟨b, dy, gs, rfl, hb⟩
  · refine ⟨_, looks_is (t.uk ry nb) (t.is I ry), ?_⟩
    unfold PySem.W.notFirst
    rw [sub_own (uk_mem (t.uk ry nb))]
    simp
  · cases ry
    obtain ⟨mA, J, _⟩ := ins_get I.hok hb
    obtain ⟨od, J, _⟩ := J.look
    exact ⟨_, J.type, by simp [PySem.W.notFirst]⟩
theorem op_ownEq (F : FnOk X.prog X.w X.K X.mg X.base CX k f fd ps sp) (hm : Meth X.K C "__eq__" f) (nb : NoBase X.K C) (hr : Room k X.A) (hb : Binds X.K fd ps []) (hx : Passes CX X E1) : OpR X (compareOp .Eq) (rOwnEq X.K C sp E1) := by
  intro pins s σ H x y v u Q I rx ry h
  rcases h with ⟨a, dx, fs, rfl, ha, o, h⟩ | ⟨a, dx, fs, T, rfl, ha, t, nt, h⟩
  · cases rx
    obtain ⟨mA, O, _⟩ := ins_get I.hok ha
    obtain ⟨od, J, _⟩ := O.look
    obtain ⟨tb, l1, l2⟩ := o.looks I ry
    show wpAny (model X.prog X.w) X.A (richCompare .Eq (.ref a) u) (EP X pins σ Q) X.xe s
    refine rc_ownL (by have := hr.un; omega) I.kIn J l1 l2 hm.at_ hm.fn (wpAny_mono (own_call F hb hx hr rfl I ry (Q := fun b H' => Q (.bl b) H') h) (fun r s' z => ?_) fun _ _ e => e)
    obtain ⟨b, rfl, H', I', q⟩ := z
    exact ⟨b, rfl, .bl b, H', I', rfl, q⟩
  · cases ry
    obtain ⟨mA, O, _⟩ := ins_get I.hok ha
    obtain ⟨od, J, _⟩ := O.look
    show wpAny (model X.prog X.w) X.A (richCompare .Eq v (.ref a)) (EP X pins σ Q) X.xe s
    refine rc_ownR (by have := hr.un; omega) I.kIn J O.obj nb (t.uk rx nt) (t.is I rx) hm.at_ hm.fn (wpAny_mono (own_call F hb hx hr rfl I rx (Q := fun b H' => Q (.bl b) H') h) (fun r s' z => ?_) fun _ _ e => e)
    obtain ⟨b, rfl, H', I', q⟩ := z
    exact ⟨b, rfl, .bl b, H', I', rfl, q⟩
theorem op_ownNe (F : FnOk X.prog X.w X.K X.mg X.base CX k f fd ps sp) (hm : Meth X.K C "__eq__" f) (hne : PySem.W.findIn X.K (.ref C) "__ne__" = some (some (.builtin "object.__ne__"))) (ho : PySem.W.mroIn X.K C (.type "object") = some true) (hr : Room (k + 1) X.A) (hb : Binds X.K fd ps []) (hx : Passes CX X E1) : OpR X (compareOp .NotEq) (rOwnNe X.K C sp E1) := by
  intro pins s σ H x y v u Q I rx ry h
  obtain ⟨a, dx, fs, rfl, ha, o, h⟩ := h
  cases rx
  obtain ⟨mA, O, _⟩ := ins_get I.hok ha
  obtain ⟨od, J, _⟩ := O.look
  obtain ⟨tb, l1, l2⟩ := o.looks I ry
  show wpAny (model X.prog X.w) X.A (richCompare .NotEq (.ref a) u) (EP X pins σ Q) X.xe s
  refine rc_ownNe (by have := hr.un; omega) I.kIn J l1 l2 hm.at_ hm.fn hne ho (wpAny_mono (own_call F hb hx (A := X.A.in1) hr.in1 rfl I ry (Q := fun b H' => Q (.bl (!b)) H') h) (fun r s' z => ?_) fun _ _ e => e)
  obtain ⟨b, rfl, H', I', q⟩ := z
  exact ⟨b, rfl, .bl (!b), H', I', rfl, q⟩
theorem op_objEq {n : Nat} (hr : Room n X.A) : OpR X (compareOp .Eq) (rObjEq X.K) := by
  intro pins s σ H x y v u Q I rx ry h
  obtain ⟨a, b, C, dx, dy, fs, gs, rfl, rfl, ha, hb, c, q⟩ := h
  cases rx
  cases ry
  obtain ⟨mA, O, _⟩ := ins_get I.hok ha
  obtain ⟨od, J, _⟩ := O.look
  obtain ⟨mB, O', _⟩ := ins_get I.hok hb
  obtain ⟨od', J', _⟩ := O'.look
  show wpAny (model X.prog X.w) X.A (richCompare .Eq (.ref a) (.ref b)) (EP X pins σ Q) X.xe s
  exact rc_objEq (by have := hr.un; omega) I.kIn J J' c ⟨.bl _, H, I, rfl, q⟩
end
end Fw

set_option Elab.async false
set_option linter.all false
set_option maxRecDepth 100000
set_option maxHeartbeats 4000000
/-! Towns as the law keeps them beside its own dicts. -/
namespace Fw
open PySem L2 RZ RT
/-! ### sorted texts -/
theorem srt_one {α : Type} {r : α → α → Prop} (anti : ∀ a b, r a b → r b a → a = b) : ∀ {ys zs : List α}, ys.Perm zs → ys.Pairwise r → zs.Pairwise r → ys = zs
  | [], zs, p, _, _ => p.nil_eq
  | y :: ys, [], p, _, _ => absurd p.length_eq (by simp)
  | y :: ys, z :: zs, p, hy, hz => by
    rw [List.pairwise_cons] at hy hz
    have e : y = z := by
      rcases List.mem_cons.mp (p.mem_iff.mp List.mem_cons_self) with e | m1
      · exact e
      · rcases List.mem_cons.mp (p.mem_iff.mpr (List.mem_cons_self (a := z) (l := zs))) with e | m2
        · exact e.symm
        · exact anti _ _ (hy.1 _ m2) (hz.1 _ m1)
    subst e
    rw [srt_one anti ((List.perm_cons y).mp p) hy.2 hz.2]
theorem rising_pw : ∀ (l : List Str) (p : Str), PyProof.Rows.risingS p l = true → (∀ x ∈ l, p.cps.toList ≤ x.cps.toList) ∧ l.Pairwise fun a b => a.cps.toList ≤ b.cps.toList
  | [], p, _ => ⟨fun x hx => absurd hx List.not_mem_nil, .nil⟩
  | x :: r, p, h => by
    unfold PyProof.Rows.risingS at h
    rw [Bool.and_eq_true, Bool.not_eq_true', PyProof.Rows.ltCps_eq] at h
    have hx : p.cps.toList ≤ x.cps.toList := of_decide_eq_false h.1
    obtain ⟨h1, h2⟩ := rising_pw r x h.2
    refine ⟨fun y hy => ?_, List.pairwise_cons.mpr ⟨h1, h2⟩⟩
    rcases List.mem_cons.mp hy with rfl | hy
    · exact hx
    · exact List.le_trans hx (h1 y hy)
theorem sortedS_pw : ∀ l : List Str, PyProof.Rows.sortedS l = true → l.Pairwise fun a b => a.cps.toList ≤ b.cps.toList
  | [], _ => .nil
  | x :: r, h => List.pairwise_cons.mpr (rising_pw r x h)
theorem sortedS_one {ys zs : List Str} (p : ys.Perm zs) (h1 : PyProof.Rows.sortedS ys = true) (h2 : PyProof.Rows.sortedS zs = true) : ys = zs :=
  srt_one (fun a b ha hb => by
    have e : a.cps.toList = b.cps.toList := List.le_antisymm ha hb
    cases a
    cases b
    exact congrArg Str.mk (Array.toList_inj.mp e)) p (sortedS_pw _ h1) (sortedS_pw _ h2)
/-! ### what stands, but for some addresses and the tables -/
def Kx (F : Addr → Prop) (H H' : Hp) : Prop := ∀ y o, H y = some o → (∀ ps, o ≠ .tbl ps) → ¬ F y → H' y = some o
section
variable {F G : Addr → Prop} {H H' H1 H2 : Hp}
theorem Kx.refl : Kx F H H := fun _ _ h _ _ => h
theorem Kx.trans (a : Kx F H H1) (b : Kx F H1 H2) : Kx F H H2 := fun y o h n f => b y o (a y o h n f) n f
theorem Kx.mono (a : Kx F H H') (h : ∀ y, F y → G y) : Kx G H H' := fun y o e n f => a y o e n fun z => f (h y z)
theorem Kx.same (s : Same H H') : Kx F H H' := fun y o e _ _ => s y o e
theorem Kx.ext (e : LamX.ExtN H H') : Kx F H H' := fun y o h n _ => e y o h n
theorem Kx.kp {D : Addr} (k : Kp D H H') (h : F D) : Kx F H H' := fun y o e _ f => k y o e fun z => f (by rw [z]; exact h)
theorem Kx.kf {L : List Addr} (k : Kf L H H') (h : ∀ y ∈ L, F y) : Kx F H H' := fun y o e _ f => k y o e fun z => f (h y z)
/-- nothing but a table stands there -/
def Fr (H : Hp) (y : Addr) : Prop := ∀ o, H y = some o → ∃ ps, o = .tbl ps
theorem Fr.none {y : Addr} (h : H y = Option.none) : Fr H y := fun o e => by rw [h] at e; cases e
theorem Fr.back {y : Addr} (k : Kx F H H') (h : Fr H' y) (n : ¬ F y) : Fr H y := fun o e => Classical.byContradiction fun z => by
  obtain ⟨ps, e2⟩ := h o (k y o e (fun ps w => z ⟨ps, w⟩) n)
  exact z ⟨ps, e2⟩
/-- something stands there that is no table -/
def Al (H : Hp) (y : Addr) : Prop := ∃ o, H y = some o ∧ ∀ ps, o ≠ .tbl ps
theorem Al.fr {y : Addr} (a : Al H y) (f : Fr H y) : False := by
  obtain ⟨o, h, n⟩ := a
  obtain ⟨ps, e⟩ := f o h
  exact n ps e
theorem Al.kx {y : Addr} (a : Al H y) (k : Kx F H H') (n : ¬ F y) : Al H' y := by
  obtain ⟨o, h, m⟩ := a
  exact ⟨o, k y o h m n, m⟩
end
theorem Dk.kx {F : Addr → Prop} {H H' : Hp} {c D : Addr} {ns : List Int} {t : Nat} (d : Dk c D ns t H) (k : Kx F H H') (nc : ¬ F c) (nD : ¬ F D) : Dk c D ns t H' := by
  obtain ⟨x1, x2, x3, i, m, u, x4, r⟩ := d
  exact ⟨x1, k _ _ x2 (fun ps z => by cases z) nc, x3, i, m, u, k _ _ x4 (fun ps z => by cases z) nD, r⟩
theorem BkAt.kx [HasW] {K : PySem.W.Frag} {F : Addr → Prop} {H H' : Hp} {b : BkA} {cs : List Ct} {as : List Addr} (x : BkAt K H b cs as) (k : Kx F H H') (tm : TM H H') (n : ∀ y ∈ [b.B, b.L, b.E, b.G], ¬ F y) : BkAt K H' b cs as := by
  obtain ⟨dx, fs, hB, r⟩ := x.bo
  exact ⟨x.bc, ⟨dx, fs, k _ _ hB (fun ps z => by cases z) (n _ (by simp)), r⟩, k _ _ x.hL (fun ps z => by cases z) (n _ (by simp)), k _ _ x.hE (fun ps z => by cases z) (n _ (by simp)), k _ _ x.hG (fun ps z => by unfold ND at z; cases z) (n _ (by simp)), x.at_.mono tm, x.nd, x.few, x.ok, x.ne⟩
theorem HsAt.kx {K : PySem.W.Frag} {F : Addr → Prop} {H H' : Hp} {h : HsA} {B : Addr} {ns : List Int} {m : Int} (x : HsAt K H h B ns m) (k : Kx F H H') (n : ∀ y ∈ [h.A, h.I], ¬ F y) : HsAt K H' h B ns m := by
  obtain ⟨dx, e⟩ := x.ho
  exact ⟨x.hc, ⟨dx, k _ _ e (fun ps z => by cases z) (n _ (by simp))⟩, k _ _ x.hI (fun ps z => by cases z) (n _ (by simp)), x.nd, x.few⟩
theorem noTab_ins {C dx : Addr} {fs : List (Str × V)} : NoTab (.ins C dx fs) := ⟨fun ps z => (by cases z), fun c q z => (by unfold LamX.CodeO at z; cases z)⟩
/-! ### a town and the law's dict of its houses -/
structure Hm where
  l : Str
  h : HsA
  ns : List Int
abbrev homD (hs : List Hm) : List (Key × V) := hs.map fun x => ((Sum.inr x.l : Key), V.ref x.h.A)
structure W80 where
  T : Addr
  D : Addr
  HD : Addr
  b : BkA
  hs : List Hm
def W80.fp (w : W80) (y : Addr) : Prop := y ∈ [w.T, w.D, w.HD, w.b.B, w.b.L, w.b.E, w.b.G] ∨ ∃ x ∈ w.hs, y ∈ [x.h.A, x.h.I]
theorem homD_keys (hs : List Hm) : (homD hs).map (·.1) = (hs.map (·.l)).map Sum.inr := by
  rw [List.map_map, List.map_map]
  rfl
theorem homD_none : ∀ {hs : List Hm} {l : Str}, valV (homD hs) (Sum.inr l) = none → ∀ x ∈ hs, x.l ≠ l
  | [], _, _, x, hx => absurd hx List.not_mem_nil
  | y :: hs, l, h, x, hx => by
    by_cases e : y.l = l
    · rw [show homD (y :: hs) = ((Sum.inr y.l : Key), V.ref y.h.A) :: homD hs from rfl, valV_pos (by rw [e])] at h
      cases h
    · rw [show homD (y :: hs) = ((Sum.inr y.l : Key), V.ref y.h.A) :: homD hs from rfl, valV_neg (fun z => e (by injection z))] at h
      rcases List.mem_cons.mp hx with rfl | hx
      · exact e
      · exact homD_none h x hx
theorem homD_some : ∀ {hs : List Hm} {l : Str} {v : V}, valV (homD hs) (Sum.inr l) = some v → ∃ x ∈ hs, x.l = l ∧ v = .ref x.h.A
  | [], _, _, h => by cases h
  | y :: hs, l, v, h => by
    by_cases e : y.l = l
    · rw [show homD (y :: hs) = ((Sum.inr y.l : Key), V.ref y.h.A) :: homD hs from rfl, valV_pos (by rw [e])] at h
      exact ⟨y, List.mem_cons_self, e, (Option.some.inj h).symm⟩
    · rw [show homD (y :: hs) = ((Sum.inr y.l : Key), V.ref y.h.A) :: homD hs from rfl, valV_neg (fun z => e (by injection z))] at h
      obtain ⟨x, hx, r⟩ := homD_some h
      exact ⟨x, List.mem_cons_of_mem _ hx, r⟩
theorem homD_at {hs : List Hm} (nl : (hs.map (·.l)).Nodup) {x : Hm} (hx : x ∈ hs) : valV (homD hs) (Sum.inr x.l) = some (.ref x.h.A) := by
  induction hs with
  | nil => exact absurd hx List.not_mem_nil
  | cons y hs ih =>
    rw [List.map_cons, List.nodup_cons] at nl
    rw [show homD (y :: hs) = ((Sum.inr y.l : Key), V.ref y.h.A) :: homD hs from rfl]
    rcases List.mem_cons.mp hx with rfl | hx
    · exact valV_pos rfl
    · rw [valV_neg (fun z => nl.1 (by injection z with z; rw [z]; exact List.mem_map.mpr ⟨x, hx, rfl⟩))]
      exact ih nl.2 hx
section
variable [HasW]
structure Tw80 (K : PySem.W.Frag) (H : Hp) (w : W80) (cs : List Ct) (as : List Addr) : Prop where
  tw : TwAt K H w.T w.D w.b.B (homD w.hs)
  hh : H w.HD = some (.dK (homD w.hs))
  hc : HsC K
  hs : ∀ x ∈ w.hs, ∃ m, HsAt K H x.h w.b.B x.ns m
  nl : (w.hs.map (·.l)).Nodup
  ai : w.hs.Pairwise fun x y => x.h.A ≠ y.h.A ∧ x.h.I ≠ y.h.I
  dh : w.D ≠ w.HD
  di : ∀ x ∈ w.hs, x.h.I ≠ w.D ∧ x.h.I ≠ w.HD
  bk : BkAt K H w.b cs as
variable {K : PySem.W.Frag} {H H' : Hp} {w : W80} {cs : List Ct} {as : List Addr} {F : Addr → Prop}
theorem Tw80.kx (x : Tw80 K H w cs as) (k : Kx F H H') (tm : TM H H') (n : ∀ y, w.fp y → ¬ F y) : Tw80 K H' w cs as := by
  obtain ⟨dx, L, hT⟩ := x.tw.to
  refine ⟨⟨x.tw.tc, ⟨dx, L, k _ _ hT (fun ps z => by cases z) (n _ (.inl (by simp)))⟩, k _ _ x.tw.hD (fun ps z => by cases z) (n _ (.inl (by simp)))⟩, k _ _ x.hh (fun ps z => by cases z) (n _ (.inl (by simp))), x.hc, fun y hy => ?_, x.nl, x.ai, x.dh, x.di,
    x.bk.kx k tm fun y hy => n y (.inl (by simp only [List.mem_cons, List.not_mem_nil, or_false] at hy ⊢; rcases hy with h | h | h | h <;> simp [h]))⟩
  obtain ⟨m, h⟩ := x.hs y hy
  exact ⟨m, h.kx k fun z hz => n z (.inr ⟨y, hy, hz⟩)⟩
theorem Tw80.same (x : Tw80 K H w cs as) (s : Same H H') : Tw80 K H' w cs as := x.kx (F := fun _ => False) (Kx.same s) (TM.of s) fun _ _ z => z
theorem Tw80.ext (x : Tw80 K H w cs as) (e : LamX.ExtN H H') : Tw80 K H' w cs as := x.kx (F := fun _ => False) (Kx.ext e) (ExtN.tm e) fun _ _ z => z
theorem Tw80.al (x : Tw80 K H w cs as) {y : Addr} (h : w.fp y) : Al H y := by
  rcases h with h | ⟨z, hz, h⟩
  · obtain ⟨dx, L, hT⟩ := x.tw.to
    obtain ⟨dxb, fsb, hB, _⟩ := x.bk.bo
    simp only [List.mem_cons, List.not_mem_nil, or_false] at h
    rcases h with h | h | h | h | h | h | h <;> rw [h]
    · exact ⟨_, hT, fun ps z => by cases z⟩
    · exact ⟨_, x.tw.hD, fun ps z => by cases z⟩
    · exact ⟨_, x.hh, fun ps z => by cases z⟩
    · exact ⟨_, hB, fun ps z => by cases z⟩
    · exact ⟨_, x.bk.hL, fun ps z => by cases z⟩
    · exact ⟨_, x.bk.hE, fun ps z => by cases z⟩
    · exact ⟨_, x.bk.hG, fun ps z => by unfold ND at z; cases z⟩
  · obtain ⟨m, hs⟩ := x.hs z hz
    obtain ⟨dx, hA⟩ := hs.ho
    simp only [List.mem_cons, List.not_mem_nil, or_false] at h
    rcases h with h | h <;> rw [h]
    · exact ⟨_, hA, fun ps z => by cases z⟩
    · exact ⟨_, hs.hI, fun ps z => by cases z⟩
/-- the town's dict and the law's own have the house more -/
theorem Tw80.add {x : Hm} (t : Tw80 K H w cs as) (tw : TwAt K H' w.T w.D w.b.B (homD (w.hs ++ [x]))) (hh : H' w.HD = some (.dK (homD (w.hs ++ [x])))) (k : Kx (fun y => y = w.D ∨ y = w.HD) H H') (tm : TM H H') (fr : Fr H x.h.A) (fi : Fr H x.h.I) (hx : ∃ m, HsAt K H' x.h w.b.B x.ns m) (nl : valV (homD w.hs) (Sum.inr x.l) = none) :
    Tw80 K H' { w with hs := w.hs ++ [x] } cs as := by
  obtain ⟨dxb, fsb, hB, _⟩ := t.bk.bo
  have no : ∀ z : Addr, Fr H z → ∀ y, w.fp y → z ≠ y := fun z fz y hy e => by
    subst e
    exact (t.al hy).fr fz
  refine ⟨tw, hh, t.hc, fun y hy => ?_, ?_, ?_, t.dh, fun y hy => ?_, t.bk.kx k tm fun y hy z => ?_⟩
  · rcases List.mem_append.mp hy with hy | hy
    · obtain ⟨m, h⟩ := t.hs y hy
      refine ⟨m, h.kx k fun z hz q => ?_⟩
      obtain ⟨dx, hA⟩ := h.ho
      simp only [List.mem_cons, List.not_mem_nil, or_false] at hz
      rcases hz with e | e <;> rcases q with q | q
      · rw [← e, q, t.tw.hD] at hA; cases hA
      · rw [← e, q, t.hh] at hA; cases hA
      · exact (t.di y hy).1 (e.symm.trans q)
      · exact (t.di y hy).2 (e.symm.trans q)
    · rw [List.mem_singleton.mp hy]
      exact hx
  · rw [List.map_append, List.nodup_append]
    refine ⟨t.nl, by simp, fun a ha b hb e => ?_⟩
    obtain ⟨y, hy, rfl⟩ := List.mem_map.mp ha
    have hb : b = x.l := by simpa using hb
    exact homD_none nl y hy (e.trans hb)
  · refine List.pairwise_append.mpr ⟨t.ai, List.pairwise_singleton _ _, fun a ha b hb => ?_⟩
    rw [List.mem_singleton.mp hb]
    exact ⟨(no _ fr _ (.inr ⟨a, ha, by simp⟩)).symm, (no _ fi _ (.inr ⟨a, ha, by simp⟩)).symm⟩
  · rcases List.mem_append.mp hy with hy | hy
    · exact t.di y hy
    · rw [List.mem_singleton.mp hy]
      exact ⟨no _ fi _ (.inl (by simp)), no _ fi _ (.inl (by simp))⟩
  · have hd : ∃ kvs, H y = some (.dK kvs) := by
      rcases z with z | z <;> rw [z]
      · exact ⟨_, t.tw.hD⟩
      · exact ⟨_, t.hh⟩
    obtain ⟨kvs, hd⟩ := hd
    simp only [List.mem_cons, List.not_mem_nil, or_false] at hy
    rcases hy with e | e | e | e <;> rw [e] at hd
    · rw [hB] at hd; cases hd
    · rw [t.bk.hL] at hd; cases hd
    · rw [t.bk.hE] at hd; cases hd
    · rw [t.bk.hG] at hd; unfold ND at hd; cases hd
/-- a turn of building -/
structure Step80 (H : Hp) (w w' : W80) : Prop where
  T : w'.T = w.T
  D : w'.D = w.D
  HD : w'.HD = w.HD
  b : w'.b = w.b
  hs : (w'.hs = w.hs ∧ w.hs ≠ []) ∨ ∃ x, w'.hs = w.hs ++ [x] ∧ x.ns = [] ∧ Fr H x.h.A ∧ Fr H x.h.I
theorem Step80.fp {w' : W80} (s : Step80 H w w') {y : Addr} (h : w'.fp y) : w.fp y ∨ Fr H y := by
  rcases h with h | ⟨z, hz, h⟩
  · rw [s.T, s.D, s.HD, s.b] at h
    exact .inl (.inl h)
  · rcases s.hs with ⟨e, _⟩ | ⟨x, e, _, f1, f2⟩
    · rw [e] at hz
      exact .inl (.inr ⟨z, hz, h⟩)
    · rw [e] at hz
      rcases List.mem_append.mp hz with hz | hz
      · exact .inl (.inr ⟨z, hz, h⟩)
      · rw [List.mem_singleton.mp hz] at h
        simp only [List.mem_cons, List.not_mem_nil, or_false] at h
        rcases h with h | h <;> rw [h]
        · exact .inr f1
        · exact .inr f2
end
/-! ### what the row's classes must say -/
structure OwnI (K : PySem.W.Frag) (X : Str) : Prop where
  cl : Cls K (He.ga K X)
  ha : PySem.W.findIn K (.ref (He.ga K X)) "__class__" = some (some (.builtin "object.__class__"))
  hn : PySem.W.specialIn K (.builtin "object.__class__") "__get__" = some (some (.builtin "getset_descriptor.__get__"))
  tk : PySem.W.takesIn K (.builtin "object.__class__") = some true
  oc : ObjCmp K (He.ga K X)
structure OwnJ (K : PySem.W.Frag) (X : Str) : Prop where
  ha : PySem.W.findIn K (.ref (He.ga K X)) "__class__" = some (some (.builtin "object.__class__"))
  hn : PySem.W.specialIn K (.builtin "object.__class__") "__get__" = some (some (.builtin "getset_descriptor.__get__"))
  tk : PySem.W.takesIn K (.builtin "object.__class__") = some true
  oc : ObjCmp K (He.ga K X)
def ownjB (K : PySem.W.Frag) (X : Str) : Bool := decide (PySem.W.findIn K (.ref (He.ga K X)) "__class__" = some (some (.builtin "object.__class__"))) && (decide (PySem.W.specialIn K (.builtin "object.__class__") "__get__" = some (some (.builtin "getset_descriptor.__get__"))) && (decide (PySem.W.takesIn K (.builtin "object.__class__") = some true) &&
  (decide (PySem.W.mroIn K (He.ga K X) (.type "object") = some true) && (He.eqO (PySem.W.findIn K (.ref (He.ga K X)) "__eq__") (some (some (.builtin "object.__eq__"))) && He.eqO (PySem.W.findIn K (.ref (He.ga K X)) "__ne__") (some (some (.builtin "object.__ne__")))))))
theorem ownjB_ok {K : PySem.W.Frag} {X : Str} (h : ownjB K X = true) : OwnJ K X := by
  unfold ownjB at h
  obtain ⟨h1, h⟩ := He.ba h
  obtain ⟨h2, h⟩ := He.ba h
  obtain ⟨h3, h⟩ := He.ba h
  obtain ⟨h4, h⟩ := He.ba h
  obtain ⟨h5, h6⟩ := He.ba h
  exact ⟨of_decide_eq_true h1, of_decide_eq_true h2, of_decide_eq_true h3, of_decide_eq_true h4, He.eqO_ok h5, He.eqO_ok h6⟩
theorem kit_self {K : PySem.W.Frag} {a : Addr} : PySem.W.kitOne K (.ref a) (.ref a) = some true := by
  unfold PySem.W.kitOne
  rw [if_pos (by simp)]
theorem inhB80_ok {K : PySem.W.Frag} {C B : Str} {ms : List Str} (h : (ms.all fun m => decide (PySem.W.findIn K (.ref (He.ga K C)) m = some (some (.ref (He.fAd K (B, some m))))) && (PySem.W.isFn K (.ref (He.fAd K (B, some m))) && PySem.W.keepIn K (.ref (He.fAd K (B, some m))))) = true) : ∀ m ∈ ms, Meth K (He.ga K C) m (He.fAd K (B, some m)) := fun m hm => by
  have h := List.all_eq_true.mp h m hm
  obtain ⟨h1, h⟩ := He.ba h
  obtain ⟨h2, h3⟩ := He.ba h
  exact ⟨of_decide_eq_true h1, h2, h3⟩
structure K80C (K : PySem.W.Frag) : Prop where
  heir : HeirC K (He.ga K "HouseError")
  te : TownE K
  cg : ClsG K (He.ga K "Store") (He.fAd K ("Store", some "__init__")) "__init__"
  inh : ∀ m ∈ (["put", "held", "write"] : List Str), Meth K (He.ga K "House") m (He.fAd K ("Store", some m))
  ob : OwnJ K "Book"
  oh : OwnJ K "House"
  tab : tabA K "_law_built" ≠ tabA K "law"
def k80B (K : PySem.W.Frag) : Bool := heirB K (He.ga K "HouseError") && (ectB K "NoHouse" && (ectB K "Taken" && (clsgB K (He.ga K "Store") (He.fAd K ("Store", some "__init__")) "__init__" &&
  (((["put", "held", "write"] : List Str).all fun m => decide (PySem.W.findIn K (.ref (He.ga K "House")) m = some (some (.ref (He.fAd K ("Store", some m))))) && (PySem.W.isFn K (.ref (He.fAd K ("Store", some m))) && PySem.W.keepIn K (.ref (He.fAd K ("Store", some m))))) &&
  (ownjB K "Book" && (ownjB K "House" && decide (tabA K "_law_built" ≠ tabA K "law")))))))
theorem k80_of {K : PySem.W.Frag} (h : k80B K = true) : K80C K := by
  unfold k80B at h
  obtain ⟨h1, h⟩ := He.ba h
  obtain ⟨h2, h⟩ := He.ba h
  obtain ⟨h3, h⟩ := He.ba h
  obtain ⟨h4, h⟩ := He.ba h
  obtain ⟨h5, h⟩ := He.ba h
  obtain ⟨h6, h⟩ := He.ba h
  obtain ⟨h7, h8⟩ := He.ba h
  exact ⟨heirB_ok h1, ⟨ectB_ok h2, ectB_ok h3⟩, clsgB_ok h4, inhB80_ok h5, ownjB_ok h6, ownjB_ok h7, of_decide_eq_true h8⟩
theorem k80_hun {K : PySem.W.Frag} (C : K80C K) : ∀ e ∈ (["_law_built", "law"] : List Str), tabA K e = tabA K "law" → e = "law" := fun e he h => by
  simp only [List.mem_cons, List.not_mem_nil, or_false] at he
  rcases he with rfl | rfl
  · exact absurd h C.tab
  · rfl
theorem k80_hunB {K : PySem.W.Frag} (C : K80C K) : ∀ e ∈ (["_law_built", "law"] : List Str), tabA K e = tabA K "_law_built" → e = "_law_built" := fun e he h => by
  simp only [List.mem_cons, List.not_mem_nil, or_false] at he
  rcases he with rfl | rfl
  · rfl
  · exact absurd h.symm C.tab
abbrev T80 : List Str := ["_law_built", "law"]
end Fw

set_option Elab.async false
set_option linter.all false
set_option maxRecDepth 100000
set_option maxHeartbeats 4000000
/-! _law_built and _law_stands of law k80. -/
namespace Fw
open PySem L2 RZ RT
theorem lt_ext80 : ∀ {a b : List Int}, a.Pairwise (· < ·) → b.Pairwise (· < ·) → (∀ m, m ∈ a ↔ m ∈ b) → a = b
  | [], [], _, _, _ => rfl
  | [], y :: b, _, _, h => absurd ((h y).mpr List.mem_cons_self) (by simp)
  | x :: a, [], _, _, h => absurd ((h x).mp List.mem_cons_self) (by simp)
  | x :: a, y :: b, ha, hb, h => by
    rw [List.pairwise_cons] at ha hb
    have e : x = y := by
      rcases List.mem_cons.mp ((h x).mp List.mem_cons_self) with e | e
      · exact e
      · rcases List.mem_cons.mp ((h y).mpr List.mem_cons_self) with e2 | e2
        · exact e2.symm
        · have h1 := hb.1 x e
          have h2 := ha.1 y e2
          omega
    subst e
    refine congrArg (x :: ·) (lt_ext80 ha.2 hb.2 fun m => ?_)
    constructor
    · intro hm
      rcases List.mem_cons.mp ((h m).mp (List.mem_cons_of_mem _ hm)) with e | e
      · have := ha.1 m hm
        omega
      · exact e
    · intro hm
      rcases List.mem_cons.mp ((h m).mpr (List.mem_cons_of_mem _ hm)) with e | e
      · have := hb.1 m hm
        omega
      · exact e
section
variable [HasW]
/-- what the law's third dict tells of the houses -/
structure Hd80 (H : Hp) (VD : Addr) (kv : List (Key × V)) (hs : List Hm) (n : Nat) : Prop where
  hV : H VD = some (.dK kv)
  at_ : ∀ x ∈ hs, (valV kv (Sum.inr x.l) = none ∧ x.ns = []) ∨ ∃ (a : Addr) (ns : List Int), valV kv (Sum.inr x.l) = some (.ref a) ∧ H a = some (.lst (ns.map V.int)) ∧ ns.Pairwise (· < ·) ∧ (∀ q : Int, q ∈ ns ↔ q ∈ x.ns) ∧ ns.length ≤ n
  few : kv.length ≤ n
abbrev rLenD8 : List V → Hp → VK → Prop := fun xs H Q => ∃ (a : Addr) (kvs : List (Key × V)), xs = [.ref a] ∧ H a = some (.dK kvs) ∧ Q (.int (kvs.length : Nat)) H
def hfp (VD : Addr) (kv : List (Key × V)) (y : Addr) : Prop := y = VD ∨ ∃ l : Str, valV kv (Sum.inr l) = some (.ref y)
theorem Hd80.kx {F : Addr → Prop} {H H' : Hp} {VD : Addr} {kv : List (Key × V)} {hs : List Hm} {n : Nat} (x : Hd80 H VD kv hs n) (k : Kx F H H') (h : ∀ y, hfp VD kv y → ¬ F y) : Hd80 H' VD kv hs n :=
  ⟨k _ _ x.hV (fun ps z => by cases z) (h _ (.inl rfl)), fun y hy => (x.at_ y hy).imp id fun ⟨a, ns, e, ha, r⟩ => ⟨a, ns, e, k _ _ ha (fun ps z => by cases z) (h _ (.inr ⟨_, e⟩)), r⟩, x.few⟩
theorem Hd80.same {H H' : Hp} {VD : Addr} {kv : List (Key × V)} {hs : List Hm} {n : Nat} (x : Hd80 H VD kv hs n) (s : Same H H') : Hd80 H' VD kv hs n := x.kx (F := fun _ => False) (Kx.same s) fun _ _ z => z
def sp_l_built (K : PySem.W.Frag) : Sp := fun vs H Q _ => ∃ (c D : Addr) (dn : List Int) (t : Nat) (w : W80) (cs : List Ct) (as : List Addr), vs = [.ref D, .ref w.T, .ref w.HD] ∧ K80C K ∧ Dk c D dn t H ∧ LamX.Tabs (tabsF K T80) H ∧ Tw80 K H w cs as ∧ ¬ w.fp D ∧ ¬ w.fp c ∧ t + 20 < 1000000000 ∧ w.hs.length ≤ 60 ∧
  ∀ (w' : W80) (H' : Hp), Step80 H w w' → Kx (fun y => y = D ∨ w.fp y) H H' → TM H H' → LamX.Tabs (tabsF K T80) H' → Dk c D dn (t + 10) H' → Tw80 K H' w' cs as → Q (.bl true) H'
def sp_l_stands (K : PySem.W.Frag) : Sp := fun vs H Q _ => ∃ (w : W80) (cs : List Ct) (as : List Addr) (VD : Addr) (kv : List (Key × V)) (n : Nat), vs = [.ref w.T, .ref w.HD, .ref VD] ∧ K80C K ∧ Tw80 K H w cs as ∧ Hd80 H VD kv w.hs n ∧ n ≤ 60 ∧ w.hs.length ≤ 60 ∧ ∀ H', Same H H' → Q (.bl true) H'
section
variable {K : PySem.W.Frag} {vs : List V} {H : Hp} {Q : VK} {E : XK}
theorem len_l_built (h : sp_l_built K vs H Q E) : vs.length = 3 := by obtain ⟨_, _, _, _, _, _, _, rfl, _⟩ := h; rfl
theorem len_l_stands (h : sp_l_stands K vs H Q E) : vs.length = 3 := by obtain ⟨_, _, _, _, _, _, rfl, _⟩ := h; rfl
end
abbrev N_l_built : List Str := ["_law_deck_here", "_law_town", "_law_homes", "_law_label_here"]
def t_l_built_tell (K : PySem.W.Frag) : TS := (tRet (tAndV (tCB (rIsi K) (tCons (tDGet (tVar 2) (tVar 3)) (tCons (tC (.ref (He.ga K "House"))) tNil))) (tOp (rObjEq K) (tMeth (He.ga K "Town") "house" (sp_Town_house K) [] E0 (tVar 1) (tCons (tVar 3) tNil)) (tDGet (tVar 2) (tVar 3)))))
def t_l_built_make (K : PySem.W.Frag) : TS := (tSeq (sDPut (tVar 2) (tVar 3) (tMeth (He.ga K "Town") "build" (sp_Town_build K) [] E0 (tVar 1) (tCons (tVar 3) tNil)))
    (t_l_built_tell K))
def t_l_built_none (K : PySem.W.Frag) : TS := (tSeq (tIfS (tNot (tB (tCall (sp_l_alike K) [] E0 (tCons (LamX.tLam (tabsF K ["_law_built", "law"]) (TTown K) (fun E => (tMeth (He.ga K "Town") "house" (sp_Town_houseX K) [] E (tVar 1) (tCons (tVar 3) tNil)))) (tCons (tTup (tCons (tC (.str "NoHouse")) (tCons (tVar 3) tNil))) tNil))))) (tRet (tC (.bl false))) tNext)
    (t_l_built_make K))
def t_l_built (K : PySem.W.Frag) : TS := (tSeq (tAsg (tCall (sp_l_label K) [] E0 (tCons (tVar 0) tNil)) (gName 3))
    (tSeq (tIfS (tB (tDIn (tVar 3) (tVar 2))) (tRet (tCall (sp_l_alike K) [] E0 (tCons (LamX.tLam (tabsF K ["_law_built", "law"]) (TTown K) (fun E => (tMeth (He.ga K "Town") "build" (sp_Town_buildX K) [] E (tVar 1) (tCons (tVar 3) tNil)))) (tCons (tTup (tCons (tC (.str "Taken")) (tCons (tVar 3) tNil))) tNil)))) tNext)
    (t_l_built_none K)))
abbrev N_l_stands : List Str := ["_law_town", "_law_homes", "_law_held", "_law_label_here"]
def t_l_stands_held (K : PySem.W.Frag) : TS := (tIfS (tNot (tB (tCall (sp_l_alike K) [] E0 (tCons (tMeth (He.ga K "House") "held" (sp_House_held K) [] E0 (tMeth (He.ga K "Town") "house" (sp_Town_house K) [] E0 (tVar 0) (tCons (tVar 3) tNil)) tNil) (tCons (tDGet2 (tVar 2) (tVar 3) (tLst tNil)) tNil))))) (tRet (tC (.bl false))) tNext)
def t_l_stands_each (K : PySem.W.Frag) : TS := (tSeq (tFor (iList K (tCB rSortedD (tCons (tVar 1) tNil))) (gName 3) (tSeq (tIfS (tOr (tTest (tOp (rNeSame K) (tMeth (He.ga K "Town") "house" (sp_Town_house K) [] E0 (tVar 0) (tCons (tVar 3) tNil)) (tDGet (tVar 1) (tVar 3)))) (tTest (tOp (rNeSame K) (tFld K (tDGet (tVar 1) (tVar 3)) "book") (tFld K (tVar 0) "book")))) (tRet (tC (.bl false))) tNext)
    (t_l_stands_held K)))
    (tRet (tC (.bl true))))
def t_l_stands (K : PySem.W.Frag) : TS := (tSeq (tIfS (tNot (tB (tCall (sp_l_alike K) [] E0 (tCons (tMeth (He.ga K "Town") "labels" (sp_Town_labels K) [] E0 (tVar 0) tNil) (tCons (tCB rSortedD (tCons (tVar 1) tNil)) tNil))))) (tRet (tC (.bl false))) tNext)
    (t_l_stands_each K))
variable {K : PySem.W.Frag} {vs : List V} {H H' H1 : Hp} {Q : VK} {E : XK} {c D VD : Addr} {dn : List Int} {t n : Nat} {w : W80} {cs : List Ct} {as : List Addr} {kv : List (Key × V)}
theorem dget80 {H : Hp} {a : Addr} {kvs : List (Key × V)} {k : Key} {v : V} (e : H a = some (.dK kvs)) (h : valV kvs k = some v) : DGet H a (kV k) (some v) := by
  have := DGet.k (k := k) e
  rwa [h] at this
theorem same_lab {p U : Addr} {X l : Str} (hp : H p = some (.tup [.str X, .str l])) (hU : H U = some (.tup [.str X, .str l])) : SameV H 6 (.ref p) (.ref U) := by
  refine SameV.tup hp hU rfl (by show (2 : Nat) ≤ 100000; decide) fun i x y hx hy => ?_
  match i, hx, hy with
  | 0, hx, hy =>
    cases Option.some.inj hx
    cases Option.some.inj hy
    exact Or.inl ⟨rfl, .inr (.inr (.inr ⟨_, rfl⟩))⟩
  | 1, hx, hy =>
    cases Option.some.inj hx
    cases Option.some.inj hy
    exact Or.inl ⟨rfl, .inr (.inr (.inr ⟨_, rfl⟩))⟩
theorem l_built_tell {x : Hm} (C : K80C K) (tw : Tw80 K H w cs as) (hx : x ∈ w.hs) (k : Q (.bl true) H) :
    t_l_built_tell K { nx := fun _ H' => Q .non H', rt := Q } [some (.ref D), some (.ref w.T), some (.ref w.HD), some (.str x.l)] H := by
  obtain ⟨m, hs⟩ := tw.hs x hx
  obtain ⟨dx, hA⟩ := hs.ho
  have hv := homD_at tw.nl hx
  refine ⟨_, rfl, _, rfl, w.HD, _, rfl, dget80 (k := Sum.inr x.l) tw.hh hv, ?_⟩
  refine ⟨.ref x.h.A, .ref (He.ga K "House"), _, _, true, rfl, .own _, .base (.ins hA tw.hc.cl C.oh.ha C.oh.hn C.oh.tk C.oh.oc.mro), kit_self, _, rfl, iteT ?_⟩
  refine tw.tw.me (fun _ => rfl) rfl ⟨_, rfl, w.T, w.D, w.b.B, _, x.l, _, rfl, tw.tw, hv, ?_⟩
  refine ⟨_, rfl, _, rfl, w.HD, _, rfl, dget80 (k := Sum.inr x.l) tw.hh hv, ?_⟩
  refine ⟨_, _, _, _, _, _, _, rfl, rfl, hA, hA, C.oh.oc, ?_⟩
  rw [decide_eq_true rfl]
  exact k
theorem l_built_make {l : Str} (C : K80C K) (dk : Dk c D dn t H) (tb : LamX.Tabs (tabsF K T80) H) (tw : Tw80 K H w cs as) (nD : ¬ w.fp D) (nc : ¬ w.fp c) (few : w.hs.length ≤ 60) (hv : valV (homD w.hs) (Sum.inr l) = none)
    (k : ∀ (x : Hm) (H' : Hp), x.ns = [] → Fr H x.h.A → Fr H x.h.I → Kx (fun y => y = w.D ∨ y = w.HD) H H' → TM H H' → LamX.Tabs (tabsF K T80) H' → Tw80 K H' { w with hs := w.hs ++ [x] } cs as → Q (.bl true) H') :
    t_l_built_make K { nx := fun _ H' => Q .non H', rt := Q } [some (.ref D), some (.ref w.T), some (.ref w.HD), some (.str l)] H := by
  refine tw.tw.me (fun _ => rfl) rfl ⟨_, rfl, w.T, w.D, w.b.B, _, l, rfl, tw.tw, tw.hc, hv, by rw [List.length_map]; omega, fun h H1 kp nA nI AI tw1 hs1 => ?_⟩
  have hh1 : H1 w.HD = some (.dK (homD w.hs)) := kp _ _ tw.hh tw.dh.symm
  have eP : putK (homD w.hs) (Sum.inr l) (V.ref h.A) = homD (w.hs ++ [⟨l, h, []⟩]) := by
    unfold putK
    rw [valV_any, hv]
    show _ = List.map _ _
    rw [List.map_append]
    rfl
  refine ⟨_, rfl, _, rfl, w.HD, _, rfl, DPut.k (k := Sum.inr l) hh1 (by rw [List.length_map]; exact Nat.lt_of_le_of_lt few (by decide)), ?_⟩
  rw [eP]
  have nAH : h.A ≠ w.HD := (ne_of_none tw.hh nA).symm
  have nIH : h.I ≠ w.HD := (ne_of_none tw.hh nI).symm
  have kx : Kx (fun y => y = w.D ∨ y = w.HD) H (upd H1 w.HD (.dK (homD (w.hs ++ [⟨l, h, []⟩])))) := fun y o e n f => updN (fun z => f (.inr z)) (kp y o e fun z => f (.inl z))
  have tm : TM H (upd H1 w.HD (.dK (homD (w.hs ++ [⟨l, h, []⟩])))) := fun a xs e => updN (ne_of e tw.hh fun z => by cases z) (kp _ _ e (ne_of e tw.tw.hD fun z => by cases z))
  have kf : Kf [w.D, w.HD] H (upd H1 w.HD (.dK (homD (w.hs ++ [⟨l, h, []⟩])))) := fun y o e n => updN (fun z => n (by simp [z])) (kp y o e fun z => n (by simp [z]))
  have tb2 : LamX.Tabs (tabsF K T80) (upd H1 w.HD (.dK (homD (w.hs ++ [⟨l, h, []⟩])))) := tabs_kf tb kf fun y hy => by
    simp only [List.mem_cons, List.not_mem_nil, or_false] at hy
    rcases hy with e | e <;> rw [e]
    · exact ⟨_, tw.tw.hD, noTab_dK⟩
    · exact ⟨_, tw.hh, noTab_dK⟩
  have tw2 : Tw80 K (upd H1 w.HD (.dK (homD (w.hs ++ [⟨l, h, []⟩])))) { w with hs := w.hs ++ [⟨l, h, []⟩] } cs as := by
    refine tw.add (x := ⟨l, h, []⟩) ?_ updS kx tm (Fr.none nA) (Fr.none nI) ⟨0, ?_⟩ hv
    · have e : homD (w.hs ++ [⟨l, h, []⟩]) = homD w.hs ++ [(Sum.inr l, .ref h.A)] := by
        show List.map _ _ = _
        rw [List.map_append]
        rfl
      rw [e]
      refine tw1.keep fun y hy o e => updN (fun z => ?_) e
      simp only [List.mem_cons, List.not_mem_nil, or_false] at hy
      rcases hy with q | q
      · obtain ⟨dx, L, hT⟩ := tw.tw.to
        rw [← q, z, tw.hh] at hT
        cases hT
      · exact tw.dh (q.symm.trans z)
    · refine hs1.kf (F := [w.HD]) (Kf.refl.up (by simp)) fun y hy z => ?_
      simp only [List.mem_cons, List.not_mem_nil, or_false] at hy
      have z := List.mem_singleton.mp z
      rcases hy with q | q
      · exact nAH (q.symm.trans z)
      · exact nIH (q.symm.trans z)
  exact l_built_tell (w := { w with hs := w.hs ++ [⟨l, h, []⟩] }) (x := ⟨l, h, []⟩) C tw2 (by simp) (k ⟨l, h, []⟩ _ rfl (Fr.none nA) (Fr.none nI) kx tm tb2 tw2)
theorem pure_l_built (h : sp_l_built K vs H Q E) : t_l_built K { nx := fun _ H' => Q .non H', rt := Q } (start N_l_built vs) H := by
  obtain ⟨c, D, dn, t, w, cs, as, rfl, C, dk, tb, tw, nD, nc, ht, few, kk⟩ := h
  refine ⟨_, rfl, c, D, dn, t, rfl, dk, by omega, fun z H1 oz kp1 d1 => ?_⟩
  obtain ⟨xs, hD⟩ := dk.someD
  have tm1 : TM H H1 := kp1.tm dk
  have kx1 : Kx (fun y => y = D) H H1 := Kx.kp kp1 rfl
  have tb1 : LamX.Tabs (tabsF K T80) H1 := tabs_kf (F := [D]) tb (Kf.kp kp1 (by simp)) fun y hy => by rw [List.mem_singleton.mp hy]; exact ⟨_, hD, noTab_lst⟩
  have tw1 := tw.kx kx1 tm1 fun y hy e => nD (by rw [← e]; exact hy)
  have big1 : Kx (fun y => y = D ∨ w.fp y) H H1 := kx1.mono fun y e => .inl e
  refine ⟨_, rfl, _, rfl, w.HD, _, rfl, DGet.k (k := Sum.inr z) tw1.hh, _, rfl, ?_⟩
  cases e : valV (homD w.hs) (Sum.inr z) with
  | some v =>
    obtain ⟨x, hx, _⟩ := homD_some e
    refine iteT ⟨tb1, fun H2 e2 tb2 => ⟨C.te, fun p np => ?_⟩⟩
    have tw2 := tw1.ext e2
    have d2 := d1.extN e2
    have sp : Same H2 (upd H2 p (.tup [.str "let by", .non])) := samN np
    have tw3 := tw2.same sp
    generalize upd H2 p (.tup [.str "let by", .non]) = H3 at sp tw3
    refine tw3.tw.me (fun _ => rfl) rfl ⟨_, rfl, w.T, w.D, w.b.B, _, z, v, rfl, tw3.tw, C.te.tk, e, fun d H4 s4 nd hd => ⟨"Taken", .str z, ⟨.inr rfl, rfl, d, _, rfl, hd, rfl⟩, fun q H5 s5 hq => ?_⟩⟩
    refine ⟨_, rfl, by show (2 : Nat) ≤ sizeLine; decide, fun U nU => ?_⟩
    have sU : Same H5 (upd H5 U (.tup [.str "Taken", .str z])) := samN nU
    refine ⟨_, _, rfl, same_lab (sU _ _ hq) updS, fun H6 s6 => ?_⟩
    have s : Same H2 H6 := sp.trans (s4.trans (s5.trans (sU.trans s6)))
    exact kk w H6 ⟨rfl, rfl, rfl, rfl, .inl ⟨rfl, fun z => by rw [z] at hx; exact absurd hx List.not_mem_nil⟩⟩ (big1.trans ((Kx.ext e2).trans (Kx.same s))) (fun a xs h => s _ _ (ExtN.tm e2 _ _ (tm1 _ _ h))) (tb2.ext s) (d2.same s) (tw2.same s)
  | none =>
    refine iteF ⟨tb1, fun H2 e2 tb2 => ⟨C.te, fun p np => ?_⟩⟩
    have tw2 := tw1.ext e2
    have d2 := d1.extN e2
    have sp : Same H2 (upd H2 p (.tup [.str "let by", .non])) := samN np
    have tw3 := tw2.same sp
    generalize upd H2 p (.tup [.str "let by", .non]) = H3 at sp tw3
    refine tw3.tw.me (fun _ => rfl) rfl ⟨_, rfl, w.T, w.D, w.b.B, _, z, rfl, tw3.tw, C.te.nh, e, fun d H4 s4 nd hd => ⟨"NoHouse", .str z, ⟨.inl rfl, rfl, d, _, rfl, hd, rfl⟩, fun q H5 s5 hq => ?_⟩⟩
    refine ⟨_, rfl, by show (2 : Nat) ≤ sizeLine; decide, fun U nU => ?_⟩
    have sU : Same H5 (upd H5 U (.tup [.str "NoHouse", .str z])) := samN nU
    refine ⟨_, _, rfl, same_lab (sU _ _ hq) updS, fun H6 s6 => ⟨_, rfl, iteF ?_⟩⟩
    have s : Same H2 H6 := sp.trans (s4.trans (s5.trans (sU.trans s6)))
    have big6 : Kx (fun y => y = D ∨ w.fp y) H H6 := big1.trans ((Kx.ext e2).trans (Kx.same s))
    have tm6 : TM H H6 := fun a xs h => s _ _ (ExtN.tm e2 _ _ (tm1 _ _ h))
    have tw6 := tw2.same s
    have d6 := d2.same s
    have kx6 : Kx (fun y => y = D) H H6 := kx1.trans ((Kx.ext e2).trans (Kx.same s))
    refine l_built_make C d6 (tb2.ext s) tw6 nD nc few e fun x H7 xn f1 f2 kx7 tm7 tb7 tw7 => ?_
    have al : ∀ y, Fr H6 y → y ≠ D := fun y f q => by
      obtain ⟨xs6, h6⟩ := d6.someD
      subst q
      exact Al.fr ⟨_, h6, fun ps z => by cases z⟩ f
    refine kk { w with hs := w.hs ++ [x] } H7 ⟨rfl, rfl, rfl, rfl, .inr ⟨x, rfl, xn, f1.back kx6 (al _ f1), f2.back kx6 (al _ f2)⟩⟩ (big6.trans (kx7.mono fun y hy => .inr (.inl (by rcases hy with q | q <;> simp [q])))) (fun a xs h => tm7 _ _ (tm6 _ _ h)) tb7 (d6.kx kx7 (fun q => nc (.inl (by rcases q with q | q <;> simp [q]))) fun q => nD (.inl (by rcases q with q | q <;> simp [q]))) tw7
theorem l_stands_held {Pn : L2.St → Hp → Prop} {D' : Ends} {x : Hm} (tw : Tw80 K H w cs as) (hd : Hd80 H VD kv w.hs n) (hx : x ∈ w.hs) (hn : n ≤ 60) (k : ∀ H', Same H H' → D'.nx [some (.ref w.T), some (.ref w.HD), some (.ref VD), some (.str x.l)] H') :
    t_l_stands_held K D' [some (.ref w.T), some (.ref w.HD), some (.ref VD), some (.str x.l)] H := by
  obtain ⟨m, hs⟩ := tw.hs x hx
  obtain ⟨dx, hA⟩ := hs.ho
  have hv := homD_at tw.nl hx
  refine tw.tw.me (n := "house") (fun _ => rfl) rfl ⟨_, rfl, w.T, w.D, w.b.B, _, x.l, _, rfl, tw.tw, hv, ?_⟩
  refine ⟨x.h.A, dx, _, rfl, hA, rfl, x.h, w.b.B, x.ns, m, rfl, hs, fun L ns' nL pm inc => ?_⟩
  have sL : Same H (upd H L (.lst (ns'.map V.int))) := samN nL
  have hL : upd H L (.lst (ns'.map V.int)) L = some (.lst (ns'.map V.int)) := updS
  have hd1 := hd.same sL
  show tDGet2 (tVar 2) (tVar 3) (tLst tNil) _ (upd H L (.lst (ns'.map V.int))) _
  generalize upd H L (.lst (ns'.map V.int)) = H1 at sL hL hd1 ⊢
  refine ⟨_, rfl, VD, rfl, .inl ⟨_, .inl hd1.hV⟩, _, rfl, by show (0 : Nat) ≤ sizeLine; decide, fun M nM => ?_⟩
  have sM : Same H1 (upd H1 M (.lst [])) := samN nM
  have hM : upd H1 M (.lst []) M = some (.lst []) := updS
  have hd2 := hd1.same sM
  show ∃ o, DGet (upd H1 M (.lst [])) VD _ o ∧ _
  generalize upd H1 M (.lst []) = H2 at sM hM hd2 ⊢
  refine ⟨_, DGet.k (k := Sum.inr x.l) hd2.hV, ?_⟩
  have fin : ∀ (a : Addr) (ns : List Int), H2 a = some (.lst (ns.map V.int)) → ns.Pairwise (· < ·) → (∀ q : Int, q ∈ ns ↔ q ∈ x.ns) → ns.length ≤ n → SameV H2 6 (.ref L) (.ref a) := fun a ns ha il mem ln => by
    obtain rfl : ns' = ns := lt_ext80 (perm_lt pm inc hs.nd) il fun q => pm.mem_iff.trans (mem q).symm
    exact SameV.lst (sM _ _ hL) ha rfl (by rw [List.length_map]; omega) SameV.ints
  rcases hd2.at_ x hx with ⟨e, en⟩ | ⟨a, ns, e, ha, il, mem, ln⟩
  · rw [e]
    exact ⟨_, _, rfl, fin M [] hM .nil (fun q => by rw [en]) (Nat.zero_le _), fun H3 s3 => ⟨_, rfl, iteF (k H3 (sL.trans (sM.trans s3)))⟩⟩
  · rw [e]
    exact ⟨_, _, rfl, fin a ns ha il mem ln, fun H3 s3 => ⟨_, rfl, iteF (k H3 (sL.trans (sM.trans s3)))⟩⟩
theorem pure_l_stands (h : sp_l_stands K vs H Q E) : t_l_stands K { nx := fun _ H' => Q .non H', rt := Q } (start N_l_stands vs) H := by
  obtain ⟨w, cs, as, VD, kv, n, rfl, C, tw, hd, hn, few, kk⟩ := h
  have hk := homD_keys w.hs
  refine tw.tw.me (n := "labels") (fun _ => rfl) rfl ⟨w.T, w.D, w.b.B, _, w.hs.map (·.l), rfl, tw.tw, hk, by rw [List.length_map]; omega, fun ys p pm so np => ?_⟩
  have sp : Same H (upd H p (.lst (ys.map V.str))) := samN np
  have hp : upd H p (.lst (ys.map V.str)) p = some (.lst (ys.map V.str)) := updS
  have tw1 := tw.same sp
  show tCB rSortedD (tCons (tVar 1) tNil) _ (upd H p (.lst (ys.map V.str))) _
  generalize upd H p (.lst (ys.map V.str)) = H1 at sp hp tw1 ⊢
  refine ⟨_, rfl, w.HD, _, w.hs.map (·.l), rfl, .inl tw1.hh, hk, by rw [List.length_map]; omega, fun ys2 q pm2 so2 nq => ?_⟩
  obtain rfl : ys = ys2 := sortedS_one (pm.trans pm2.symm) so so2
  have sq : Same H1 (upd H1 q (.lst (ys.map V.str))) := samN nq
  have ylen : ys.length ≤ 60 := by rw [pm.length_eq, List.length_map]; exact few
  refine ⟨_, _, rfl, SameV.lst (sq _ _ hp) updS rfl (by rw [List.length_map]; omega) SameV.strs, fun H3 s3 => ⟨_, rfl, iteF ?_⟩⟩
  have s13 := sp.trans (sq.trans s3)
  have tw3 := tw.same s13
  dsimp only [tNext]
  show t_l_stands_each K _ _ H3
  refine ⟨_, rfl, w.HD, _, w.hs.map (·.l), rfl, .inl tw3.hh, hk, by rw [List.length_map]; omega, fun zs r pm4 so4 nr => ?_⟩
  have sr : Same H3 (upd H3 r (.lst (zs.map V.str))) := samN nr
  have hr : upd H3 r (.lst (zs.map V.str)) r = some (.lst (zs.map V.str)) := updS
  show ∃ a, V.ref r = .ref a ∧ _
  generalize upd H3 r (.lst (zs.map V.str)) = H4 at sr hr ⊢
  have s14 := s13.trans sr
  refine ⟨r, rfl, ⟨_, sqL hr⟩, ?_⟩
  refine for_list (xs := zs.map V.str) (fun i σ H' => Same H4 H' ∧ ∃ z, σ = [some (.ref w.T), some (.ref w.HD), some (.ref VD), z]) ⟨.refl _, _, rfl⟩ (fun i σ H' _ e => sqL (e.1 _ _ hr)) ?_ ?_
  · rintro i v σ H5 hi ⟨s5, z, rfl⟩
    obtain ⟨l, hl, rfl⟩ := List.mem_map.mp (List.mem_of_getElem? hi)
    obtain ⟨x, hx, rfl⟩ := List.mem_map.mp (pm4.mem_iff.mp hl)
    have s15 := s14.trans s5
    have tw5 := tw.same s15
    have hd5 := hd.same s15
    obtain ⟨m, hs⟩ := tw5.hs x hx
    obtain ⟨dx, hA⟩ := hs.ho
    obtain ⟨dxb, fsb, hB, _⟩ := id tw5.bk.bo
    have hv := homD_at tw5.nl hx
    dsimp only [gName]
    refine tw5.tw.me (n := "house") (fun _ => rfl) rfl ⟨_, rfl, w.T, w.D, w.b.B, _, x.l, _, rfl, tw5.tw, hv, ?_⟩
    refine ⟨_, rfl, _, rfl, w.HD, _, rfl, dget80 (k := Sum.inr x.l) tw5.hh hv, ?_⟩
    refine ⟨_, _, _, _, rfl, rfl, hA, C.oh.oc, _, rfl, iteF ?_⟩
    refine ⟨_, rfl, _, rfl, w.HD, _, rfl, dget80 (k := Sum.inr x.l) tw5.hh hv, x.h.A, _, dx, _, _, rfl, hA, hs.hc.cl, hs.hc.n1, rfl, ?_⟩
    refine tw5.tw.fB rfl ?_
    refine ⟨_, _, _, _, rfl, rfl, hB, C.ob.oc, _, rfl, iteF ?_⟩
    exact l_stands_held (Pn := fun _ _ => True) tw5 hd5 hx hn fun H6 s6 => ⟨s5.trans s6, _, rfl⟩
  · rintro σ H5 ⟨s5, z, rfl⟩
    exact kk _ (s14.trans s5)
end
end Fw

set_option Elab.async false
set_option linter.all false
set_option maxRecDepth 100000
set_option maxHeartbeats 4000000
/-! Law k80. -/
namespace Fw
open PySem L2 RZ RT
section
variable [HasW]
abbrev N_law : List Str := ["_law_script", "_law_deck_here", "_law_town", "_law_other", "_law_homes", "_law_others", "_law_held", "_law_turn", "_law_label_here", "_law_name", "_law_due"]
def t_law_clear (K : PySem.W.Frag) : TS := (tDrop (tBM0 K "list" rClear (tMeth (He.ga K "Town") "labels" (sp_Town_labels K) [] E0 (tVar 2) tNil)))
def t_law_held (K : PySem.W.Frag) : TS := (tSeq (sDPut (tVar 6) (tVar 8) (tSortSet K (tOp rCat (tDGet2 (tVar 6) (tVar 8) (tLst tNil)) (tLst (tCons (tVar 9) tNil)))))
    (t_law_clear K))
def t_law_write (K : PySem.W.Frag) : TS := (tSeq (tAsg (tMeth (He.ga K "House") "write" (sp_House_write K) [] E0 (tDGet (tVar 4) (tVar 8)) (tCons (tTup (tCons (tC (.str "leaf")) (tCons (tTup (tCons (tC (.str "here")) (tCons (tCB rStrI (tCons (tCall (sp_l_draw K) [] E0 (tCons (tVar 1) (tCons (tC (.int 4)) tNil))) tNil)) tNil))) tNil))) tNil)) (gName 9))
    (t_law_held K))
def t_law_pick (K : PySem.W.Frag) : TS := (tSeq (tAsg (tOp (rIx K) (tCB rSortedD (tCons (tVar 4) tNil)) (tCall (sp_l_draw K) [] E0 (tCons (tVar 1) (tCons (tCB rLenD8 (tCons (tVar 4) tNil)) tNil)))) (gName 8))
    (t_law_write K))
def t_law_turn (K : PySem.W.Frag) : TS := (tSeq (tIfS (tOr (tNot (tB (tCall (sp_l_built K) [] E0 (tCons (tVar 1) (tCons (tVar 2) (tCons (tVar 4) tNil)))))) (tNot (tB (tCall (sp_l_built K) [] E0 (tCons (tVar 1) (tCons (tVar 3) (tCons (tVar 5) tNil))))))) (tRet (tC (.bl false))) tNext)
    (t_law_pick K))
def t_law_sweep (K : PySem.W.Frag) : TS := (tIfS (tAnd (tB (tDNotIn (tVar 8) (tVar 4))) (tNot (tB (tCall (sp_l_alike K) [] E0 (tCons (LamX.tLam (tabsF K ["_law_built", "law"]) (TTown K) (fun E => (tMeth (He.ga K "Town") "sweep" (sp_Town_sweepX K) [] E (tVar 2) (tCons (tVar 8) tNil)))) (tCons (tVar 10) tNil)))))) (tRet (tC (.bl false))) tNext)
def t_law_odd (K : PySem.W.Frag) : TS := (tSeq (tAsg (tOp (fun x y H Q => ∃ i j, x = .str i ∧ y = .str j ∧ i.length + j.length ≤ sizeLine ∧ Q (.str (i ++ j)) H) (tC (.str "zz")) (tSl rSlS (tCall (sp_l_label K) [] E0 (tCons (tVar 1) tNil)) tNoPart (tPart (tC (.int 6))))) (gName 8))
    (tSeq (tAsg (tTup (tCons (tC (.str "NoHouse")) (tCons (tVar 8) tNil))) (gName 10))
    (t_law_sweep K)))
def t_law_last (K : PySem.W.Frag) : TS := (tRet (tAndV (tCall (sp_l_stands K) [] E0 (tCons (tVar 2) (tCons (tVar 4) (tCons (tVar 6) tNil)))) (tCall (sp_l_stands K) [] E0 (tCons (tVar 3) (tCons (tVar 5) (tCons tDNewK tNil))))))
def t_law_odds (K : PySem.W.Frag) : TS := (tSeq (tFor (iRng1 (tCons (tC (.int 2)) tNil)) (gName 7) (t_law_odd K))
    (t_law_last K))
def t_law_end (K : PySem.W.Frag) : TS := (tSeq (tIfS (tOr (tTest (tOp rNe (tCB (rLenC (He.ga K "Book") (sp_Book_len K) E0) (tCons (tFld K (tVar 3) "book") tNil)) (tC (.int 0)))) (tTest (tOp rNe (tMeth (He.ga K "Book") "kind" (sp_Book_kind K) [] E0 (tFld K (tVar 2) "book") (tCons (tC (.int 0)) tNil)) (tC (.str "leaf"))))) (tRet (tC (.bl false))) tNext)
    (t_law_odds K))
def t_law_turns (K : PySem.W.Frag) : TS := (tSeq (tFor (iRng1 (tCons (tOp rAddI (tC (.int 1)) (tCall (sp_l_draw K) [] E0 (tCons (tVar 1) (tCons (tC (.int 8)) tNil)))) tNil)) (gName 7) (t_law_turn K))
    (t_law_end K))
def t_law_dicts (K : PySem.W.Frag) : TS := (tSeq (tAsg tDNewK (gName 4))
    (tSeq (tAsg tDNewK (gName 5))
    (tSeq (tAsg tDNewK (gName 6))
    (t_law_turns K))))
def t_law_look (K : PySem.W.Frag) : TS := (tSeq (tIfS (tOr (tNot (tB (tCB (rIsi K) (tCons (tFld K (tVar 2) "book") (tCons (tC (.ref (He.ga K "Book"))) tNil))))) (tOr (tTest (tOp (rObjEq K) (tFld K (tVar 2) "book") (tFld K (tVar 3) "book"))) (tNot (tB (tCall (sp_l_alike K) [] E0 (tCons (tMeth (He.ga K "Town") "labels" (sp_Town_labels K) [] E0 (tVar 2) tNil) (tCons (tLst tNil) tNil))))))) (tRet (tC (.bl false))) tNext)
    (t_law_dicts K))
def t_law_other (K : PySem.W.Frag) : TS := (tSeq (tAsg (tMake (He.ga K "Town") (sp_Town_init K) [] E0 tNil) (gName 3))
    (t_law_look K))
def t_law (K : PySem.W.Frag) : TS := (tSeq (tAsg (tCall (sp_l_deck K) [] E0 (tCons (tVar 0) tNil)) (gName 1))
    (tSeq (tAsg (tMake (He.ga K "Town") (sp_Town_init K) [] E0 tNil) (gName 2))
    (t_law_other K)))
/-- the law's two towns, and its three dicts -/
structure S80 (K : PySem.W.Frag) (H : Hp) (c D : Addr) (dn : List Int) (t : Nat) (w1 w2 : W80) (cs : List Ct) (as : List Addr) (VD : Addr) (kv : List (Key × V)) (n : Nat) : Prop where
  dk : Dk c D dn t H
  tb : LamX.Tabs (tabsF K T80) H
  x1 : Tw80 K H w1 cs as
  x2 : Tw80 K H w2 [] []
  hd : Hd80 H VD kv w1.hs n
  o1 : ∀ y, w1.fp y → y ≠ D ∧ y ≠ c ∧ ¬ w2.fp y
  o2 : ∀ y, w2.fp y → y ≠ D ∧ y ≠ c
  o3 : ∀ y, hfp VD kv y → y ≠ D ∧ y ≠ c ∧ ¬ w1.fp y ∧ ¬ w2.fp y
  kl : ∀ l : Str, valV kv (Sum.inr l) ≠ none → l ∈ w1.hs.map (·.l)
  e2 : ∀ x ∈ w2.hs, x.ns = []
  lf : ∀ d ∈ cs, ∃ r, d = .leaf r
  n1 : w1.hs.length ≤ n
  n2 : w2.hs.length ≤ n
  n3 : cs.length ≤ n
  n4 : ∀ x ∈ w1.hs, x.ns.length ≤ n
variable {K : PySem.W.Frag} {vs : List V} {H H' H1 : Hp} {Q : VK} {E : XK} {c D S VD : Addr} {dn : List Int} {t t' n n' : Nat} {w1 w2 : W80} {cs : List Ct} {as : List Addr} {kv : List (Key × V)}
theorem Hd80.le {hs : List Hm} (x : Hd80 H VD kv hs n) (h : n ≤ n') : Hd80 H VD kv hs n' :=
  ⟨x.hV, fun y hy => (x.at_ y hy).imp id fun ⟨a, ns, h1, h2, h3, h4, h5⟩ => ⟨a, ns, h1, h2, h3, h4, Nat.le_trans h5 h⟩, Nat.le_trans x.few h⟩
theorem S80.le (s : S80 K H c D dn t w1 w2 cs as VD kv n) (h : n ≤ n') (ht : t ≤ t') : S80 K H c D dn t' w1 w2 cs as VD kv n' :=
  ⟨s.dk.le ht, s.tb, s.x1, s.x2, s.hd.le h, s.o1, s.o2, s.o3, s.kl, s.e2, s.lf, Nat.le_trans s.n1 h, Nat.le_trans s.n2 h, Nat.le_trans s.n3 h, fun x hx => Nat.le_trans (s.n4 x hx) h⟩
theorem S80.ext (s : S80 K H c D dn t w1 w2 cs as VD kv n) (e : LamX.ExtN H H') (tb : LamX.Tabs (tabsF K T80) H') : S80 K H' c D dn t w1 w2 cs as VD kv n :=
  ⟨s.dk.extN e, tb, s.x1.ext e, s.x2.ext e, s.hd.kx (F := fun _ => False) (Kx.ext e) (fun _ _ z => z), s.o1, s.o2, s.o3, s.kl, s.e2, s.lf, s.n1, s.n2, s.n3, s.n4⟩
theorem S80.same (s : S80 K H c D dn t w1 w2 cs as VD kv n) (e : Same H H') : S80 K H' c D dn t w1 w2 cs as VD kv n := s.ext (LamX.ExtN.of e) (s.tb.ext e)
theorem S80.draw (s : S80 K H c D dn t w1 w2 cs as VD kv n) (k : Kp D H H') (d : Dk c D dn t' H') : S80 K H' c D dn t' w1 w2 cs as VD kv n := by
  obtain ⟨xs, hD⟩ := s.dk.someD
  have kx : Kx (fun y => y = D) H H' := Kx.kp k rfl
  have tm := k.tm s.dk
  exact ⟨d, tabs_kf (F := [D]) s.tb (Kf.kp k (by simp)) (fun y hy => by rw [List.mem_singleton.mp hy]; exact ⟨_, hD, noTab_lst⟩), s.x1.kx kx tm (fun y hy => (s.o1 y hy).1), s.x2.kx kx tm (fun y hy => (s.o2 y hy).1), s.hd.kx kx (fun y hy => (s.o3 y hy).1), s.o1, s.o2, s.o3, s.kl, s.e2, s.lf, s.n1, s.n2, s.n3, s.n4⟩
theorem S80.alD (s : S80 K H c D dn t w1 w2 cs as VD kv n) : Al H D ∧ Al H c := by
  obtain ⟨xs, hD⟩ := s.dk.someD
  obtain ⟨ys, hc⟩ := s.dk.someC
  exact ⟨⟨_, hD, fun ps z => by cases z⟩, ⟨_, hc, fun ps z => by cases z⟩⟩
theorem S80.al3 (s : S80 K H c D dn t w1 w2 cs as VD kv n) {y : Addr} (h : hfp VD kv y) : Al H y := by
  rcases h with rfl | ⟨l, h⟩
  · exact ⟨_, s.hd.hV, fun ps z => by cases z⟩
  · obtain ⟨x, hx, rfl⟩ := List.mem_map.mp (s.kl l (by rw [h]; simp))
    rcases s.hd.at_ x hx with ⟨e, _⟩ | ⟨a, ns, e, ha, _⟩
    · rw [h] at e; cases e
    · rw [h] at e
      injection e with e
      injection e with e
      rw [e]
      exact ⟨_, ha, fun ps z => by cases z⟩
/-- the first town is built on -/
theorem S80.step1 {w : W80} (s : S80 K H c D dn t w1 w2 cs as VD kv n) (st : Step80 H w1 w) (kx : Kx (fun y => y = D ∨ w1.fp y) H H') (tm : TM H H') (tb : LamX.Tabs (tabsF K T80) H') (d : Dk c D dn t' H') (x : Tw80 K H' w cs as) : S80 K H' c D dn t' w w2 cs as VD kv (n + 1) := by
  have len : w.hs.length ≤ n + 1 ∧ ∀ x ∈ w.hs, x.ns.length ≤ n + 1 := by
    rcases st.hs with ⟨e, _⟩ | ⟨x, e, en, _⟩
    · rw [e]
      exact ⟨Nat.le_succ_of_le s.n1, fun x hx => Nat.le_succ_of_le (s.n4 x hx)⟩
    · rw [e]
      refine ⟨by rw [List.length_append]; have := s.n1; simp; omega, fun z hz => ?_⟩
      rcases List.mem_append.mp hz with hz | hz
      · exact Nat.le_succ_of_le (s.n4 z hz)
      · rw [List.mem_singleton.mp hz, en]
        exact Nat.zero_le _
  have lab : ∀ l ∈ w1.hs.map (·.l), l ∈ w.hs.map (·.l) := fun l hl => by
    rcases st.hs with ⟨e, _⟩ | ⟨x, e, _⟩
    · rw [e]; exact hl
    · rw [e, List.map_append]
      exact List.mem_append_left _ hl
  have hd1 : Hd80 H' VD kv w1.hs n := s.hd.kx kx fun y hy z => by
    rcases z with z | z
    · exact (s.o3 y hy).1 z
    · exact (s.o3 y hy).2.2.1 z
  refine ⟨d, tb, x, s.x2.kx kx tm fun y hy z => ?_, ⟨hd1.hV, fun y hy => ?_, Nat.le_succ_of_le hd1.few⟩, fun y hy => ?_, s.o2, fun y hy => ⟨(s.o3 y hy).1, (s.o3 y hy).2.1, fun z => ?_, (s.o3 y hy).2.2.2⟩, fun l hl => lab l (s.kl l hl), s.e2, s.lf, len.1, Nat.le_succ_of_le s.n2, Nat.le_succ_of_le s.n3, len.2⟩
  · rcases z with z | z
    · exact (s.o2 y hy).1 z
    · exact (s.o1 y z).2.2 hy
  · have nl := x.nl
    rcases st.hs with ⟨e, _⟩ | ⟨z, e, en, _⟩
    · rw [e] at hy
      exact (hd1.le (Nat.le_succ n)).at_ y hy
    · rw [e] at hy nl
      rcases List.mem_append.mp hy with hy | hy
      · exact (hd1.le (Nat.le_succ n)).at_ y hy
      · have hy := List.mem_singleton.mp hy
        subst hy
        refine .inl ⟨?_, en⟩
        cases e3 : valV kv (Sum.inr y.l) with
        | none => rfl
        | some v =>
          have := s.kl y.l (by rw [e3]; simp)
          rw [List.map_append, List.nodup_append] at nl
          exact absurd rfl (nl.2.2 _ this y.l (by simp))
  · rcases st.fp hy with h | h
    · exact s.o1 y h
    · exact ⟨fun z => by subst z; exact s.alD.1.fr h, fun z => by subst z; exact s.alD.2.fr h, fun z => (s.x2.al z).fr h⟩
  · rcases st.fp z with h | h
    · exact (s.o3 y hy).2.2.1 h
    · exact (s.al3 hy).fr h
/-- the other town is built on -/
theorem S80.step2 {w : W80} (s : S80 K H c D dn t w1 w2 cs as VD kv n) (st : Step80 H w2 w) (kx : Kx (fun y => y = D ∨ w2.fp y) H H') (tm : TM H H') (tb : LamX.Tabs (tabsF K T80) H') (d : Dk c D dn t' H') (x : Tw80 K H' w [] []) (hn : w2.hs.length < n) : S80 K H' c D dn t' w1 w cs as VD kv n := by
  have len : w.hs.length ≤ n ∧ ∀ x ∈ w.hs, x.ns = [] := by
    rcases st.hs with ⟨e, _⟩ | ⟨x, e, en, _⟩
    · rw [e]
      exact ⟨s.n2, s.e2⟩
    · rw [e]
      refine ⟨by rw [List.length_append]; simp; omega, fun z hz => ?_⟩
      rcases List.mem_append.mp hz with hz | hz
      · exact s.e2 z hz
      · rw [List.mem_singleton.mp hz, en]
  refine ⟨d, tb, s.x1.kx kx tm fun y hy z => ?_, x, s.hd.kx kx fun y hy z => ?_, fun y hy => ⟨(s.o1 y hy).1, (s.o1 y hy).2.1, fun z => ?_⟩, fun y hy => ?_, fun y hy => ⟨(s.o3 y hy).1, (s.o3 y hy).2.1, (s.o3 y hy).2.2.1, fun z => ?_⟩, s.kl, len.2, s.lf, s.n1, len.1, s.n3, s.n4⟩
  · rcases z with z | z
    · exact (s.o1 y hy).1 z
    · exact (s.o1 y hy).2.2 z
  · rcases z with z | z
    · exact (s.o3 y hy).1 z
    · exact (s.o3 y hy).2.2.2 z
  · rcases st.fp z with h | h
    · exact (s.o1 y hy).2.2 h
    · exact (s.x1.al hy).fr h
  · rcases st.fp hy with h | h
    · exact s.o2 y h
    · exact ⟨fun z => by subst z; exact s.alD.1.fr h, fun z => by subst z; exact s.alD.2.fr h⟩
  · rcases st.fp z with h | h
    · exact (s.o3 y hy).2.2.2 h
    · exact (s.al3 hy).fr h
/-! ### the turn -/
def upH (hs : List Hm) (l : Str) (i : Int) : List Hm := hs.map fun x => if x.l = l then ⟨x.l, x.h, insM x.ns i⟩ else x
theorem upH_l {hs : List Hm} {l : Str} {i : Int} : (upH hs l i).map (·.l) = hs.map (·.l) := by
  unfold upH
  rw [List.map_map]
  refine List.map_congr_left fun x _ => ?_
  show (if x.l = l then _ else x : Hm).l = x.l
  by_cases h : x.l = l
  · rw [if_pos h]
  · rw [if_neg h]
theorem upH_D {hs : List Hm} {l : Str} {i : Int} : homD (upH hs l i) = homD hs := by
  unfold upH
  show List.map _ (List.map _ _) = _
  rw [List.map_map]
  refine List.map_congr_left fun x _ => ?_
  by_cases h : x.l = l
  · simp [h]
  · simp [h]
theorem upH_mem {hs : List Hm} {l : Str} {i : Int} {y : Hm} (h : y ∈ upH hs l i) : ∃ x ∈ hs, y.l = x.l ∧ y.h = x.h ∧ ((x.l = l ∧ y.ns = insM x.ns i) ∨ (x.l ≠ l ∧ y.ns = x.ns)) := by
  obtain ⟨x, hx, rfl⟩ := List.mem_map.mp h
  refine ⟨x, hx, ?_⟩
  by_cases e : x.l = l
  · rw [if_pos e]
    exact ⟨rfl, rfl, .inl ⟨e, rfl⟩⟩
  · rw [if_neg e]
    exact ⟨rfl, rfl, .inr ⟨e, rfl⟩⟩
theorem upH_fp {l : Str} {i : Int} {y : Addr} : ({ w1 with hs := upH w1.hs l i } : W80).fp y ↔ w1.fp y := by
  unfold W80.fp
  refine or_congr Iff.rfl ⟨fun ⟨x, hx, h⟩ => ?_, fun ⟨x, hx, h⟩ => ?_⟩
  · obtain ⟨z, hz, _, e, _⟩ := upH_mem hx
    exact ⟨z, hz, by rw [← e]; exact h⟩
  · refine ⟨_, List.mem_map.mpr ⟨x, hx, rfl⟩, ?_⟩
    by_cases e : x.l = l
    · rw [if_pos e]; exact h
    · rw [if_neg e]; exact h
theorem upH_nl {x y : Hm} {hs : List Hm} (nl : (hs.map (·.l)).Nodup) (hx : x ∈ hs) (hy : y ∈ hs) (e : x.l = y.l) : x = y := by
  induction hs with
  | nil => exact absurd hx List.not_mem_nil
  | cons z hs ih =>
    rw [List.map_cons, List.nodup_cons] at nl
    rcases List.mem_cons.mp hx with rfl | hx2 <;> rcases List.mem_cons.mp hy with rfl | hy2
    · rfl
    · exact (nl.1 (List.mem_map.mpr ⟨y, hy2, e.symm⟩)).elim
    · exact (nl.1 (List.mem_map.mpr ⟨x, hx2, e⟩)).elim
    · exact ih nl.2 hx2 hy2
/-- a house of the town has written -/
theorem Tw80.write {x : Hm} {c : Ct} {as' : List Addr} {m : Int} {i : Int} (tw : Tw80 K H w1 cs as) (hx : x ∈ w1.hs) (kf : Kf [x.h.A, x.h.I, w1.b.L, w1.b.E, w1.b.G] H H') (tm : TM H H') (bk : BkAt K H' w1.b (addC cs c) as') (hs : HsAt K H' x.h w1.b.B (insM x.ns i) m) :
    Tw80 K H' { w1 with hs := upH w1.hs x.l i } (addC cs c) as' := by
  obtain ⟨m0, h0⟩ := tw.hs x hx
  obtain ⟨dx, hA⟩ := h0.ho
  obtain ⟨dxT, L, hT⟩ := tw.tw.to
  have kd : ∀ (y : Addr) (kvs : List (Key × V)), H y = some (.dK kvs) → y ≠ x.h.I → H' y = some (.dK kvs) := fun y kvs e n => kf _ _ e fun z => by
    simp only [List.mem_cons, List.not_mem_nil, or_false] at z
    rcases z with z | z | z | z | z
    · rw [z, hA] at e; cases e
    · exact n z
    · rw [z, tw.bk.hL] at e; cases e
    · rw [z, tw.bk.hE] at e; cases e
    · rw [z, tw.bk.hG] at e; unfold ND at e; cases e
  have ki : ∀ (y C dy : Addr) (fs : List (Str × V)), H y = some (.ins C dy fs) → y ≠ x.h.A → H' y = some (.ins C dy fs) := fun y C dy fs e n => kf _ _ e fun z => by
    simp only [List.mem_cons, List.not_mem_nil, or_false] at z
    rcases z with z | z | z | z | z
    · exact n z
    · rw [z, h0.hI] at e; cases e
    · rw [z, tw.bk.hL] at e; cases e
    · rw [z, tw.bk.hE] at e; cases e
    · rw [z, tw.bk.hG] at e
      exact nd_ne_ins (Option.some.inj e)
  have TA : w1.T ≠ x.h.A := fun z => by
    rw [z, hA] at hT
    injection hT with hT
    injection hT with _ _ e
    injection e with _ e
    injection e with e _
    injection e with e _
    exact absurd e (by decide +kernel)
  refine ⟨⟨tw.tw.tc, ⟨dxT, L, ki _ _ _ _ hT TA⟩, ?_⟩, ?_, tw.hc, fun y hy => ?_, by rw [upH_l]; exact tw.nl, ?_, tw.dh, fun y hy => ?_, bk⟩
  · rw [upH_D]
    exact kd _ _ tw.tw.hD (tw.di x hx).1.symm
  · rw [upH_D]
    exact kd _ _ tw.hh (tw.di x hx).2.symm
  · obtain ⟨z, hz, e1, e2, ⟨e3, e4⟩ | ⟨e3, e4⟩⟩ := upH_mem hy
    · obtain rfl := upH_nl tw.nl hz hx e3
      rw [e2, e4]
      exact ⟨m, hs⟩
    · rw [e2, e4]
      obtain ⟨mz, hsz⟩ := tw.hs z hz
      obtain ⟨dz, hAz⟩ := hsz.ho
      have ne : z.h.A ≠ x.h.A ∧ z.h.I ≠ x.h.I := by
        obtain ⟨a, ha, rfl⟩ := List.getElem_of_mem hz
        obtain ⟨b, hb, rfl⟩ := List.getElem_of_mem hx
        have pw := List.pairwise_iff_getElem.mp tw.ai
        rcases Nat.lt_trichotomy a b with q | q | q
        · exact pw a b ha hb q
        · exact absurd (by simp [q]) e3
        · exact ⟨(pw b a hb ha q).1.symm, (pw b a hb ha q).2.symm⟩
      exact ⟨mz, hsz.hc, ⟨dz, ki _ _ _ _ hAz ne.1⟩, kd _ _ hsz.hI ne.2, hsz.nd, hsz.few⟩
  · unfold upH
    rw [List.pairwise_map]
    refine tw.ai.imp fun {a b} h => ?_
    have e : ∀ q : Hm, (if q.l = x.l then (⟨q.l, q.h, insM q.ns i⟩ : Hm) else q).h = q.h := fun q => by
      by_cases z : q.l = x.l
      · rw [if_pos z]
      · rw [if_neg z]
    rw [e, e]
    exact h
  · obtain ⟨z, hz, _, e, _⟩ := upH_mem hy
    rw [e]
    exact tw.di z hz
end
end Fw

set_option Elab.async false
set_option linter.all false
set_option maxRecDepth 100000
set_option maxHeartbeats 4000000
/-! Law k80: the turns, and the law itself. -/
namespace Fw
open PySem L2 RZ RT
theorem okS_b {z : Str} (h : (decide (z.cps.size ≤ 40) && z.cps.toList.all fun x => decide (32 ≤ x) && (decide (x ≤ 126) && !decide (x = 37))) = true) : OkS z := by
  rw [Bool.and_eq_true] at h
  refine ⟨of_decide_eq_true h.1, fun x hx => ?_⟩
  have := List.all_eq_true.mp h.2 x hx
  simp only [Bool.and_eq_true, decide_eq_true_eq, Bool.not_eq_true', decide_eq_false_iff_not] at this
  exact ⟨this.1, this.2.1, this.2.2⟩
theorem here_form {v : Int} (h0 : 0 ≤ v) (h1 : v < 4) : (Ct.leaf ["here", (toString v : String)]).form := by
  refine ⟨by show (2 : Nat) ≤ 40; decide, fun z hz => ?_⟩
  rcases List.mem_cons.mp hz with rfl | hz
  · exact okS_b (by decide +kernel)
  · rw [List.mem_singleton.mp hz]
    have : v = 0 ∨ v = 1 ∨ v = 2 ∨ v = 3 := by omega
    rcases this with rfl | rfl | rfl | rfl <;> exact okS_b (by decide +kernel)
theorem addC_len8 {cs : List Ct} {c : Ct} : (addC cs c).length ≤ cs.length + 1 := by
  unfold addC
  by_cases h : c ∈ cs
  · rw [if_pos h]; omega
  · rw [if_neg h, List.length_append]; simp
theorem addC_mem8 {cs : List Ct} {c d : Ct} (h : d ∈ addC cs c) : d ∈ cs ∨ d = c := by
  unfold addC at h
  by_cases e : c ∈ cs
  · rw [if_pos e] at h; exact .inl h
  · rw [if_neg e] at h
    rcases List.mem_append.mp h with h | h
    · exact .inl h
    · exact .inr (List.mem_singleton.mp h)
theorem addC_ne8 {cs : List Ct} {c : Ct} : addC cs c ≠ [] := by
  unfold addC
  by_cases e : c ∈ cs
  · rw [if_pos e]; exact fun z => by rw [z] at e; exact absurd e List.not_mem_nil
  · rw [if_neg e]; simp
theorem insM_mem8 {ns : List Int} {i q : Int} : q ∈ insM ns i ↔ q ∈ ns ∨ q = i := by
  unfold insM
  by_cases e : i ∈ ns
  · rw [if_pos e]
    exact ⟨.inl, fun h => h.elim id fun z => by rw [z]; exact e⟩
  · rw [if_neg e]
    simp
theorem insM_len8 {ns : List Int} {i : Int} : (insM ns i).length ≤ ns.length + 1 := by
  unfold insM
  by_cases e : i ∈ ns
  · rw [if_pos e]; omega
  · rw [if_neg e, List.length_append]; simp
theorem putK_len80 {kvs : List (Key × V)} {k : Key} {x : V} : (putK kvs k x).length ≤ kvs.length + 1 := by
  unfold putK
  by_cases e : (kvs.any fun kv => decide (kv.1 = k)) = true
  · rw [if_pos e, List.length_map]; omega
  · rw [if_neg e, List.length_append]; simp
theorem cutS_len80 (z : Str) (lo hi : Option Int) : (cutS z lo hi).length ≤ z.length := by
  unfold cutS
  show (List.toArray _).size ≤ z.cps.size
  rw [List.size_toArray, List.length_take, List.length_drop]
  have : z.cps.toList.length = z.cps.size := Array.length_toList
  show min (HT.sIx z.cps.size z.cps.size hi - HT.sIx z.cps.size 0 lo) (z.cps.toList.length - _) ≤ z.cps.size
  omega
section
variable [HasW]
variable {K : PySem.W.Frag} {vs : List V} {H H' H1 : Hp} {Q : VK} {E : XK} {c D S VD : Addr} {dn : List Int} {t t' n n' : Nat} {w1 w2 : W80} {cs : List Ct} {as : List Addr} {kv : List (Key × V)}
theorem law_clear {D' : Ends} {z7 z8 z9 z10 : Option V} (s : S80 K H c D dn t w1 w2 cs as VD kv n) (hn : n ≤ 50)
    (k : ∀ H', S80 K H' c D dn t w1 w2 cs as VD kv n → D'.nx [some (.ref S), some (.ref D), some (.ref w1.T), some (.ref w2.T), some (.ref w1.HD), some (.ref w2.HD), some (.ref VD), z7, z8, z9, z10] H') :
    t_law_clear K D' [some (.ref S), some (.ref D), some (.ref w1.T), some (.ref w2.T), some (.ref w1.HD), some (.ref w2.HD), some (.ref VD), z7, z8, z9, z10] H := by
  refine s.x1.tw.me (n := "labels") (fun _ => rfl) rfl ⟨w1.T, w1.D, w1.b.B, _, w1.hs.map (·.l), rfl, s.x1.tw, homD_keys _, by rw [List.length_map]; have := s.n1; omega, fun ys p pm so np => ?_⟩
  refine ⟨.inl ⟨rfl, _, sqL updS⟩, p, _, rfl, rfl, updS, ?_⟩
  exact k _ (s.same fun b o e => updN (ne_of_none e np) (updN (ne_of_none e np) e))
theorem law_held {D' : Ends} {z7 z10 : Option V} {H0 : Hp} {x : Hm} {i : Int} {cs' : List Ct} {as' : List Addr} (s0 : S80 K H0 c D dn t w1 w2 cs as VD kv n) (hx : x ∈ w1.hs) (hn : n < 50) (dk : Dk c D dn t H) (tb : LamX.Tabs (tabsF K T80) H) (x1 : Tw80 K H { w1 with hs := upH w1.hs x.l i } cs' as') (x2 : Tw80 K H w2 [] []) (hd : Hd80 H VD kv w1.hs n)
    (lf : ∀ d ∈ cs', ∃ r, d = .leaf r) (n3 : cs'.length ≤ n + 1)
    (k : ∀ kv' H', S80 K H' c D dn t { w1 with hs := upH w1.hs x.l i } w2 cs' as' VD kv' (n + 1) → D'.nx [some (.ref S), some (.ref D), some (.ref w1.T), some (.ref w2.T), some (.ref w1.HD), some (.ref w2.HD), some (.ref VD), z7, some (.str x.l), some (.int i), z10] H') :
    t_law_held K D' [some (.ref S), some (.ref D), some (.ref w1.T), some (.ref w2.T), some (.ref w1.HD), some (.ref w2.HD), some (.ref VD), z7, some (.str x.l), some (.int i), z10] H := by
  refine ⟨_, rfl, VD, rfl, .inl ⟨_, .inl hd.hV⟩, _, rfl, by show (0 : Nat) ≤ sizeLine; decide, fun M nM => ?_⟩
  have sM : Same H (upd H M (.lst [])) := samN nM
  have hM : upd H M (.lst []) M = some (.lst []) := updS
  have hd1 := hd.same sM
  show ∃ o, DGet (upd H M (.lst [])) VD _ o ∧ _
  generalize upd H M (.lst []) = H1 at sM hM hd1 ⊢
  refine ⟨_, DGet.k (k := Sum.inr x.l) hd1.hV, ?_⟩
  have fin : ∀ (a : Addr) (ns : List Int) (v : V), v = .ref a → H1 a = some (.lst (ns.map V.int)) → (∀ q : Int, q ∈ ns ↔ q ∈ x.ns) → ns.length ≤ n →
      tLst (tCons (tVar 9) tNil) [some (.ref S), some (.ref D), some (.ref w1.T), some (.ref w2.T), some (.ref w1.HD), some (.ref w2.HD), some (.ref VD), z7, some (.str x.l), some (.int i), z10] H1 (fun y H2 => rCat v y H2 (fun x_1 H1 => ∃ (a : Addr) (ns : List Int), x_1 = .ref a ∧ SqL K H1 a (ns.map V.int) ∧ ns.length < 64 ∧
        ∀ (ys : List Int) (q p : Addr) (u : HO), H1 q = none → upd H1 q u p = none → ys.Pairwise (· < ·) → (∀ k, k ∈ ys ↔ k ∈ ns) → ys.length ≤ ns.length →
          (fun v H1 => tVar 6 [some (.ref S), some (.ref D), some (.ref w1.T), some (.ref w2.T), some (.ref w1.HD), some (.ref w2.HD), some (.ref VD), z7, some (.str x.l), some (.int i), z10] H1 fun x_2 H2 => tVar 8 [some (.ref S), some (.ref D), some (.ref w1.T), some (.ref w2.T), some (.ref w1.HD), some (.ref w2.HD), some (.ref VD), z7, some (.str x.l), some (.int i), z10] H2 fun y H3 => ∃ a H4, x_2 = .ref a ∧ DPut H3 a y v H4 ∧ t_law_clear K D' [some (.ref S), some (.ref D), some (.ref w1.T), some (.ref w2.T), some (.ref w1.HD), some (.ref w2.HD), some (.ref VD), z7, some (.str x.l), some (.int i), z10] H4) (.ref p) (upd (upd H1 q u) p (.lst (ys.map V.int))))) := by
    rintro a ns _ rfl ha mem ln
    refine ⟨_, rfl, by show (1 : Nat) ≤ sizeLine; decide, fun N nN => ?_⟩
    have sN : Same H1 (upd H1 N (.lst [.int i])) := samN nN
    refine ⟨a, N, _, _, rfl, rfl, sN _ _ ha, updS, by rw [List.length_map]; exact Nat.le_trans (show ns.length + 1 ≤ 51 by omega) (by decide), fun B nB => ?_⟩
    have sB : Same (upd H1 N (.lst [.int i])) (upd (upd H1 N (.lst [.int i])) B (.lst (ns.map V.int ++ [.int i]))) := samN nB
    refine ⟨B, ns ++ [i], rfl, sqL (by rw [updS, List.map_append]; rfl), by rw [List.length_append, List.length_singleton]; omega, fun ys q p u nq np inc mem2 len2 => ?_⟩
    have sq : Same (upd (upd H1 N (.lst [.int i])) B (.lst (ns.map V.int ++ [.int i]))) (upd (upd (upd (upd H1 N (.lst [.int i])) B (.lst (ns.map V.int ++ [.int i]))) q u) p (.lst (ys.map V.int))) := (samN nq).trans (samN np)
    have hp : upd (upd (upd (upd H1 N (.lst [.int i])) B (.lst (ns.map V.int ++ [.int i]))) q u) p (.lst (ys.map V.int)) p = some (.lst (ys.map V.int)) := updS
    have np0 : H p = none := by
      cases e : H p with
      | none => rfl
      | some o =>
        have := updN (o := u) (ne_of_none (sB _ _ (sN _ _ (sM _ _ e))) nq) (sB _ _ (sN _ _ (sM _ _ e)))
        rw [np] at this
        cases this
    have s4 := sM.trans (sN.trans (sB.trans sq))
    generalize upd (upd (upd (upd H1 N (.lst [.int i])) B (.lst (ns.map V.int ++ [.int i]))) q u) p (.lst (ys.map V.int)) = H4 at s4 hp ⊢
    have hd4 := hd.same s4
    refine ⟨_, rfl, _, rfl, VD, _, rfl, DPut.k (k := Sum.inr x.l) hd4.hV (Nat.lt_of_le_of_lt hd4.few (Nat.lt_of_lt_of_le hn (by decide))), ?_⟩
    rw [List.length_append, List.length_singleton] at len2
    have nVp : p ≠ VD := (ne_of_none hd.hV np0).symm
    have kx : Kx (fun y => y = VD) H4 (upd H4 VD (.dK (putK kv (Sum.inr x.l) (.ref p)))) := fun y o e _ f => updN f e
    have tm : TM H4 (upd H4 VD (.dK (putK kv (Sum.inr x.l) (.ref p)))) := fun b xs e => updN (ne_of e hd4.hV fun z => by cases z) e
    have o3V := s0.o3 VD (.inl rfl)
    refine law_clear (w1 := { w1 with hs := upH w1.hs x.l i }) (n := n + 1) ⟨(dk.same s4).kx kx (fun z => o3V.2.1 z.symm) (fun z => o3V.1 z.symm), tabs_kf (F := [VD]) (tb.ext s4) (Kf.refl.up (by simp)) (fun y hy => by rw [List.mem_singleton.mp hy]; exact ⟨_, hd4.hV, noTab_dK⟩), (x1.same s4).kx kx tm (fun y hy z => o3V.2.2.1 (by rw [← z]; exact upH_fp.mp hy)), (x2.same s4).kx kx tm (fun y hy z => o3V.2.2.2 (by rw [← z]; exact hy)), ⟨updS, fun y hy => ?_, Nat.le_trans putK_len80 (Nat.succ_le_succ hd4.few)⟩, fun y hy => s0.o1 y (upH_fp.mp hy), s0.o2, fun y hy => ?_, fun l hl => ?_, s0.e2, lf, ?_, Nat.le_succ_of_le s0.n2, n3, fun y hy => ?_⟩ (by omega) fun H' s => k _ H' s
    · obtain ⟨z, hz, e1, e2, ⟨e3, e4⟩ | ⟨e3, e4⟩⟩ := upH_mem hy
      · obtain rfl := upH_nl s0.x1.nl hz hx e3
        refine .inr ⟨p, ys, by rw [valV_put, if_pos (by rw [e1])], updN nVp hp, inc, fun q => ?_, by omega⟩
        rw [mem2, e4, insM_mem8, List.mem_append, mem, List.mem_singleton]
      · have eV : valV (putK kv (Sum.inr x.l) (.ref p)) (Sum.inr y.l) = valV kv (Sum.inr z.l) := by
          rw [valV_put, if_neg (fun q => e3 (by rw [e1] at q; injection q)), e1]
        rw [eV, e4]
        refine (hd4.at_ z hz).imp id fun ⟨a, ms, h1, h2, h3, h4, h5⟩ => ⟨a, ms, h1, updN (ne_of h2 hd4.hV fun z => by cases z) h2, h3, h4, Nat.le_succ_of_le h5⟩
    · rcases hy with rfl | ⟨l, hy⟩
      · exact ⟨o3V.1, o3V.2.1, fun z => o3V.2.2.1 (upH_fp.mp z), o3V.2.2.2⟩
      · rw [valV_put] at hy
        by_cases e : (Sum.inr l : Key) = Sum.inr x.l
        · rw [if_pos e] at hy
          injection hy with hy
          injection hy with hy
          subst hy
          have fr : Fr H p := Fr.none np0
          obtain ⟨xs, hD⟩ := dk.someD
          obtain ⟨zs, hc⟩ := dk.someC
          exact ⟨fun z => by subst z; exact Al.fr ⟨_, hD, fun ps z => by cases z⟩ fr, fun z => by subst z; exact Al.fr ⟨_, hc, fun ps z => by cases z⟩ fr, fun z => (x1.al z).fr fr, fun z => (x2.al z).fr fr⟩
        · rw [if_neg e] at hy
          have := s0.o3 y (.inr ⟨l, hy⟩)
          exact ⟨this.1, this.2.1, fun z => this.2.2.1 (upH_fp.mp z), this.2.2.2⟩
    · show l ∈ (upH w1.hs x.l i).map (·.l)
      rw [upH_l]
      rw [valV_put] at hl
      by_cases e : (Sum.inr l : Key) = Sum.inr x.l
      · injection e with e
        rw [e]
        exact List.mem_map.mpr ⟨x, hx, rfl⟩
      · rw [if_neg e] at hl
        exact s0.kl l hl
    · show (upH w1.hs x.l i).length ≤ n + 1
      unfold upH
      rw [List.length_map]
      exact Nat.le_succ_of_le s0.n1
    · obtain ⟨z, hz, e1, e2, ⟨e3, e4⟩ | ⟨e3, e4⟩⟩ := upH_mem hy
      · rw [e4]
        exact Nat.le_trans insM_len8 (Nat.succ_le_succ (s0.n4 z hz))
      · rw [e4]
        exact Nat.le_succ_of_le (s0.n4 z hz)
  rcases hd1.at_ x hx with ⟨e, en⟩ | ⟨a, ns, e, ha, il, mem, ln⟩
  · rw [e]
    exact fin M [] _ rfl hM (fun q => by rw [en]) (Nat.zero_le _)
  · rw [e]
    exact fin a ns _ rfl ha mem ln
theorem law_write {D' : Ends} {z7 z9 z10 : Option V} {x : Hm} (s : S80 K H c D dn t w1 w2 cs as VD kv n) (hx : x ∈ w1.hs) (hn : n < 50) (ht : t + 10 < 1000000000)
    (k : ∀ w cs' as' kv' i H', w.T = w1.T → w.HD = w1.HD → cs' ≠ [] → S80 K H' c D dn (t + 1) w w2 cs' as' VD kv' (n + 1) → D'.nx [some (.ref S), some (.ref D), some (.ref w1.T), some (.ref w2.T), some (.ref w1.HD), some (.ref w2.HD), some (.ref VD), z7, some (.str x.l), some (.int i), z10] H') :
    t_law_write K D' [some (.ref S), some (.ref D), some (.ref w1.T), some (.ref w2.T), some (.ref w1.HD), some (.ref w2.HD), some (.ref VD), z7, some (.str x.l), z9, z10] H := by
  have hv := homD_at s.x1.nl hx
  obtain ⟨m, hs⟩ := s.x1.hs x hx
  obtain ⟨dx, hA⟩ := hs.ho
  refine ⟨_, rfl, _, rfl, w1.HD, _, rfl, dget80 (k := Sum.inr x.l) s.x1.hh hv, x.h.A, dx, _, rfl, hA, rfl, ?_⟩
  refine ⟨_, rfl, c, D, dn, t, 4, rfl, s.dk, by omega, by decide, by decide, fun v H1 v0 v1 d1 fr1 => ?_⟩
  have s1 := s.draw (.fr fr1) d1
  refine ⟨v, rfl, ?_, by show (2 : Nat) ≤ sizeLine; decide, fun U nU => ⟨by show (2 : Nat) ≤ sizeLine; decide, fun A nA => ?_⟩⟩
  · exact Nat.lt_of_le_of_lt (Nat.log2_le_self _) (by omega)
  have nUA : U ≠ A := ne_of_none updS nA
  have sA : Same H1 (upd (upd H1 U (.tup [.str "here", .str (toString v : String)])) A (.tup [.str "leaf", .ref U])) := (samN nU).trans (samN nA)
  have hL : CtAt (upd (upd H1 U (.tup [.str "here", .str (toString v : String)])) A (.tup [.str "leaf", .ref U])) A (.leaf ["here", (toString v : String)]) := ⟨U, updS, updN nUA updS⟩
  have s2 := s1.same sA
  dsimp only [tNil]
  generalize upd (upd H1 U (.tup [.str "here", .str (toString v : String)])) A (.tup [.str "leaf", .ref U]) = H2 at hL s2
  obtain ⟨m2, hs2⟩ := s2.x1.hs x hx
  have few := s2.n3
  refine ⟨x.h, w1.b, cs, as, x.ns, m2, A, .leaf ["here", (toString v : String)], rfl, hs2, s2.x1.bk, hL, here_form v0 v1, rfl, by omega, by have := s2.n4 x hx; omega, fun i as' m' H3 hi kf bk3 hs3 tm3 => ?_⟩
  have x13 := s2.x1.write (i := (i : Int)) hx kf tm3 bk3 hs3
  have fpL : ∀ y ∈ [x.h.A, x.h.I, w1.b.L, w1.b.E, w1.b.G], w1.fp y := fun y hy => by
    simp only [List.mem_cons, List.not_mem_nil, or_false] at hy
    rcases hy with h | h | h | h | h
    · exact .inr ⟨x, hx, by simp [h]⟩
    · exact .inr ⟨x, hx, by simp [h]⟩
    · exact .inl (by simp [h])
    · exact .inl (by simp [h])
    · exact .inl (by simp [h])
  have kx : Kx w1.fp H2 H3 := Kx.kf kf fpL
  obtain ⟨dx2, hA2⟩ := hs2.ho
  refine law_held s2 hx hn (s2.dk.kx kx (fun z => (s2.o1 _ z).2.1 rfl) (fun z => (s2.o1 _ z).1 rfl)) (tabs_kf s2.tb kf fun y hy => ?_) x13 (s2.x2.kx kx tm3 fun y hy z => (s2.o1 y z).2.2 hy) (s2.hd.kx kx fun y hy => (s2.o3 y hy).2.2.1) (fun d hd => ?_) (Nat.le_trans addC_len8 (Nat.succ_le_succ s2.n3)) fun kv' H' s' => ?_
  · simp only [List.mem_cons, List.not_mem_nil, or_false] at hy
    rcases hy with rfl | rfl | hy
    · exact ⟨_, hA2, noTab_ins⟩
    · exact ⟨_, hs2.hI, noTab_dK⟩
    · exact s2.x1.bk.noTab y (by simpa using hy)
  · rcases addC_mem8 hd with h | h
    · exact s2.lf d h
    · exact ⟨_, h⟩
  · exact k { w1 with hs := upH w1.hs x.l (i : Int) } _ _ _ _ H' rfl rfl addC_ne8 s'
theorem law_pick {D' : Ends} {z7 z8 z9 z10 : Option V} (s : S80 K H c D dn t w1 w2 cs as VD kv n) (ne : w1.hs ≠ []) (hn : n < 50) (ht : t + 20 < 1000000000)
    (k : ∀ w cs' as' kv' l i H', w.T = w1.T → w.HD = w1.HD → cs' ≠ [] → S80 K H' c D dn (t + 2) w w2 cs' as' VD kv' (n + 1) → D'.nx [some (.ref S), some (.ref D), some (.ref w1.T), some (.ref w2.T), some (.ref w1.HD), some (.ref w2.HD), some (.ref VD), z7, some (.str l), some (.int i), z10] H') :
    t_law_pick K D' [some (.ref S), some (.ref D), some (.ref w1.T), some (.ref w2.T), some (.ref w1.HD), some (.ref w2.HD), some (.ref VD), z7, z8, z9, z10] H := by
  have hl : 0 < w1.hs.length := List.length_pos_iff.mpr ne
  have n1 := s.n1
  refine ⟨_, rfl, w1.HD, _, w1.hs.map (·.l), rfl, .inl s.x1.hh, homD_keys _, by rw [List.length_map]; omega, fun ys p pm so np => ?_⟩
  have sp : Same H (upd H p (.lst (ys.map V.str))) := samN np
  have hp : upd H p (.lst (ys.map V.str)) p = some (.lst (ys.map V.str)) := updS
  have s1 := s.same sp
  have npD := s.dk.neD np
  show tCall (sp_l_draw K) [] E0 _ _ (upd H p (.lst (ys.map V.str))) _
  generalize upd H p (.lst (ys.map V.str)) = H1 at sp hp s1 ⊢
  refine ⟨_, rfl, _, rfl, w1.HD, _, rfl, s1.x1.hh, ?_⟩
  rw [List.length_map]
  refine ⟨c, D, dn, t, _, rfl, s1.dk, by omega, by omega, small100 (by omega), fun v H2 v0 v1 d2 fr2 => ?_⟩
  have s2 := s1.draw (.fr fr2) d2
  have hp2 : H2 p = some (.lst (ys.map V.str)) := by rw [fr2 _ npD]; exact hp
  obtain ⟨j, rfl⟩ := Int.eq_ofNat_of_zero_le v0
  have hj : j < ys.length := by rw [pm.length_eq, List.length_map]; omega
  obtain ⟨x, hx, ex⟩ := List.mem_map.mp (pm.mem_iff.mp (List.getElem_mem hj))
  refine ixL hp2 (atI_nat (by rw [List.getElem?_map, List.getElem?_eq_getElem hj, ← ex]; rfl)) ?_
  exact law_write s2 hx hn (by omega) fun w cs' as' kv' i H' e1 e2 e3 s' => k w cs' as' kv' _ i H' e1 e2 e3 s'
theorem law_turn {D' : Ends} {z7 z8 z9 z10 : Option V} (C : K80C K) (s : S80 K H c D dn t w1 w2 cs as VD kv n) (hn : n < 48) (ht : t + 100 < 1000000000)
    (k : ∀ u1 u2 cs' as' kv' l i H', u1.T = w1.T → u1.HD = w1.HD → u2.T = w2.T → u2.HD = w2.HD → cs' ≠ [] → S80 K H' c D dn (t + 30) u1 u2 cs' as' VD kv' (n + 2) → D'.nx [some (.ref S), some (.ref D), some (.ref w1.T), some (.ref w2.T), some (.ref w1.HD), some (.ref w2.HD), some (.ref VD), z7, some (.str l), some (.int i), z10] H') :
    t_law_turn K D' [some (.ref S), some (.ref D), some (.ref w1.T), some (.ref w2.T), some (.ref w1.HD), some (.ref w2.HD), some (.ref VD), z7, z8, z9, z10] H := by
  have n1 := s.n1
  have n2 := s.n2
  refine ⟨_, rfl, _, rfl, _, rfl, c, D, dn, t, w1, cs, as, rfl, C, s.dk, s.tb, s.x1, fun z => (s.o1 _ z).1 rfl, fun z => (s.o1 _ z).2.1 rfl, by omega, by omega, fun u1 H1 st1 kx1 tm1 tb1 d1 x11 => ⟨_, rfl, iteF ?_⟩⟩
  have s1 := s.step1 st1 kx1 tm1 tb1 d1 x11
  have ne1 : u1.hs ≠ [] := by
    rcases st1.hs with ⟨e, q⟩ | ⟨x, e, _⟩
    · rw [e]; exact q
    · rw [e]; simp
  refine ⟨_, rfl, _, rfl, _, rfl, c, D, dn, t + 10, w2, [], [], rfl, C, s1.dk, s1.tb, s1.x2, fun z => (s1.o2 _ z).1 rfl, fun z => (s1.o2 _ z).2 rfl, by omega, by omega, fun u2 H2 st2 kx2 tm2 tb2 d2 x22 => ⟨_, rfl, iteF ?_⟩⟩
  have s2 := s1.step2 st2 kx2 tm2 tb2 d2 x22 (by omega)
  dsimp only [tNext]
  have e1 := st1.T
  have e2 := st1.HD
  have e3 := st2.T
  have e4 := st2.HD
  rw [← e1, ← e2, ← e3, ← e4]
  refine law_pick s2 ne1 (by omega) (by omega) fun w cs' as' kv' l i H' q1 q2 q3 s' => ?_
  have := k w u2 cs' as' kv' l i H' (q1.trans e1) (q2.trans e2) e3 e4 q3 (s'.le (Nat.le_refl _) (by omega))
  rw [← e1, ← e2, ← e3, ← e4] at this
  exact this
end
end Fw

set_option Elab.async false
set_option linter.all false
set_option maxRecDepth 100000
set_option maxHeartbeats 4000000
/-! Law k80: the law itself. -/
namespace Fw
open PySem L2 RZ RT
section
variable [HasW]
variable {K : PySem.W.Frag} {vs : List V} {H H' H1 : Hp} {Q : VK} {E : XK} {c D S VD : Addr} {dn : List Int} {t t' n n' : Nat} {w1 w2 : W80} {cs : List Ct} {as : List Addr} {kv : List (Key × V)}
theorem BkAt.lenB80 {b : BkA} {cs : List Ct} {as : List Addr} (k : BkAt K H b cs as) (q : Q (.int (cs.length : Nat)) H) : rLenC (He.ga K "Book") (sp_Book_len K) E0 [.ref b.B] H Q := by
  obtain ⟨dx, fs, hx, _⟩ := k.bo
  exact ⟨b.B, dx, fs, rfl, hx, b, cs, as, rfl, k, _, rfl, by have := k.few; omega, q⟩
theorem law_sweep {D' : Ends} {z7 z9 : Option V} {l : Str} {U : Addr} (C : K80C K) (s : S80 K H c D dn t w1 w2 cs as VD kv n) (hU : H U = some (.tup [.str "NoHouse", .str l]))
    (k : ∀ H', S80 K H' c D dn t w1 w2 cs as VD kv n → D'.nx [some (.ref S), some (.ref D), some (.ref w1.T), some (.ref w2.T), some (.ref w1.HD), some (.ref w2.HD), some (.ref VD), z7, some (.str l), z9, some (.ref U)] H') :
    t_law_sweep K D' [some (.ref S), some (.ref D), some (.ref w1.T), some (.ref w2.T), some (.ref w1.HD), some (.ref w2.HD), some (.ref VD), z7, some (.str l), z9, some (.ref U)] H := by
  refine ⟨_, rfl, _, rfl, w1.HD, _, rfl, DGet.k (k := Sum.inr l) s.x1.hh, _, rfl, ?_⟩
  cases e : valV (homD w1.hs) (Sum.inr l) with
  | some v => exact iteF (iteF (k H s))
  | none =>
    refine iteT ⟨s.tb, fun H2 e2 tb2 => ⟨C.te, fun p np => ?_⟩⟩
    have s2 := s.ext e2 tb2
    have sp : Same H2 (upd H2 p (.tup [.str "let by", .non])) := samN np
    have s3 := s2.same sp
    have hU3 := sp _ _ (ExtN.tm e2 _ _ hU)
    generalize upd H2 p (.tup [.str "let by", .non]) = H3 at sp s3 hU3
    refine s3.x1.tw.me (fun _ => rfl) rfl ⟨_, rfl, w1.T, w1.D, w1.b.B, _, l, rfl, s3.x1.tw, C.te.nh, e, fun d H4 s4 nd hd => ⟨"NoHouse", .str l, ⟨.inl rfl, rfl, d, _, rfl, hd, rfl⟩, fun q H5 s5 hq => ?_⟩⟩
    refine ⟨_, rfl, _, _, rfl, same_lab hq (s5 _ _ (s4 _ _ hU3)), fun H6 s6 => ⟨_, rfl, iteF ?_⟩⟩
    exact k H6 (s3.same (s4.trans (s5.trans s6)))
theorem law_odd {D' : Ends} {z7 z8 z9 z10 : Option V} (C : K80C K) (s : S80 K H c D dn t w1 w2 cs as VD kv n) (ht : t + 20 < 1000000000)
    (k : ∀ z8 z10 H', S80 K H' c D dn (t + 10) w1 w2 cs as VD kv n → D'.nx [some (.ref S), some (.ref D), some (.ref w1.T), some (.ref w2.T), some (.ref w1.HD), some (.ref w2.HD), some (.ref VD), z7, z8, z9, z10] H') :
    t_law_odd K D' [some (.ref S), some (.ref D), some (.ref w1.T), some (.ref w2.T), some (.ref w1.HD), some (.ref w2.HD), some (.ref VD), z7, z8, z9, z10] H := by
  refine ⟨_, rfl, c, D, dn, t, rfl, s.dk, by omega, fun z H1 oz kp1 d1 => ?_⟩
  have s1 := s.draw kp1 d1
  have lz : z.length ≤ 8 := oz.2.1
  have lc := cutS_len80 z none (some 6)
  refine ⟨_, rfl, z, rfl, Nat.le_trans lz (by decide), "zz", cutS z none (some 6), rfl, rfl, ?_, ?_⟩
  · show 2 + (cutS z none (some 6)).length ≤ sizeLine
    exact Nat.le_trans (show 2 + (cutS z none (some 6)).length ≤ 10 by omega) (by decide)
  refine ⟨_, rfl, by show (2 : Nat) ≤ sizeLine; decide, fun U nU => ?_⟩
  have sU : Same H1 (upd H1 U (.tup [.str "NoHouse", .str ("zz" ++ cutS z none (some 6))])) := samN nU
  exact law_sweep C (s1.same sU) updS fun H' s' => k _ _ H' s'
theorem law_last {z7 z8 z9 z10 : Option V} (C : K80C K) (s : S80 K H c D dn t w1 w2 cs as VD kv n) (hn : n ≤ 50) (k : ∀ H', Q (.bl true) H') :
    t_law_last K { nx := fun _ H' => Q .non H', rt := Q } [some (.ref S), some (.ref D), some (.ref w1.T), some (.ref w2.T), some (.ref w1.HD), some (.ref w2.HD), some (.ref VD), z7, z8, z9, z10] H := by
  have n1 := s.n1
  have n2 := s.n2
  refine ⟨_, rfl, _, rfl, _, rfl, w1, cs, as, VD, kv, n, rfl, C, s.x1, s.hd, by omega, by omega, fun H1 s1 => ⟨_, rfl, iteT ?_⟩⟩
  have x2 := s.x2.same s1
  refine ⟨_, rfl, _, rfl, fun p np => ?_⟩
  have sp : Same H1 (upd H1 p (.dK [])) := samN np
  refine ⟨w2, [], [], p, [], 0, rfl, C, x2.same sp, ⟨updS, fun x hx => .inl ⟨rfl, s.e2 x hx⟩, Nat.le_refl _⟩, by omega, by omega, fun H3 _ => k H3⟩
theorem law_odds {z7 z8 z9 z10 : Option V} (C : K80C K) (s : S80 K H c D dn t w1 w2 cs as VD kv n) (hn : n ≤ 50) (ht : t + 100 < 1000000000) (k : ∀ H', Q (.bl true) H') :
    t_law_odds K { nx := fun _ H' => Q .non H', rt := Q } [some (.ref S), some (.ref D), some (.ref w1.T), some (.ref w2.T), some (.ref w1.HD), some (.ref w2.HD), some (.ref VD), z7, z8, z9, z10] H := by
  refine ⟨_, rfl, by decide, by decide, ?_⟩
  refine for_range (lo := 0) (n := 2) (fun i σ H' => S80 K H' c D dn (t + 10 * i) w1 w2 cs as VD kv n ∧ ∃ z7 z8 z9 z10, σ = [some (.ref S), some (.ref D), some (.ref w1.T), some (.ref w2.T), some (.ref w1.HD), some (.ref w2.HD), some (.ref VD), z7, z8, z9, z10]) ⟨s, _, _, _, _, rfl⟩ ?_ ?_
  · rintro i σ H1 hi ⟨s1, y7, y8, y9, y10, rfl⟩
    exact law_odd C s1 (by omega) fun z8 z10 H2 s2 => ⟨s2.le (Nat.le_refl _) (by omega), _, _, _, _, rfl⟩
  · rintro σ H1 ⟨s1, y7, y8, y9, y10, rfl⟩
    exact law_last C s1 hn k
theorem law_end {z7 z8 z9 z10 : Option V} (C : K80C K) (s : S80 K H c D dn t w1 w2 cs as VD kv n) (ne : cs ≠ []) (hn : n ≤ 50) (ht : t + 100 < 1000000000) (k : ∀ H', Q (.bl true) H') :
    t_law_end K { nx := fun _ H' => Q .non H', rt := Q } [some (.ref S), some (.ref D), some (.ref w1.T), some (.ref w2.T), some (.ref w1.HD), some (.ref w2.HD), some (.ref VD), z7, z8, z9, z10] H := by
  refine s.x2.tw.fB rfl (s.x2.bk.lenB80 ⟨rfl, _, rfl, iteF ?_⟩)
  obtain ⟨d, hd⟩ : ∃ d, cs[0]? = some d := by
    cases cs with
    | nil => exact absurd rfl ne
    | cons d r => exact ⟨d, rfl⟩
  obtain ⟨r, rfl⟩ := s.lf d (List.mem_of_getElem? hd)
  dsimp only [tTest, tOp, tMeth]
  refine s.x1.tw.fB rfl ?_
  refine s.x1.bk.meF (m := "kind") (by decide) ?_
  refine ⟨w1.b, cs, as, 0, _, rfl, s.x1.bk, hd, ?_⟩
  refine ⟨rfl, _, rfl, iteF ?_⟩
  exact law_odds C s hn ht k
theorem law_turns {z7 z8 z9 z10 : Option V} (C : K80C K) (s : S80 K H c D dn 0 w1 w2 [] [] VD kv 0) (k : ∀ H', Q (.bl true) H') :
    t_law_turns K { nx := fun _ H' => Q .non H', rt := Q } [some (.ref S), some (.ref D), some (.ref w1.T), some (.ref w2.T), some (.ref w1.HD), some (.ref w2.HD), some (.ref VD), z7, z8, z9, z10] H := by
  refine ⟨_, rfl, c, D, dn, 0, 8, rfl, s.dk, by omega, by decide, by decide, fun v H1 v0 v1 d1 fr1 => ⟨_, _, rfl, rfl, _, rfl, by omega, by omega, ?_⟩⟩
  have s1 := s.draw (.fr fr1) d1
  refine for_range (lo := 0) (n := (1 + v).toNat) (fun i σ H' => ∃ u1 u2 cs' as' kv' z7 z8 z9 z10, u1.T = w1.T ∧ u1.HD = w1.HD ∧ u2.T = w2.T ∧ u2.HD = w2.HD ∧ (0 < i → cs' ≠ []) ∧ S80 K H' c D dn (1 + 30 * i) u1 u2 cs' as' VD kv' (2 * i) ∧ σ = [some (.ref S), some (.ref D), some (.ref w1.T), some (.ref w2.T), some (.ref w1.HD), some (.ref w2.HD), some (.ref VD), z7, z8, z9, z10]) ⟨w1, w2, [], [], kv, _, _, _, _, rfl, rfl, rfl, rfl, fun z => absurd z (Nat.lt_irrefl _), s1, rfl⟩ ?_ ?_
  · rintro i σ H2 hi ⟨u1, u2, cs', as', kv', y7, y8, y9, y10, e1, e2, e3, e4, _, s2, rfl⟩
    dsimp only [gName]
    rw [← e1, ← e2, ← e3, ← e4]
    refine law_turn C s2 (by omega) (by omega) fun v1 v2 cs2 as2 kv2 l j H3 q1 q2 q3 q4 ne s3 => ⟨v1, v2, cs2, as2, kv2, _, _, _, _, q1, q2, q3, q4, fun _ => ne, s3.le (by omega) (by omega), rfl⟩
  · rintro σ H2 ⟨u1, u2, cs', as', kv', y7, y8, y9, y10, e1, e2, e3, e4, ne, s2, rfl⟩
    rw [← e1, ← e2, ← e3, ← e4]
    exact law_end C s2 (ne (by omega)) (by omega) (by omega) k
/-- a town as it is made -/
structure New80 (K : PySem.W.Frag) (H0 H : Hp) (T D : Addr) (b : BkA) : Prop where
  tw : TwAt K H T D b.B []
  bk : BkAt K H b [] []
  fr : ∀ y ∈ [T, D, b.B, b.L, b.E, b.G], H0 y = none
theorem New80.same {H0 : Hp} {T D : Addr} {b : BkA} (x : New80 K H0 H T D b) (s : Same H H') : New80 K H0 H' T D b := ⟨x.tw.same s, x.bk.same s, x.fr⟩
theorem New80.al {H0 : Hp} {T D : Addr} {b : BkA} (x : New80 K H0 H T D b) {y : Addr} (hy : y ∈ [T, D, b.B, b.L, b.E, b.G]) : ∃ o, H y = some o := by
  obtain ⟨dx, L, hT⟩ := x.tw.to
  obtain ⟨dxb, fsb, hB, _⟩ := x.bk.bo
  simp only [List.mem_cons, List.not_mem_nil, or_false] at hy
  rcases hy with h | h | h | h | h | h <;> rw [h]
  · exact ⟨_, hT⟩
  · exact ⟨_, x.tw.hD⟩
  · exact ⟨_, hB⟩
  · exact ⟨_, x.bk.hL⟩
  · exact ⟨_, x.bk.hE⟩
  · exact ⟨_, x.bk.hG⟩
theorem fp80 {T Dt HD : Addr} {b : BkA} {y : Addr} (h : (⟨T, Dt, HD, b, []⟩ : W80).fp y) : y = HD ∨ y ∈ [T, Dt, b.B, b.L, b.E, b.G] := by
  rcases h with h | ⟨x, hx, _⟩
  · simp only [List.mem_cons, List.not_mem_nil, or_false] at h ⊢
    rcases h with h | h | h | h | h | h | h <;> simp [h]
  · exact absurd hx List.not_mem_nil
theorem New80.tw80 {H0 : Hp} {T Dt HD : Addr} {b : BkA} (x : New80 K H0 H T Dt b) (hc : HsC K) (hh : H HD = some (.dK [])) (n : Dt ≠ HD) : Tw80 K H ⟨T, Dt, HD, b, []⟩ [] [] :=
  ⟨x.tw, hh, hc, fun x hx => absurd hx List.not_mem_nil, List.nodup_nil, .nil, n, fun x hx => absurd hx List.not_mem_nil, x.bk⟩
theorem law_dicts {H1 H2 : Hp} {T1 D1 T2 D2 : Addr} {b1 b2 : BkA} (hc : HsC K) (C : K80C K) (dk0 : Dk c D dn 0 H1) (s12 : Same H1 H2) (s2 : Same H2 H) (tb : LamX.Tabs (tabsF K T80) H) (x1 : New80 K H1 H2 T1 D1 b1) (x2 : New80 K H2 H T2 D2 b2) (k : ∀ H', Q (.bl true) H') :
    t_law_dicts K { nx := fun _ H' => Q .non H', rt := Q } [some (.ref S), some (.ref D), some (.ref T1), some (.ref T2), none, none, none, none, none, none, none] H := by
  refine fun A nA B nB V nV => ?_
  have sA : Same H (upd H A (.dK [])) := samN nA
  have sB : Same (upd H A (.dK [])) (upd (upd H A (.dK [])) B (.dK [])) := samN nB
  have sV : Same (upd (upd H A (.dK [])) B (.dK [])) (upd (upd (upd H A (.dK [])) B (.dK [])) V (.dK [])) := samN nV
  have AB : A ≠ B := ne_of_none updS nB
  have BV : B ≠ V := ne_of_none updS nV
  rw [upd_ne BV.symm] at nV
  have AV : A ≠ V := ne_of_none updS nV
  rw [upd_ne AV.symm] at nV
  rw [upd_ne AB.symm] at nB
  have hA : upd (upd (upd H A (.dK [])) B (.dK [])) V (.dK []) A = some (.dK []) := updN AV (updN AB updS)
  have hB : upd (upd (upd H A (.dK [])) B (.dK [])) V (.dK []) B = some (.dK []) := updN BV updS
  have hV : upd (upd (upd H A (.dK [])) B (.dK [])) V (.dK []) V = some (.dK []) := updS
  have s := sA.trans (sB.trans sV)
  show t_law_turns K _ _ (upd (upd (upd H A (.dK [])) B (.dK [])) V (.dK []))
  generalize upd (upd (upd H A (.dK [])) B (.dK [])) V (.dK []) = H5 at hA hB hV s
  obtain ⟨xs, hD⟩ := dk0.someD
  obtain ⟨zs, hcc⟩ := dk0.someC
  have nw : ∀ {y z : Addr}, H y = none → (∃ o, H z = some o) → y ≠ z := fun h ⟨o, e⟩ => (ne_of_none e h).symm
  have up : ∀ {y : Addr}, (∃ o, H1 y = some o) → ∃ o, H y = some o := fun ⟨o, e⟩ => ⟨o, s2 _ _ (s12 _ _ e)⟩
  have up2 : ∀ {y : Addr}, (∃ o, H2 y = some o) → ∃ o, H y = some o := fun ⟨o, e⟩ => ⟨o, s2 _ _ e⟩
  have L1 : ∀ y ∈ [T1, D1, b1.B, b1.L, b1.E, b1.G], y ≠ D ∧ y ≠ c ∧ y ∉ [T2, D2, b2.B, b2.L, b2.E, b2.G] := fun y hy => ⟨(ne_of_none hD (x1.fr y hy)).symm, (ne_of_none hcc (x1.fr y hy)).symm, fun z => by
    obtain ⟨o, e⟩ := x1.al hy
    exact ne_of_none e (x2.fr y z) rfl⟩
  have L2 : ∀ y ∈ [T2, D2, b2.B, b2.L, b2.E, b2.G], y ≠ D ∧ y ≠ c := fun y hy => ⟨(ne_of_none (s12 _ _ hD) (x2.fr y hy)).symm, (ne_of_none (s12 _ _ hcc) (x2.fr y hy)).symm⟩
  have tw1 := ((x1.same s2).same s).tw80 (HD := A) hc hA (fun z => nw nA (up2 (x1.al (y := D1) (by simp))) z.symm)
  have tw2 := (x2.same s).tw80 (HD := B) hc hB (fun z => nw nB (x2.al (y := D2) (by simp)) z.symm)
  refine law_turns (w1 := ⟨T1, D1, A, b1, []⟩) (w2 := ⟨T2, D2, B, b2, []⟩) (VD := V) (kv := []) C ⟨(dk0.same s12).same (s2.trans s), tb.ext s, tw1, tw2, ⟨hV, fun x hx => absurd hx List.not_mem_nil, Nat.le_refl _⟩, fun y hy => ?_, fun y hy => ?_, fun y hy => ?_, fun l hl => absurd rfl hl, fun x hx => absurd hx List.not_mem_nil, fun d hd => absurd hd List.not_mem_nil, Nat.le_refl _, Nat.le_refl _, Nat.le_refl _, fun x hx => absurd hx List.not_mem_nil⟩ k
  · rcases fp80 hy with rfl | h
    · refine ⟨nw nA (up ⟨_, hD⟩), nw nA (up ⟨_, hcc⟩), fun z => ?_⟩
      rcases fp80 z with h | h
      · exact AB h
      · exact nw nA (x2.al h) rfl
    · refine ⟨(L1 y h).1, (L1 y h).2.1, fun z => ?_⟩
      rcases fp80 z with h2 | h2
      · exact nw nB (up2 (x1.al h)) h2.symm
      · exact (L1 y h).2.2 h2
  · rcases fp80 hy with rfl | h
    · exact ⟨nw nB (up ⟨_, hD⟩), nw nB (up ⟨_, hcc⟩)⟩
    · exact L2 y h
  · rcases hy with rfl | ⟨l, h⟩
    · refine ⟨nw nV (up ⟨_, hD⟩), nw nV (up ⟨_, hcc⟩), fun z => ?_, fun z => ?_⟩
      · rcases fp80 z with h | h
        · exact AV h.symm
        · exact nw nV (up2 (x1.al h)) rfl
      · rcases fp80 z with h | h
        · exact BV h.symm
        · exact nw nV (x2.al h) rfl
    · cases h
theorem law_look {H1 H2 : Hp} {T1 D1 T2 D2 : Addr} {b1 b2 : BkA} (bc : BkC K) (hc : HsC K) (C : K80C K) (dk0 : Dk c D dn 0 H1) (s12 : Same H1 H2) (s2 : Same H2 H) (tb : LamX.Tabs (tabsF K T80) H) (x1 : New80 K H1 H2 T1 D1 b1) (x2 : New80 K H2 H T2 D2 b2) (k : ∀ H', Q (.bl true) H') :
    t_law_look K { nx := fun _ H' => Q .non H', rt := Q } [some (.ref S), some (.ref D), some (.ref T1), some (.ref T2), none, none, none, none, none, none, none] H := by
  have y1 := x1.same s2
  obtain ⟨dxb, fsb, hB, _⟩ := id y1.bk.bo
  obtain ⟨dxb2, fsb2, hB2, _⟩ := id x2.bk.bo
  refine y1.tw.fB rfl ⟨.ref b1.B, .ref (He.ga K "Book"), _, _, true, rfl, .own _, .base (.ins hB bc.cl C.ob.ha C.ob.hn C.ob.tk C.ob.oc.mro), kit_self, _, rfl, iteF ?_⟩
  dsimp only [tOr, tTest, tOp]
  refine y1.tw.fB rfl ?_
  refine x2.tw.fB rfl ?_
  refine ⟨_, _, _, _, _, _, _, rfl, rfl, hB, hB2, C.ob.oc, ?_⟩
  have ne : b1.B ≠ b2.B := fun z => by
    obtain ⟨o, e⟩ := x1.al (y := b1.B) (by simp)
    have := x2.fr b2.B (by simp)
    rw [← z, e] at this
    cases this
  rw [decide_eq_false ne]
  refine ⟨_, rfl, iteF ?_⟩
  refine y1.tw.me (n := "labels") (fun _ => rfl) rfl ⟨T1, D1, b1.B, [], [], rfl, y1.tw, rfl, by decide, fun ys p pm so np => ?_⟩
  obtain rfl : ys = [] := pm.eq_nil
  have sp : Same H (upd H p (.lst [])) := samN np
  have hp : upd H p (.lst []) p = some (.lst []) := updS
  show tCons (tLst tNil) tNil _ (upd H p (.lst [])) _
  generalize upd H p (.lst []) = H3 at sp hp ⊢
  refine ⟨by show (0 : Nat) ≤ sizeLine; decide, fun q nq => ?_⟩
  have sq : Same H3 (upd H3 q (.lst [])) := samN nq
  refine ⟨_, _, rfl, SameV.lst (sq _ _ hp) updS rfl (Nat.zero_le _) (fun i a b h => by cases h), fun H5 s5 => ⟨_, rfl, iteF ?_⟩⟩
  have s := sp.trans (sq.trans s5)
  exact law_dicts hc C dk0 s12 (s2.trans s) (tb.ext s) x1 (x2.same s) k
theorem new80 {x dx D : Addr} {b : BkA} {H0 : Hp} (nx : H0 x = none) (ndx : H0 dx = none) (kp : ∀ a o, upd (upd H0 dx (.own x)) x (.ins (He.ga K "Town") dx []) a = some o → a ≠ x → H a = some o) (fr : ∀ y ∈ [b.B, b.L, b.E, b.G, D], upd (upd H0 dx (.own x)) x (.ins (He.ga K "Town") dx []) y = none) (tw : TwAt K H x D b.B []) (bk : BkAt K H b [] []) :
    Same H0 H ∧ New80 K H0 H x D b := by
  have s0 : Same H0 (upd (upd H0 dx (.own x)) x (.ins (He.ga K "Town") dx [])) := fun b o e => updN (ne_of_none e nx) (updN (ne_of_none e ndx) e)
  refine ⟨fun a o e => kp a o (s0 a o e) (ne_of_none e nx), tw, bk, fun y hy => ?_⟩
  by_cases e : y = x
  · rw [e]; exact nx
  · have hy2 : y ∈ [b.B, b.L, b.E, b.G, D] := by
      simp only [List.mem_cons, List.not_mem_nil, or_false] at hy ⊢
      rcases hy with h | h | h | h | h | h
      · exact absurd h e
      · simp [h]
      · simp [h]
      · simp [h]
      · simp [h]
      · simp [h]
    cases q : H0 y with
    | none => rfl
    | some o =>
      have := fr y hy2
      rw [s0 _ _ q] at this
      cases this
theorem pure_law (Z : BkC K ∧ HsC K ∧ TwC K ∧ K80C K) (h : sp_lawF K T80 vs H Q E) : t_law K { nx := fun _ H' => Q .non H', rt := Q } (start N_law vs) H := by
  obtain ⟨bc, hc, tc, C⟩ := Z
  obtain ⟨a, ns, rfl, hS, hl, hP, k⟩ := h
  refine ⟨_, rfl, a, ns, rfl, hS, hl, fun c D H1 sm nc nD dk => ?_⟩
  have tb1 : LamX.Tabs (tabsF K T80) H1 := tabs0F fun d hd => sm _ _ (hP d hd)
  intro T1 dx1 nT1 ndx1 ne1
  refine ⟨T1, dx1, rfl, bc, tc, updS, fun b1 D1 H2 kp1 fr1 tw1 bk1 => ⟨rfl, ?_⟩⟩
  obtain ⟨s12, x1⟩ := new80 nT1 ndx1 kp1 fr1 tw1 bk1
  intro T2 dx2 nT2 ndx2 ne2
  refine ⟨T2, dx2, rfl, bc, tc, updS, fun b2 D2 H3 kp2 fr2 tw2 bk2 => ⟨rfl, ?_⟩⟩
  obtain ⟨s23, x2⟩ := new80 nT2 ndx2 kp2 fr2 tw2 bk2
  exact law_look bc hc C dk s12 s23 (tb1.ext (s12.trans s23)) x1 x2 k
end
end Fw

set_option Elab.async false
set_option linter.all false
set_option maxRecDepth 100000
set_option maxHeartbeats 4000000
namespace K80
open PySem L2 RZ RT Fw
def top (i : Nat) : Stmt := PySem.Challenge.pw_fewasks_k80_houses_of_a_town.main.body.getD i (.Pass ⟨0, 0, 0, 0⟩)
abbrev FnP (K : PySem.W.Frag) (x : Str) (st : Stmt) (f : Addr) (fd : FuncData) : Prop := FunD K x x (defArgs st) (defBody st) (defScope st) [] [] f fd
def cBody : Stmt → List Stmt
  | .ClassDef _ _ _ body .. => body
  | _ => []
abbrev s_Book_len : Stmt := (cBody (top 40)).getD 1 (.Pass ⟨0, 0, 0, 0⟩)
theorem sc_Book_len : FnScope N_Book_len ["self"] (defScope s_Book_len) := ⟨rfl, rfl, rfl, by decide +kernel, rfl, by decide +kernel, by decide +kernel⟩
abbrev s_is_int : Stmt := top 20
theorem sc_is_int : FnScope N_is_int ["thing"] (defScope s_is_int) := ⟨rfl, rfl, rfl, by decide +kernel, rfl, by decide +kernel, by decide +kernel⟩
abbrev s_Book_is_name : Stmt := (cBody (top 40)).getD 12 (.Pass ⟨0, 0, 0, 0⟩)
theorem sc_Book_is_name : FnScope N_Book_is_name ["self", "thing"] (defScope s_Book_is_name) := ⟨rfl, rfl, rfl, by decide +kernel, rfl, by decide +kernel, by decide +kernel⟩
abbrev s_Book_thing : Stmt := (cBody (top 40)).getD 4 (.Pass ⟨0, 0, 0, 0⟩)
theorem sc_Book_thing : FnScope N_Book_thing ["self", "name"] (defScope s_Book_thing) := ⟨rfl, rfl, rfl, by decide +kernel, rfl, by decide +kernel, by decide +kernel⟩
abbrev s_Book_kind : Stmt := (cBody (top 40)).getD 5 (.Pass ⟨0, 0, 0, 0⟩)
theorem sc_Book_kind : FnScope N_Book_kind ["self", "name"] (defScope s_Book_kind) := ⟨rfl, rfl, rfl, by decide +kernel, rfl, by decide +kernel, by decide +kernel⟩
abbrev s_Book_depth : Stmt := (cBody (top 40)).getD 16 (.Pass ⟨0, 0, 0, 0⟩)
theorem sc_Book_depth : FnScope N_Book_depth ["self", "content"] (defScope s_Book_depth) := ⟨rfl, rfl, rfl, by decide +kernel, rfl, by decide +kernel, by decide +kernel⟩
abbrev s_Book_give_next : Stmt := (cBody (top 40)).getD 17 (.Pass ⟨0, 0, 0, 0⟩)
theorem sc_Book_give_next : FnScope N_Book_give_next ["self", "content"] (defScope s_Book_give_next) := ⟨rfl, rfl, rfl, by decide +kernel, rfl, by decide +kernel, by decide +kernel⟩
abbrev s_Book_has_kinds : Stmt := (cBody (top 40)).getD 15 (.Pass ⟨0, 0, 0, 0⟩)
theorem sc_Book_has_kinds : FnScope N_Book_has_kinds ["self", "names", "kinds"] (defScope s_Book_has_kinds) := ⟨rfl, rfl, rfl, by decide +kernel, rfl, by decide +kernel, by decide +kernel⟩
abbrev s_is_label : Stmt := top 23
theorem sc_is_label : FnScope N_is_label ["thing"] (defScope s_is_label) := ⟨rfl, rfl, rfl, by decide +kernel, rfl, by decide +kernel, by decide +kernel⟩
abbrev s_is_pair : Stmt := top 24
theorem sc_is_pair : FnScope N_is_pair ["thing"] (defScope s_is_pair) := ⟨rfl, rfl, rfl, by decide +kernel, rfl, by decide +kernel, by decide +kernel⟩
abbrev s_is_entry : Stmt := top 30
theorem sc_is_entry : FnScope N_is_entry ["thing"] (defScope s_is_entry) := ⟨rfl, rfl, rfl, by decide +kernel, rfl, by decide +kernel, by decide +kernel⟩
abbrev s_rises : Stmt := top 25
theorem sc_rises : FnScope N_rises ["things"] (defScope s_rises) := ⟨rfl, rfl, rfl, by decide +kernel, rfl, by decide +kernel, by decide +kernel⟩
abbrev s_is_entries : Stmt := top 31
theorem sc_is_entries : FnScope N_is_entries ["thing"] (defScope s_is_entries) := ⟨rfl, rfl, rfl, by decide +kernel, rfl, by decide +kernel, by decide +kernel⟩
abbrev s_is_sign : Stmt := top 22
theorem sc_is_sign : FnScope N_is_sign ["sign"] (defScope s_is_sign) := ⟨rfl, rfl, rfl, by decide +kernel, rfl, by decide +kernel, by decide +kernel⟩
abbrev s_is_text : Stmt := top 21
theorem sc_is_text : FnScope N_is_text ["thing"] (defScope s_is_text) := ⟨rfl, rfl, rfl, by decide +kernel, rfl, by decide +kernel, by decide +kernel⟩
abbrev s_is_row : Stmt := top 28
theorem sc_is_row : FnScope N_is_row ["thing"] (defScope s_is_row) := ⟨rfl, rfl, rfl, by decide +kernel, rfl, by decide +kernel, by decide +kernel⟩
abbrev s_is_rows : Stmt := top 29
theorem sc_is_rows : FnScope N_is_rows ["thing"] (defScope s_is_rows) := ⟨rfl, rfl, rfl, by decide +kernel, rfl, by decide +kernel, by decide +kernel⟩
abbrev s_is_ints : Stmt := top 26
theorem sc_is_ints : FnScope N_is_ints ["thing"] (defScope s_is_ints) := ⟨rfl, rfl, rfl, by decide +kernel, rfl, by decide +kernel, by decide +kernel⟩
abbrev s_is_rising : Stmt := top 27
theorem sc_is_rising : FnScope N_is_rising ["thing"] (defScope s_is_rising) := ⟨rfl, rfl, rfl, by decide +kernel, rfl, by decide +kernel, by decide +kernel⟩
abbrev s_is_stamp : Stmt := top 32
theorem sc_is_stamp : FnScope N_is_stamp ["thing"] (defScope s_is_stamp) := ⟨rfl, rfl, rfl, by decide +kernel, rfl, by decide +kernel, by decide +kernel⟩
abbrev s_is_version_form : Stmt := top 33
theorem sc_is_version_form : FnScope N_is_version_form ["thing"] (defScope s_is_version_form) := ⟨rfl, rfl, rfl, by decide +kernel, rfl, by decide +kernel, by decide +kernel⟩
abbrev s_is_content_form : Stmt := top 34
theorem sc_is_content_form : FnScope N_is_content_form ["thing"] (defScope s_is_content_form) := ⟨rfl, rfl, rfl, by decide +kernel, rfl, by decide +kernel, by decide +kernel⟩
abbrev s_Book_is_content : Stmt := (cBody (top 40)).getD 14 (.Pass ⟨0, 0, 0, 0⟩)
theorem sc_Book_is_content : FnScope N_Book_is_content ["self", "thing"] (defScope s_Book_is_content) := ⟨rfl, rfl, rfl, by decide +kernel, rfl, by decide +kernel, by decide +kernel⟩
abbrev s_Book_named : Stmt := (cBody (top 40)).getD 2 (.Pass ⟨0, 0, 0, 0⟩)
theorem sc_Book_named : FnScope N_Book_named ["self", "content"] (defScope s_Book_named) := ⟨rfl, rfl, rfl, by decide +kernel, rfl, by decide +kernel, by decide +kernel⟩
abbrev s_House_put : Stmt := (cBody (top 51)).getD 2 (.Pass ⟨0, 0, 0, 0⟩)
theorem sc_House_put : FnScope N_House_put ["self", "name"] (defScope s_House_put) := ⟨rfl, rfl, rfl, by decide +kernel, rfl, by decide +kernel, by decide +kernel⟩
abbrev s_House_write : Stmt := (cBody (top 51)).getD 3 (.Pass ⟨0, 0, 0, 0⟩)
theorem sc_House_write : FnScope N_House_write ["self", "content"] (defScope s_House_write) := ⟨rfl, rfl, rfl, by decide +kernel, rfl, by decide +kernel, by decide +kernel⟩
abbrev s_Book_init : Stmt := (cBody (top 40)).getD 0 (.Pass ⟨0, 0, 0, 0⟩)
theorem sc_Book_init : FnScope N_Book_init ["self"] (defScope s_Book_init) := ⟨rfl, rfl, rfl, by decide +kernel, rfl, by decide +kernel, by decide +kernel⟩
abbrev s_Town_init : Stmt := (cBody (top 55)).getD 0 (.Pass ⟨0, 0, 0, 0⟩)
theorem sc_Town_init : FnScope N_Town_init ["self"] (defScope s_Town_init) := ⟨rfl, rfl, rfl, by decide +kernel, rfl, by decide +kernel, by decide +kernel⟩
abbrev s_Town_labels : Stmt := (cBody (top 55)).getD 3 (.Pass ⟨0, 0, 0, 0⟩)
theorem sc_Town_labels : FnScope N_Town_labels ["self"] (defScope s_Town_labels) := ⟨rfl, rfl, rfl, by decide +kernel, rfl, by decide +kernel, by decide +kernel⟩
abbrev s_House_sweep : Stmt := (cBody (top 53)).getD 12 (.Pass ⟨0, 0, 0, 0⟩)
abbrev N_House_sweep : List Str := ["self", "deep", "kept", "name", "taken"]
theorem sc_House_sweep : FnScope N_House_sweep ["self", "deep"] (defScope s_House_sweep) := ⟨rfl, rfl, rfl, by decide +kernel, rfl, by decide +kernel, by decide +kernel⟩
abbrev s_NoHouse_init : Stmt := (cBody (top 8)).getD 0 (.Pass ⟨0, 0, 0, 0⟩)
theorem sc_NoHouse_init : FnScope N_NoHouse_init ["self", "label"] (defScope s_NoHouse_init) := ⟨rfl, rfl, rfl, by decide +kernel, rfl, by decide +kernel, by decide +kernel⟩
abbrev s_Town_house : Stmt := (cBody (top 55)).getD 2 (.Pass ⟨0, 0, 0, 0⟩)
theorem sc_Town_house : FnScope N_Town_house ["self", "label"] (defScope s_Town_house) := ⟨rfl, rfl, rfl, by decide +kernel, rfl, by decide +kernel, by decide +kernel⟩
abbrev s_Town_sweep : Stmt := (cBody (top 55)).getD 14 (.Pass ⟨0, 0, 0, 0⟩)
abbrev N_Town_sweep : List Str := ["self", "label"]
theorem sc_Town_sweep : FnScope N_Town_sweep ["self", "label"] (defScope s_Town_sweep) := ⟨rfl, rfl, rfl, by decide +kernel, rfl, by decide +kernel, by decide +kernel⟩
abbrev s_l_alike : Stmt := top 61
theorem sc_l_alike : FnScope N_l_alike ["_law_found", "_law_due"] (defScope s_l_alike) := ⟨rfl, rfl, rfl, by decide +kernel, rfl, by decide +kernel, by decide +kernel⟩
abbrev s_Store_initH : Stmt := (cBody (top 51)).getD 0 (.Pass ⟨0, 0, 0, 0⟩)
theorem sc_Store_initH : FnScope N_Store_initH ["self", "book"] (defScope s_Store_initH) := ⟨rfl, rfl, rfl, by decide +kernel, rfl, by decide +kernel, by decide +kernel⟩
abbrev s_House_init : Stmt := (cBody (top 53)).getD 0 (.Pass ⟨0, 0, 0, 0⟩)
theorem sc_House_init : FnScope N_House_init ["self", "book"] (defScope s_House_init) := ⟨rfl, rfl, rfl, by decide +kernel, rfl, by decide +kernel, by decide +kernel⟩
abbrev s_Taken_init : Stmt := (cBody (top 9)).getD 0 (.Pass ⟨0, 0, 0, 0⟩)
theorem sc_Taken_init : FnScope N_Taken_init ["self", "label"] (defScope s_Taken_init) := ⟨rfl, rfl, rfl, by decide +kernel, rfl, by decide +kernel, by decide +kernel⟩
abbrev s_Town_build : Stmt := (cBody (top 55)).getD 1 (.Pass ⟨0, 0, 0, 0⟩)
theorem sc_Town_build : FnScope N_Town_build ["self", "label"] (defScope s_Town_build) := ⟨rfl, rfl, rfl, by decide +kernel, rfl, by decide +kernel, by decide +kernel⟩
abbrev s_l_mixed : Stmt := top 58
theorem sc_l_mixed : FnScope N_l_mixed ["_law_cell", "_law_turn"] (defScope s_l_mixed) := ⟨rfl, rfl, rfl, by decide +kernel, rfl, by decide +kernel, by decide +kernel⟩
abbrev s_l_draw : Stmt := top 59
theorem sc_l_draw : FnScope N_l_draw ["_law_deck_here", "_law_many"] (defScope s_l_draw) := ⟨rfl, rfl, rfl, by decide +kernel, rfl, by decide +kernel, by decide +kernel⟩
abbrev s_l_label : Stmt := top 60
theorem sc_l_label : FnScope N_l_label ["_law_deck_here"] (defScope s_l_label) := ⟨rfl, rfl, rfl, by decide +kernel, rfl, by decide +kernel, by decide +kernel⟩
abbrev s_l_town_why : Stmt := top 62
theorem sc_l_town_why : FnScope N_l_town_why ["_law_deed"] (defScope s_l_town_why) := ⟨rfl, rfl, rfl, by decide +kernel, rfl, by decide +kernel, by decide +kernel⟩
abbrev s_l_built : Stmt := top 63
theorem sc_l_built : FnScope N_l_built ["_law_deck_here", "_law_town", "_law_homes"] (defScope s_l_built) := ⟨rfl, rfl, rfl, by decide +kernel, rfl, by decide +kernel, by decide +kernel⟩
abbrev s_l_deck : Stmt := top 57
abbrev N_l_deck : List Str := ["_law_script"]
theorem sc_l_deck : FnScope N_l_deck ["_law_script"] (defScope s_l_deck) := ⟨rfl, rfl, rfl, by decide +kernel, rfl, by decide +kernel, by decide +kernel⟩
abbrev s_House_held : Stmt := (cBody (top 51)).getD 5 (.Pass ⟨0, 0, 0, 0⟩)
theorem sc_House_held : FnScope N_House_held ["self"] (defScope s_House_held) := ⟨rfl, rfl, rfl, by decide +kernel, rfl, by decide +kernel, by decide +kernel⟩
abbrev s_l_stands : Stmt := top 64
theorem sc_l_stands : FnScope N_l_stands ["_law_town", "_law_homes", "_law_held"] (defScope s_l_stands) := ⟨rfl, rfl, rfl, by decide +kernel, rfl, by decide +kernel, by decide +kernel⟩
abbrev s_law : Stmt := top 65
theorem sc_law : FnScope N_law ["_law_script"] (defScope s_law) := ⟨rfl, rfl, rfl, by decide +kernel, rfl, by decide +kernel, by decide +kernel⟩
structure Tx (K : PySem.W.Frag) (mg : Str → Option Value) : Type where
  fd_Book_len : FuncData
  F_Book_len : FunD K "__len__" "Book.__len__" (defArgs s_Book_len) (defBody s_Book_len) (defScope s_Book_len) [] [] (He.fAd K ("Book", some "__len__")) fd_Book_len
  fd_is_int : FuncData
  F_is_int : FnP K "is_int" s_is_int (He.fAd K ("is_int", none)) fd_is_int
  g_is_int : mg "is_int" = some (.ref (He.fAd K ("is_int", none)))
  fd_Book_is_name : FuncData
  F_Book_is_name : FunD K "is_name" "Book.is_name" (defArgs s_Book_is_name) (defBody s_Book_is_name) (defScope s_Book_is_name) [] [] (He.fAd K ("Book", some "is_name")) fd_Book_is_name
  fd_Book_thing : FuncData
  F_Book_thing : FunD K "thing" "Book.thing" (defArgs s_Book_thing) (defBody s_Book_thing) (defScope s_Book_thing) [] [] (He.fAd K ("Book", some "thing")) fd_Book_thing
  fd_Book_kind : FuncData
  F_Book_kind : FunD K "kind" "Book.kind" (defArgs s_Book_kind) (defBody s_Book_kind) (defScope s_Book_kind) [] [] (He.fAd K ("Book", some "kind")) fd_Book_kind
  fd_Book_depth : FuncData
  F_Book_depth : FunD K "depth" "Book.depth" (defArgs s_Book_depth) (defBody s_Book_depth) (defScope s_Book_depth) [] [] (He.fAd K ("Book", some "depth")) fd_Book_depth
  fd_Book_give_next : FuncData
  F_Book_give_next : FunD K "give_next" "Book.give_next" (defArgs s_Book_give_next) (defBody s_Book_give_next) (defScope s_Book_give_next) [] [] (He.fAd K ("Book", some "give_next")) fd_Book_give_next
  fd_Book_has_kinds : FuncData
  F_Book_has_kinds : FunD K "has_kinds" "Book.has_kinds" (defArgs s_Book_has_kinds) (defBody s_Book_has_kinds) (defScope s_Book_has_kinds) [] [] (He.fAd K ("Book", some "has_kinds")) fd_Book_has_kinds
  fd_is_label : FuncData
  F_is_label : FnP K "is_label" s_is_label (He.fAd K ("is_label", none)) fd_is_label
  g_is_label : mg "is_label" = some (.ref (He.fAd K ("is_label", none)))
  fd_is_pair : FuncData
  F_is_pair : FnP K "is_pair" s_is_pair (He.fAd K ("is_pair", none)) fd_is_pair
  g_is_pair : mg "is_pair" = some (.ref (He.fAd K ("is_pair", none)))
  fd_is_entry : FuncData
  F_is_entry : FnP K "is_entry" s_is_entry (He.fAd K ("is_entry", none)) fd_is_entry
  g_is_entry : mg "is_entry" = some (.ref (He.fAd K ("is_entry", none)))
  fd_rises : FuncData
  F_rises : FnP K "rises" s_rises (He.fAd K ("rises", none)) fd_rises
  g_rises : mg "rises" = some (.ref (He.fAd K ("rises", none)))
  fd_is_entries : FuncData
  F_is_entries : FnP K "is_entries" s_is_entries (He.fAd K ("is_entries", none)) fd_is_entries
  g_is_entries : mg "is_entries" = some (.ref (He.fAd K ("is_entries", none)))
  fd_is_sign : FuncData
  F_is_sign : FnP K "is_sign" s_is_sign (He.fAd K ("is_sign", none)) fd_is_sign
  g_is_sign : mg "is_sign" = some (.ref (He.fAd K ("is_sign", none)))
  fd_is_text : FuncData
  F_is_text : FnP K "is_text" s_is_text (He.fAd K ("is_text", none)) fd_is_text
  g_is_text : mg "is_text" = some (.ref (He.fAd K ("is_text", none)))
  fd_is_row : FuncData
  F_is_row : FnP K "is_row" s_is_row (He.fAd K ("is_row", none)) fd_is_row
  g_is_row : mg "is_row" = some (.ref (He.fAd K ("is_row", none)))
  fd_is_rows : FuncData
  F_is_rows : FnP K "is_rows" s_is_rows (He.fAd K ("is_rows", none)) fd_is_rows
  g_is_rows : mg "is_rows" = some (.ref (He.fAd K ("is_rows", none)))
  fd_is_ints : FuncData
  F_is_ints : FnP K "is_ints" s_is_ints (He.fAd K ("is_ints", none)) fd_is_ints
  g_is_ints : mg "is_ints" = some (.ref (He.fAd K ("is_ints", none)))
  fd_is_rising : FuncData
  F_is_rising : FnP K "is_rising" s_is_rising (He.fAd K ("is_rising", none)) fd_is_rising
  g_is_rising : mg "is_rising" = some (.ref (He.fAd K ("is_rising", none)))
  fd_is_stamp : FuncData
  F_is_stamp : FnP K "is_stamp" s_is_stamp (He.fAd K ("is_stamp", none)) fd_is_stamp
  g_is_stamp : mg "is_stamp" = some (.ref (He.fAd K ("is_stamp", none)))
  fd_is_version_form : FuncData
  F_is_version_form : FnP K "is_version_form" s_is_version_form (He.fAd K ("is_version_form", none)) fd_is_version_form
  g_is_version_form : mg "is_version_form" = some (.ref (He.fAd K ("is_version_form", none)))
  fd_is_content_form : FuncData
  F_is_content_form : FnP K "is_content_form" s_is_content_form (He.fAd K ("is_content_form", none)) fd_is_content_form
  g_is_content_form : mg "is_content_form" = some (.ref (He.fAd K ("is_content_form", none)))
  fd_Book_is_content : FuncData
  F_Book_is_content : FunD K "is_content" "Book.is_content" (defArgs s_Book_is_content) (defBody s_Book_is_content) (defScope s_Book_is_content) [] [] (He.fAd K ("Book", some "is_content")) fd_Book_is_content
  fd_Book_named : FuncData
  F_Book_named : FunD K "named" "Book.named" (defArgs s_Book_named) (defBody s_Book_named) (defScope s_Book_named) [] [] (He.fAd K ("Book", some "named")) fd_Book_named
  fd_House_put : FuncData
  F_House_put : FunD K "put" "Store.put" (defArgs s_House_put) (defBody s_House_put) (defScope s_House_put) [] [] (He.fAd K ("Store", some "put")) fd_House_put
  fd_House_write : FuncData
  F_House_write : FunD K "write" "Store.write" (defArgs s_House_write) (defBody s_House_write) (defScope s_House_write) [] [] (He.fAd K ("Store", some "write")) fd_House_write
  fd_Book_init : FuncData
  F_Book_init : FunD K "__init__" "Book.__init__" (defArgs s_Book_init) (defBody s_Book_init) (defScope s_Book_init) [] [] (He.fAd K ("Book", some "__init__")) fd_Book_init
  fd_Town_init : FuncData
  F_Town_init : FunD K "__init__" "Town.__init__" (defArgs s_Town_init) (defBody s_Town_init) (defScope s_Town_init) [] [] (He.fAd K ("Town", some "__init__")) fd_Town_init
  fd_Town_labels : FuncData
  F_Town_labels : FunD K "labels" "Town.labels" (defArgs s_Town_labels) (defBody s_Town_labels) (defScope s_Town_labels) [] [] (He.fAd K ("Town", some "labels")) fd_Town_labels
  fd_House_sweep : FuncData
  F_House_sweep : FunD K "sweep" "House.sweep" (defArgs s_House_sweep) (defBody s_House_sweep) (defScope s_House_sweep) [] [("deep", V.int 400)] (He.fAd K ("House", some "sweep")) fd_House_sweep
  fd_NoHouse_init : FuncData
  F_NoHouse_init : FunD K "__init__" "NoHouse.__init__" (defArgs s_NoHouse_init) (defBody s_NoHouse_init) (defScope s_NoHouse_init) [] [] (He.fAd K ("NoHouse", some "__init__")) fd_NoHouse_init
  fd_Town_house : FuncData
  F_Town_house : FunD K "house" "Town.house" (defArgs s_Town_house) (defBody s_Town_house) (defScope s_Town_house) [] [] (He.fAd K ("Town", some "house")) fd_Town_house
  fd_Town_sweep : FuncData
  F_Town_sweep : FunD K "sweep" "Town.sweep" (defArgs s_Town_sweep) (defBody s_Town_sweep) (defScope s_Town_sweep) [] [] (He.fAd K ("Town", some "sweep")) fd_Town_sweep
  fd_l_alike : FuncData
  F_l_alike : FnP K "_law_alike" s_l_alike (He.fAd K ("_law_alike", none)) fd_l_alike
  g_l_alike : mg "_law_alike" = some (.ref (He.fAd K ("_law_alike", none)))
  fd_Store_initH : FuncData
  F_Store_initH : FunD K "__init__" "Store.__init__" (defArgs s_Store_initH) (defBody s_Store_initH) (defScope s_Store_initH) [] [] (He.fAd K ("Store", some "__init__")) fd_Store_initH
  fd_House_init : FuncData
  F_House_init : FunD K "__init__" "House.__init__" (defArgs s_House_init) (defBody s_House_init) (defScope s_House_init) [] [] (He.fAd K ("House", some "__init__")) fd_House_init
  fd_Taken_init : FuncData
  F_Taken_init : FunD K "__init__" "Taken.__init__" (defArgs s_Taken_init) (defBody s_Taken_init) (defScope s_Taken_init) [] [] (He.fAd K ("Taken", some "__init__")) fd_Taken_init
  fd_Town_build : FuncData
  F_Town_build : FunD K "build" "Town.build" (defArgs s_Town_build) (defBody s_Town_build) (defScope s_Town_build) [] [] (He.fAd K ("Town", some "build")) fd_Town_build
  fd_l_mixed : FuncData
  F_l_mixed : FnP K "_law_mixed" s_l_mixed (He.fAd K ("_law_mixed", none)) fd_l_mixed
  g_l_mixed : mg "_law_mixed" = some (.ref (He.fAd K ("_law_mixed", none)))
  fd_l_draw : FuncData
  F_l_draw : FnP K "_law_draw" s_l_draw (He.fAd K ("_law_draw", none)) fd_l_draw
  g_l_draw : mg "_law_draw" = some (.ref (He.fAd K ("_law_draw", none)))
  fd_l_label : FuncData
  F_l_label : FnP K "_law_label" s_l_label (He.fAd K ("_law_label", none)) fd_l_label
  g_l_label : mg "_law_label" = some (.ref (He.fAd K ("_law_label", none)))
  fd_l_town_why : FuncData
  F_l_town_why : FnP K "_law_town_why" s_l_town_why (He.fAd K ("_law_town_why", none)) fd_l_town_why
  g_l_town_why : mg "_law_town_why" = some (.ref (He.fAd K ("_law_town_why", none)))
  fd_l_built : FuncData
  F_l_built : FnP K "_law_built" s_l_built (He.fAd K ("_law_built", none)) fd_l_built
  g_l_built : mg "_law_built" = some (.ref (He.fAd K ("_law_built", none)))
  fd_l_deck : FuncData
  F_l_deck : FnP K "_law_deck" s_l_deck (He.fAd K ("_law_deck", none)) fd_l_deck
  g_l_deck : mg "_law_deck" = some (.ref (He.fAd K ("_law_deck", none)))
  fd_House_held : FuncData
  F_House_held : FunD K "held" "Store.held" (defArgs s_House_held) (defBody s_House_held) (defScope s_House_held) [] [] (He.fAd K ("Store", some "held")) fd_House_held
  fd_l_stands : FuncData
  F_l_stands : FnP K "_law_stands" s_l_stands (He.fAd K ("_law_stands", none)) fd_l_stands
  g_l_stands : mg "_law_stands" = some (.ref (He.fAd K ("_law_stands", none)))
  fd_law : FuncData
  F_law : FnP K "law" s_law (He.fAd K ("law", none)) fd_law
  z_ValueError : mg "ValueError" = none
  z_all : mg "all" = none
  z_bool : mg "bool" = none
  z_int : mg "int" = none
  z_isinstance : mg "isinstance" = none
  z_len : mg "len" = none
  z_list : mg "list" = none
  z_max : mg "max" = none
  z_ord : mg "ord" = none
  z_range : mg "range" = none
  z_set : mg "set" = none
  z_sorted : mg "sorted" = none
  z_str : mg "str" = none
  z_tuple : mg "tuple" = none
  z_zip : mg "zip" = none
  c_ALL : ∃ t, mg "ALL" = some (.int 400 t)
  c_BARRED_SIGN : ∃ t, mg "BARRED_SIGN" = some (.int 37 t)
  c_DEEPEST : ∃ t, mg "DEEPEST" = some (.int 8 t)
  c_FEW : ∃ t, mg "FEW" = some (.int 4 t)
  c_LAST_STAMP : ∃ t, mg "LAST_STAMP" = some (.int 1000000000000000000 t)
  c_LONGEST_LABEL : ∃ t, mg "LONGEST_LABEL" = some (.int 8 t)
  c_MOST : ∃ t, mg "MOST" = some (.int 400 t)
  c_MOST_ENTRIES : ∃ t, mg "MOST_ENTRIES" = some (.int 20 t)
  c_MOST_PARENTS : ∃ t, mg "MOST_PARENTS" = some (.int 4 t)
  c_MOST_ROWS : ∃ t, mg "MOST_ROWS" = some (.int 40 t)
  c_MOST_SIGNS : ∃ t, mg "MOST_SIGNS" = some (.int 40 t)
  gc_Book : mg "Book" = some (.ref (He.ga K "Book"))
  gc_Store : mg "Store" = some (.ref (He.ga K "Store"))
  gc_House : mg "House" = some (.ref (He.ga K "House"))
  gc_Town : mg "Town" = some (.ref (He.ga K "Town"))
  gc_HouseError : mg "HouseError" = some (.ref (He.ga K "HouseError"))
  gc_NoName : mg "NoName" = some (.ref (He.ga K "NoName"))
  gc_TooMany : mg "TooMany" = some (.ref (He.ga K "TooMany"))
  gc_NoHouse : mg "NoHouse" = some (.ref (He.ga K "NoHouse"))
  gc_Taken : mg "Taken" = some (.ref (He.ga K "Taken"))
  gc_NoTalk : mg "NoTalk" = some (.ref (He.ga K "NoTalk"))
  gc_NoMark : mg "NoMark" = some (.ref (He.ga K "NoMark"))
  gc_Broken : mg "Broken" = some (.ref (He.ga K "Broken"))
  gc_Lack : mg "Lack" = some (.ref (He.ga K "Lack"))
  cl_Book : Cls K (He.ga K "Book")
  na_Book_contents : NoAttr K (He.ga K "Book") "contents"
  na_Book_depths : NoAttr K (He.ga K "Book") "depths"
  na_Book_given : NoAttr K (He.ga K "Book") "given"
  me_Book_len : Meth K (He.ga K "Book") "__len__" (He.fAd K ("Book", some "__len__"))
  me_Book_is_name : Meth K (He.ga K "Book") "is_name" (He.fAd K ("Book", some "is_name"))
  me_Book_thing : Meth K (He.ga K "Book") "thing" (He.fAd K ("Book", some "thing"))
  me_Book_kind : Meth K (He.ga K "Book") "kind" (He.fAd K ("Book", some "kind"))
  me_Book_depth : Meth K (He.ga K "Book") "depth" (He.fAd K ("Book", some "depth"))
  me_Book_give_next : Meth K (He.ga K "Book") "give_next" (He.fAd K ("Book", some "give_next"))
  me_Book_has_kinds : Meth K (He.ga K "Book") "has_kinds" (He.fAd K ("Book", some "has_kinds"))
  me_Book_is_content : Meth K (He.ga K "Book") "is_content" (He.fAd K ("Book", some "is_content"))
  me_Book_named : Meth K (He.ga K "Book") "named" (He.fAd K ("Book", some "named"))
  mk_Book : Mk K (He.ga K "Book") (He.fAd K ("Book", some "__init__"))
  cl_Store : Cls K (He.ga K "Store")
  me_House_put : Meth K (He.ga K "Store") "put" (He.fAd K ("Store", some "put"))
  me_House_write : Meth K (He.ga K "Store") "write" (He.fAd K ("Store", some "write"))
  me_House_held : Meth K (He.ga K "Store") "held" (He.fAd K ("Store", some "held"))
  mk_Store : Mk K (He.ga K "Store") (He.fAd K ("Store", some "__init__"))
  cl_Town : Cls K (He.ga K "Town")
  na_Town_book : NoAttr K (He.ga K "Town") "book"
  na_Town_houses : NoAttr K (He.ga K "Town") "houses"
  na_Town_talks : NoAttr K (He.ga K "Town") "talks"
  me_Town_labels : Meth K (He.ga K "Town") "labels" (He.fAd K ("Town", some "labels"))
  me_Town_house : Meth K (He.ga K "Town") "house" (He.fAd K ("Town", some "house"))
  me_Town_sweep : Meth K (He.ga K "Town") "sweep" (He.fAd K ("Town", some "sweep"))
  me_Town_build : Meth K (He.ga K "Town") "build" (He.fAd K ("Town", some "build"))
  mk_Town : Mk K (He.ga K "Town") (He.fAd K ("Town", some "__init__"))
  cl_House : Cls K (He.ga K "House")
  na_House_book : NoAttr K (He.ga K "House") "book"
  na_House_inside : NoAttr K (He.ga K "House") "inside"
  na_House_many_changes : NoAttr K (He.ga K "House") "many_changes"
  na_House_standing : NoAttr K (He.ga K "House") "standing"
  na_House_last_moves : NoAttr K (He.ga K "House") "last_moves"
  na_House_far_standing : NoAttr K (He.ga K "House") "far_standing"
  na_House_pinned : NoAttr K (He.ga K "House") "pinned"
  me_House_sweep : Meth K (He.ga K "House") "sweep" (He.fAd K ("House", some "sweep"))
  mk_House : Mk K (He.ga K "House") (He.fAd K ("House", some "__init__"))
  more : Fw.K80C K
theorem Tx.k80 {K : PySem.W.Frag} {mg : Str → Option Value} (T : Tx K mg) : BkC K ∧ HsC K ∧ TwC K ∧ K80C K := ⟨⟨T.cl_Book, T.na_Book_contents, T.na_Book_depths, T.na_Book_given⟩, ⟨T.cl_House, T.na_House_book, T.na_House_inside, T.na_House_many_changes, T.na_House_standing, T.na_House_last_moves, T.na_House_far_standing, T.na_House_pinned⟩, ⟨T.cl_Town, T.na_Town_book, T.na_Town_houses, T.na_Town_talks⟩, T.more⟩
theorem Tx.heir_HouseError {K : PySem.W.Frag} {mg : Str → Option Value} (T : Tx K mg) : HeirC K (He.ga K "HouseError") := T.more.heir
theorem Tx.oex_NoHouse {K : PySem.W.Frag} {mg : Str → Option Value} (T : Tx K mg) : OexC K (He.ga K "NoHouse") := T.more.te.nh.oex
theorem Tx.ini_NoHouse {K : PySem.W.Frag} {mg : Str → Option Value} (T : Tx K mg) : PySem.W.findIn K (.ref (He.ga K "NoHouse")) "__init__" = some (some (.ref (He.fAd K ("NoHouse", some "__init__")))) := T.more.te.nh.ini
theorem Tx.tin_NoHouse {K : PySem.W.Frag} {mg : Str → Option Value} (T : Tx K mg) : PySem.W.typeIn K (.ref (He.fAd K ("NoHouse", some "__init__"))) = some (.type "function") := T.more.te.nh.tin
theorem Tx.oex_Taken {K : PySem.W.Frag} {mg : Str → Option Value} (T : Tx K mg) : OexC K (He.ga K "Taken") := T.more.te.tk.oex
theorem Tx.ini_Taken {K : PySem.W.Frag} {mg : Str → Option Value} (T : Tx K mg) : PySem.W.findIn K (.ref (He.ga K "Taken")) "__init__" = some (some (.ref (He.fAd K ("Taken", some "__init__")))) := T.more.te.tk.ini
theorem Tx.tin_Taken {K : PySem.W.Frag} {mg : Str → Option Value} (T : Tx K mg) : PySem.W.typeIn K (.ref (He.fAd K ("Taken", some "__init__"))) = some (.type "function") := T.more.te.tk.tin
theorem Tx.cg_Store_init {K : PySem.W.Frag} {mg : Str → Option Value} (T : Tx K mg) : ClsG K (He.ga K "Store") (He.fAd K ("Store", some "__init__")) "__init__" := T.more.cg
theorem Tx.mi_House_put {K : PySem.W.Frag} {mg : Str → Option Value} (T : Tx K mg) : Meth K (He.ga K "House") "put" (He.fAd K ("Store", some "put")) := T.more.inh _ (by simp)
theorem Tx.mi_House_write {K : PySem.W.Frag} {mg : Str → Option Value} (T : Tx K mg) : Meth K (He.ga K "House") "write" (He.fAd K ("Store", some "write")) := T.more.inh _ (by simp)
theorem Tx.mi_House_held {K : PySem.W.Frag} {mg : Str → Option Value} (T : Tx K mg) : Meth K (He.ga K "House") "held" (He.fAd K ("Store", some "held")) := T.more.inh _ (by simp)
section
variable {P : Program} [HasW] {K : PySem.W.Frag} {mg : Str → Option Value} {base : Heap}
theorem b_Book_len (T : Tx K mg) : Binds K T.fd_Book_len ["self"] [] := T.F_Book_len.bindsN fun _ _ _ _ _ _ us hl => match us, hl with | [_], _ => rfl
theorem ok_Book_len (T : Tx K mg) : FnOk P HasW.w K mg base CX0 1 (He.fAd K ("Book", some "__len__")) T.fd_Book_len ["self"] (sp_Book_len K) := by
  refine T.F_Book_len.ok sc_Book_len (fun vs H Q E h => len_Book_len h) (fun cdv A outer s H vs Q E hr h => ⟨t_Book_len K, PSs.nox ?_, pure_Book_len h⟩)
  exact (pss_one (ps_ret (pe_callB call_len (by rfl) T.z_len PySem.boot_len (pa_cons (pe_fld (pv 0) rfl) pa_nil))))
theorem b_is_int (T : Tx K mg) : Binds K T.fd_is_int ["thing"] [] := T.F_is_int.bindsN fun _ _ _ _ _ _ us hl => match us, hl with | [_], _ => rfl
theorem ok_is_intI (T : Tx K mg) : FnOk P HasW.w K mg base CX0 1 (He.fAd K ("is_int", none)) T.fd_is_int ["thing"] (sp_is_intI K) := by
  refine T.F_is_int.ok sc_is_int (fun vs H Q E h => len_is_intI h) (fun cdv A outer s H vs Q E hr h => ⟨t_is_int K, PSs.nox ?_, pure_is_intI h⟩)
  exact (pss_one (ps_ret (pe_and (pe_callB call_isi (by rfl) T.z_isinstance (by decide +kernel) (pa_cons (pv 0) (pa_cons (pe_bltn (v := .ty "int") (by rfl) T.z_int (by decide +kernel) rfl) pa_nil))) (pe_one (pe_not (pe_callB call_isi (by rfl) T.z_isinstance (by decide +kernel) (pa_cons (pv 0) (pa_cons (pe_bltn (v := .ty "bool") (by rfl) T.z_bool (by decide +kernel) rfl) pa_nil))))))))
theorem b_Book_is_name (T : Tx K mg) : Binds K T.fd_Book_is_name ["self", "thing"] [] := T.F_Book_is_name.bindsN fun _ _ _ _ _ _ us hl => match us, hl with | [_, _], _ => rfl
theorem ok_Book_is_name (T : Tx K mg) : FnOk P HasW.w K mg base CX0 2 (He.fAd K ("Book", some "is_name")) T.fd_Book_is_name ["self", "thing"] (sp_Book_is_name K) := by
  refine T.F_Book_is_name.ok sc_Book_is_name (fun vs H Q E h => len_Book_is_name h) (fun cdv A outer s H vs Q E hr h => ⟨t_Book_is_name K, PSs.nox ?_, pure_Book_is_name h⟩)
  exact (pss_one (ps_ret (pe_and (pe_call (ok_is_intI T) (hr.mono (by decide)) (by rfl) T.g_is_int T.F_is_int.kp (b_is_int T) .nil pass0 (pa_cons (pv 1) pa_nil)) (pe_one (pe_chain op_le op_lt pe_int (pv 1) (pe_callB call_len (by rfl) T.z_len PySem.boot_len (pa_cons (pe_fld (pv 0) rfl) pa_nil)))))))
theorem b_Book_thing (T : Tx K mg) : Binds K T.fd_Book_thing ["self", "name"] [] := T.F_Book_thing.bindsN fun _ _ _ _ _ _ us hl => match us, hl with | [_, _], _ => rfl
theorem ok_Book_thing (T : Tx K mg) : FnOk P HasW.w K mg base CX0 3 (He.fAd K ("Book", some "thing")) T.fd_Book_thing ["self", "name"] (sp_Book_thing K) := by
  refine T.F_Book_thing.ok sc_Book_thing (fun vs H Q E h => len_Book_thing h) (fun cdv A outer s H vs Q E hr h => ⟨t_Book_thing K, PSs.nox ?_, pure_Book_thing h⟩)
  exact (pss_cons (ps_if (pt_not (pt_val (pe_meth (pv 0) T.cl_Book T.me_Book_is_name (ok_Book_is_name T) (hr.mono (by decide)) (b_Book_is_name T) .nil pass0 (pa_cons (pv 1) pa_nil)))) (pss_one ps_never) pss_nil)
      (pss_one (ps_ret (pe_ix ix_seq (pe_fld (pv 0) rfl) (pv 1) (fun _ _ => rfl)))))
theorem b_Book_kind (T : Tx K mg) : Binds K T.fd_Book_kind ["self", "name"] [] := T.F_Book_kind.bindsN fun _ _ _ _ _ _ us hl => match us, hl with | [_, _], _ => rfl
theorem ok_Book_kind (T : Tx K mg) : FnOk P HasW.w K mg base CX0 4 (He.fAd K ("Book", some "kind")) T.fd_Book_kind ["self", "name"] (sp_Book_kind K) := by
  refine T.F_Book_kind.ok sc_Book_kind (fun vs H Q E h => len_Book_kind h) (fun cdv A outer s H vs Q E hr h => ⟨t_Book_kind K, PSs.nox ?_, pure_Book_kind h⟩)
  exact (pss_one (ps_ret (pe_ix ix_seq (pe_meth (pv 0) T.cl_Book T.me_Book_thing (ok_Book_thing T) (hr.mono (by decide)) (b_Book_thing T) .nil pass0 (pa_cons (pv 1) pa_nil)) pe_int (fun _ _ => rfl))))
theorem b_Book_depth (T : Tx K mg) : Binds K T.fd_Book_depth ["self", "content"] [] := T.F_Book_depth.bindsN fun _ _ _ _ _ _ us hl => match us, hl with | [_, _], _ => rfl
theorem ok_Book_depth (T : Tx K mg) : FnOk P HasW.w K mg base CX0 1 (He.fAd K ("Book", some "depth")) T.fd_Book_depth ["self", "content"] (sp_Book_depth K) := by
  refine T.F_Book_depth.ok sc_Book_depth (fun vs H Q E h => len_Book_depth h) (fun cdv A outer s H vs Q E hr h => ⟨t_Book_depth K, PSs.nox ?_, pure_Book_depth h⟩)
  exact (pss_cons (ps_if (pt_cmpR op_ne (pe_ix ix_seq (pv 1) pe_int (fun _ _ => rfl)) pe_str (nomark _)) (pss_one (ps_ret pe_int)) pss_nil)
      (pss_one (ps_ret (pe_op op_add pe_int (pe_callBK (cr_maxD0 rfl hr.units) (by rfl) T.z_max (by decide +kernel) (pa_cons (pe_lc (own := [("label", 2), ("part", 3)]) (g := (gTup K 2 (gCons (gName 2) (gCons (gName 3) gNil)))) (tt := tYes) (te := (tOp (rIx K) (tFld K (tVar 0) "depths") (tVar 3))) rfl sc_Book_depth.nd (pi_tup (pe_ix ix_seq (pv 1) pe_int (fun _ _ => rfl))) (blkOk_by (own := [("label", 2), ("part", 3)]) (N := N_Book_depth) (sc := defScope s_Book_depth) (by decide +kernel)) (fun _ _ _ _ _ => (pg_tup rfl (pgs_cons (pg_name (i := 2) sc_Book_depth.nd rfl (Or.inl rfl)) (pgs_cons (pg_name (i := 3) sc_Book_depth.nd rfl (Or.inl rfl)) pgs_nil)))) (fun _ _ _ _ _ => pts_nil) (fun _ _ _ _ _ => (pe_ix ix_seq (pe_fld (pv 0) rfl) (pv 3) (fun _ _ => rfl)))) pa_nil) (pk_cons pe_int pk_nil))))))
theorem b_Book_give_next (T : Tx K mg) : Binds K T.fd_Book_give_next ["self", "content"] [] := T.F_Book_give_next.bindsN fun _ _ _ _ _ _ us hl => match us, hl with | [_, _], _ => rfl
theorem ok_Book_give_next (T : Tx K mg) : FnOk P HasW.w K mg base CX0 2 (He.fAd K ("Book", some "give_next")) T.fd_Book_give_next ["self", "content"] (sp_Book_give_next K) := by
  refine T.F_Book_give_next.ok sc_Book_give_next (fun vs H Q E h => len_Book_give_next h) (fun cdv A outer s H vs Q E hr h => ⟨t_Book_give_next K, PSs.nox ?_, pure_Book_give_next h⟩)
  exact (pss_cons (ps_if (pt_cmpR op_ge (pe_callB call_len (by rfl) T.z_len PySem.boot_len (pa_cons (pe_fld (pv 0) rfl) pa_nil)) (pe_glob (v := .int 400) (by rfl) T.c_MOST.choose_spec ⟨_, rfl⟩) (nomark _)) (pss_one ps_never) pss_nil)
      (pss_cons (ps_nput rfl hr.units (pe_fld (pv 0) rfl) (pv 1) (pe_callB call_len (by rfl) T.z_len PySem.boot_len (pa_cons (pe_fld (pv 0) rfl) pa_nil)) rfl)
      (pss_cons (ps_expr (pe_bm PySem.F.plainAttrs_list PySem.F.slot_list_append PySem.F.type_list_append mt_append (pe_fld (pv 0) rfl) (pa_cons (pe_meth (pv 0) T.cl_Book T.me_Book_depth (ok_Book_depth T) (hr.mono (by decide)) (b_Book_depth T) .nil pass0 (pa_cons (pv 1) pa_nil)) pa_nil)))
      (pss_one (ps_expr (pe_bm PySem.F.plainAttrs_list PySem.F.slot_list_append PySem.F.type_list_append mt_append (pe_fld (pv 0) rfl) (pa_cons (pv 1) pa_nil)))))))
theorem b_Book_has_kinds (T : Tx K mg) : Binds K T.fd_Book_has_kinds ["self", "names", "kinds"] [] := T.F_Book_has_kinds.bindsN fun _ _ _ _ _ _ us hl => match us, hl with | [_, _, _], _ => rfl
theorem ok_Book_has_kinds (T : Tx K mg) : FnOk P HasW.w K mg base CX0 3 (He.fAd K ("Book", some "has_kinds")) T.fd_Book_has_kinds ["self", "names", "kinds"] (sp_Book_has_kinds K) := by
  refine T.F_Book_has_kinds.ok sc_Book_has_kinds (fun vs H Q E h => len_Book_has_kinds h) (fun cdv A outer s H vs Q E hr h => ⟨t_Book_has_kinds K, PSs.nox ?_, pure_Book_has_kinds h⟩)
  exact (pss_one (ps_ret (pe_callB (cr_all rfl) (by rfl) T.z_all (by decide +kernel) (pa_cons (pe_lc (own := [("name", 3)]) (g := (gName 3)) (tt := tYes) (te := (tAndV (tMeth (He.ga K "Book") "is_name" (sp_Book_is_name K) [] E0 (tVar 0) (tCons (tVar 3) tNil)) (tOp (rIn K false) (tOp (rIx K) (tOp (rIx K) (tFld K (tVar 0) "contents") (tVar 3)) (tC (.int 0))) (tVar 2)))) rfl sc_Book_has_kinds.nd (pi_or (pi_list (pv 1)) (pi_tup (pv 1))) (blkOk_by (own := [("name", 3)]) (N := N_Book_has_kinds) (sc := defScope s_Book_has_kinds) (by decide +kernel)) (fun _ _ _ _ _ => (pg_name (i := 3) sc_Book_has_kinds.nd rfl (Or.inl rfl))) (fun _ _ _ _ _ => pts_nil) (fun _ _ _ _ _ => (pe_and (pe_meth (pv 0) T.cl_Book T.me_Book_is_name (ok_Book_is_name T) (hr.mono (by decide)) (b_Book_is_name T) .nil pass0 (pa_cons (pv 3) pa_nil)) (pe_one (pe_cmpR op_in_seq (pe_ix ix_seq (pe_ix ix_seq (pe_fld (pv 0) rfl) (pv 3) (fun _ _ => rfl)) pe_int (fun _ _ => rfl)) (pv 2) (by rfl)))))) pa_nil))))
theorem b_is_label (T : Tx K mg) : Binds K T.fd_is_label ["thing"] [] := T.F_is_label.bindsN fun _ _ _ _ _ _ us hl => match us, hl with | [_], _ => rfl
theorem ok_is_label (T : Tx K mg) : FnOk P HasW.w K mg base CX0 1 (He.fAd K ("is_label", none)) T.fd_is_label ["thing"] (sp_is_label K) := by
  refine T.F_is_label.ok sc_is_label (fun vs H Q E h => len_is_label h) (fun cdv A outer s H vs Q E hr h => ⟨t_is_label K, PSs.nox ?_, pure_is_label h⟩)
  exact (pss_cons (ps_if (PW.pt (pw_or (pt_not (pt_val (pe_callB call_isi (by rfl) T.z_isinstance (by decide +kernel) (pa_cons (pv 0) (pa_cons (pe_bltn (v := .ty "str") (by rfl) T.z_str (by decide +kernel) rfl) pa_nil))))) (pw_or1 (pt_not (pt_chain op_le op_le pe_int (pe_callB call_len (by rfl) T.z_len PySem.boot_len (pa_cons (pv 0) pa_nil)) (pe_glob (v := .int 8) (by rfl) T.c_LONGEST_LABEL.choose_spec ⟨_, rfl⟩)))))) (pss_one (ps_ret pe_bl)) pss_nil)
      (pss_one (ps_ret (pe_callB (cr_all rfl) (by rfl) T.z_all (by decide +kernel) (pa_cons (pe_lc (own := [("sign", 1)]) (g := (gName 1)) (tt := tYes) (te := (tChain rLeS rLeS (tC (.str "a")) (tVar 1) (tC (.str "z")))) rfl sc_is_label.nd (pi_str (pv 0)) (blkOk_by (own := [("sign", 1)]) (N := N_is_label) (sc := defScope s_is_label) (by decide +kernel)) (fun _ _ _ _ _ => (pg_name (i := 1) sc_is_label.nd rfl (Or.inl rfl))) (fun _ _ _ _ _ => pts_nil) (fun _ _ _ _ _ => (pe_chain op_le_str op_le_str pe_str (pv 1) pe_str))) pa_nil)))))
theorem b_is_pair (T : Tx K mg) : Binds K T.fd_is_pair ["thing"] [] := T.F_is_pair.bindsN fun _ _ _ _ _ _ us hl => match us, hl with | [_], _ => rfl
theorem ok_is_pairT (T : Tx K mg) : FnOk P HasW.w K mg base CX0 1 (He.fAd K ("is_pair", none)) T.fd_is_pair ["thing"] (sp_is_pairT K) := by
  refine T.F_is_pair.ok sc_is_pair (fun vs H Q E h => len_is_pairT h) (fun cdv A outer s H vs Q E hr h => ⟨t_is_pair K, PSs.nox ?_, pure_is_pairT h⟩)
  exact (pss_one (ps_ret (pe_and (pe_callB call_isi (by rfl) T.z_isinstance (by decide +kernel) (pa_cons (pv 0) (pa_cons (pe_bltn (v := .ty "tuple") (by rfl) T.z_tuple (by decide +kernel) rfl) pa_nil))) (pe_one (pe_cmpR op_eq (pe_callB call_len (by rfl) T.z_len PySem.boot_len (pa_cons (pv 0) pa_nil)) pe_int (nomark _))))))
theorem b_is_entry (T : Tx K mg) : Binds K T.fd_is_entry ["thing"] [] := T.F_is_entry.bindsN fun _ _ _ _ _ _ us hl => match us, hl with | [_], _ => rfl
theorem ok_is_entry (T : Tx K mg) : FnOk P HasW.w K mg base CX0 2 (He.fAd K ("is_entry", none)) T.fd_is_entry ["thing"] (sp_is_entry K) := by
  refine T.F_is_entry.ok sc_is_entry (fun vs H Q E h => len_is_entry h) (fun cdv A outer s H vs Q E hr h => ⟨t_is_entry K, PSs.nox ?_, pure_is_entry h⟩)
  exact (pss_one (ps_ret (pe_and (pe_call (ok_is_pairT T) (hr.mono (by decide)) (by rfl) T.g_is_pair T.F_is_pair.kp (b_is_pair T) .nil pass0 (pa_cons (pv 0) pa_nil)) (pe_and (pe_call (ok_is_label T) (hr.mono (by decide)) (by rfl) T.g_is_label T.F_is_label.kp (b_is_label T) .nil pass0 (pa_cons (pe_ix ix_seq (pv 0) pe_int (fun _ _ => rfl)) pa_nil)) (pe_one (pe_call (ok_is_intI T) (hr.mono (by decide)) (by rfl) T.g_is_int T.F_is_int.kp (b_is_int T) .nil pass0 (pa_cons (pe_ix ix_seq (pv 0) pe_int (fun _ _ => rfl)) pa_nil)))))))
theorem b_rises (T : Tx K mg) : Binds K T.fd_rises ["things"] [] := T.F_rises.bindsN fun _ _ _ _ _ _ us hl => match us, hl with | [_], _ => rfl
theorem ok_rises (T : Tx K mg) : FnOk P HasW.w K mg base CX0 1 (He.fAd K ("rises", none)) T.fd_rises ["things"] (sp_rises K) := by
  refine T.F_rises.ok sc_rises (fun vs H Q E h => len_rises h) (fun cdv A outer s H vs Q E hr h => ⟨t_rises K, PSs.nox ?_, pure_rises h⟩)
  exact (pss_one (ps_ret (pe_callB (cr_all rfl) (by rfl) T.z_all (by decide +kernel) (pa_cons (pe_lc (own := [("low", 1), ("high", 2)]) (g := (gTup K 2 (gCons (gName 1) (gCons (gName 2) gNil)))) (tt := tYes) (te := (tOp fLtIS (tVar 1) (tVar 2))) rfl sc_rises.nd (pi_zipA (by rfl) T.z_zip (pa_cons (pv 0) (pa_cons (pe_slice (SlR.or sl_tupA sl_list) (pv 0) (po_some pe_int) po_none) pa_nil))) (blkOk_by (own := [("low", 1), ("high", 2)]) (N := N_rises) (sc := defScope s_rises) (by decide +kernel)) (fun _ _ _ _ _ => (pg_tup rfl (pgs_cons (pg_name (i := 1) sc_rises.nd rfl (Or.inl rfl)) (pgs_cons (pg_name (i := 2) sc_rises.nd rfl (Or.inl rfl)) pgs_nil)))) (fun _ _ _ _ _ => pts_nil) (fun _ _ _ _ _ => (pe_cmpR (OpR.or op_lt op_lt_str) (pv 1) (pv 2) (nomark _)))) pa_nil))))
theorem b_is_entries (T : Tx K mg) : Binds K T.fd_is_entries ["thing"] [] := T.F_is_entries.bindsN fun _ _ _ _ _ _ us hl => match us, hl with | [_], _ => rfl
theorem ok_is_entries (T : Tx K mg) : FnOk P HasW.w K mg base CX0 3 (He.fAd K ("is_entries", none)) T.fd_is_entries ["thing"] (sp_is_entries K) := by
  refine T.F_is_entries.ok sc_is_entries (fun vs H Q E h => len_is_entries h) (fun cdv A outer s H vs Q E hr h => ⟨t_is_entries K, PSs.nox ?_, pure_is_entries h⟩)
  exact (pss_cons (ps_if (PW.pt (pw_or (pt_not (pt_val (pe_callB call_isi (by rfl) T.z_isinstance (by decide +kernel) (pa_cons (pv 0) (pa_cons (pe_bltn (v := .ty "tuple") (by rfl) T.z_tuple (by decide +kernel) rfl) pa_nil))))) (pw_or1 (pt_cmpR op_gt (pe_callB call_len (by rfl) T.z_len PySem.boot_len (pa_cons (pv 0) pa_nil)) (pe_glob (v := .int 20) (by rfl) T.c_MOST_ENTRIES.choose_spec ⟨_, rfl⟩) (nomark _))))) (pss_one (ps_ret pe_bl)) pss_nil)
      (pss_one (ps_ret (pe_and (pe_callB (cr_all rfl) (by rfl) T.z_all (by decide +kernel) (pa_cons (pe_lc (own := [("entry", 1)]) (g := (gName 1)) (tt := tYes) (te := (tCall (sp_is_entry K) [] E0 (tCons (tVar 1) tNil))) rfl sc_is_entries.nd (pi_tup (pv 0)) (blkOk_by (own := [("entry", 1)]) (N := N_is_entries) (sc := defScope s_is_entries) (by decide +kernel)) (fun _ _ _ _ _ => (pg_name (i := 1) sc_is_entries.nd rfl (Or.inl rfl))) (fun _ _ _ _ _ => pts_nil) (fun _ _ _ _ _ => (pe_call (ok_is_entry T) (hr.mono (by decide)) (by rfl) T.g_is_entry T.F_is_entry.kp (b_is_entry T) .nil pass0 (pa_cons (pv 1) pa_nil)))) pa_nil)) (pe_one (pe_call (ok_rises T) (hr.mono (by decide)) (by rfl) T.g_rises T.F_rises.kp (b_rises T) .nil pass0 (pa_cons (pe_lc (own := [("entry", 1)]) (g := (gName 1)) (tt := tYes) (te := (tOp (rIx K) (tVar 1) (tC (.int 0)))) rfl sc_is_entries.nd (pi_tup (pv 0)) (blkOk_by (own := [("entry", 1)]) (N := N_is_entries) (sc := defScope s_is_entries) (by decide +kernel)) (fun _ _ _ _ _ => (pg_name (i := 1) sc_is_entries.nd rfl (Or.inl rfl))) (fun _ _ _ _ _ => pts_nil) (fun _ _ _ _ _ => (pe_ix ix_seq (pv 1) pe_int (fun _ _ => rfl)))) pa_nil)))))))
theorem b_is_sign (T : Tx K mg) : Binds K T.fd_is_sign ["sign"] [] := T.F_is_sign.bindsN fun _ _ _ _ _ _ us hl => match us, hl with | [_], _ => rfl
theorem ok_is_sign (T : Tx K mg) : FnOk P HasW.w K mg base CX0 1 (He.fAd K ("is_sign", none)) T.fd_is_sign ["sign"] (sp_is_sign K) := by
  refine T.F_is_sign.ok sc_is_sign (fun vs H Q E h => len_is_sign h) (fun cdv A outer s H vs Q E hr h => ⟨t_is_sign K, PSs.nox ?_, pure_is_sign h⟩)
  exact (pss_one (ps_ret (pe_and (pe_chain op_le_str op_le_str pe_str (pv 0) pe_str) (pe_one (pe_cmpR op_ne (pe_callB call_ord (by rfl) T.z_ord (by decide +kernel) (pa_cons (pv 0) pa_nil)) (pe_glob (v := .int 37) (by rfl) T.c_BARRED_SIGN.choose_spec ⟨_, rfl⟩) (nomark _))))))
theorem b_is_text (T : Tx K mg) : Binds K T.fd_is_text ["thing"] [] := T.F_is_text.bindsN fun _ _ _ _ _ _ us hl => match us, hl with | [_], _ => rfl
theorem ok_is_text (T : Tx K mg) : FnOk P HasW.w K mg base CX0 2 (He.fAd K ("is_text", none)) T.fd_is_text ["thing"] (sp_is_text K) := by
  refine T.F_is_text.ok sc_is_text (fun vs H Q E h => len_is_text h) (fun cdv A outer s H vs Q E hr h => ⟨t_is_text K, PSs.nox ?_, pure_is_text h⟩)
  exact (pss_one (ps_ret (pe_and (pe_callB call_isi (by rfl) T.z_isinstance (by decide +kernel) (pa_cons (pv 0) (pa_cons (pe_bltn (v := .ty "str") (by rfl) T.z_str (by decide +kernel) rfl) pa_nil))) (pe_one (pe_callB (cr_all rfl) (by rfl) T.z_all (by decide +kernel) (pa_cons (pe_lc (own := [("sign", 1)]) (g := (gName 1)) (tt := tYes) (te := (tCall (sp_is_sign K) [] E0 (tCons (tVar 1) tNil))) rfl sc_is_text.nd (pi_str (pv 0)) (blkOk_by (own := [("sign", 1)]) (N := N_is_text) (sc := defScope s_is_text) (by decide +kernel)) (fun _ _ _ _ _ => (pg_name (i := 1) sc_is_text.nd rfl (Or.inl rfl))) (fun _ _ _ _ _ => pts_nil) (fun _ _ _ _ _ => (pe_call (ok_is_sign T) (hr.mono (by decide)) (by rfl) T.g_is_sign T.F_is_sign.kp (b_is_sign T) .nil pass0 (pa_cons (pv 1) pa_nil)))) pa_nil))))))
theorem b_is_row (T : Tx K mg) : Binds K T.fd_is_row ["thing"] [] := T.F_is_row.bindsN fun _ _ _ _ _ _ us hl => match us, hl with | [_], _ => rfl
theorem ok_is_row (T : Tx K mg) : FnOk P HasW.w K mg base CX0 3 (He.fAd K ("is_row", none)) T.fd_is_row ["thing"] (sp_is_row K) := by
  refine T.F_is_row.ok sc_is_row (fun vs H Q E h => len_is_row h) (fun cdv A outer s H vs Q E hr h => ⟨t_is_row K, PSs.nox ?_, pure_is_row h⟩)
  exact (pss_one (ps_ret (pe_and (pe_call (ok_is_text T) (hr.mono (by decide)) (by rfl) T.g_is_text T.F_is_text.kp (b_is_text T) .nil pass0 (pa_cons (pv 0) pa_nil)) (pe_one (pe_cmpR op_le (pe_callB call_len (by rfl) T.z_len PySem.boot_len (pa_cons (pv 0) pa_nil)) (pe_glob (v := .int 40) (by rfl) T.c_MOST_SIGNS.choose_spec ⟨_, rfl⟩) (nomark _))))))
theorem b_is_rows (T : Tx K mg) : Binds K T.fd_is_rows ["thing"] [] := T.F_is_rows.bindsN fun _ _ _ _ _ _ us hl => match us, hl with | [_], _ => rfl
theorem ok_is_rows (T : Tx K mg) : FnOk P HasW.w K mg base CX0 4 (He.fAd K ("is_rows", none)) T.fd_is_rows ["thing"] (sp_is_rows K) := by
  refine T.F_is_rows.ok sc_is_rows (fun vs H Q E h => len_is_rows h) (fun cdv A outer s H vs Q E hr h => ⟨t_is_rows K, PSs.nox ?_, pure_is_rows h⟩)
  exact (pss_one (ps_ret (pe_and (pe_callB call_isi (by rfl) T.z_isinstance (by decide +kernel) (pa_cons (pv 0) (pa_cons (pe_bltn (v := .ty "tuple") (by rfl) T.z_tuple (by decide +kernel) rfl) pa_nil))) (pe_and (pe_cmpR op_le (pe_callB call_len (by rfl) T.z_len PySem.boot_len (pa_cons (pv 0) pa_nil)) (pe_glob (v := .int 40) (by rfl) T.c_MOST_ROWS.choose_spec ⟨_, rfl⟩) (nomark _)) (pe_one (pe_callB (cr_all rfl) (by rfl) T.z_all (by decide +kernel) (pa_cons (pe_lc (own := [("row", 1)]) (g := (gName 1)) (tt := tYes) (te := (tCall (sp_is_row K) [] E0 (tCons (tVar 1) tNil))) rfl sc_is_rows.nd (pi_tup (pv 0)) (blkOk_by (own := [("row", 1)]) (N := N_is_rows) (sc := defScope s_is_rows) (by decide +kernel)) (fun _ _ _ _ _ => (pg_name (i := 1) sc_is_rows.nd rfl (Or.inl rfl))) (fun _ _ _ _ _ => pts_nil) (fun _ _ _ _ _ => (pe_call (ok_is_row T) (hr.mono (by decide)) (by rfl) T.g_is_row T.F_is_row.kp (b_is_row T) .nil pass0 (pa_cons (pv 1) pa_nil)))) pa_nil)))))))
theorem b_is_ints (T : Tx K mg) : Binds K T.fd_is_ints ["thing"] [] := T.F_is_ints.bindsN fun _ _ _ _ _ _ us hl => match us, hl with | [_], _ => rfl
theorem ok_is_ints (T : Tx K mg) : FnOk P HasW.w K mg base CX0 2 (He.fAd K ("is_ints", none)) T.fd_is_ints ["thing"] (sp_is_ints K) := by
  refine T.F_is_ints.ok sc_is_ints (fun vs H Q E h => len_is_ints h) (fun cdv A outer s H vs Q E hr h => ⟨t_is_ints K, PSs.nox ?_, pure_is_ints h⟩)
  exact (pss_one (ps_ret (pe_and (pe_callB call_isi (by rfl) T.z_isinstance (by decide +kernel) (pa_cons (pv 0) (pa_cons (pe_bltn (v := .ty "tuple") (by rfl) T.z_tuple (by decide +kernel) rfl) pa_nil))) (pe_one (pe_callB (cr_all rfl) (by rfl) T.z_all (by decide +kernel) (pa_cons (pe_lc (own := [("part", 1)]) (g := (gName 1)) (tt := tYes) (te := (tCall (sp_is_intI K) [] E0 (tCons (tVar 1) tNil))) rfl sc_is_ints.nd (pi_tup (pv 0)) (blkOk_by (own := [("part", 1)]) (N := N_is_ints) (sc := defScope s_is_ints) (by decide +kernel)) (fun _ _ _ _ _ => (pg_name (i := 1) sc_is_ints.nd rfl (Or.inl rfl))) (fun _ _ _ _ _ => pts_nil) (fun _ _ _ _ _ => (pe_call (ok_is_intI T) (hr.mono (by decide)) (by rfl) T.g_is_int T.F_is_int.kp (b_is_int T) .nil pass0 (pa_cons (pv 1) pa_nil)))) pa_nil))))))
theorem b_is_rising (T : Tx K mg) : Binds K T.fd_is_rising ["thing"] [] := T.F_is_rising.bindsN fun _ _ _ _ _ _ us hl => match us, hl with | [_], _ => rfl
theorem ok_is_rising (T : Tx K mg) : FnOk P HasW.w K mg base CX0 3 (He.fAd K ("is_rising", none)) T.fd_is_rising ["thing"] (sp_is_rising K) := by
  refine T.F_is_rising.ok sc_is_rising (fun vs H Q E h => len_is_rising h) (fun cdv A outer s H vs Q E hr h => ⟨t_is_rising K, PSs.nox ?_, pure_is_rising h⟩)
  exact (pss_one (ps_ret (pe_and (pe_call (ok_is_ints T) (hr.mono (by decide)) (by rfl) T.g_is_ints T.F_is_ints.kp (b_is_ints T) .nil pass0 (pa_cons (pv 0) pa_nil)) (pe_one (pe_call (ok_rises T) (hr.mono (by decide)) (by rfl) T.g_rises T.F_rises.kp (b_rises T) .nil pass0 (pa_cons (pv 0) pa_nil))))))
theorem b_is_stamp (T : Tx K mg) : Binds K T.fd_is_stamp ["thing"] [] := T.F_is_stamp.bindsN fun _ _ _ _ _ _ us hl => match us, hl with | [_], _ => rfl
theorem ok_is_stamp (T : Tx K mg) : FnOk P HasW.w K mg base CX0 2 (He.fAd K ("is_stamp", none)) T.fd_is_stamp ["thing"] (sp_is_stamp K) := by
  refine T.F_is_stamp.ok sc_is_stamp (fun vs H Q E h => len_is_stamp h) (fun cdv A outer s H vs Q E hr h => ⟨t_is_stamp K, PSs.nox ?_, pure_is_stamp h⟩)
  exact (pss_one (ps_ret (pe_and (pe_call (ok_is_intI T) (hr.mono (by decide)) (by rfl) T.g_is_int T.F_is_int.kp (b_is_int T) .nil pass0 (pa_cons (pv 0) pa_nil)) (pe_one (pe_chain op_le op_le pe_int (pv 0) (pe_glob (v := .int 1000000000000000000) (by rfl) T.c_LAST_STAMP.choose_spec ⟨_, rfl⟩))))))
theorem b_is_version_form (T : Tx K mg) : Binds K T.fd_is_version_form ["thing"] [] := T.F_is_version_form.bindsN fun _ _ _ _ _ _ us hl => match us, hl with | [_], _ => rfl
theorem ok_is_version_form (T : Tx K mg) : FnOk P HasW.w K mg base CX0 4 (He.fAd K ("is_version_form", none)) T.fd_is_version_form ["thing"] (sp_is_version_form K) := by
  refine T.F_is_version_form.ok sc_is_version_form (fun vs H Q E h => len_is_version_form h) (fun cdv A outer s H vs Q E hr h => ⟨t_is_version_form K, PSs.nox ?_, pure_is_version_form h⟩)
  exact (pss_cons (ps_if (PW.pt (pw_or (pt_cmpR op_ne (pe_callB call_len (by rfl) T.z_len PySem.boot_len (pa_cons (pv 0) pa_nil)) pe_int (nomark _)) (pw_or1 (pt_not (pt_val (pe_call (ok_is_rising T) (hr.mono (by decide)) (by rfl) T.g_is_rising T.F_is_rising.kp (b_is_rising T) .nil pass0 (pa_cons (pe_ix ix_seq (pv 0) pe_int (fun _ _ => rfl)) pa_nil))))))) (pss_one (ps_ret pe_bl)) pss_nil)
      (pss_one (ps_ret (pe_and (pe_cmpR op_le (pe_callB call_len (by rfl) T.z_len PySem.boot_len (pa_cons (pe_ix ix_seq (pv 0) pe_int (fun _ _ => rfl)) pa_nil)) (pe_glob (v := .int 4) (by rfl) T.c_MOST_PARENTS.choose_spec ⟨_, rfl⟩) (nomark _)) (pe_and (pe_call (ok_is_intI T) (hr.mono (by decide)) (by rfl) T.g_is_int T.F_is_int.kp (b_is_int T) .nil pass0 (pa_cons (pe_ix ix_seq (pv 0) pe_int (fun _ _ => rfl)) pa_nil)) (pe_one (pe_call (ok_is_stamp T) (hr.mono (by decide)) (by rfl) T.g_is_stamp T.F_is_stamp.kp (b_is_stamp T) .nil pass0 (pa_cons (pe_ix ix_seq (pv 0) pe_int (fun _ _ => rfl)) pa_nil))))))))
theorem b_is_content_form (T : Tx K mg) : Binds K T.fd_is_content_form ["thing"] [] := T.F_is_content_form.bindsN fun _ _ _ _ _ _ us hl => match us, hl with | [_], _ => rfl
theorem ok_is_content_form (T : Tx K mg) : FnOk P HasW.w K mg base CX0 5 (He.fAd K ("is_content_form", none)) T.fd_is_content_form ["thing"] (sp_is_content_form K) := by
  refine T.F_is_content_form.ok sc_is_content_form (fun vs H Q E h => len_is_content_form h) (fun cdv A outer s H vs Q E hr h => ⟨t_is_content_form K, PSs.nox ?_, pure_is_content_form h⟩)
  exact (pss_cons (ps_if (PW.pt (pw_or (pt_not (pt_val (pe_callB call_isi (by rfl) T.z_isinstance (by decide +kernel) (pa_cons (pv 0) (pa_cons (pe_bltn (v := .ty "tuple") (by rfl) T.z_tuple (by decide +kernel) rfl) pa_nil))))) (pw_or1 (pt_cmpR op_eq (pe_callB call_len (by rfl) T.z_len PySem.boot_len (pa_cons (pv 0) pa_nil)) pe_int (nomark _))))) (pss_one (ps_ret pe_bl)) pss_nil)
      (pss_cons (ps_if (pt_cmpR op_eq (pe_ix ix_seq (pv 0) pe_int (fun _ _ => rfl)) pe_str (nomark _)) (pss_one (ps_ret (pe_and (pe_cmpR op_eq (pe_callB call_len (by rfl) T.z_len PySem.boot_len (pa_cons (pv 0) pa_nil)) pe_int (nomark _)) (pe_one (pe_call (ok_is_rows T) (hr.mono (by decide)) (by rfl) T.g_is_rows T.F_is_rows.kp (b_is_rows T) .nil pass0 (pa_cons (pe_ix ix_seq (pv 0) pe_int (fun _ _ => rfl)) pa_nil)))))) pss_nil)
      (pss_cons (ps_if (pt_cmpR op_eq (pe_ix ix_seq (pv 0) pe_int (fun _ _ => rfl)) pe_str (nomark _)) (pss_one (ps_ret (pe_and (pe_cmpR op_eq (pe_callB call_len (by rfl) T.z_len PySem.boot_len (pa_cons (pv 0) pa_nil)) pe_int (nomark _)) (pe_one (pe_call (ok_is_entries T) (hr.mono (by decide)) (by rfl) T.g_is_entries T.F_is_entries.kp (b_is_entries T) .nil pass0 (pa_cons (pe_ix ix_seq (pv 0) pe_int (fun _ _ => rfl)) pa_nil)))))) pss_nil)
      (pss_one (ps_ret (pe_and (pe_cmpR op_eq (pe_ix ix_seq (pv 0) pe_int (fun _ _ => rfl)) pe_str (nomark _)) (pe_one (pe_call (ok_is_version_form T) (hr.mono (by decide)) (by rfl) T.g_is_version_form T.F_is_version_form.kp (b_is_version_form T) .nil pass0 (pa_cons (pv 0) pa_nil)))))))))
theorem b_Book_is_content (T : Tx K mg) : Binds K T.fd_Book_is_content ["self", "thing"] [] := T.F_Book_is_content.bindsN fun _ _ _ _ _ _ us hl => match us, hl with | [_, _], _ => rfl
theorem ok_Book_is_content (T : Tx K mg) : FnOk P HasW.w K mg base CX0 6 (He.fAd K ("Book", some "is_content")) T.fd_Book_is_content ["self", "thing"] (sp_Book_is_content K) := by
  refine T.F_Book_is_content.ok sc_Book_is_content (fun vs H Q E h => len_Book_is_content h) (fun cdv A outer s H vs Q E hr h => ⟨t_Book_is_content K, PSs.nox ?_, pure_Book_is_content h⟩)
  exact (pss_cons (ps_if (pt_not (pt_val (pe_call (ok_is_content_form T) (hr.mono (by decide)) (by rfl) T.g_is_content_form T.F_is_content_form.kp (b_is_content_form T) .nil pass0 (pa_cons (pv 1) pa_nil)))) (pss_one (ps_ret pe_bl)) pss_nil)
      (pss_cons (ps_if (pt_cmpR op_eq (pe_ix ix_seq (pv 1) pe_int (fun _ _ => rfl)) pe_str (nomark _)) (pss_one (ps_ret (pe_and (pe_meth (pv 0) T.cl_Book T.me_Book_has_kinds (ok_Book_has_kinds T) (hr.mono (by decide)) (b_Book_has_kinds T) .nil pass0 (pa_cons (pe_lc (own := [("label", 2), ("part", 3)]) (g := (gTup K 2 (gCons (gName 2) (gCons (gName 3) gNil)))) (tt := tYes) (te := (tVar 3)) rfl sc_Book_is_content.nd (pi_tup (pe_ix ix_seq (pv 1) pe_int (fun _ _ => rfl))) (blkOk_by (own := [("label", 2), ("part", 3)]) (N := N_Book_is_content) (sc := defScope s_Book_is_content) (by decide +kernel)) (fun _ _ _ _ _ => (pg_tup rfl (pgs_cons (pg_name (i := 2) sc_Book_is_content.nd rfl (Or.inl rfl)) (pgs_cons (pg_name (i := 3) sc_Book_is_content.nd rfl (Or.inl rfl)) pgs_nil)))) (fun _ _ _ _ _ => pts_nil) (fun _ _ _ _ _ => (pv 3))) (pa_cons (pe_tup (pa_cons pe_str (pa_cons pe_str pa_nil))) pa_nil))) (pe_one (pe_cmpR op_le (pe_meth (pv 0) T.cl_Book T.me_Book_depth (ok_Book_depth T) (hr.mono (by decide)) (b_Book_depth T) .nil pass0 (pa_cons (pv 1) pa_nil)) (pe_glob (v := .int 8) (by rfl) T.c_DEEPEST.choose_spec ⟨_, rfl⟩) (nomark _)))))) pss_nil)
      (pss_cons (ps_if (pt_cmpR op_eq (pe_ix ix_seq (pv 1) pe_int (fun _ _ => rfl)) pe_str (nomark _)) (pss_one (ps_ret (pe_and (pe_meth (pv 0) T.cl_Book T.me_Book_has_kinds (ok_Book_has_kinds T) (hr.mono (by decide)) (b_Book_has_kinds T) .nil pass0 (pa_cons (pe_ix ix_seq (pv 1) pe_int (fun _ _ => rfl)) (pa_cons (pe_tup (pa_cons pe_str pa_nil)) pa_nil))) (pe_one (pe_meth (pv 0) T.cl_Book T.me_Book_has_kinds (ok_Book_has_kinds T) (hr.mono (by decide)) (b_Book_has_kinds T) .nil pass0 (pa_cons (pe_lst (pa_cons (pe_ix ix_seq (pv 1) pe_int (fun _ _ => rfl)) pa_nil)) (pa_cons (pe_tup (pa_cons pe_str pa_nil)) pa_nil))))))) pss_nil)
      (pss_one (ps_ret pe_bl)))))
theorem b_Book_named (T : Tx K mg) : Binds K T.fd_Book_named ["self", "content"] [] := T.F_Book_named.bindsN fun _ _ _ _ _ _ us hl => match us, hl with | [_, _], _ => rfl
theorem ok_Book_named (T : Tx K mg) : FnOk P HasW.w K mg base CX0 7 (He.fAd K ("Book", some "named")) T.fd_Book_named ["self", "content"] (sp_Book_named K) := by
  refine T.F_Book_named.ok sc_Book_named (fun vs H Q E h => len_Book_named h) (fun cdv A outer s H vs Q E hr h => ⟨t_Book_named K, PSs.nox ?_, pure_Book_named h⟩)
  exact (pss_cons (ps_if (pt_not (pt_val (pe_meth (pv 0) T.cl_Book T.me_Book_is_content (ok_Book_is_content T) (hr.mono (by decide)) (b_Book_is_content T) .nil pass0 (pa_cons (pv 1) pa_nil)))) (pss_one ps_never) pss_nil)
      (pss_cons (ps_if (pt_cmp (pc_nnotin rfl hr.units (pv 1) (pe_fld (pv 0) rfl))) (pss_one (ps_expr (pe_meth (pv 0) T.cl_Book T.me_Book_give_next (ok_Book_give_next T) (hr.mono (by decide)) (b_Book_give_next T) .nil pass0 (pa_cons (pv 1) pa_nil)))) pss_nil)
      (pss_one (ps_ret (pe_nget rfl hr.units (pe_fld (pv 0) rfl) (pv 1) (fun _ _ => rfl))))))
theorem b_House_put (T : Tx K mg) : Binds K T.fd_House_put ["self", "name"] [] := T.F_House_put.bindsN fun _ _ _ _ _ _ us hl => match us, hl with | [_, _], _ => rfl
theorem ok_House_put (T : Tx K mg) : FnOk P HasW.w K mg base CX0 3 (He.fAd K ("Store", some "put")) T.fd_House_put ["self", "name"] (sp_House_put K) := by
  refine T.F_House_put.ok sc_House_put (fun vs H Q E h => len_House_put h) (fun cdv A outer s H vs Q E hr h => ⟨t_House_put K, PSs.nox ?_, pure_House_put h⟩)
  exact (pss_cons (ps_if (pt_not (pt_val (pe_meth (pe_fld (pv 0) rfl) T.cl_Book T.me_Book_is_name (ok_Book_is_name T) (hr.mono (by decide)) (b_Book_is_name T) .nil pass0 (pa_cons (pv 1) pa_nil)))) (pss_one ps_never) pss_nil)
      (pss_cons (ps_if (pt_cmp (pc_din (hu_of hr) (pv 1) (pe_fld (pv 0) rfl))) (pss_one (ps_ret pe_bl)) pss_nil)
      (pss_cons (ps_dput (hu_of hr) (pe_fld (pv 0) rfl) (pv 1) pe_bl rfl)
      (pss_cons (ps_fldaug (pv 0) pe_int in_add)
      (pss_one (ps_ret pe_bl))))))
theorem b_House_write (T : Tx K mg) : Binds K T.fd_House_write ["self", "content"] [] := T.F_House_write.bindsN fun _ _ _ _ _ _ us hl => match us, hl with | [_, _], _ => rfl
theorem ok_House_write (T : Tx K mg) : FnOk P HasW.w K mg base CX0 8 (He.fAd K ("Store", some "write")) T.fd_House_write ["self", "content"] (sp_House_write K) := by
  refine T.F_House_write.ok sc_House_write (fun vs H Q E h => len_House_write h) (fun cdv A outer s H vs Q E hr h => ⟨t_House_write K, PSs.nox ?_, pure_House_write h⟩)
  exact (pss_cons (ps_set (i := 2) sc_House_write.nd rfl (Or.inl rfl) (pe_meth (pe_fld (pv 0) rfl) T.cl_Book T.me_Book_named (ok_Book_named T) (hr.mono (by decide)) (b_Book_named T) .nil pass0 (pa_cons (pv 1) pa_nil)))
      (pss_cons (ps_expr (pe_meth (pv 0) T.cl_House T.mi_House_put (ok_House_put T) (hr.mono (by decide)) (b_House_put T) .nil pass0 (pa_cons (pv 2) pa_nil)))
      (pss_one (ps_ret (pv 2)))))
theorem b_Book_init (T : Tx K mg) : Binds K T.fd_Book_init ["self"] [] := T.F_Book_init.bindsN fun _ _ _ _ _ _ us hl => match us, hl with | [_], _ => rfl
theorem ok_Book_init (T : Tx K mg) : FnOk P HasW.w K mg base CX0 1 (He.fAd K ("Book", some "__init__")) T.fd_Book_init ["self"] (sp_Book_init K) := by
  refine T.F_Book_init.ok sc_Book_init (fun vs H Q E h => len_Book_init h) (fun cdv A outer s H vs Q E hr h => ⟨t_Book_init K, PSs.nox ?_, pure_Book_init h⟩)
  exact (pss_cons (ps_fld (pv 0) (pe_lst pa_nil) rfl)
      (pss_cons (ps_fld (pv 0) (pe_lst pa_nil) rfl)
      (pss_one (ps_fld (pv 0) (pe_nnew rfl) rfl))))
theorem b_Town_init (T : Tx K mg) : Binds K T.fd_Town_init ["self"] [] := T.F_Town_init.bindsN fun _ _ _ _ _ _ us hl => match us, hl with | [_], _ => rfl
theorem ok_Town_init (T : Tx K mg) : FnOk P HasW.w K mg base CX0 3 (He.fAd K ("Town", some "__init__")) T.fd_Town_init ["self"] (sp_Town_init K) := by
  refine T.F_Town_init.ok sc_Town_init (fun vs H Q E h => len_Town_init h) (fun cdv A outer s H vs Q E hr h => ⟨t_Town_init K, PSs.nox ?_, pure_Town_init h⟩)
  exact (pss_cons (ps_fld (pv 0) (pe_make0 T.mk_Book (ok_Book_init T) (hr.mono (by decide)) (by rfl) T.gc_Book (b_Book_init T) .nil pass0) rfl)
      (pss_cons (ps_fld (pv 0) pe_dnewK rfl)
      (pss_one (ps_fld (pv 0) (pe_lst pa_nil) rfl))))
theorem b_Town_labels (T : Tx K mg) : Binds K T.fd_Town_labels ["self"] [] := T.F_Town_labels.bindsN fun _ _ _ _ _ _ us hl => match us, hl with | [_], _ => rfl
theorem ok_Town_labels (T : Tx K mg) : FnOk P HasW.w K mg base CX0 1 (He.fAd K ("Town", some "labels")) T.fd_Town_labels ["self"] (sp_Town_labels K) := by
  refine T.F_Town_labels.ok sc_Town_labels (fun vs H Q E h => len_Town_labels h) (fun cdv A outer s H vs Q E hr h => ⟨t_Town_labels K, PSs.nox ?_, pure_Town_labels h⟩)
  exact (pss_one (ps_ret (pe_callB (call_sortedD (by rfl)) (by rfl) T.z_sorted (by decide +kernel) (pa_cons (pe_fld (pv 0) rfl) pa_nil))))
theorem b_House_sweep (T : Tx K mg) : ∃ ds, Vals [V.int 400] ds ∧ Binds K T.fd_House_sweep ["self", "deep"] ds := T.F_House_sweep.binds0 1 (by simp) rfl fun _ _ _ _ _ _ us ks hu hk => match us, ks, hu, hk with | [_], [_], _, _ => ⟨_, _, _, _, _, _, rfl, rfl, rfl⟩
theorem ok_House_sweep (T : Tx K mg) : FnOk P HasW.w K mg base CX0 1 (He.fAd K ("House", some "sweep")) T.fd_House_sweep ["self", "deep"] (sp_House_sweep K) := by
  refine T.F_House_sweep.ok sc_House_sweep (fun vs H Q E h => len_House_sweep h) (fun cdv A outer s H vs Q E hr h => h.elim)
theorem b_NoHouse_init (T : Tx K mg) : Binds K T.fd_NoHouse_init ["self", "label"] [] := T.F_NoHouse_init.bindsN fun _ _ _ _ _ _ us hl => match us, hl with | [_, _], _ => rfl
theorem ok_NoHouse_init (T : Tx K mg) : FnOk P HasW.w K mg base CX0 1 (He.fAd K ("NoHouse", some "__init__")) T.fd_NoHouse_init ["self", "label"] (sp_NoHouse_init K) := by
  refine T.F_NoHouse_init.ok sc_NoHouse_init (fun vs H Q E h => len_NoHouse_init h) (fun cdv A outer s H vs Q E hr h => ⟨t_NoHouse_init K, PSs.nox ?_, pure_NoHouse_init h⟩)
  exact (pss_cons (ps_expr (pe_heir (by rfl) T.gc_HouseError T.heir_HouseError (pa_cons (pv 0) (pa_cons pe_str pa_nil))))
      (pss_one (ps_ost (pv 0) (pv 1))))
theorem b_Town_house (T : Tx K mg) : Binds K T.fd_Town_house ["self", "label"] [] := T.F_Town_house.bindsN fun _ _ _ _ _ _ us hl => match us, hl with | [_, _], _ => rfl
theorem ok_Town_houseX (T : Tx K mg) : FnOk P HasW.w K mg base (L2.CX P HasW.w) 3 (He.fAd K ("Town", some "house")) T.fd_Town_house ["self", "label"] (sp_Town_houseX K) := by
  refine T.F_Town_house.ok (CX := L2.CX P HasW.w) sc_Town_house (fun vs H Q E h => len_Town_houseX h) (fun cdv A outer s H vs Q E hr h => ⟨t_Town_houseX K E, ?_, pure_Town_houseX h⟩)
  exact (pss_cons (ps_if (PW.pt (pw_or (pt_not (pt_val (pe_callB call_isi (by rfl) T.z_isinstance (by decide +kernel) (pa_cons (pv 1) (pa_cons (pe_bltn (v := .ty "str") (by rfl) T.z_str (by decide +kernel) rfl) pa_nil))))) (pw_or1 (pt_cmp (pc_dnotin (hu_of hr) (pv 1) (pe_fld (pv 0) rfl)))))) (pss_one (ps_raise rfl (takes_of rfl rfl rfl rfl) (pmk_oex T.oex_NoHouse T.ini_NoHouse T.tin_NoHouse (ok_NoHouse_init T) (hr.mono (by decide)) (b_NoHouse_init T) .nil pass0 (by rfl) T.gc_NoHouse (pa_cons (pv 1) pa_nil)))) pss_nil)
      (pss_one (ps_ret (pe_dget (hu_of hr) (pe_fld (pv 0) rfl) (pv 1) (fun _ _ => rfl)))))
theorem ok_Town_house (T : Tx K mg) : FnOk P HasW.w K mg base CX0 3 (He.fAd K ("Town", some "house")) T.fd_Town_house ["self", "label"] (sp_Town_house K) := by
  refine T.F_Town_house.ok sc_Town_house (fun vs H Q E h => len_Town_house h) (fun cdv A outer s H vs Q E hr h => ⟨t_Town_house K, PSs.nox ?_, pure_Town_house h⟩)
  exact (pss_cons (ps_if (PW.pt (pw_or (pt_not (pt_val (pe_callB call_isi (by rfl) T.z_isinstance (by decide +kernel) (pa_cons (pv 1) (pa_cons (pe_bltn (v := .ty "str") (by rfl) T.z_str (by decide +kernel) rfl) pa_nil))))) (pw_or1 (pt_cmp (pc_dnotin (hu_of hr) (pv 1) (pe_fld (pv 0) rfl)))))) (pss_one ps_never) pss_nil)
      (pss_one (ps_ret (pe_dget (hu_of hr) (pe_fld (pv 0) rfl) (pv 1) (fun _ _ => rfl)))))
theorem b_Town_sweep (T : Tx K mg) : Binds K T.fd_Town_sweep ["self", "label"] [] := T.F_Town_sweep.bindsN fun _ _ _ _ _ _ us hl => match us, hl with | [_, _], _ => rfl
theorem ok_Town_sweepX (T : Tx K mg) : FnOk P HasW.w K mg base (L2.CX P HasW.w) 4 (He.fAd K ("Town", some "sweep")) T.fd_Town_sweep ["self", "label"] (sp_Town_sweepX K) := by
  refine T.F_Town_sweep.ok (CX := L2.CX P HasW.w) sc_Town_sweep (fun vs H Q E h => len_Town_sweepX h) (fun cdv A outer s H vs Q E hr h => ⟨t_Town_sweepX K E, ?_, pure_Town_sweepX h⟩)
  exact (pss_one (ps_ret (pe_meth0 (pe_methX (pv 0) T.cl_Town T.me_Town_house (ok_Town_houseX T) (hr.mono (by decide)) (b_Town_house T) (fun σ => passAt (W := fun cls d _ H' => E cls d H') (takes_of rfl rfl rfl rfl) σ) (pa_cons (pv 1) pa_nil)) T.cl_House T.me_House_sweep (ok_House_sweep T) (hr.mono (by decide)) (b_House_sweep T).choose_spec.2 (b_House_sweep T).choose_spec.1 pass0)))
theorem b_l_alike (T : Tx K mg) : Binds K T.fd_l_alike ["_law_found", "_law_due"] [] := T.F_l_alike.bindsN fun _ _ _ _ _ _ us hl => match us, hl with | [_, _], _ => rfl
theorem ok_alikeN (T : Tx K mg) : ∀ n : Nat, FnOk P HasW.w K mg base CX0 (n + 2) (He.fAd K ("_law_alike", none)) T.fd_l_alike ["_law_found", "_law_due"] (sp_same2N K n)
  | 0 => T.F_l_alike.ok sc_l_alike (fun vs H Q E h => len_same2N h) (fun cdv A outer s H vs Q E hr h => by
      obtain ⟨_, _, _, h, _⟩ := h
      exact h.elim)
  | n + 1 => by
    have G : FnOk P HasW.w K mg base CX0 (n + 2) (He.fAd K ("_law_alike", none)) T.fd_l_alike ["_law_found", "_law_due"] (sp_same2N K n) := ok_alikeN T n
    refine T.F_l_alike.ok sc_l_alike (fun vs H Q E h => len_same2N h) (fun cdv A outer s H vs Q E hr h => ⟨t_l_alike K n, PSs.nox ?_, pure_l_alike h⟩)
    exact (pss_cons (ps_if (pt_val (pe_callB call_isiT (by rfl) T.z_isinstance (by decide +kernel) (pa_cons (pv 1) (pa_cons (pe_tup (pa_cons (pe_bltn (v := .ty "tuple") (by rfl) T.z_tuple (by decide +kernel) rfl) (pa_cons (pe_bltn (v := .ty "list") (by rfl) T.z_list (by decide +kernel) rfl) pa_nil))) pa_nil)))) (pss_cons (ps_if (PW.pt (pw_or (pt_cmpR op_ne (pe_callB call_isi (by rfl) T.z_isinstance (by decide +kernel) (pa_cons (pv 1) (pa_cons (pe_bltn (v := .ty "tuple") (by rfl) T.z_tuple (by decide +kernel) rfl) pa_nil))) (pe_callB call_isi (by rfl) T.z_isinstance (by decide +kernel) (pa_cons (pv 0) (pa_cons (pe_bltn (v := .ty "tuple") (by rfl) T.z_tuple (by decide +kernel) rfl) pa_nil))) (nomark _)) (pw_or1 (pt_not (pt_val (pe_callB call_isiT (by rfl) T.z_isinstance (by decide +kernel) (pa_cons (pv 0) (pa_cons (pe_tup (pa_cons (pe_bltn (v := .ty "tuple") (by rfl) T.z_tuple (by decide +kernel) rfl) (pa_cons (pe_bltn (v := .ty "list") (by rfl) T.z_list (by decide +kernel) rfl) pa_nil))) pa_nil)))))))) (pss_one (ps_ret pe_bl)) pss_nil)
      (pss_cons (ps_if (pt_cmpR op_ne (pe_callB call_len (by rfl) T.z_len PySem.boot_len (pa_cons (pv 0) pa_nil)) (pe_callB call_len (by rfl) T.z_len PySem.boot_len (pa_cons (pv 1) pa_nil)) (nomark _)) (pss_one (ps_ret pe_bl)) pss_nil)
      (pss_cons (ps_for PassesOwn.never rfl (pi_range1 (by rfl) T.z_range (pa_cons (pe_callB call_len (by rfl) T.z_len PySem.boot_len (pa_cons (pv 1) pa_nil)) pa_nil)) (pg_name (i := 2) sc_l_alike.nd rfl (Or.inl rfl)) (pss_one (ps_if (pt_not (pt_val (pe_call G hr (by rfl) T.g_l_alike T.F_l_alike.kp (b_l_alike T) .nil pass0 (pa_cons (pe_ix ix_seq (pv 0) (pv 2) (fun _ _ => rfl)) (pa_cons (pe_ix ix_seq (pv 1) (pv 2) (fun _ _ => rfl)) pa_nil))))) (pss_one (ps_ret pe_bl)) pss_nil)))
      (pss_one (ps_ret pe_bl))))) pss_nil)
      (pss_cons (ps_if (PW.pt (pw_or (pt_val (pe_callB call_isi (by rfl) T.z_isinstance (by decide +kernel) (pa_cons (pv 1) (pa_cons (pe_bltn (v := .ty "bool") (by rfl) T.z_bool (by decide +kernel) rfl) pa_nil)))) (pw_or1 (pt_val (pe_callB call_isi (by rfl) T.z_isinstance (by decide +kernel) (pa_cons (pv 0) (pa_cons (pe_bltn (v := .ty "bool") (by rfl) T.z_bool (by decide +kernel) rfl) pa_nil))))))) (pss_one (ps_ret (pe_and (pe_callB call_isi (by rfl) T.z_isinstance (by decide +kernel) (pa_cons (pv 1) (pa_cons (pe_bltn (v := .ty "bool") (by rfl) T.z_bool (by decide +kernel) rfl) pa_nil))) (pe_and (pe_callB call_isi (by rfl) T.z_isinstance (by decide +kernel) (pa_cons (pv 0) (pa_cons (pe_bltn (v := .ty "bool") (by rfl) T.z_bool (by decide +kernel) rfl) pa_nil))) (pe_one (pe_cmpR op_eq (pv 0) (pv 1) (nomark _))))))) pss_nil)
      (pss_cons (ps_if (pt_val (pe_callB call_isi (by rfl) T.z_isinstance (by decide +kernel) (pa_cons (pv 1) (pa_cons (pe_bltn (v := .ty "int") (by rfl) T.z_int (by decide +kernel) rfl) pa_nil)))) (pss_one (ps_ret (pe_and (pe_callB call_isi (by rfl) T.z_isinstance (by decide +kernel) (pa_cons (pv 0) (pa_cons (pe_bltn (v := .ty "int") (by rfl) T.z_int (by decide +kernel) rfl) pa_nil))) (pe_one (pe_cmpR op_eq (pv 0) (pv 1) (nomark _)))))) pss_nil)
      (pss_cons (ps_if (pt_val (pe_callB call_isi (by rfl) T.z_isinstance (by decide +kernel) (pa_cons (pv 1) (pa_cons (pe_bltn (v := .ty "str") (by rfl) T.z_str (by decide +kernel) rfl) pa_nil)))) (pss_one (ps_ret (pe_and (pe_callB call_isi (by rfl) T.z_isinstance (by decide +kernel) (pa_cons (pv 0) (pa_cons (pe_bltn (v := .ty "str") (by rfl) T.z_str (by decide +kernel) rfl) pa_nil))) (pe_one (pe_cmpR op_eq (pv 0) (pv 1) (nomark _)))))) pss_nil)
      (pss_one (ps_ret (pe_and (pe_cmpR op_isN (pv 1) pe_non (nomark _)) (pe_one (pe_cmpR op_isN (pv 0) pe_non (nomark _))))))))))
theorem ok_l_alike (T : Tx K mg) : FnOk P HasW.w K mg base CX0 8 (He.fAd K ("_law_alike", none)) T.fd_l_alike ["_law_found", "_law_due"] (sp_l_alike K) := ok_alikeN T 6
theorem b_Store_initH (T : Tx K mg) : Binds K T.fd_Store_initH ["self", "book"] [] := T.F_Store_initH.bindsN fun _ _ _ _ _ _ us hl => match us, hl with | [_, _], _ => rfl
theorem ok_Store_initH (T : Tx K mg) : FnOk P HasW.w K mg base CX0 1 (He.fAd K ("Store", some "__init__")) T.fd_Store_initH ["self", "book"] (sp_Store_initH K) := by
  refine T.F_Store_initH.ok sc_Store_initH (fun vs H Q E h => len_Store_initH h) (fun cdv A outer s H vs Q E hr h => ⟨t_Store_initH K, PSs.nox ?_, pure_Store_initH h⟩)
  exact (pss_cons (ps_fld (pv 0) (pv 1) rfl)
      (pss_cons (ps_fld (pv 0) pe_dnewK rfl)
      (pss_one (ps_fld (pv 0) pe_int rfl))))
theorem b_House_init (T : Tx K mg) : Binds K T.fd_House_init ["self", "book"] [] := T.F_House_init.bindsN fun _ _ _ _ _ _ us hl => match us, hl with | [_, _], _ => rfl
theorem ok_House_init (T : Tx K mg) : FnOk P HasW.w K mg base CX0 2 (He.fAd K ("House", some "__init__")) T.fd_House_init ["self", "book"] (sp_House_init K) := by
  refine T.F_House_init.ok sc_House_init (fun vs H Q E h => len_House_init h) (fun cdv A outer s H vs Q E hr h => ⟨t_House_init K, PSs.nox ?_, pure_House_init h⟩)
  exact (pss_cons (ps_expr (pe_clsm (by rfl) T.gc_Store T.cg_Store_init (ok_Store_initH T) (hr.mono (by decide)) (b_Store_initH T) .nil pass0 (pa_cons (pv 0) (pa_cons (pv 1) pa_nil))))
      (pss_cons (ps_fld (pv 0) pe_dnewK rfl)
      (pss_cons (ps_fld (pv 0) (pe_lst pa_nil) rfl)
      (pss_cons (ps_fld (pv 0) (pe_nnew rfl) rfl)
      (pss_one (ps_fld (pv 0) (pe_lst pa_nil) rfl))))))
theorem b_Taken_init (T : Tx K mg) : Binds K T.fd_Taken_init ["self", "label"] [] := T.F_Taken_init.bindsN fun _ _ _ _ _ _ us hl => match us, hl with | [_, _], _ => rfl
theorem ok_Taken_init (T : Tx K mg) : FnOk P HasW.w K mg base CX0 1 (He.fAd K ("Taken", some "__init__")) T.fd_Taken_init ["self", "label"] (sp_Taken_init K) := by
  refine T.F_Taken_init.ok sc_Taken_init (fun vs H Q E h => len_Taken_init h) (fun cdv A outer s H vs Q E hr h => ⟨t_Taken_init K, PSs.nox ?_, pure_Taken_init h⟩)
  exact (pss_cons (ps_expr (pe_heir (by rfl) T.gc_HouseError T.heir_HouseError (pa_cons (pv 0) (pa_cons pe_str pa_nil))))
      (pss_one (ps_ost (pv 0) (pv 1))))
theorem b_Town_build (T : Tx K mg) : Binds K T.fd_Town_build ["self", "label"] [] := T.F_Town_build.bindsN fun _ _ _ _ _ _ us hl => match us, hl with | [_, _], _ => rfl
theorem ok_Town_buildX (T : Tx K mg) : FnOk P HasW.w K mg base (L2.CX P HasW.w) 4 (He.fAd K ("Town", some "build")) T.fd_Town_build ["self", "label"] (sp_Town_buildX K) := by
  refine T.F_Town_build.ok (CX := L2.CX P HasW.w) sc_Town_build (fun vs H Q E h => len_Town_buildX h) (fun cdv A outer s H vs Q E hr h => ⟨t_Town_buildX K E, ?_, pure_Town_buildX h⟩)
  exact (pss_cons (ps_if (pt_cmp (pc_din (hu_of hr) (pv 1) (pe_fld (pv 0) rfl))) (pss_one (ps_raise rfl (takes_of rfl rfl rfl rfl) (pmk_oex T.oex_Taken T.ini_Taken T.tin_Taken (ok_Taken_init T) (hr.mono (by decide)) (b_Taken_init T) .nil pass0 (by rfl) T.gc_Taken (pa_cons (pv 1) pa_nil)))) pss_nil)
      (pss_cons (ps_dput (hu_of hr) (pe_fld (pv 0) rfl) (pv 1) (pe_make T.mk_House (ok_House_init T) (hr.mono (by decide)) (by rfl) T.gc_House (b_House_init T) .nil pass0 (pa_cons (pe_fld (pv 0) rfl) pa_nil)) rfl)
      (pss_one (ps_ret (pe_dget (hu_of hr) (pe_fld (pv 0) rfl) (pv 1) (fun _ _ => rfl))))))
theorem ok_Town_build (T : Tx K mg) : FnOk P HasW.w K mg base CX0 4 (He.fAd K ("Town", some "build")) T.fd_Town_build ["self", "label"] (sp_Town_build K) := by
  refine T.F_Town_build.ok sc_Town_build (fun vs H Q E h => len_Town_build h) (fun cdv A outer s H vs Q E hr h => ⟨t_Town_build K, PSs.nox ?_, pure_Town_build h⟩)
  exact (pss_cons (ps_if (pt_cmp (pc_din (hu_of hr) (pv 1) (pe_fld (pv 0) rfl))) (pss_one ps_never) pss_nil)
      (pss_cons (ps_dput (hu_of hr) (pe_fld (pv 0) rfl) (pv 1) (pe_make T.mk_House (ok_House_init T) (hr.mono (by decide)) (by rfl) T.gc_House (b_House_init T) .nil pass0 (pa_cons (pe_fld (pv 0) rfl) pa_nil)) rfl)
      (pss_one (ps_ret (pe_dget (hu_of hr) (pe_fld (pv 0) rfl) (pv 1) (fun _ _ => rfl))))))
theorem b_l_mixed (T : Tx K mg) : Binds K T.fd_l_mixed ["_law_cell", "_law_turn"] [] := T.F_l_mixed.bindsN fun _ _ _ _ _ _ us hl => match us, hl with | [_, _], _ => rfl
theorem ok_l_mixed (T : Tx K mg) : FnOk P HasW.w K mg base CX0 1 (He.fAd K ("_law_mixed", none)) T.fd_l_mixed ["_law_cell", "_law_turn"] (sp_l_mixed K) := by
  refine T.F_l_mixed.ok sc_l_mixed (fun vs H Q E h => len_l_mixed h) (fun cdv A outer s H vs Q E hr h => ⟨t_l_mixed K, PSs.nox ?_, pure_l_mixed h⟩)
  exact (pss_one (ps_ret (pe_op op_mod (pe_op op_pow (pe_op op_add (pe_op op_add (pe_op op_mod (pv 0) pe_int) (pe_op op_mul (pv 1) pe_int)) pe_int) pe_int) pe_int)))
theorem b_l_draw (T : Tx K mg) : Binds K T.fd_l_draw ["_law_deck_here", "_law_many"] [] := T.F_l_draw.bindsN fun _ _ _ _ _ _ us hl => match us, hl with | [_, _], _ => rfl
theorem ok_l_draw (T : Tx K mg) : FnOk P HasW.w K mg base CX0 2 (He.fAd K ("_law_draw", none)) T.fd_l_draw ["_law_deck_here", "_law_many"] (sp_l_draw K) := by
  refine T.F_l_draw.ok sc_l_draw (fun vs H Q E h => len_l_draw h) (fun cdv A outer s H vs Q E hr h => ⟨t_l_draw K, PSs.nox ?_, pure_l_draw h⟩)
  exact (pss_cons (ps_set (i := 2) sc_l_draw.nd rfl (Or.inl rfl) (pe_ix ix_seq (pv 0) pe_int (fun _ _ => rfl)))
      (pss_cons (ps_asg (pe_op op_add (pe_ix ix_seq (pv 0) pe_int (fun _ _ => rfl)) pe_int) (pg_sub (pv 0) pe_int set_list))
      (pss_cons (ps_if (PW.pt (pw_and (pt_cmpR op_eq (pe_ix ix_seq (pv 0) pe_int (fun _ _ => rfl)) pe_int (nomark _)) (pw_and1 (pt_cmpR op_lt (pe_ix ix_seq (pv 0) pe_int (fun _ _ => rfl)) (pe_callB call_len (by rfl) T.z_len PySem.boot_len (pa_cons (pv 2) pa_nil)) (nomark _))))) (pss_cons (ps_asg (pe_op op_add (pe_ix ix_seq (pv 0) pe_int (fun _ _ => rfl)) pe_int) (pg_sub (pv 0) pe_int set_list))
      (pss_cons (ps_if (pt_cmpR op_lt (pe_ix ix_seq (pv 2) (pe_op op_sub (pe_ix ix_seq (pv 0) pe_int (fun _ _ => rfl)) pe_int) (fun _ _ => rfl)) (pe_op op_pow pe_int pe_int) (nomark _)) (pss_one (ps_ret (pe_op op_mod (pe_call (ok_l_mixed T) (hr.mono (by decide)) (by rfl) T.g_l_mixed T.F_l_mixed.kp (b_l_mixed T) .nil pass0 (pa_cons (pe_ix ix_seq (pv 2) (pe_op op_sub (pe_ix ix_seq (pv 0) pe_int (fun _ _ => rfl)) pe_int) (fun _ _ => rfl)) (pa_cons (pe_ix ix_seq (pv 0) pe_int (fun _ _ => rfl)) pa_nil))) (pv 1)))) pss_nil)
      (pss_one (ps_asg (pe_ix ix_seq (pv 2) (pe_op op_sub (pe_ix ix_seq (pv 0) pe_int (fun _ _ => rfl)) pe_int) (fun _ _ => rfl)) (pg_sub (pv 0) pe_int set_list))))) pss_nil)
      (pss_cons (ps_if (pt_cmpR op_gt (pe_ix ix_seq (pv 0) pe_int (fun _ _ => rfl)) pe_int (nomark _)) (pss_cons (ps_set (i := 3) sc_l_draw.nd rfl (Or.inl rfl) (pe_op op_mod (pe_ix ix_seq (pv 0) pe_int (fun _ _ => rfl)) (pv 1)))
      (pss_cons (ps_asg (pe_op op_fdivW (pe_ix ix_seq (pv 0) pe_int (fun _ _ => rfl)) (pv 1)) (pg_sub (pv 0) pe_int set_list))
      (pss_one (ps_ret (pv 3))))) pss_nil)
      (pss_cons (ps_set (i := 4) sc_l_draw.nd rfl (Or.inl rfl) (pe_op op_mul (pe_ix ix_seq (pv 0) pe_int (fun _ _ => rfl)) pe_int))
      (pss_cons (ps_if (pt_cmpR op_gt (pe_callB call_len (by rfl) T.z_len PySem.boot_len (pa_cons (pv 2) pa_nil)) pe_int (nomark _)) (pss_one (ps_set (i := 4) sc_l_draw.nd rfl (Or.inl rfl) (pe_op op_add (pv 4) (pe_op op_mod (pe_ix ix_seq (pv 2) (pe_op op_mod (pe_op op_mul (pe_ix ix_seq (pv 0) pe_int (fun _ _ => rfl)) pe_int) (pe_callB call_len (by rfl) T.z_len PySem.boot_len (pa_cons (pv 2) pa_nil))) (fun _ _ => rfl)) pe_int)))) pss_nil)
      (pss_one (ps_ret (pe_op op_mod (pe_call (ok_l_mixed T) (hr.mono (by decide)) (by rfl) T.g_l_mixed T.F_l_mixed.kp (b_l_mixed T) .nil pass0 (pa_cons (pv 4) (pa_cons (pe_ix ix_seq (pv 0) pe_int (fun _ _ => rfl)) pa_nil))) (pv 1))))))))))
theorem b_l_label (T : Tx K mg) : Binds K T.fd_l_label ["_law_deck_here"] [] := T.F_l_label.bindsN fun _ _ _ _ _ _ us hl => match us, hl with | [_], _ => rfl
theorem ok_l_label (T : Tx K mg) : FnOk P HasW.w K mg base CX0 3 (He.fAd K ("_law_label", none)) T.fd_l_label ["_law_deck_here"] (sp_l_label K) := by
  refine T.F_l_label.ok sc_l_label (fun vs H Q E h => len_l_label h) (fun cdv A outer s H vs Q E hr h => ⟨t_l_label K, PSs.nox ?_, pure_l_label h⟩)
  exact (pss_cons (ps_if (pt_cmpR op_gt (pe_call (ok_l_draw T) (hr.mono (by decide)) (by rfl) T.g_l_draw T.F_l_draw.kp (b_l_draw T) .nil pass0 (pa_cons (pv 0) (pa_cons pe_int pa_nil))) pe_int (nomark _)) (pss_one (ps_ret (pe_ix ix_seq pe_str (pe_call (ok_l_draw T) (hr.mono (by decide)) (by rfl) T.g_l_draw T.F_l_draw.kp (b_l_draw T) .nil pass0 (pa_cons (pv 0) (pa_cons pe_int pa_nil))) (fun _ _ => rfl)))) pss_nil)
      (pss_cons (ps_set (i := 1) sc_l_label.nd rfl (Or.inr rfl) pe_str)
      (pss_one (ps_ret (pe_join pe_str (pe_lc (own := [("_law_k", 2)]) (g := (gName 2)) (tt := tYes) (te := (tOp (rIx K) (tVar 1) (tCall (sp_l_draw K) [] E0 (tCons (tVar 0) (tCons (tC (.int 26)) tNil))))) rfl sc_l_label.nd (pi_range1 (by rfl) T.z_range (pa_cons (pe_op op_add pe_int (pe_call (ok_l_draw T) (hr.mono (by decide)) (by rfl) T.g_l_draw T.F_l_draw.kp (b_l_draw T) .nil pass0 (pa_cons (pv 0) (pa_cons pe_int pa_nil)))) pa_nil)) (blkOk_by (own := [("_law_k", 2)]) (N := N_l_label) (sc := defScope s_l_label) (by decide +kernel)) (fun _ _ _ _ _ => (pg_name (i := 2) sc_l_label.nd rfl (Or.inl rfl))) (fun _ _ _ _ _ => pts_nil) (fun _ _ _ _ _ => (pe_ix ix_seq (pv 1) (pe_call (ok_l_draw T) (hr.mono (by decide)) (by rfl) T.g_l_draw T.F_l_draw.kp (b_l_draw T) .nil pass0 (pa_cons (pv 0) (pa_cons pe_int pa_nil))) (fun _ _ => rfl)))))))))
theorem b_l_town_why (T : Tx K mg) : Binds K T.fd_l_town_why ["_law_deed"] [] := T.F_l_town_why.bindsN fun _ _ _ _ _ _ us hl => match us, hl with | [_], _ => rfl
theorem why_gives (T : Tx K mg) {N : List Str} {qn : Str} {sc : Scope} {fa : Addr} {cdl : Value} {A : Around} {outer : List Env} {s : Shared} {H : Hp} {E : XK} {q : Str} {k : Nat} (hr : Room (k + 1) (A.deeper (PyProof.Rows.envOfC qn sc s.heap.objs.size fa cdl))) (cdv : Value) :
    LamX.GivesTo (cxOf CX0 P HasW.w K mg base N qn sc fa cdl A outer s H E).nox N_l_town_why "_law_town_why" (defScope s_l_town_why) (He.fAd K ("_law_town_why", none)) cdv (defBody s_l_town_why) "_law_deed" q (TTown K) := by
  intro f c' s1 H1 Q tl act hc h
  have hr := hr.deeper (PyProof.Rows.envOfC "_law_town_why" (defScope s_l_town_why) s1.heap.objs.size (He.fAd K ("_law_town_why", none)) cdv)
  have hu := units65b hr
  refine ⟨t_l_town_why K f c' q tl, ?_, why_pureT h hc⟩
  exact (pss_cons (ps_set (i := 1) sc_l_town_why.nd rfl (Or.inl rfl) (pe_tup (pa_cons pe_str (pa_cons pe_non pa_nil))))
      (pss_cons (ps_try_as (i := 2) (tb := fun W => (tDrop (tDeed 4 f c' q tl W))) (ts := fun xa xcls xd => (tSeq (tAsg (tLst (tCons (tCB (rIsU K xa xcls xd) (tCons (tVar 2) (tCons (tC (.ref (He.ga K "NoHouse"))) tNil))) (tCons (tCB (rIsU K xa xcls xd) (tCons (tVar 2) (tCons (tC (.ref (He.ga K "Taken"))) tNil))) (tCons (tCB (rIsU K xa xcls xd) (tCons (tVar 2) (tCons (tC (.ref (He.ga K "NoTalk"))) tNil))) (tCons (tCB (rIsU K xa xcls xd) (tCons (tVar 2) (tCons (tC (.ref (He.ga K "TooMany"))) tNil))) tNil))))) (gName 3))
    (tSeq (tAsg (tOp rCat (tVar 3) (tLst (tCons (tCB (rIsU K xa xcls xd) (tCons (tVar 2) (tCons (tC (.ref (He.ga K "NoMark"))) tNil))) (tCons (tCB (rIsU K xa xcls xd) (tCons (tVar 2) (tCons (tC (.ref (He.ga K "Broken"))) tNil))) (tCons (tCB (rIsU K xa xcls xd) (tCons (tVar 2) (tCons (tC (.ref (He.ga K "Lack"))) tNil))) (tCons (tCB (rIsU K xa xcls xd) (tCons (tVar 2) (tCons (tC (.ref (He.ga K "NoName"))) tNil))) tNil)))))) (gName 3))
    (tSeq (tAsg (tTup (tCons (tC (.str "other")) (tCons (tC .non) tNil))) (gName 1))
    (tIfS (tAnd (tB (tCB (rIsU K xa xcls xd) (tCons (tVar 2) (tCons (tC (.ty "ValueError")) tNil)))) (tTest (tOp rEq (tBM K "list" (rCntD K) (tVar 3) (tCons (tC (.bl true)) tNil)) (tC (.int 1))))) (tSeq (tAsg (tTup (tCons (tC (.str "TooMany")) (tCons (tC .non) tNil))) (gName 1))
    (tSeq (tIfS (tOr (tB (tCB (rIsU K xa xcls xd) (tCons (tVar 2) (tCons (tC (.ref (He.ga K "NoHouse"))) tNil)))) (tB (tCB (rIsU K xa xcls xd) (tCons (tVar 2) (tCons (tC (.ref (He.ga K "Taken"))) tNil))))) (tAsg (tTup (tCons (tOp (rIx K) (tLst (tCons (tC (.str "NoHouse")) (tCons (tC (.str "Taken")) tNil))) (tBM K "list" (rIndexD K) (tVar 3) (tCons (tC (.bl true)) tNil))) (tCons (tXfU K xa xcls xd "label" (tVar 2)) tNil))) (gName 1)) tNext)
    (tSeq (tIfS (tB (tCB (rIsU K xa xcls xd) (tCons (tVar 2) (tCons (tC (.ref (He.ga K "NoTalk"))) tNil)))) (tAsg (tTup (tCons (tC (.str "NoTalk")) (tCons (tXfU K xa xcls xd "number" (tVar 2)) tNil))) (gName 1)) tNext)
    (tSeq (tIfS (tB (tCB (rIsU K xa xcls xd) (tCons (tVar 2) (tCons (tC (.ref (He.ga K "NoMark"))) tNil)))) (tAsg (tTup (tCons (tC (.str "NoMark")) (tCons (tXfU K xa xcls xd "mark" (tVar 2)) tNil))) (gName 1)) tNext)
    (tSeq (tIfS (tB (tCB (rIsU K xa xcls xd) (tCons (tVar 2) (tCons (tC (.ref (He.ga K "Broken"))) tNil)))) (tAsg (tTup (tCons (tC (.str "Broken")) (tCons (tXfU K xa xcls xd "rows" (tVar 2)) tNil))) (gName 1)) tNext)
    (tIfS (tOr (tB (tCB (rIsU K xa xcls xd) (tCons (tVar 2) (tCons (tC (.ref (He.ga K "Lack"))) tNil)))) (tB (tCB (rIsU K xa xcls xd) (tCons (tVar 2) (tCons (tC (.ref (He.ga K "NoName"))) tNil))))) (tAsg (tTup (tCons (tC (.str "name")) (tCons (tXfU K xa xcls xd "name" (tVar 2)) tNil))) (gName 1)) tNext)))))) tNext))))) rfl rfl sc_l_town_why.nd rfl rfl ⟨rfl, by decide, .inl T.gc_HouseError⟩ takes0 (fun W pn xe tk _ => (pss_one (ps_expr (pe_deed (fun W' E p1 p2 => act W' pn xe E p1 p2) tk)))) (fun xa oe xcls xd pn xhz xhf => (pss_cons (ps_set (i := 3) sc_l_town_why.nd rfl (Or.inl rfl) (pe_lst (pa_cons (pe_callB (call_isU xhz xhf) (by rfl) T.z_isinstance (by decide +kernel) (pa_cons (pv 2) (pa_cons (pe_glob (v := .ref (He.ga K "NoHouse")) (by rfl) T.gc_NoHouse rfl) pa_nil))) (pa_cons (pe_callB (call_isU xhz xhf) (by rfl) T.z_isinstance (by decide +kernel) (pa_cons (pv 2) (pa_cons (pe_glob (v := .ref (He.ga K "Taken")) (by rfl) T.gc_Taken rfl) pa_nil))) (pa_cons (pe_callB (call_isU xhz xhf) (by rfl) T.z_isinstance (by decide +kernel) (pa_cons (pv 2) (pa_cons (pe_glob (v := .ref (He.ga K "NoTalk")) (by rfl) T.gc_NoTalk rfl) pa_nil))) (pa_cons (pe_callB (call_isU xhz xhf) (by rfl) T.z_isinstance (by decide +kernel) (pa_cons (pv 2) (pa_cons (pe_glob (v := .ref (He.ga K "TooMany")) (by rfl) T.gc_TooMany rfl) pa_nil))) pa_nil))))))
      (pss_cons (ps_set (i := 3) sc_l_town_why.nd rfl (Or.inl rfl) (pe_op op_cat (pv 3) (pe_lst (pa_cons (pe_callB (call_isU xhz xhf) (by rfl) T.z_isinstance (by decide +kernel) (pa_cons (pv 2) (pa_cons (pe_glob (v := .ref (He.ga K "NoMark")) (by rfl) T.gc_NoMark rfl) pa_nil))) (pa_cons (pe_callB (call_isU xhz xhf) (by rfl) T.z_isinstance (by decide +kernel) (pa_cons (pv 2) (pa_cons (pe_glob (v := .ref (He.ga K "Broken")) (by rfl) T.gc_Broken rfl) pa_nil))) (pa_cons (pe_callB (call_isU xhz xhf) (by rfl) T.z_isinstance (by decide +kernel) (pa_cons (pv 2) (pa_cons (pe_glob (v := .ref (He.ga K "Lack")) (by rfl) T.gc_Lack rfl) pa_nil))) (pa_cons (pe_callB (call_isU xhz xhf) (by rfl) T.z_isinstance (by decide +kernel) (pa_cons (pv 2) (pa_cons (pe_glob (v := .ref (He.ga K "NoName")) (by rfl) T.gc_NoName rfl) pa_nil))) pa_nil)))))))
      (pss_cons (ps_set (i := 1) sc_l_town_why.nd rfl (Or.inl rfl) (pe_tup (pa_cons pe_str (pa_cons pe_non pa_nil))))
      (pss_one (ps_if (PW.pt (pw_and (pt_val (pe_callB (call_isU xhz xhf) (by rfl) T.z_isinstance (by decide +kernel) (pa_cons (pv 2) (pa_cons (pe_bltn (v := .ty "ValueError") (by rfl) T.z_ValueError (by decide +kernel) rfl) pa_nil)))) (pw_and1 (pt_cmpR op_eq (pe_bm PySem.F.plainAttrs_list PySem.F.slot_list_count PySem.F.type_list_count (mt_cntD hu) (pv 3) (pa_cons pe_bl pa_nil)) pe_int (nomark _))))) (pss_cons (ps_set (i := 1) sc_l_town_why.nd rfl (Or.inl rfl) (pe_tup (pa_cons pe_str (pa_cons pe_non pa_nil))))
      (pss_cons (ps_if (PW.pt (pw_or (pt_val (pe_callB (call_isU xhz xhf) (by rfl) T.z_isinstance (by decide +kernel) (pa_cons (pv 2) (pa_cons (pe_glob (v := .ref (He.ga K "NoHouse")) (by rfl) T.gc_NoHouse rfl) pa_nil)))) (pw_or1 (pt_val (pe_callB (call_isU xhz xhf) (by rfl) T.z_isinstance (by decide +kernel) (pa_cons (pv 2) (pa_cons (pe_glob (v := .ref (He.ga K "Taken")) (by rfl) T.gc_Taken rfl) pa_nil))))))) (pss_one (ps_set (i := 1) sc_l_town_why.nd rfl (Or.inl rfl) (pe_tup (pa_cons (pe_ix ix_seq (pe_lst (pa_cons pe_str (pa_cons pe_str pa_nil))) (pe_bm PySem.F.plainAttrs_list PySem.F.slot_list_index PySem.F.type_list_index (mt_indexD hu) (pv 3) (pa_cons pe_bl pa_nil)) (fun _ _ => rfl)) (pa_cons (pe_xfU xhz xhf (pv 2)) pa_nil))))) pss_nil)
      (pss_cons (ps_if (pt_val (pe_callB (call_isU xhz xhf) (by rfl) T.z_isinstance (by decide +kernel) (pa_cons (pv 2) (pa_cons (pe_glob (v := .ref (He.ga K "NoTalk")) (by rfl) T.gc_NoTalk rfl) pa_nil)))) (pss_one (ps_set (i := 1) sc_l_town_why.nd rfl (Or.inl rfl) (pe_tup (pa_cons pe_str (pa_cons (pe_xfU xhz xhf (pv 2)) pa_nil))))) pss_nil)
      (pss_cons (ps_if (pt_val (pe_callB (call_isU xhz xhf) (by rfl) T.z_isinstance (by decide +kernel) (pa_cons (pv 2) (pa_cons (pe_glob (v := .ref (He.ga K "NoMark")) (by rfl) T.gc_NoMark rfl) pa_nil)))) (pss_one (ps_set (i := 1) sc_l_town_why.nd rfl (Or.inl rfl) (pe_tup (pa_cons pe_str (pa_cons (pe_xfU xhz xhf (pv 2)) pa_nil))))) pss_nil)
      (pss_cons (ps_if (pt_val (pe_callB (call_isU xhz xhf) (by rfl) T.z_isinstance (by decide +kernel) (pa_cons (pv 2) (pa_cons (pe_glob (v := .ref (He.ga K "Broken")) (by rfl) T.gc_Broken rfl) pa_nil)))) (pss_one (ps_set (i := 1) sc_l_town_why.nd rfl (Or.inl rfl) (pe_tup (pa_cons pe_str (pa_cons (pe_xfU xhz xhf (pv 2)) pa_nil))))) pss_nil)
      (pss_one (ps_if (PW.pt (pw_or (pt_val (pe_callB (call_isU xhz xhf) (by rfl) T.z_isinstance (by decide +kernel) (pa_cons (pv 2) (pa_cons (pe_glob (v := .ref (He.ga K "Lack")) (by rfl) T.gc_Lack rfl) pa_nil)))) (pw_or1 (pt_val (pe_callB (call_isU xhz xhf) (by rfl) T.z_isinstance (by decide +kernel) (pa_cons (pv 2) (pa_cons (pe_glob (v := .ref (He.ga K "NoName")) (by rfl) T.gc_NoName rfl) pa_nil))))))) (pss_one (ps_set (i := 1) sc_l_town_why.nd rfl (Or.inl rfl) (pe_tup (pa_cons pe_str (pa_cons (pe_xfU xhz xhf (pv 2)) pa_nil))))) pss_nil))))))) pss_nil)))))))
      (pss_one (ps_ret (pv 1)))))
theorem b_l_built (T : Tx K mg) : Binds K T.fd_l_built ["_law_deck_here", "_law_town", "_law_homes"] [] := T.F_l_built.bindsN fun _ _ _ _ _ _ us hl => match us, hl with | [_, _, _], _ => rfl
theorem ok_l_built (T : Tx K mg) (tb_l_built : LamX.TabB base mg (He.cT K ("_law_built", none)).1 (tabA K "_law_built")) : FnOk P HasW.w K mg base CX0 14 (He.fAd K ("_law_built", none)) T.fd_l_built ["_law_deck_here", "_law_town", "_law_homes"] (sp_l_built K) := by
  refine okC (CX := CX0) T.F_l_built sc_l_built (fun vs H Q E h => len_l_built h) (fun cdv A outer s H vs Q E hcode hr h => ⟨t_l_built K, PSs.nox ?_, pure_l_built h⟩)
  exact (pss_cons (ps_set (i := 3) sc_l_built.nd rfl (Or.inr rfl) (pe_call (ok_l_label T) (hr.mono (by decide)) (by rfl) T.g_l_label T.F_l_label.kp (b_l_label T) .nil pass0 (pa_cons (pv 0) pa_nil)))
      (pss_cons (ps_if (pt_cmp (pc_din (hu_of hr) (pv 3) (pv 2))) (pss_one (ps_ret (pe_call (ok_l_alike T) (hr.mono (by decide)) (by rfl) T.g_l_alike T.F_l_alike.kp (b_l_alike T) .nil pass0 (pa_cons (pe_lamD (ds := ["_law_built", "law"]) (d := "_law_built") (k := 9) T.F_l_town_why T.g_l_town_why (b_l_town_why T) sc_l_town_why rfl (Or.inl rfl) rfl (fun cdv => why_gives T hr cdv) tb_l_built hcode rfl (by simp) (k80_hunB T.more) (hr.mono (by decide)) (LamX.lamS_by (sc := defScope s_l_built) (by decide +kernel)) rfl (fun _ _ _ _ _ => rfl) (fun A outer s H E f c' hr2 => (pe_meth (pv 1) T.cl_Town T.me_Town_build (ok_Town_buildX T) (hr2.mono (by decide)) (b_Town_build T) .nil (passes_call (W := fun cls d _ H' => E cls d H') (takes_of rfl rfl rfl rfl) (fun _ _ _ _ h => h)) (pa_cons (pv 3) pa_nil)))) (pa_cons (pe_tup (pa_cons pe_str (pa_cons (pv 3) pa_nil))) pa_nil))))) pss_nil)
      (pss_cons (ps_if (pt_not (pt_val (pe_call (ok_l_alike T) (hr.mono (by decide)) (by rfl) T.g_l_alike T.F_l_alike.kp (b_l_alike T) .nil pass0 (pa_cons (pe_lamD (ds := ["_law_built", "law"]) (d := "_law_built") (k := 9) T.F_l_town_why T.g_l_town_why (b_l_town_why T) sc_l_town_why rfl (Or.inl rfl) rfl (fun cdv => why_gives T hr cdv) tb_l_built hcode rfl (by simp) (k80_hunB T.more) (hr.mono (by decide)) (LamX.lamS_by (sc := defScope s_l_built) (by decide +kernel)) rfl (fun _ _ _ _ _ => rfl) (fun A outer s H E f c' hr2 => (pe_meth (pv 1) T.cl_Town T.me_Town_house (ok_Town_houseX T) (hr2.mono (by decide)) (b_Town_house T) .nil (passes_call (W := fun cls d _ H' => E cls d H') (takes_of rfl rfl rfl rfl) (fun _ _ _ _ h => h)) (pa_cons (pv 3) pa_nil)))) (pa_cons (pe_tup (pa_cons pe_str (pa_cons (pv 3) pa_nil))) pa_nil))))) (pss_one (ps_ret pe_bl)) pss_nil)
      (pss_cons (ps_dput (hu_of hr) (pv 2) (pv 3) (pe_meth (pv 1) T.cl_Town T.me_Town_build (ok_Town_build T) (hr.mono (by decide)) (b_Town_build T) .nil pass0 (pa_cons (pv 3) pa_nil)) rfl)
      (pss_one (ps_ret (pe_and (pe_callB call_isi (by rfl) T.z_isinstance (by decide +kernel) (pa_cons (pe_dget (hu_of hr) (pv 2) (pv 3) (fun _ _ => rfl)) (pa_cons (pe_glob (v := .ref (He.ga K "House")) (by rfl) T.gc_House rfl) pa_nil))) (pe_one (pe_cmpR (op_objEq hr) (pe_meth (pv 1) T.cl_Town T.me_Town_house (ok_Town_house T) (hr.mono (by decide)) (b_Town_house T) .nil pass0 (pa_cons (pv 3) pa_nil)) (pe_dget (hu_of hr) (pv 2) (pv 3) (fun _ _ => rfl)) (nomark _))))))))))
theorem b_l_deck (T : Tx K mg) : Binds K T.fd_l_deck ["_law_script"] [] := T.F_l_deck.bindsN fun _ _ _ _ _ _ us hl => match us, hl with | [_], _ => rfl
theorem ok_l_deck (T : Tx K mg) : FnOk P HasW.w K mg base CX0 1 (He.fAd K ("_law_deck", none)) T.fd_l_deck ["_law_script"] (sp_l_deck K) := by
  refine T.F_l_deck.ok sc_l_deck (fun vs H Q E h => len_l_deck h) (fun cdv A outer s H vs Q E hr h => ⟨t_l_deck K, PSs.nox ?_, pure_l_deck h⟩)
  exact (pss_one (ps_ret (pe_lst (pa_cons (pe_callTy call_list_of (by rfl) T.z_list (by decide +kernel) (pa_cons (pv 0) pa_nil)) (pa_cons pe_int (pa_cons pe_int (pa_cons pe_int pa_nil)))))))
theorem b_House_held (T : Tx K mg) : Binds K T.fd_House_held ["self"] [] := T.F_House_held.bindsN fun _ _ _ _ _ _ us hl => match us, hl with | [_], _ => rfl
theorem ok_House_held (T : Tx K mg) : FnOk P HasW.w K mg base CX0 1 (He.fAd K ("Store", some "held")) T.fd_House_held ["self"] (sp_House_held K) := by
  refine T.F_House_held.ok sc_House_held (fun vs H Q E h => len_House_held h) (fun cdv A outer s H vs Q E hr h => ⟨t_House_held K, PSs.nox ?_, pure_House_held h⟩)
  exact (pss_one (ps_ret (pe_callB (cr_sortedK rfl) (by rfl) T.z_sorted (by decide +kernel) (pa_cons (pe_fld (pv 0) rfl) pa_nil))))
theorem b_l_stands (T : Tx K mg) : Binds K T.fd_l_stands ["_law_town", "_law_homes", "_law_held"] [] := T.F_l_stands.bindsN fun _ _ _ _ _ _ us hl => match us, hl with | [_, _, _], _ => rfl
theorem ok_l_stands (T : Tx K mg) : FnOk P HasW.w K mg base CX0 9 (He.fAd K ("_law_stands", none)) T.fd_l_stands ["_law_town", "_law_homes", "_law_held"] (sp_l_stands K) := by
  refine T.F_l_stands.ok sc_l_stands (fun vs H Q E h => len_l_stands h) (fun cdv A outer s H vs Q E hr h => ⟨t_l_stands K, PSs.nox ?_, pure_l_stands h⟩)
  exact (pss_cons (ps_if (pt_not (pt_val (pe_call (ok_l_alike T) (hr.mono (by decide)) (by rfl) T.g_l_alike T.F_l_alike.kp (b_l_alike T) .nil pass0 (pa_cons (pe_meth0 (pv 0) T.cl_Town T.me_Town_labels (ok_Town_labels T) (hr.mono (by decide)) (b_Town_labels T) .nil pass0) (pa_cons (pe_callB (call_sortedD (by rfl)) (by rfl) T.z_sorted (by decide +kernel) (pa_cons (pv 1) pa_nil)) pa_nil))))) (pss_one (ps_ret pe_bl)) pss_nil)
      (pss_cons (ps_for PassesOwn.never rfl (pi_list (pe_callB (call_sortedD (by rfl)) (by rfl) T.z_sorted (by decide +kernel) (pa_cons (pv 1) pa_nil))) (pg_name (i := 3) sc_l_stands.nd rfl (Or.inl rfl)) (pss_cons (ps_if (PW.pt (pw_or (pt_cmpR (op_neSame hr) (pe_meth (pv 0) T.cl_Town T.me_Town_house (ok_Town_house T) (hr.mono (by decide)) (b_Town_house T) .nil pass0 (pa_cons (pv 3) pa_nil)) (pe_dget (hu_of hr) (pv 1) (pv 3) (fun _ _ => rfl)) (nomark _)) (pw_or1 (pt_cmpR (op_neSame hr) (pe_fld (pe_dget (hu_of hr) (pv 1) (pv 3) (fun _ _ => rfl)) rfl) (pe_fld (pv 0) rfl) (nomark _))))) (pss_one (ps_ret pe_bl)) pss_nil)
      (pss_one (ps_if (pt_not (pt_val (pe_call (ok_l_alike T) (hr.mono (by decide)) (by rfl) T.g_l_alike T.F_l_alike.kp (b_l_alike T) .nil pass0 (pa_cons (pe_meth0 (pe_meth (pv 0) T.cl_Town T.me_Town_house (ok_Town_house T) (hr.mono (by decide)) (b_Town_house T) .nil pass0 (pa_cons (pv 3) pa_nil)) T.cl_House T.mi_House_held (ok_House_held T) (hr.mono (by decide)) (b_House_held T) .nil pass0) (pa_cons (pe_dget2 (hu_of hr) (pv 2) (pv 3) (pe_lst pa_nil) ⟨rfl, rfl, rfl, rfl⟩) pa_nil))))) (pss_one (ps_ret pe_bl)) pss_nil))))
      (pss_one (ps_ret pe_bl))))
theorem b_law (T : Tx K mg) : Binds K T.fd_law ["_law_script"] [] := T.F_law.bindsN fun _ _ _ _ _ _ us hl => match us, hl with | [_], _ => rfl
theorem ok_law (T : Tx K mg) (tb_l_built : LamX.TabB base mg (He.cT K ("_law_built", none)).1 (tabA K "_law_built")) (tb_law : LamX.TabB base mg (He.cT K ("law", none)).1 (tabA K "law")) : FnOk P HasW.w K mg base CX0 16 (He.fAd K ("law", none)) T.fd_law ["_law_script"] (sp_lawF K ["_law_built", "law"]) := by
  refine okC (CX := CX0) T.F_law sc_law (fun vs H Q E h => len_lawF h) (fun cdv A outer s H vs Q E hcode hr h => ⟨t_law K, PSs.nox ?_, pure_law T.k80 h⟩)
  exact (pss_cons (ps_set (i := 1) sc_law.nd rfl (Or.inl rfl) (pe_call (ok_l_deck T) (hr.mono (by decide)) (by rfl) T.g_l_deck T.F_l_deck.kp (b_l_deck T) .nil pass0 (pa_cons (pv 0) pa_nil)))
      (pss_cons (ps_set (i := 2) sc_law.nd rfl (Or.inr rfl) (pe_make0 T.mk_Town (ok_Town_init T) (hr.mono (by decide)) (by rfl) T.gc_Town (b_Town_init T) .nil pass0))
      (pss_cons (ps_set (i := 3) sc_law.nd rfl (Or.inl rfl) (pe_make0 T.mk_Town (ok_Town_init T) (hr.mono (by decide)) (by rfl) T.gc_Town (b_Town_init T) .nil pass0))
      (pss_cons (ps_if (PW.pt (pw_or (pt_not (pt_val (pe_callB call_isi (by rfl) T.z_isinstance (by decide +kernel) (pa_cons (pe_fld (pv 2) rfl) (pa_cons (pe_glob (v := .ref (He.ga K "Book")) (by rfl) T.gc_Book rfl) pa_nil))))) (pw_or (pt_cmpR (op_objEq hr) (pe_fld (pv 2) rfl) (pe_fld (pv 3) rfl) (nomark _)) (pw_or1 (pt_not (pt_val (pe_call (ok_l_alike T) (hr.mono (by decide)) (by rfl) T.g_l_alike T.F_l_alike.kp (b_l_alike T) .nil pass0 (pa_cons (pe_meth0 (pv 2) T.cl_Town T.me_Town_labels (ok_Town_labels T) (hr.mono (by decide)) (b_Town_labels T) .nil pass0) (pa_cons (pe_lst pa_nil) pa_nil))))))))) (pss_one (ps_ret pe_bl)) pss_nil)
      (pss_cons (ps_set (i := 4) sc_law.nd rfl (Or.inl rfl) pe_dnewK)
      (pss_cons (ps_set (i := 5) sc_law.nd rfl (Or.inl rfl) pe_dnewK)
      (pss_cons (ps_set (i := 6) sc_law.nd rfl (Or.inl rfl) pe_dnewK)
      (pss_cons (ps_for PassesOwn.never rfl (pi_range1 (by rfl) T.z_range (pa_cons (pe_op op_add pe_int (pe_call (ok_l_draw T) (hr.mono (by decide)) (by rfl) T.g_l_draw T.F_l_draw.kp (b_l_draw T) .nil pass0 (pa_cons (pv 1) (pa_cons pe_int pa_nil)))) pa_nil)) (pg_name (i := 7) sc_law.nd rfl (Or.inl rfl)) (pss_cons (ps_if (PW.pt (pw_or (pt_not (pt_val (pe_call (ok_l_built T tb_l_built) (hr.mono (by decide)) (by rfl) T.g_l_built T.F_l_built.kp (b_l_built T) .nil pass0 (pa_cons (pv 1) (pa_cons (pv 2) (pa_cons (pv 4) pa_nil)))))) (pw_or1 (pt_not (pt_val (pe_call (ok_l_built T tb_l_built) (hr.mono (by decide)) (by rfl) T.g_l_built T.F_l_built.kp (b_l_built T) .nil pass0 (pa_cons (pv 1) (pa_cons (pv 3) (pa_cons (pv 5) pa_nil))))))))) (pss_one (ps_ret pe_bl)) pss_nil)
      (pss_cons (ps_set (i := 8) sc_law.nd rfl (Or.inr rfl) (pe_ix ix_seq (pe_callB (call_sortedD (by rfl)) (by rfl) T.z_sorted (by decide +kernel) (pa_cons (pv 4) pa_nil)) (pe_call (ok_l_draw T) (hr.mono (by decide)) (by rfl) T.g_l_draw T.F_l_draw.kp (b_l_draw T) .nil pass0 (pa_cons (pv 1) (pa_cons (pe_callB call_lenD (by rfl) T.z_len (by decide +kernel) (pa_cons (pv 4) pa_nil)) pa_nil))) (fun _ _ => rfl)))
      (pss_cons (ps_set (i := 9) sc_law.nd rfl (Or.inl rfl) (pe_meth (pe_dget (hu_of hr) (pv 4) (pv 8) (fun _ _ => rfl)) T.cl_House T.mi_House_write (ok_House_write T) (hr.mono (by decide)) (b_House_write T) .nil pass0 (pa_cons (pe_tup (pa_cons pe_str (pa_cons (pe_tup (pa_cons pe_str (pa_cons (pe_callTy call_str_int (by rfl) T.z_str (by decide +kernel) (pa_cons (pe_call (ok_l_draw T) (hr.mono (by decide)) (by rfl) T.g_l_draw T.F_l_draw.kp (b_l_draw T) .nil pass0 (pa_cons (pv 1) (pa_cons pe_int pa_nil))) pa_nil)) pa_nil))) pa_nil))) pa_nil)))
      (pss_cons (ps_dput (hu_of hr) (pv 6) (pv 8) (pe_sortSet rfl (by rfl) T.z_sorted (by rfl) T.z_set (pe_op op_cat (pe_dget2 (hu_of hr) (pv 6) (pv 8) (pe_lst pa_nil) ⟨rfl, rfl, rfl, rfl⟩) (pe_lst (pa_cons (pv 9) pa_nil)))) rfl)
      (pss_one (ps_expr (pe_bm0 PySem.F.plainAttrs_list PySem.F.slot_list_clear PySem.F.type_list_clear mt_clear (pe_meth0 (pv 2) T.cl_Town T.me_Town_labels (ok_Town_labels T) (hr.mono (by decide)) (b_Town_labels T) .nil pass0)))))))))
      (pss_cons (ps_if (PW.pt (pw_or (pt_cmpR op_ne (pe_callB (call_lenC (ok_Book_len T) T.me_Book_len (hr.mono (by decide)) (b_Book_len T) pass0) (by rfl) T.z_len PySem.boot_len (pa_cons (pe_fld (pv 3) rfl) pa_nil)) pe_int (nomark _)) (pw_or1 (pt_cmpR op_ne (pe_meth (pe_fld (pv 2) rfl) T.cl_Book T.me_Book_kind (ok_Book_kind T) (hr.mono (by decide)) (b_Book_kind T) .nil pass0 (pa_cons pe_int pa_nil)) pe_str (nomark _))))) (pss_one (ps_ret pe_bl)) pss_nil)
      (pss_cons (ps_for PassesOwn.never rfl (pi_range1 (by rfl) T.z_range (pa_cons pe_int pa_nil)) (pg_name (i := 7) sc_law.nd rfl (Or.inl rfl)) (pss_cons (ps_set (i := 8) sc_law.nd rfl (Or.inr rfl) (pe_op op_add_str pe_str (pe_slice sl_str (pe_call (ok_l_label T) (hr.mono (by decide)) (by rfl) T.g_l_label T.F_l_label.kp (b_l_label T) .nil pass0 (pa_cons (pv 1) pa_nil)) po_none (po_some pe_int))))
      (pss_cons (ps_set (i := 10) sc_law.nd rfl (Or.inl rfl) (pe_tup (pa_cons pe_str (pa_cons (pv 8) pa_nil))))
      (pss_one (ps_if (PW.pt (pw_and (pt_cmp (pc_dnotin (hu_of hr) (pv 8) (pv 4))) (pw_and1 (pt_not (pt_val (pe_call (ok_l_alike T) (hr.mono (by decide)) (by rfl) T.g_l_alike T.F_l_alike.kp (b_l_alike T) .nil pass0 (pa_cons (pe_lamD (ds := ["_law_built", "law"]) (d := "law") (k := 9) T.F_l_town_why T.g_l_town_why (b_l_town_why T) sc_l_town_why rfl (Or.inl rfl) rfl (fun cdv => why_gives T hr cdv) tb_law hcode rfl (by simp) (k80_hun T.more) (hr.mono (by decide)) (LamX.lamS_by (sc := defScope s_law) (by decide +kernel)) rfl (fun _ _ _ _ _ => rfl) (fun A outer s H E f c' hr2 => (pe_meth (pv 2) T.cl_Town T.me_Town_sweep (ok_Town_sweepX T) (hr2.mono (by decide)) (b_Town_sweep T) .nil (passes_call (W := fun cls d _ H' => E cls d H') (takes_of rfl rfl rfl rfl) (fun _ _ _ _ h => h)) (pa_cons (pv 8) pa_nil)))) (pa_cons (pv 10) pa_nil)))))))) (pss_one (ps_ret pe_bl)) pss_nil)))))
      (pss_one (ps_ret (pe_and (pe_call (ok_l_stands T) (hr.mono (by decide)) (by rfl) T.g_l_stands T.F_l_stands.kp (b_l_stands T) .nil pass0 (pa_cons (pv 2) (pa_cons (pv 4) (pa_cons (pv 6) pa_nil)))) (pe_one (pe_call (ok_l_stands T) (hr.mono (by decide)) (by rfl) T.g_l_stands T.F_l_stands.kp (b_l_stands T) .nil pass0 (pa_cons (pv 3) (pa_cons (pv 5) (pa_cons pe_dnewK pa_nil))))))))))))))))))
end
def d_Book_len : He.DefD := ⟨("Book", some "__len__"), "__len__", "Book.__len__", defArgs s_Book_len, defBody s_Book_len, defScope s_Book_len, [], []⟩
def d_is_int : He.DefD := ⟨("is_int", none), "is_int", "is_int", defArgs s_is_int, defBody s_is_int, defScope s_is_int, [], []⟩
def d_Book_is_name : He.DefD := ⟨("Book", some "is_name"), "is_name", "Book.is_name", defArgs s_Book_is_name, defBody s_Book_is_name, defScope s_Book_is_name, [], []⟩
def d_Book_thing : He.DefD := ⟨("Book", some "thing"), "thing", "Book.thing", defArgs s_Book_thing, defBody s_Book_thing, defScope s_Book_thing, [], []⟩
def d_Book_kind : He.DefD := ⟨("Book", some "kind"), "kind", "Book.kind", defArgs s_Book_kind, defBody s_Book_kind, defScope s_Book_kind, [], []⟩
def d_Book_depth : He.DefD := ⟨("Book", some "depth"), "depth", "Book.depth", defArgs s_Book_depth, defBody s_Book_depth, defScope s_Book_depth, [], []⟩
def d_Book_give_next : He.DefD := ⟨("Book", some "give_next"), "give_next", "Book.give_next", defArgs s_Book_give_next, defBody s_Book_give_next, defScope s_Book_give_next, [], []⟩
def d_Book_has_kinds : He.DefD := ⟨("Book", some "has_kinds"), "has_kinds", "Book.has_kinds", defArgs s_Book_has_kinds, defBody s_Book_has_kinds, defScope s_Book_has_kinds, [], []⟩
def d_is_label : He.DefD := ⟨("is_label", none), "is_label", "is_label", defArgs s_is_label, defBody s_is_label, defScope s_is_label, [], []⟩
def d_is_pair : He.DefD := ⟨("is_pair", none), "is_pair", "is_pair", defArgs s_is_pair, defBody s_is_pair, defScope s_is_pair, [], []⟩
def d_is_entry : He.DefD := ⟨("is_entry", none), "is_entry", "is_entry", defArgs s_is_entry, defBody s_is_entry, defScope s_is_entry, [], []⟩
def d_rises : He.DefD := ⟨("rises", none), "rises", "rises", defArgs s_rises, defBody s_rises, defScope s_rises, [], []⟩
def d_is_entries : He.DefD := ⟨("is_entries", none), "is_entries", "is_entries", defArgs s_is_entries, defBody s_is_entries, defScope s_is_entries, [], []⟩
def d_is_sign : He.DefD := ⟨("is_sign", none), "is_sign", "is_sign", defArgs s_is_sign, defBody s_is_sign, defScope s_is_sign, [], []⟩
def d_is_text : He.DefD := ⟨("is_text", none), "is_text", "is_text", defArgs s_is_text, defBody s_is_text, defScope s_is_text, [], []⟩
def d_is_row : He.DefD := ⟨("is_row", none), "is_row", "is_row", defArgs s_is_row, defBody s_is_row, defScope s_is_row, [], []⟩
def d_is_rows : He.DefD := ⟨("is_rows", none), "is_rows", "is_rows", defArgs s_is_rows, defBody s_is_rows, defScope s_is_rows, [], []⟩
def d_is_ints : He.DefD := ⟨("is_ints", none), "is_ints", "is_ints", defArgs s_is_ints, defBody s_is_ints, defScope s_is_ints, [], []⟩
def d_is_rising : He.DefD := ⟨("is_rising", none), "is_rising", "is_rising", defArgs s_is_rising, defBody s_is_rising, defScope s_is_rising, [], []⟩
def d_is_stamp : He.DefD := ⟨("is_stamp", none), "is_stamp", "is_stamp", defArgs s_is_stamp, defBody s_is_stamp, defScope s_is_stamp, [], []⟩
def d_is_version_form : He.DefD := ⟨("is_version_form", none), "is_version_form", "is_version_form", defArgs s_is_version_form, defBody s_is_version_form, defScope s_is_version_form, [], []⟩
def d_is_content_form : He.DefD := ⟨("is_content_form", none), "is_content_form", "is_content_form", defArgs s_is_content_form, defBody s_is_content_form, defScope s_is_content_form, [], []⟩
def d_Book_is_content : He.DefD := ⟨("Book", some "is_content"), "is_content", "Book.is_content", defArgs s_Book_is_content, defBody s_Book_is_content, defScope s_Book_is_content, [], []⟩
def d_Book_named : He.DefD := ⟨("Book", some "named"), "named", "Book.named", defArgs s_Book_named, defBody s_Book_named, defScope s_Book_named, [], []⟩
def d_House_put : He.DefD := ⟨("Store", some "put"), "put", "Store.put", defArgs s_House_put, defBody s_House_put, defScope s_House_put, [], []⟩
def d_House_write : He.DefD := ⟨("Store", some "write"), "write", "Store.write", defArgs s_House_write, defBody s_House_write, defScope s_House_write, [], []⟩
def d_Book_init : He.DefD := ⟨("Book", some "__init__"), "__init__", "Book.__init__", defArgs s_Book_init, defBody s_Book_init, defScope s_Book_init, [], []⟩
def d_Town_init : He.DefD := ⟨("Town", some "__init__"), "__init__", "Town.__init__", defArgs s_Town_init, defBody s_Town_init, defScope s_Town_init, [], []⟩
def d_Town_labels : He.DefD := ⟨("Town", some "labels"), "labels", "Town.labels", defArgs s_Town_labels, defBody s_Town_labels, defScope s_Town_labels, [], []⟩
def d_House_sweep : He.DefD := ⟨("House", some "sweep"), "sweep", "House.sweep", defArgs s_House_sweep, defBody s_House_sweep, defScope s_House_sweep, [], [("deep", .int 400)]⟩
def d_NoHouse_init : He.DefD := ⟨("NoHouse", some "__init__"), "__init__", "NoHouse.__init__", defArgs s_NoHouse_init, defBody s_NoHouse_init, defScope s_NoHouse_init, [], []⟩
def d_Town_house : He.DefD := ⟨("Town", some "house"), "house", "Town.house", defArgs s_Town_house, defBody s_Town_house, defScope s_Town_house, [], []⟩
def d_Town_sweep : He.DefD := ⟨("Town", some "sweep"), "sweep", "Town.sweep", defArgs s_Town_sweep, defBody s_Town_sweep, defScope s_Town_sweep, [], []⟩
def d_l_alike : He.DefD := ⟨("_law_alike", none), "_law_alike", "_law_alike", defArgs s_l_alike, defBody s_l_alike, defScope s_l_alike, [], []⟩
def d_Store_initH : He.DefD := ⟨("Store", some "__init__"), "__init__", "Store.__init__", defArgs s_Store_initH, defBody s_Store_initH, defScope s_Store_initH, [], []⟩
def d_House_init : He.DefD := ⟨("House", some "__init__"), "__init__", "House.__init__", defArgs s_House_init, defBody s_House_init, defScope s_House_init, [], []⟩
def d_Taken_init : He.DefD := ⟨("Taken", some "__init__"), "__init__", "Taken.__init__", defArgs s_Taken_init, defBody s_Taken_init, defScope s_Taken_init, [], []⟩
def d_Town_build : He.DefD := ⟨("Town", some "build"), "build", "Town.build", defArgs s_Town_build, defBody s_Town_build, defScope s_Town_build, [], []⟩
def d_l_mixed : He.DefD := ⟨("_law_mixed", none), "_law_mixed", "_law_mixed", defArgs s_l_mixed, defBody s_l_mixed, defScope s_l_mixed, [], []⟩
def d_l_draw : He.DefD := ⟨("_law_draw", none), "_law_draw", "_law_draw", defArgs s_l_draw, defBody s_l_draw, defScope s_l_draw, [], []⟩
def d_l_label : He.DefD := ⟨("_law_label", none), "_law_label", "_law_label", defArgs s_l_label, defBody s_l_label, defScope s_l_label, [], []⟩
def d_l_town_why : He.DefD := ⟨("_law_town_why", none), "_law_town_why", "_law_town_why", defArgs s_l_town_why, defBody s_l_town_why, defScope s_l_town_why, [], []⟩
def d_l_built : He.DefD := ⟨("_law_built", none), "_law_built", "_law_built", defArgs s_l_built, defBody s_l_built, defScope s_l_built, [], []⟩
def d_l_deck : He.DefD := ⟨("_law_deck", none), "_law_deck", "_law_deck", defArgs s_l_deck, defBody s_l_deck, defScope s_l_deck, [], []⟩
def d_House_held : He.DefD := ⟨("Store", some "held"), "held", "Store.held", defArgs s_House_held, defBody s_House_held, defScope s_House_held, [], []⟩
def d_l_stands : He.DefD := ⟨("_law_stands", none), "_law_stands", "_law_stands", defArgs s_l_stands, defBody s_l_stands, defScope s_l_stands, [], []⟩
def d_law : He.DefD := ⟨("law", none), "law", "law", defArgs s_law, defBody s_law, defScope s_law, [], []⟩
def fn : List He.DefD := [d_Book_len, d_is_int, d_Book_is_name, d_Book_thing, d_Book_kind, d_Book_depth, d_Book_give_next, d_Book_has_kinds, d_is_label, d_is_pair, d_is_entry, d_rises, d_is_entries, d_is_sign, d_is_text, d_is_row, d_is_rows, d_is_ints, d_is_rising, d_is_stamp, d_is_version_form, d_is_content_form, d_Book_is_content, d_Book_named, d_House_put, d_House_write, d_Book_init, d_Town_init, d_Town_labels, d_House_sweep, d_NoHouse_init, d_Town_house, d_Town_sweep, d_l_alike, d_Store_initH, d_House_init, d_Taken_init, d_Town_build, d_l_mixed, d_l_draw, d_l_label, d_l_town_why, d_l_built, d_l_deck, d_House_held, d_l_stands, d_law]
def fa : List He.Fa := [.glo "is_int", .glo "is_label", .glo "is_pair", .glo "is_entry", .glo "rises", .glo "is_entries", .glo "is_sign", .glo "is_text", .glo "is_row", .glo "is_rows", .glo "is_ints", .glo "is_rising", .glo "is_stamp", .glo "is_version_form", .glo "is_content_form", .glo "_law_alike", .glo "_law_mixed", .glo "_law_draw", .glo "_law_label", .glo "_law_town_why", .glo "_law_built", .glo "_law_deck", .glo "_law_stands", .glo "law", .free "ValueError", .free "all", .free "bool", .free "int", .free "isinstance", .free "len", .free "list", .free "max", .free "ord", .free "range", .free "set", .free "sorted", .free "str", .free "tuple", .free "zip", .int "ALL" 400, .int "BARRED_SIGN" 37, .int "DEEPEST" 8, .int "FEW" 4, .int "LAST_STAMP" 1000000000000000000, .int "LONGEST_LABEL" 8, .int "MOST" 400, .int "MOST_ENTRIES" 20, .int "MOST_PARENTS" 4, .int "MOST_ROWS" 40, .int "MOST_SIGNS" 40, .glo "Book", .glo "Store", .glo "House", .glo "Town", .glo "HouseError", .glo "NoName", .glo "TooMany", .glo "NoHouse", .glo "Taken", .glo "NoTalk", .glo "NoMark", .glo "Broken", .glo "Lack", .cls "Book", .noat "Book" "contents", .noat "Book" "depths", .noat "Book" "given", .meth "Book" "__len__", .meth "Book" "is_name", .meth "Book" "thing", .meth "Book" "kind", .meth "Book" "depth", .meth "Book" "give_next", .meth "Book" "has_kinds", .meth "Book" "is_content", .meth "Book" "named", .mkr "Book", .cls "Store", .meth "Store" "put", .meth "Store" "write", .meth "Store" "held", .mkr "Store", .cls "Town", .noat "Town" "book", .noat "Town" "houses", .noat "Town" "talks", .meth "Town" "labels", .meth "Town" "house", .meth "Town" "sweep", .meth "Town" "build", .mkr "Town", .cls "House", .noat "House" "book", .noat "House" "inside", .noat "House" "many_changes", .noat "House" "standing", .noat "House" "last_moves", .noat "House" "far_standing", .noat "House" "pinned", .meth "House" "sweep", .mkr "House"]
abbrev R : PySem.W.OpenRow := PySem.W.OpenLaw.row PySem.Challenge.rw_fewasks_k80_houses_of_a_town
abbrev hk : PySem.W.Hook := Fw.hookZ 4 fa fn [("_law_built", none), ("law", none)] Fw.k80B
def ob (s : PySem.W.SharedT) : Fw.AlY := Fw.obsZ 4 fa fn [("_law_built", none), ("law", none)] Fw.k80B (HandSHeadRun.getT s)
theorem ob_eq (s : PySem.W.SharedT) : ob s = hk.obs s.abs := Fw.obsZ_eq (HandSHeadRun.getT_eq s)
def loose : List Str := [("_wall" : Str), ("HouseError" : Str), ("NoThing" : Str), ("NoName" : Str), ("TooMany" : Str), ("NoMark" : Str), ("Lack" : Str), ("NoHouse" : Str), ("Taken" : Str), ("NoTalk" : Str), ("Broken" : Str), ("is_int" : Str), ("is_text" : Str), ("is_sign" : Str), ("is_label" : Str), ("is_pair" : Str), ("rises" : Str), ("is_ints" : Str), ("is_rising" : Str), ("is_row" : Str), ("is_rows" : Str), ("is_entry" : Str), ("is_entries" : Str), ("is_stamp" : Str), ("is_version_form" : Str), ("is_content_form" : Str), ("Book" : Str), ("held_parts" : Str), ("step_to" : Str), ("keeping" : Str), ("check_held" : Str), ("Pin" : Str), ("Holding" : Str), ("Store" : Str), ("House" : Str), ("Town" : Str), ("_law_deck" : Str), ("_law_mixed" : Str), ("_law_draw" : Str), ("_law_label" : Str), ("_law_alike" : Str), ("_law_town_why" : Str), ("_law_built" : Str), ("_law_stands" : Str), ("ALL" : Str), ("BARRED_SIGN" : Str), ("DEEPEST" : Str), ("FEW" : Str), ("LAST_STAMP" : Str), ("LONGEST_LABEL" : Str), ("MOST" : Str), ("MOST_ENTRIES" : Str), ("MOST_PARENTS" : Str), ("MOST_ROWS" : Str), ("MOST_SIGNS" : Str)]
theorem run (w : World) : HandSHeadRun.RunEq R (PySem.W.view R.prog [65]) hk ob 9000 loose w := by
  intro os
  kernel_rfl
theorem facts {P : Program} {w : World} {K : PySem.W.Frag} {h : Heap} {mg : Str → Option Value} {f : Addr} (X : K.In h) (G : h.Ns mainGlobals mg) (hfa : mg ("law" : Str) = some (.ref f)) (c : He.SaysD fa fn K) (m : Fw.k80B K = true) :
    ∃ fd : FuncData, (∀ (s : Shared) (v : Value), BindsTo s fd ⟨[v], []⟩ [("_law_script", v)]) ∧ ∀ base : Heap, K.In base → base.Ns mainGlobals mg → LamX.TabB base mg (He.cT K ("_law_built", none)).1 (tabA K "_law_built") → LamX.TabB base mg (He.cT K ("law", none)).1 (tabA K "law") → FnOk P w K mg base CX0 16 f fd ["_law_script"] (sp_lawF K ["_law_built", "law"]) := by
  obtain ⟨fd0, F0⟩ := c.def_ 0 (d := d_Book_len) rfl
  obtain ⟨fd1, F1⟩ := c.def_ 1 (d := d_is_int) rfl
  obtain ⟨fd2, F2⟩ := c.def_ 2 (d := d_Book_is_name) rfl
  obtain ⟨fd3, F3⟩ := c.def_ 3 (d := d_Book_thing) rfl
  obtain ⟨fd4, F4⟩ := c.def_ 4 (d := d_Book_kind) rfl
  obtain ⟨fd5, F5⟩ := c.def_ 5 (d := d_Book_depth) rfl
  obtain ⟨fd6, F6⟩ := c.def_ 6 (d := d_Book_give_next) rfl
  obtain ⟨fd7, F7⟩ := c.def_ 7 (d := d_Book_has_kinds) rfl
  obtain ⟨fd8, F8⟩ := c.def_ 8 (d := d_is_label) rfl
  obtain ⟨fd9, F9⟩ := c.def_ 9 (d := d_is_pair) rfl
  obtain ⟨fd10, F10⟩ := c.def_ 10 (d := d_is_entry) rfl
  obtain ⟨fd11, F11⟩ := c.def_ 11 (d := d_rises) rfl
  obtain ⟨fd12, F12⟩ := c.def_ 12 (d := d_is_entries) rfl
  obtain ⟨fd13, F13⟩ := c.def_ 13 (d := d_is_sign) rfl
  obtain ⟨fd14, F14⟩ := c.def_ 14 (d := d_is_text) rfl
  obtain ⟨fd15, F15⟩ := c.def_ 15 (d := d_is_row) rfl
  obtain ⟨fd16, F16⟩ := c.def_ 16 (d := d_is_rows) rfl
  obtain ⟨fd17, F17⟩ := c.def_ 17 (d := d_is_ints) rfl
  obtain ⟨fd18, F18⟩ := c.def_ 18 (d := d_is_rising) rfl
  obtain ⟨fd19, F19⟩ := c.def_ 19 (d := d_is_stamp) rfl
  obtain ⟨fd20, F20⟩ := c.def_ 20 (d := d_is_version_form) rfl
  obtain ⟨fd21, F21⟩ := c.def_ 21 (d := d_is_content_form) rfl
  obtain ⟨fd22, F22⟩ := c.def_ 22 (d := d_Book_is_content) rfl
  obtain ⟨fd23, F23⟩ := c.def_ 23 (d := d_Book_named) rfl
  obtain ⟨fd24, F24⟩ := c.def_ 24 (d := d_House_put) rfl
  obtain ⟨fd25, F25⟩ := c.def_ 25 (d := d_House_write) rfl
  obtain ⟨fd26, F26⟩ := c.def_ 26 (d := d_Book_init) rfl
  obtain ⟨fd27, F27⟩ := c.def_ 27 (d := d_Town_init) rfl
  obtain ⟨fd28, F28⟩ := c.def_ 28 (d := d_Town_labels) rfl
  obtain ⟨fd29, F29⟩ := c.def_ 29 (d := d_House_sweep) rfl
  obtain ⟨fd30, F30⟩ := c.def_ 30 (d := d_NoHouse_init) rfl
  obtain ⟨fd31, F31⟩ := c.def_ 31 (d := d_Town_house) rfl
  obtain ⟨fd32, F32⟩ := c.def_ 32 (d := d_Town_sweep) rfl
  obtain ⟨fd33, F33⟩ := c.def_ 33 (d := d_l_alike) rfl
  obtain ⟨fd34, F34⟩ := c.def_ 34 (d := d_Store_initH) rfl
  obtain ⟨fd35, F35⟩ := c.def_ 35 (d := d_House_init) rfl
  obtain ⟨fd36, F36⟩ := c.def_ 36 (d := d_Taken_init) rfl
  obtain ⟨fd37, F37⟩ := c.def_ 37 (d := d_Town_build) rfl
  obtain ⟨fd38, F38⟩ := c.def_ 38 (d := d_l_mixed) rfl
  obtain ⟨fd39, F39⟩ := c.def_ 39 (d := d_l_draw) rfl
  obtain ⟨fd40, F40⟩ := c.def_ 40 (d := d_l_label) rfl
  obtain ⟨fd41, F41⟩ := c.def_ 41 (d := d_l_town_why) rfl
  obtain ⟨fd42, F42⟩ := c.def_ 42 (d := d_l_built) rfl
  obtain ⟨fd43, F43⟩ := c.def_ 43 (d := d_l_deck) rfl
  obtain ⟨fd44, F44⟩ := c.def_ 44 (d := d_House_held) rfl
  obtain ⟨fd45, F45⟩ := c.def_ 45 (d := d_l_stands) rfl
  obtain ⟨fd46, F46⟩ := c.def_ 46 (d := d_law) rfl
  letI : HasW := ⟨w⟩
  have e := hfa.symm.trans (He.glo_ok X G (c.fact 23 (f := .glo "law") rfl))
  cases e
  have b := FunD.bindsA (ps := ["_law_script"]) F46 fun _ _ _ _ _ _ us hl => match us, hl with | [_], _ => rfl
  exact ⟨fd46, fun s v => b s [v] rfl, fun base _ _ tb0 tb1 => ok_law (⟨fd0, F0, fd1, F1, (He.glo_ok X G (c.fact 0 (f := .glo "is_int") rfl)), fd2, F2, fd3, F3, fd4, F4, fd5, F5, fd6, F6, fd7, F7, fd8, F8, (He.glo_ok X G (c.fact 1 (f := .glo "is_label") rfl)), fd9, F9, (He.glo_ok X G (c.fact 2 (f := .glo "is_pair") rfl)), fd10, F10, (He.glo_ok X G (c.fact 3 (f := .glo "is_entry") rfl)), fd11, F11, (He.glo_ok X G (c.fact 4 (f := .glo "rises") rfl)), fd12, F12, (He.glo_ok X G (c.fact 5 (f := .glo "is_entries") rfl)), fd13, F13, (He.glo_ok X G (c.fact 6 (f := .glo "is_sign") rfl)), fd14, F14, (He.glo_ok X G (c.fact 7 (f := .glo "is_text") rfl)), fd15, F15, (He.glo_ok X G (c.fact 8 (f := .glo "is_row") rfl)), fd16, F16, (He.glo_ok X G (c.fact 9 (f := .glo "is_rows") rfl)), fd17, F17, (He.glo_ok X G (c.fact 10 (f := .glo "is_ints") rfl)), fd18, F18, (He.glo_ok X G (c.fact 11 (f := .glo "is_rising") rfl)), fd19, F19, (He.glo_ok X G (c.fact 12 (f := .glo "is_stamp") rfl)), fd20, F20, (He.glo_ok X G (c.fact 13 (f := .glo "is_version_form") rfl)), fd21, F21, (He.glo_ok X G (c.fact 14 (f := .glo "is_content_form") rfl)), fd22, F22, fd23, F23, fd24, F24, fd25, F25, fd26, F26, fd27, F27, fd28, F28, fd29, F29, fd30, F30, fd31, F31, fd32, F32, fd33, F33, (He.glo_ok X G (c.fact 15 (f := .glo "_law_alike") rfl)), fd34, F34, fd35, F35, fd36, F36, fd37, F37, fd38, F38, (He.glo_ok X G (c.fact 16 (f := .glo "_law_mixed") rfl)), fd39, F39, (He.glo_ok X G (c.fact 17 (f := .glo "_law_draw") rfl)), fd40, F40, (He.glo_ok X G (c.fact 18 (f := .glo "_law_label") rfl)), fd41, F41, (He.glo_ok X G (c.fact 19 (f := .glo "_law_town_why") rfl)), fd42, F42, (He.glo_ok X G (c.fact 20 (f := .glo "_law_built") rfl)), fd43, F43, (He.glo_ok X G (c.fact 21 (f := .glo "_law_deck") rfl)), fd44, F44, fd45, F45, (He.glo_ok X G (c.fact 22 (f := .glo "_law_stands") rfl)), fd46, F46, (He.free_ok X G (c.fact 24 (f := .free "ValueError") rfl)), (He.free_ok X G (c.fact 25 (f := .free "all") rfl)), (He.free_ok X G (c.fact 26 (f := .free "bool") rfl)), (He.free_ok X G (c.fact 27 (f := .free "int") rfl)), (He.free_ok X G (c.fact 28 (f := .free "isinstance") rfl)), (He.free_ok X G (c.fact 29 (f := .free "len") rfl)), (He.free_ok X G (c.fact 30 (f := .free "list") rfl)), (He.free_ok X G (c.fact 31 (f := .free "max") rfl)), (He.free_ok X G (c.fact 32 (f := .free "ord") rfl)), (He.free_ok X G (c.fact 33 (f := .free "range") rfl)), (He.free_ok X G (c.fact 34 (f := .free "set") rfl)), (He.free_ok X G (c.fact 35 (f := .free "sorted") rfl)), (He.free_ok X G (c.fact 36 (f := .free "str") rfl)), (He.free_ok X G (c.fact 37 (f := .free "tuple") rfl)), (He.free_ok X G (c.fact 38 (f := .free "zip") rfl)), (He.int_ok X G (c.fact 39 (f := .int "ALL" 400) rfl)), (He.int_ok X G (c.fact 40 (f := .int "BARRED_SIGN" 37) rfl)), (He.int_ok X G (c.fact 41 (f := .int "DEEPEST" 8) rfl)), (He.int_ok X G (c.fact 42 (f := .int "FEW" 4) rfl)), (He.int_ok X G (c.fact 43 (f := .int "LAST_STAMP" 1000000000000000000) rfl)), (He.int_ok X G (c.fact 44 (f := .int "LONGEST_LABEL" 8) rfl)), (He.int_ok X G (c.fact 45 (f := .int "MOST" 400) rfl)), (He.int_ok X G (c.fact 46 (f := .int "MOST_ENTRIES" 20) rfl)), (He.int_ok X G (c.fact 47 (f := .int "MOST_PARENTS" 4) rfl)), (He.int_ok X G (c.fact 48 (f := .int "MOST_ROWS" 40) rfl)), (He.int_ok X G (c.fact 49 (f := .int "MOST_SIGNS" 40) rfl)), (He.glo_ok X G (c.fact 50 (f := .glo "Book") rfl)), (He.glo_ok X G (c.fact 51 (f := .glo "Store") rfl)), (He.glo_ok X G (c.fact 52 (f := .glo "House") rfl)), (He.glo_ok X G (c.fact 53 (f := .glo "Town") rfl)), (He.glo_ok X G (c.fact 54 (f := .glo "HouseError") rfl)), (He.glo_ok X G (c.fact 55 (f := .glo "NoName") rfl)), (He.glo_ok X G (c.fact 56 (f := .glo "TooMany") rfl)), (He.glo_ok X G (c.fact 57 (f := .glo "NoHouse") rfl)), (He.glo_ok X G (c.fact 58 (f := .glo "Taken") rfl)), (He.glo_ok X G (c.fact 59 (f := .glo "NoTalk") rfl)), (He.glo_ok X G (c.fact 60 (f := .glo "NoMark") rfl)), (He.glo_ok X G (c.fact 61 (f := .glo "Broken") rfl)), (He.glo_ok X G (c.fact 62 (f := .glo "Lack") rfl)), (He.cls_ok (c.fact 63 (f := .cls "Book") rfl)), (He.noat_ok (c.fact 64 (f := .noat "Book" "contents") rfl)), (He.noat_ok (c.fact 65 (f := .noat "Book" "depths") rfl)), (He.noat_ok (c.fact 66 (f := .noat "Book" "given") rfl)), (He.meth_ok (c.fact 67 (f := .meth "Book" "__len__") rfl)), (He.meth_ok (c.fact 68 (f := .meth "Book" "is_name") rfl)), (He.meth_ok (c.fact 69 (f := .meth "Book" "thing") rfl)), (He.meth_ok (c.fact 70 (f := .meth "Book" "kind") rfl)), (He.meth_ok (c.fact 71 (f := .meth "Book" "depth") rfl)), (He.meth_ok (c.fact 72 (f := .meth "Book" "give_next") rfl)), (He.meth_ok (c.fact 73 (f := .meth "Book" "has_kinds") rfl)), (He.meth_ok (c.fact 74 (f := .meth "Book" "is_content") rfl)), (He.meth_ok (c.fact 75 (f := .meth "Book" "named") rfl)), (He.mkr_ok (c.fact 76 (f := .mkr "Book") rfl)), (He.cls_ok (c.fact 77 (f := .cls "Store") rfl)), (He.meth_ok (c.fact 78 (f := .meth "Store" "put") rfl)), (He.meth_ok (c.fact 79 (f := .meth "Store" "write") rfl)), (He.meth_ok (c.fact 80 (f := .meth "Store" "held") rfl)), (He.mkr_ok (c.fact 81 (f := .mkr "Store") rfl)), (He.cls_ok (c.fact 82 (f := .cls "Town") rfl)), (He.noat_ok (c.fact 83 (f := .noat "Town" "book") rfl)), (He.noat_ok (c.fact 84 (f := .noat "Town" "houses") rfl)), (He.noat_ok (c.fact 85 (f := .noat "Town" "talks") rfl)), (He.meth_ok (c.fact 86 (f := .meth "Town" "labels") rfl)), (He.meth_ok (c.fact 87 (f := .meth "Town" "house") rfl)), (He.meth_ok (c.fact 88 (f := .meth "Town" "sweep") rfl)), (He.meth_ok (c.fact 89 (f := .meth "Town" "build") rfl)), (He.mkr_ok (c.fact 90 (f := .mkr "Town") rfl)), (He.cls_ok (c.fact 91 (f := .cls "House") rfl)), (He.noat_ok (c.fact 92 (f := .noat "House" "book") rfl)), (He.noat_ok (c.fact 93 (f := .noat "House" "inside") rfl)), (He.noat_ok (c.fact 94 (f := .noat "House" "many_changes") rfl)), (He.noat_ok (c.fact 95 (f := .noat "House" "standing") rfl)), (He.noat_ok (c.fact 96 (f := .noat "House" "last_moves") rfl)), (He.noat_ok (c.fact 97 (f := .noat "House" "far_standing") rfl)), (He.noat_ok (c.fact 98 (f := .noat "House" "pinned") rfl)), (He.meth_ok (c.fact 99 (f := .meth "House" "sweep") rfl)), (He.mkr_ok (c.fact 100 (f := .mkr "House") rfl)), (Fw.k80_of m)⟩ : Tx K mg) tb0 tb1⟩
end K80
open PySem PySem.W PySem.Calls PyProof.Rows
set_option maxRecDepth 100000 in
set_option maxHeartbeats 0 in
theorem PySem.Challenge.cw_fewasks_k80_houses_of_a_town_holds : PySem.Challenge.rw_fewasks_k80_houses_of_a_town.Holds := by
  w_on; o_law
  refine HandSHeadRun.head_any (r := OpenLaw.row PySem.Challenge.rw_fewasks_k80_houses_of_a_town) (q := view (OpenLaw.row PySem.Challenge.rw_fewasks_k80_houses_of_a_town).prog [65]) (H := K80.hk) (ob := K80.ob) (M := 9000) (loose := K80.loose) (d := HandSHeadRun.topDef (OpenLaw.row PySem.Challenge.rw_fewasks_k80_houses_of_a_town).prog 65) (kwd := []) K80.ob_eq
    (by kernel_rfl) (fun s => by kernel_rfl) K80.run (by kernel_rfl) (by kernel_rfl) (by kernel_rfl) (by rfl) (by first | assumption | decide +kernel) (by decide +kernel) ⟨rfl, rfl, rfl, rfl, rfl, by decide +kernel⟩ ?hw ?hc
  case hw => w_witness2
  case hc =>
    refine LamX.walk_ofTsE (l := PySem.Challenge.rw_fewasks_k80_houses_of_a_town) (n := 63) (k := 16) (x := "_law_script") (CX := fun _ => L2.CX0) rfl (by decide) (by kernel_rfl) ⟨rfl, by decide, by decide⟩ ?F (fun _ _ _ _ _ z => z)
    intro w mg fa h Y G hmg0
    obtain ⟨K, KX, z⟩ := Y
    have hmg : mg ("law" : PySem.Str) = some (.ref fa) := by
      have e : (HandSHeadRun.topDef (OpenLaw.row PySem.Challenge.rw_fewasks_k80_houses_of_a_town).prog 65).name = ("law" : PySem.Str) := by kernel_rfl
      rw [← e]
      exact hmg0
    obtain ⟨fd, hb, hF⟩ := K80.facts (P := (PySem.Challenge.rw_fewasks_k80_houses_of_a_town).prog) (w := w) KX G hmg z.c z.m
    refine ⟨K, KX, fd, (["_law_built", "law"] : List PySem.Str).map (fun d : PySem.Str => He.cT K (d, none)), Fw.sp_lawF K ["_law_built", "law"], fun p hp => ?_, fun p hp => ?_, fun p hp => ?_, hb, fun H a ns hl _ hP hS => ⟨a, ns, rfl, hS, hl, fun d hd => hP _ (List.mem_map.mpr ⟨d, hd, rfl⟩), fun _ => rfl⟩, fun base hK hN hT => hF base hK hN (hT _ (List.mem_map.mpr ⟨"_law_built", by simp, rfl⟩)) (hT _ (List.mem_map.mpr ⟨"law", by simp, rfl⟩))⟩
    · obtain ⟨d, hd, rfl⟩ := List.mem_map.mp hp
      have z1 := z.t (d, none) (by simpa using hd)
      exact z1.2.2
    · obtain ⟨d, hd, rfl⟩ := List.mem_map.mp hp
      have z1 := z.t (d, none) (by simpa using hd)
      exact z1.2.1
    · obtain ⟨d, hd, rfl⟩ := List.mem_map.mp hp
      have z1 := z.t (d, none) (by simpa using hd)
      exact PySem.W.codeHd_of_K KX z1.1
